/-
  impl.chain without dec, over desCipher.encrypt.
-/
import Derived.Test.YthjnalbgnjbdnaaChainL
namespace Go.Proofs.Ythjnalbgnjbdnaa
open Go.RowKit

set_option maxRecDepth 100000 in
set_option maxHeartbeats 4000000 in
theorem chainE_des (f : List UInt8 → List UInt8) (hf : ∀ x, (f x).length = 8) (C : Value) (S : Nat) (iv : List UInt8) (hiv : iv.length = 8) (bl : List (List UInt8)) (h8 : ∀ b ∈ bl, b.length = 8) (ao : Option Addr) (m cap : Nat) (hm : bl.length = m) (hm1 : m ≤ 4096) (w : World) (hs : Blks w ao bl) (hS : Blk w S 93 mergedCells)
    (HT : ∀ x wx, x.length = 8 → Blk wx S 93 mergedCells → Calls Try.prog 55 #[C, .agg (x.map byte).toArray] wx fun e w' => e = .returned (.agg ((f x).map byte).toArray) ∧ Below wx.heap.size wx w') :
    Calls Try.prog 60 #[.func (.func 55) #[C] #[], .func (.func 61) #[] #[], .agg (iv.map byte).toArray, .slice ao m cap, .bool false] w fun e w' => ∃ v, e = .returned v ∧ OwnK w' w.heap.size v (outL f iv bl m) ∧ Below w.heap.size w w' := by
  obtain ⟨i0, hi, hz0, hz1, hz2⟩ := info_parts Try.info50
  have hz := (zero_of_info Try.zero50).1
  have hbl := befL_length f hf iv hiv bl
  have hil : (iv.map byte).length = 8 := by rw [List.length_map, hiv]
  have k0 : Blk (w.alloc (.cells (iv.map byte).toArray 50)) w.heap.size 50 (iv.map byte) := Blk.new w _ _
  have HX := hide (fun (a b : List UInt8) (g : Nat) (wx : World) (ha : a.length = 8) (hb : b.length = 8) (h : Blk wx g 50 (a.map byte ++ b.map byte)) => xor8_two a b g 2 50 wx ha hb h)
  replace HT := hide HT
  have HB := hide hs
  have H8 := hide h8
  have lS := hS.lt
  clear hs h8
  go_enter Try.func60, Try.ntmps60
  go_upto_region 3 with (first
    | (at_make; refine wpList_make_own _ rfl _ _ 58 rfl w.heap.size 50 i0 _ 8 Try.underlying58 hi hz0 hz1 .i64 .i64 _ m rfl rfl rfl (by rw [hz2]; omega) (by unfold maxLen; omega) (by simp) ?_; intro w0 own0 gr0; have bel0 := below_of_grown gr0)
    | (refine load_blk rfl 50 _ rfl _ rfl (k0.below bel0 k0.lt) Try.underlying50 rfl (by rw [hil]; kernel_rfl) ?_)
    | (refine store_blk rfl 50 _ _ rfl _ rfl rfl (Blk.new w0 _ _) (by rw [hil]; kernel_rfl) (by rw [hil]; exact zerosOf_length _ _) (allOne_bytes _) ?_; intro w1 hb1 hg1 hs1))
  have hsz : w0.heap.size ≥ w.heap.size + 2 := by
    have h := own0.lt (w.heap.size + 1) (by simp [Value.ownBlock])
    omega
  have bel1 : Below w0.heap.size w0 w1 := (below_new w0 _).grown hg1 (by simp) (by intro k hk; cases hk; exact Nat.le_refl _)
  have bw : Below w.heap.size w w1 := below_step (below_step (below_new w _) bel0) bel1
  have s0 := hS.below bw lS
  have o0 : w1.ownsRow w.heap.size 50 8 (.slice (some ⟨w.heap.size + 1, 0, none⟩) 0 m) 0 [] := World.ownsRow.kept (by simpa using own0) (grown_of_below bel1 none) (by right; simp [Value.ownBlock])
  obtain ⟨B, hB⟩ : ∃ B, B = w0.heap.size := ⟨_, rfl⟩
  obtain ⟨G, hG⟩ : ∃ G, G = w.heap.size + 1 := ⟨_, rfl⟩
  have hGB : G < B := by omega
  have hwG : w.heap.size < G := by omega
  rw [← hB] at hb1 ⊢
  rw [← hG] at o0 ⊢
  have q0 : Blk w1 B 50 (iv.map byte) := hb1
  clear hb1 hg1 hs1 bel1 own0 gr0 bel0 hB hG hsz k0
  go_wp2_with fail
  go_loopw [11, 14, 21] (fun v _ i wr => ∃ k : Nat, k ≤ m ∧ i = .int .i64 k ∧ v = .slice (some ⟨G, 0, none⟩) k m ∧ wr.ownsRow w.heap.size 50 8 (.slice (some ⟨G, 0, none⟩) k m) k ((outL f iv bl k).flatten.map byte) ∧ Blk wr B 50 ((befL f iv bl k).map byte) ∧ Blk wr S 93 mergedCells ∧ Below w.heap.size w wr) (fun _ _ i _ => m - (intOf i).toNat)
  case atStart => exact ⟨0, Nat.zero_le _, rfl, rfl, o0, q0, s0, bw⟩
  case round =>
    clear o0 q0 s0 bw
    obtain ⟨k, hk, rfl, rfl, hown, kB, kS, hbel⟩ := hrel
    by_cases hlt : k < m
    · obtain ⟨g, off, rfl, hr0⟩ := HB.out k (by omega)
      have hrk := range_below hr0 hbel
      have hXl : (bl.getD k []).length = 8 := by
        rw [show bl.getD k [] = bl[k] from by simp [show k < bl.length from by omega]]
        exact H8.out _ (List.getElem_mem _)
      have hPl := hbl k
      have HN := hide (show befL f iv bl (k + 1) = f (xorL (bl.getD k []) (befL f iv bl k)) from rfl)
      have HO := hide (outL_succ f iv bl k)
      obtain ⟨X, hX⟩ : ∃ X, X = bl.getD k [] := ⟨_, rfl⟩
      obtain ⟨P, hP⟩ : ∃ P, P = befL f iv bl k := ⟨_, rfl⟩
      rw [← hX] at hrk hXl HN
      rw [← hP] at kB hPl HN
      have hYl : (xorL X P).length = 8 := by rw [xorL_length _ _ (by omega), hXl]
      obtain ⟨Y, hY⟩ : ∃ Y, Y = xorL X P := ⟨_, rfl⟩
      have HXY := hide (fun (g : Nat) (wx : World) (h : Blk wx g 50 (X.map byte ++ P.map byte)) => HX.out X P g wx hXl hPl h)
      rw [← hY] at HXY HN hYl
      have HTY := hide (fun (wx : World) (h : Blk wx S 93 mergedCells) => HT.out Y wx hYl h)
      have hNl := hf Y
      obtain ⟨N, hN⟩ : ∃ N, N = f Y := ⟨_, rfl⟩
      rw [← hN] at HTY HN hNl
      have hXm : (X.map byte).length = 8 := by rw [List.length_map, hXl]
      have hPm : (P.map byte).length = 8 := by rw [List.length_map, hPl]
      have hNm : (N.map byte).length = 8 := by rw [List.length_map, hNl]
      have hkI : (k : Int) < (m : Int) := by omega
      have lB := kB.lt
      have lS2 := kS.lt
      have lG := (hown.lt G (by simp [Value.ownBlock])).2
      clear hX hP hY hN hr0
      go_wp2_with (first
        | (refine wpList_load_mid rfl 50 _ rfl g (off + k * 8) rfl (X.map byte) _ hrk Try.underlying50 rfl (by rw [hXm]; kernel_rfl) ?_)
        | (refine store_blk rfl 50 _ _ rfl _ rfl rfl (Blk.new wr _ _) (by rw [hXm]; kernel_rfl) (by rw [hXm]; exact zerosOf_length _ _) (allOne_bytes _) ?_; intro w2 hb2 hg2 hs2; clear hs2; have bel2 : Below wr.heap.size wr w2 := ((below_new wr _).grown hg2 (by simp) (by intro k hk; cases hk; exact Nat.le_refl _)); have kB2 := kB.below bel2 lB; have kS2 := kS.below bel2 lS2; have n2 : Blk (w2.alloc (.cells (X.map byte ++ P.map byte).toArray 50)) w2.heap.size 50 (X.map byte ++ P.map byte) := (Blk.new w2 _ _))
        | (refine load_blk rfl 50 _ rfl _ rfl hb2 Try.underlying50 rfl (by rw [hXm]; kernel_rfl) ?_)
        | (refine load_blk rfl 50 _ rfl _ rfl kB2 Try.underlying50 rfl (by rw [hPm]; kernel_rfl) ?_)
        | (refine wpList_build2 rfl 58 _ _ rfl 50 8 _ (X.map byte) (P.map byte) rfl rfl Try.underlying58 Try.zero50 hXm hPm (by omega) (by omega) ?_)
        | (go_at_call 61; refine (HXY.out _ _ n2).mono ?_; rintro e3 w3 ⟨rfl, bel3⟩; have bel23 := (below_step (below_new w2 _) bel3); have kS3 := kS2.below bel23 kS2.lt; have kB3 := kB2.below bel23 kB2.lt)
        | (go_at_call 55; refine (HTY.out _ kS3).mono ?_; rintro e4 w4 ⟨rfl, bel4⟩; have kB4 := kB3.below bel4 kB3.lt; have bel14 := (below_step (below_step bel2 bel23) bel4); have kS4 := kS3.below bel4 kS3.lt; have hown4 := (World.ownsRow.kept hown (grown_of_below bel14 none) (by right; simp [Value.ownBlock])); have b4 := (hbel.trans (bel14.mono hbel.size)))
        | (refine store_blk rfl 50 _ _ rfl _ rfl rfl kB4 (by rw [hNm]; kernel_rfl) (by rw [hNm]; exact hPm) (allOne_bytes _) ?_; intro w5 kB5 hg5 hs5; clear hs5; have kS5 := (kS4.grown hg5 (by simp; omega)); have hown5 := (World.ownsRow.kept hown4 hg5 (by right; simp [Value.ownBlock]; omega)); have b5 := (b4.grown hg5 b4.size (by intro k hk; cases hk; omega)); have n5 : Blk (w5.alloc (.cells (N.map byte).toArray 50)) w5.heap.size 50 (N.map byte) := (Blk.new w5 _ _); have hnews := range_news (blk_whole n5); have hone := all_one N)
        | (refine load_blk rfl 50 _ rfl _ rfl kB5 Try.underlying50 rfl (by rw [hNm]; kernel_rfl) ?_)
        | (refine wpList_build1 rfl 58 _ rfl 50 8 _ (N.map byte) rfl Try.underlying58 Try.zero50 hNm (by omega) (by omega) ?_)
        | (at_builtin; refine wpList_append_fits _ rfl _ _ 58 rfl w.heap.size 50 i0 8 Try.underlying58 hi hz1 G k m _ rfl (hown5.alloc _) ⟨w5.heap.size, 0, none⟩ 1 1 (N.map byte) rfl hNm hnews hone (by omega) ?_; intro w6 hown6 hg6))
      have hO : (outL f iv bl (k + 1)).flatten.map byte = (outL f iv bl k).flatten.map byte ++ N.map byte := by
        rw [HO.out, HN.out, List.flatten_append, List.map_append]; simp
      rw [← hO] at hown6
      have kB6 := (kB5.alloc (.cells (N.map byte).toArray 50)).grown hg6 (by simp; omega)
      have kS6 := (kS5.alloc (.cells (N.map byte).toArray 50)).grown hg6 (by simp; omega)
      have b6 := (b5.alloc b5.size (.cells (N.map byte).toArray 50)).grown hg6 (by simp; have := b5.size; omega) (by intro k hk; cases hk; omega)
      rw [← HN.out] at kB6
      clear hown5 hown4 hown hg6 hg5 hg2 kB kB2 kB3 kB4 kB5 kS kS2 kS3 kS4 kS5 b4 b5 hbel n2 n5 hnews hone hrk
      go_wp2
      go_roundw
      case rel => exact ⟨k + 1, by omega, by go_num, rfl, hown6, kB6, kS6, b6⟩
      case measure => simp [intOf]; omega
    · obtain rfl : k = m := by omega
      go_wp2
      go_ret
      exact ⟨_, rfl, by unfold OwnK; rw [outL_length]; exact hown, hbel⟩
end Go.Proofs.Ythjnalbgnjbdnaa
