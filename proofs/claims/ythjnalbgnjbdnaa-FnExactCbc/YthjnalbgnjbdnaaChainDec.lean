/-
  impl.chain with dec, over tdeaCipher.decrypt.
-/
import Derived.Test.YthjnalbgnjbdnaaChainL
namespace Go.Proofs.Ythjnalbgnjbdnaa
open Go.RowKit

def befD (iv : List UInt8) (bl : List (List UInt8)) : Nat → List UInt8
  | 0 => iv
  | k + 1 => bl.getD k []
def outOne (f : List UInt8 → List UInt8) (iv : List UInt8) (bl : List (List UInt8)) (k : Nat) : List UInt8 := xorL (f (bl.getD k [])) (befD iv bl k)
def outD (f : List UInt8 → List UInt8) (iv : List UInt8) (bl : List (List UInt8)) (k : Nat) : List (List UInt8) := (List.range k).map (outOne f iv bl)
theorem outD_succ (f : List UInt8 → List UInt8) (iv : List UInt8) (bl : List (List UInt8)) (k : Nat) : outD f iv bl (k + 1) = outD f iv bl k ++ [outOne f iv bl k] := by simp [outD, List.range_succ]
theorem outD_length (f : List UInt8 → List UInt8) (iv : List UInt8) (bl : List (List UInt8)) (k : Nat) : (outD f iv bl k).length = k := by simp [outD]
theorem befD_length (iv : List UInt8) (hiv : iv.length = 8) (bl : List (List UInt8)) (h8 : ∀ b ∈ bl, b.length = 8) (k : Nat) (hk : k ≤ bl.length) : (befD iv bl k).length = 8 := by
  cases k with
  | zero => exact hiv
  | succ k =>
    show (bl.getD k []).length = 8
    rw [show bl.getD k [] = bl[k] from by simp [show k < bl.length from by omega]]
    exact h8 _ (List.getElem_mem _)
section
variable {P : Program} {o : Oper} {a : Act} {w : World} {K : Act → World → Prop} {Q : Exit → Act → World → Prop}
theorem wp_fits_to (d : Option Tmp) (hd : o.dst = d) (s x : Operand) (t : TypeId) (hop : o.op = Op.call { callee := Callee.builtin Builtin.append, args := #[s, x], argTypes := #[t, t] })
    (base : Nat) (e : TypeId) (i : TypeInfo) (size : Nat) (h1 : P.underlying t = some (.slice e)) (h2 : P.info? e = some i) (h4 : i.size = size)
    (g k cap : Nat) (xs : List Value) (hs : a.eval s = .slice (some ⟨g, 0, none⟩) k cap) (hown : w.ownsRow base e size (.slice (some ⟨g, 0, none⟩) k cap) k xs) (ad : Addr) (m c : Nat) (news : List Value) (hx : a.eval x = .slice (some ad) m c) (hn : news.length = m * size)
    (hc : ∀ j u, news[j]? = some u → w.cell? (ad.add j) = some u) (h1c : ∀ u ∈ news, u.oneCell' = true) (b1 : k + m ≤ cap)
    (hK : ∀ w', w'.ownsRow base e size (.slice (some ⟨g, 0, none⟩) (k + m) cap) (k + m) (xs ++ news) → w.grownBy w' (some g) → K (a.put d (.slice (some ⟨g, 0, none⟩) (k + m) cap)) w') : o.wp P a w K Q := by
  subst hd
  obtain ⟨w', hrun, r1, r2⟩ := run_append_fits (P := P) w base t o.type e i size h1 h2 h4 g k cap xs hown ad m c news hn hc h1c b1
  unfold Oper.wp
  simp [execOp, hop, resolve, invoke, builtin, hs, hx, hrun, Result.andThen]
  exact hK w' r1 r2
end

set_option maxRecDepth 100000 in
set_option maxHeartbeats 4000000 in
theorem chainD_tdea (f : List UInt8 → List UInt8) (hf : ∀ x, (f x).length = 8) (C : Value) (S : Nat) (iv : List UInt8) (hiv : iv.length = 8) (bl : List (List UInt8)) (h8 : ∀ b ∈ bl, b.length = 8) (ao : Option Addr) (m cap : Nat) (hm : bl.length = m) (hm1 : m ≤ 4096) (w : World) (hs : Blks w ao bl) (hS : Blk w S 93 mergedCells)
    (HT : ∀ x wx, x.length = 8 → Blk wx S 93 mergedCells → Calls Try.prog 59 #[C, .agg (x.map byte).toArray] wx fun e w' => e = .returned (.agg ((f x).map byte).toArray) ∧ Below wx.heap.size wx w') :
    Calls Try.prog 60 #[.func (.func 59) #[C] #[], .func (.func 61) #[] #[], .agg (iv.map byte).toArray, .slice ao m cap, .bool true] w fun e w' => ∃ v, e = .returned v ∧ OwnK w' w.heap.size v (outD f iv bl m) ∧ Below w.heap.size w w' := by
  obtain ⟨i0, hi, hz0, hz1, hz2⟩ := info_parts Try.info50
  have hz := (zero_of_info Try.zero50).1
  have hbl := befD_length iv hiv bl h8
  have hil : (iv.map byte).length = 8 := by rw [List.length_map, hiv]
  have k0 : Blk (w.alloc (.cells (iv.map byte).toArray 50)) w.heap.size 50 (iv.map byte) := Blk.new w _ _
  have HX := hide (fun (a b : List UInt8) (g : Nat) (wx : World) (ha : a.length = 8) (hb : b.length = 8) (h : Blk wx g 50 (a.map byte ++ b.map byte)) => xor8_two a b g 2 50 wx ha hb h)
  replace HT := hide HT
  have HB := hide hs
  have H8 := hide h8
  have lS := hS.lt
  clear hs h8
  go_enter Try.func60, Try.ntmps60
  go_upto_region 3 with (first
    | (at_make; refine wpList_make_own _ rfl _ _ 58 rfl w.heap.size 50 i0 _ 8 Try.underlying58 hi hz0 hz1 .i64 .i64 _ m rfl rfl rfl (by rw [hz2]; omega) (by unfold maxLen; omega) (by simp) ?_; intro w0 own0 gr0; have bel0 := below_of_grown gr0)
    | (refine load_blk rfl 50 _ rfl _ rfl (k0.below bel0 k0.lt) Try.underlying50 rfl (by rw [hil]; kernel_rfl) ?_)
    | (refine store_blk rfl 50 _ _ rfl _ rfl rfl (Blk.new w0 _ _) (by rw [hil]; kernel_rfl) (by rw [hil]; exact zerosOf_length _ _) (allOne_bytes _) ?_; intro w1 hb1 hg1 hs1))
  have hsz : w0.heap.size ≥ w.heap.size + 2 := by
    have h := own0.lt (w.heap.size + 1) (by simp [Value.ownBlock])
    omega
  have bel1 : Below w0.heap.size w0 w1 := (below_new w0 _).grown hg1 (by simp) (by intro k hk; cases hk; exact Nat.le_refl _)
  have bw : Below w.heap.size w w1 := below_step (below_step (below_new w _) bel0) bel1
  have s0 := hS.below bw lS
  have o0 : w1.ownsRow w.heap.size 50 8 (.slice (some ⟨w.heap.size + 1, 0, none⟩) 0 m) 0 [] := World.ownsRow.kept (by simpa using own0) (grown_of_below bel1 none) (by right; simp [Value.ownBlock])
  obtain ⟨B, hB⟩ : ∃ B, B = w0.heap.size := ⟨_, rfl⟩
  obtain ⟨G, hG⟩ : ∃ G, G = w.heap.size + 1 := ⟨_, rfl⟩
  have hGB : G < B := by omega
  have hwG : w.heap.size < G := by omega
  rw [← hB] at hb1 ⊢
  rw [← hG] at o0 ⊢
  have q0 : Blk w1 B 50 (iv.map byte) := hb1
  clear hb1 hg1 hs1 bel1 own0 gr0 bel0 hB hG hsz k0
  go_wp2_with fail
  go_loopw [11, 14, 21] (fun v _ i wr => ∃ k : Nat, k ≤ m ∧ i = .int .i64 k ∧ v = .slice (some ⟨G, 0, none⟩) k m ∧ wr.ownsRow w.heap.size 50 8 (.slice (some ⟨G, 0, none⟩) k m) k ((outD f iv bl k).flatten.map byte) ∧ Blk wr B 50 ((befD iv bl k).map byte) ∧ Blk wr S 93 mergedCells ∧ Below w.heap.size w wr) (fun _ _ i _ => m - (intOf i).toNat)
  case atStart => exact ⟨0, Nat.zero_le _, rfl, rfl, o0, q0, s0, bw⟩
  case round =>
    clear o0 q0 s0 bw
    obtain ⟨k, hk, rfl, rfl, hown, kB, kS, hbel⟩ := hrel
    by_cases hlt : k < m
    · obtain ⟨g, off, rfl, hr0⟩ := HB.out k (by omega)
      have hrk := range_below hr0 hbel
      have hXl : (bl.getD k []).length = 8 := by
        rw [show bl.getD k [] = bl[k] from by simp [show k < bl.length from by omega]]
        exact H8.out _ (List.getElem_mem _)
      have hPl := hbl k (by omega)
      have HN := hide (show outOne f iv bl k = xorL (f (bl.getD k [])) (befD iv bl k) from rfl)
      have HP := hide (show befD iv bl (k + 1) = bl.getD k [] from rfl)
      have HO := hide (outD_succ f iv bl k)
      obtain ⟨X, hX⟩ : ∃ X, X = bl.getD k [] := ⟨_, rfl⟩
      obtain ⟨P, hP⟩ : ∃ P, P = befD iv bl k := ⟨_, rfl⟩
      rw [← hX] at hrk hXl HN HP
      rw [← hP] at kB hPl HN
      have HTY := hide (fun (wx : World) (h : Blk wx S 93 mergedCells) => HT.out X wx hXl h)
      have hYl := hf X
      obtain ⟨Y, hY⟩ : ∃ Y, Y = f X := ⟨_, rfl⟩
      rw [← hY] at HTY HN hYl
      have hNl : (xorL Y P).length = 8 := by rw [xorL_length _ _ (by omega), hYl]
      obtain ⟨N, hN⟩ : ∃ N, N = xorL Y P := ⟨_, rfl⟩
      have HXY := hide (fun (g : Nat) (wx : World) (h : Blk wx g 50 (Y.map byte ++ P.map byte)) => HX.out Y P g wx hYl hPl h)
      rw [← hN] at HXY HN hNl
      have hXm : (X.map byte).length = 8 := by rw [List.length_map, hXl]
      have hPm : (P.map byte).length = 8 := by rw [List.length_map, hPl]
      have hYm : (Y.map byte).length = 8 := by rw [List.length_map, hYl]
      have hNm : (N.map byte).length = 8 := by rw [List.length_map, hNl]
      have hkI : (k : Int) < (m : Int) := by omega
      have lB := kB.lt
      have lS2 := kS.lt
      have lG := (hown.lt G (by simp [Value.ownBlock])).2
      clear hX hP hY hN hr0
      go_wp2_with (first
        | (refine wpList_load_mid rfl 50 _ rfl g (off + k * 8) rfl (X.map byte) _ hrk Try.underlying50 rfl (by rw [hXm]; kernel_rfl) ?_)
        | (refine store_blk rfl 50 _ _ rfl _ rfl rfl (Blk.new wr _ _) (by rw [hXm]; kernel_rfl) (by rw [hXm]; exact zerosOf_length _ _) (allOne_bytes _) ?_; intro w2 hb2 hg2 hs2; clear hs2; have bel2 : Below wr.heap.size wr w2 := ((below_new wr _).grown hg2 (by simp) (by intro k hk; cases hk; exact Nat.le_refl _))))
      obtain ⟨H, hH⟩ : ∃ H, H = wr.heap.size := ⟨_, rfl⟩
      have kB2 := kB.below bel2 lB
      have kS2 := kS.below bel2 lS2
      have own2 := World.ownsRow.kept hown (grown_of_below bel2 none) (by right; simp [Value.ownBlock])
      have bV0 : Below w.heap.size w w2 := hbel.trans (bel2.mono hbel.size)
      rw [← hH] at hb2 lB lS2 lG ⊢
      obtain ⟨V, hV⟩ : ∃ V, V = w2.drew := ⟨_, rfl⟩
      have k14V : Blk V H 50 (X.map byte) := by rw [hV]; exact hb2.drew1
      have kBV : Blk V B 50 (P.map byte) := by rw [hV]; exact kB2.drew1
      have kSV : Blk V S 93 mergedCells := by rw [hV]; exact kS2.drew1
      have ownV : V.ownsRow w.heap.size 50 8 (.slice (some ⟨G, 0, none⟩) k m) k ((outD f iv bl k).flatten.map byte) := by rw [hV]; exact own2.drew
      have bV : Below w.heap.size w V := by rw [hV]; exact bV0.drew
      have hwV := bV.size
      have hHl : H ≠ B ∧ H ≠ S ∧ H ≠ G := by omega
      clear hown kB kS hbel hrk hb2 hg2 bel2 kB2 kS2 own2 bV0 hH
      have b_0 : Below V.heap.size V V := Below.refl _ _
      have hone := all_one N
      have boxes : Hid (∀ {x}, Below V.heap.size V x → Blk x S 93 mergedCells) := fun h => kSV.below h kSV.lt
      have owns : Hid (∀ {x}, Below V.heap.size V x → x.ownsRow w.heap.size 50 8 (.slice (some ⟨G, 0, none⟩) k m) k ((outD f iv bl k).flatten.map byte)) := fun h => World.ownsRow.kept ownV (grown_of_below h none) (by right; simp [Value.ownBlock])
      let Keep6 : World → Prop := fun x => x.rangeAt H 0 (X.map byte) ∧ x.rangeAt B 0 (P.map byte)
      have keep6 : Hid (∀ {x}, Keep6 x → x.rangeAt H 0 (X.map byte) ∧ x.rangeAt B 0 (P.map byte)) := fun h => h
      have keep : Hid (∀ {x}, Below V.heap.size V x → x.rangeAt H 0 (X.map byte) ∧ x.rangeAt B 0 (P.map byte)) := fun h => ⟨blk_whole (k14V.below h k14V.lt), blk_whole (kBV.below h kBV.lt)⟩
      refine wp_region_held_drew (S := fun x => x.rangeAt H 0 (X.map byte) ∧ x.rangeAt B 0 (P.map byte)) (by kernel_rfl) (by rw [← hV]; exact keep.out b_0) (fun hHeld => ?_)
      rw [← hV] at hHeld ⊢
      clear hV
      refine wpAnyH_take (i := 0) (v := (.slice (some ⟨G, 0, none⟩) k m)) rfl (by kernel_rfl) (by kernel_rfl) (by kernel_rfl) (fun _ _ _ h => h) (Or.inl ⟨by rfl, ?_⟩) hHeld ?_
      · intro _ _; go_simp
      try dsimp only [Act.put]
      refine wpAnyH_take (i := 1) (v := (.func (.func 61) #[] #[])) rfl (by kernel_rfl) (by kernel_rfl) (by kernel_rfl) (fun _ _ _ h => h) (Or.inl ⟨by rfl, ?_⟩) hHeld ?_
      · intro _ _; go_simp
      try dsimp only [Act.put]
      refine wpAnyH_take (i := 2) (v := (.func (.func 59) #[C] #[])) rfl (by kernel_rfl) (by kernel_rfl) (by kernel_rfl) (fun _ _ _ h => h) (Or.inl ⟨by rfl, ?_⟩) hHeld ?_
      · intro _ _; go_simp
      try dsimp only [Act.put]
      refine wpAnyH_take (i := 3) (v := (.agg (X.map byte).toArray)) rfl (by kernel_rfl) (by kernel_rfl) (by kernel_rfl) (fun _ _ _ h => h) (yieldsIf_load_mid (by rfl) 50 _ rfl H 0 rfl (X.map byte) _ (fun _ h => h.1) Try.underlying50 rfl (by rw [hXm]; kernel_rfl)) hHeld ?_
      try dsimp only [Act.put]
      refine wpAnyH_take (i := 5) (v := (.agg (P.map byte).toArray)) rfl (by kernel_rfl) (by kernel_rfl) (by kernel_rfl) (fun _ _ _ h => h) (yieldsIf_load_mid (by rfl) 50 _ rfl B 0 rfl (P.map byte) _ (fun _ h => h.2) Try.underlying50 rfl (by rw [hPm]; kernel_rfl)) hHeld ?_
      try dsimp only [Act.put]
      refine wpAnyH_ready (rs := [4]) (by kernel_rfl) (by simp) ?_
      refine AllReadyH.cons rfl (fun K hK => ?_) (AllReadyH.nil)
      go_simp
      refine (HTY.out _ (boxes.out b_0)).mono ?_
      rintro e w_1 ⟨rfl, bel_1⟩
      have b_1 := below_step b_0 bel_1
      go_wp2_with fail
      refine hK.out _ _ (keep.out b_1) (fun hHeld => ?_)
      clear hK K
      try dsimp only [Act.put]
      refine wpAnyH_ready (rs := [6]) (by kernel_rfl) (by simp) ?_
      refine AllReadyH.cons rfl (fun K hK => ?_) (AllReadyH.nil)
      rw [if_pos (by rfl)]
      refine wp_build2 (some 32) rfl 58 _ _ rfl 50 8 _ (Y.map byte) (P.map byte) rfl rfl Try.underlying58 Try.zero50 hYm hPm (by omega) (by omega) ?_
      try dsimp only [Act.put]
      obtain ⟨w_2, hw_2⟩ : ∃ x, x = World.alloc w_1 (.cells (Y.map byte ++ P.map byte).toArray 50) := ⟨_, rfl⟩
      have bel_2 : Below w_1.heap.size w_1 w_2 := by rw [hw_2]; exact below_new _ _
      have bs_2 : Blk w_2 w_1.heap.size 50 (Y.map byte ++ P.map byte) := by rw [hw_2]; exact Blk.new _ _ _
      have le_bs_2 := b_1.size
      have b_2 := below_step b_1 bel_2
      rw [← hw_2]
      clear hw_2
      refine hK.out _ _ (keep.out b_2) (fun hHeld => ?_)
      clear hK K
      try dsimp only [Act.put]
      refine wpAnyH_ready (rs := [7]) (by kernel_rfl) (by simp) ?_
      refine AllReadyH.cons rfl (fun K hK => ?_) (AllReadyH.nil)
      go_simp
      refine (HXY.out _ _ bs_2).mono ?_
      rintro e w_3 ⟨rfl, bel_3⟩
      have bs_3 := bs_2.below bel_3 bs_2.lt
      have b_3 := below_step b_2 bel_3
      go_wp2_with fail
      refine hK.out _ _ (keep.out b_3) (fun hHeld => ?_)
      clear hK K
      try dsimp only [Act.put]
      refine wpAnyH_ready (rs := [8]) (by kernel_rfl) (by simp) ?_
      refine AllReadyH.cons rfl (fun K hK => ?_) (AllReadyH.nil)
      rw [if_pos (by rfl)]
      refine wp_build1 (some 34) rfl 58 _ rfl 50 8 _ (N.map byte) rfl Try.underlying58 Try.zero50 hNm (by omega) (by omega) ?_
      try dsimp only [Act.put]
      obtain ⟨w_4, hw_4⟩ : ∃ x, x = World.alloc w_3 (.cells (N.map byte).toArray 50) := ⟨_, rfl⟩
      have bel_4 : Below w_3.heap.size w_3 w_4 := by rw [hw_4]; exact below_new _ _
      have o1_4 : Blk w_4 w_3.heap.size 50 (N.map byte) := by rw [hw_4]; exact Blk.new _ _ _
      have le_o1_4 := b_3.size
      have bs_4 := bs_3.below bel_4 bs_3.lt
      have b_4 := below_step b_3 bel_4
      rw [← hw_4]
      clear hw_4
      refine hK.out _ _ (keep.out b_4) (fun hHeld => ?_)
      clear hK K
      try dsimp only [Act.put]
      refine wpAnyH_ready (rs := [9]) (by kernel_rfl) (by simp) ?_
      refine AllReadyH.cons rfl (fun K hK => ?_) (AllReadyH.nil)
      rw [if_pos (by rfl)]
      refine wp_fits_to (some 35) rfl _ _ 58 rfl w.heap.size 50 i0 8 Try.underlying58 hi hz1 G k m _ rfl (owns.out b_4) ⟨w_3.heap.size, 0, none⟩ 1 1 (N.map byte) rfl hNm (range_news (blk_whole o1_4)) hone (by omega) ?_
      intro w_5 own6 gr6
      have bq := b_4
      have k14 := (k14V.below bq k14V.lt).grown gr6 (by simp; omega)
      have kB6 := (kBV.below bq kBV.lt).grown gr6 (by simp; omega)
      have kS6 := (kSV.below bq kSV.lt).grown gr6 (by simp; omega)
      have b6 : Below w.heap.size V w_5 := (bq.mono hwV).grown gr6 (Nat.le_trans hwV bq.size) (by intro j hj; cases hj; omega)
      have kp6 : Keep6 w_5 := ⟨blk_whole k14, blk_whole kB6⟩
      refine hK.out _ _ (keep6.out kp6) (fun hHeld => ?_)
      clear hK K
      try dsimp only [Act.put]
      refine wpAnyH_ready (rs := [10]) (by kernel_rfl) (by simp) ?_
      refine AllReadyH.cons rfl (fun K hK => ?_) (AllReadyH.nil)
      go_simp
      refine hK.out _ _ (keep6.out kp6) (fun hHeld => ?_)
      clear hK K
      try dsimp only [Act.put]
      refine wpAnyH_done (by kernel_rfl) ?_ _
      go_wp2_with (first
        | (refine load_blk rfl 50 _ rfl _ rfl k14 Try.underlying50 rfl (by rw [hXm]; kernel_rfl) ?_)
        | (refine store_blk rfl 50 _ _ rfl _ rfl rfl kB6 (by rw [hXm]; kernel_rfl) (by rw [hXm]; exact hPm) (allOne_bytes _) ?_; intro w7 kB7 hg7 hs7; clear hs7))
      have kS7 := kS6.grown hg7 (by simp; omega)
      have own7 := World.ownsRow.kept own6 hg7 (by right; simp [Value.ownBlock]; omega)
      have b7 := (bV.trans b6).grown hg7 (bV.trans b6).size (by intro j hj; cases hj; omega)
      have hO : (outD f iv bl (k + 1)).flatten.map byte = (outD f iv bl k).flatten.map byte ++ N.map byte := by
        rw [HO.out, HN.out, List.flatten_append, List.map_append]; simp
      rw [← hO] at own7
      rw [← HP.out] at kB7
      clear kB6 kS6 own6 gr6 b6 k14 bq kp6 hg7
      go_wp2
      go_roundw
      case rel => exact ⟨k + 1, by omega, by go_num, rfl, own7, kB7, kS7, b7⟩
      case measure => simp [intOf]; omega
    · obtain rfl : k = m := by omega
      go_wp2
      go_ret
      exact ⟨_, rfl, by unfold OwnK; rw [outD_length]; exact hown, hbel⟩
end Go.Proofs.Ythjnalbgnjbdnaa
