/-
  impl.CheckValue, spec.CheckValue.
-/
import Derived.Test.YthjnalbgnjbdnaaSteps
namespace Go.Proofs.Ythjnalbgnjbdnaa
open Go.RowKit

def checkL (key : List UInt8) : List UInt8 := if key.length = 16 then (tdeaN key (zeros8 8) false).take 3 else []
theorem zeros8_length (n : Nat) : (zeros8 n).length = n := by simp [zeros8]
theorem tdea_take (key : List UInt8) : ((tdeaN key (zeros8 8) false).take 3).length = 3 := by rw [List.length_take, tdeaN_length]; rfl

theorem build_empty {P : Program} {ops : Array Oper} {rest : List Oper} {o : Oper} {a : Act} {w : World} {Q : Exit → Act → World → Prop} (hg : o.guard = none) (t : Nat) (ho : o.op = .build t #[]) (cs : List Value)
    (hf : P.built t [] = some cs.toArray) (h : wpList P ops Q rest (a.put o.dst (.agg cs.toArray)) w) : wpList P ops Q (o :: rest) a w :=
  build_to hg t #[] ho cs (by simpa using hf) h
theorem built_none : Try.prog.built 50 [] = some ((zeros8 8).map byte).toArray := by kernel_rfl

set_option maxRecDepth 100000 in
set_option maxHeartbeats 1000000 in
theorem check_ok (key : List UInt8) (kb ko ck : Nat) (w : World) (hk : key.length = 16) (rk : w.rangeAt kb ko (key.map byte)) :
    Calls Try.prog 30 #[.slice (some ⟨kb, ko, none⟩) 16 ck] w fun e w' => ∃ v, e = .returned v ∧ Own w' w.heap.size v ((tdeaN key (zeros8 8) false).take 3) ∧ Below w.heap.size w w' := by
  obtain ⟨i0, hi, hz0, hz1, hz2⟩ := info_parts Try.info5
  have hz := (zero_of_info Try.zero50).1
  have hkl : (key.map byte).length = 16 := by rw [List.length_map, hk]
  have har := fun (wx : World) => run_arrayAt (P := Try.prog) (w := wx) 57 5 16 (some ⟨kb, ko, none⟩) 16 ck Try.underlying57 (Nat.le_refl _)
  have HE := fun S wx => tdea_encrypt (key.take 8) (key.drop 8) (zeros8 8) S wx (zeros8_length 8)
  obtain ⟨N, hN⟩ : ∃ N, N = tdeaN key (zeros8 8) false := ⟨_, rfl⟩
  rw [← tdeaN_enc key (zeros8 8)] at HE
  rw [← hN] at HE ⊢
  have hnl : N.length = 8 := by rw [hN, tdeaN_length]
  have hnm : (N.map byte).length = 8 := by rw [List.length_map, hnl]
  clear hN
  obtain ⟨Z, hZ⟩ : ∃ Z, Z = (zeros8 8).map byte := ⟨_, rfl⟩
  have hbn := built_none
  rw [← hZ] at HE hbn
  clear hZ
  have hnt : (N.take 3).length = 3 := by rw [List.length_take, hnl]; rfl
  go_enter Try.func30, Try.ntmps30
  go_upto_region 3 with fail
  go_cut [3] (fun p wx => ∃ G, p = .pointer (some ⟨G, 0, none⟩) ∧ w.heap.size ≤ G ∧ Blk wx G 50 (N.map byte) ∧ Below w.heap.size w wx)
  case first =>
    go_wp2_with (first
      | (refine wpList_load_mid rfl 57 _ rfl kb ko rfl (key.map byte) _ rk Try.underlying57 rfl (by rw [hkl]; kernel_rfl) ?_)
      | (go_at_call 57; refine (newTdea_any key _ hk).mono ?_; rintro e w1 ⟨S, rfl, hS1, hS2, bel1⟩)
      | (refine build_empty rfl 50 rfl Z hbn ?_)
      | (go_at_call 58; refine (HE S _ hS2).mono ?_; rintro e w2 ⟨rfl, bel2⟩)
      | (refine store_blk rfl 50 _ _ rfl _ rfl rfl (Blk.new w2 _ _) (by rw [hnm]; kernel_rfl) (by rw [hnm]; exact zerosOf_length _ _) (allOne_bytes _) ?_; intro w3 hb3 hg3 hs3))
    have b2 := below_step bel1 bel2
    have l2 := b2.size
    have b3 := (b2.alloc l2 _).grown hg3 (by simp; omega) (by intro k hk; cases hk; omega)
    clear hg3 hs3
    go_meet
    case rel => exact ⟨_, rfl, l2, hb3, b3⟩
  case rest =>
    obtain ⟨G, rfl, hG, hb, bel⟩ := hcut
    have hown := World.ownsRow_made (base := w.heap.size) (e := 5) (size := 1) wc #[] 0 bel.size (by unfold maxLen; omega) rfl
    have hb' := hb.alloc (.cells #[] 5)
    have bel' := bel.alloc bel.size (.cells #[] 5)
    have hnews : ∀ j u, ((N.take 3).map byte)[j]? = some u → (wc.alloc (.cells #[] 5)).cell? ((⟨G, 0, none⟩ : Addr).add j) = some u := by
      intro j u hu
      obtain ⟨hj, he⟩ := List.getElem?_eq_some_iff.1 hu
      rw [List.length_map, hnt] at hj
      rw [Addr.add_mid, Nat.zero_add, hb'.cell j (by rw [hnm]; omega), ← he]
      simp
    have hone : ∀ u ∈ (N.take 3).map byte, u.oneCell' = true := by
      intro u hu
      obtain ⟨x, -, rfl⟩ := List.mem_map.1 hu
      rfl
    go_wp2_with (at_builtin; refine wpList_append_own _ rfl _ _ 22 rfl w.heap.size 5 i0 (.int .u8 0) 1 1 Try.underlying22 hi hz0 hz1 hz2 rfl (by decide) _ 0 [] rfl hown ⟨G, 0, none⟩ 3 8 ((N.take 3).map byte) rfl (by rw [List.length_map, hnt]) hnews hone (by unfold maxLen; omega) (by omega) bel'.size ?_; intro v1 w1 hown1 hgrow1 hnil1)
    go_ret
    have bel2 := bel'.grown hgrow1 bel'.size (fun j hj => (hown.lt j hj).1)
    refine ⟨_, rfl, ⟨5, ?_⟩, bel2⟩
    rw [hnt]
    exact hown1

set_option maxHeartbeats 400000 in
theorem check_wrong (n : Nat) (ak : Option Addr) (ck : Nat) (w : World) (_hn : n ≤ 1048576) (h : ¬ n = 16) :
    Calls Try.prog 30 #[.slice ak n ck] w fun e w' => e = .returned (.slice none 0 0) ∧ w' = w := by
  have h2 : ((n : Int) != 16) = true := by rw [bne_iff_ne]; omega
  go_enter Try.func30, Try.ntmps30
  go_wp2
  go_ret
  exact ⟨rfl, rfl⟩

set_option maxHeartbeats 400000 in
theorem checkS_wrong (n : Nat) (ak : Option Addr) (ck : Nat) (w : World) (_hn : n ≤ 1048576) (h : ¬ n = 16) :
    Calls Try.prog 29 #[.slice ak n ck] w fun e w' => e = .returned (.slice none 0 0) ∧ w' = w := by
  have h2 : ((n : Int) != 16) = true := by rw [bne_iff_ne]; omega
  go_enter Try.func29, Try.ntmps29
  go_wp2
  go_ret
  exact ⟨rfl, rfl⟩

theorem OwnB.take {w : World} {base : Nat} {l : List UInt8} {g c n k : Nat} (h : OwnB w base (.slice (some ⟨g, 0, none⟩) n c) l) (hn : l.length = n) (hk : k ≤ n) : Own w base (.slice (some ⟨g, 0, none⟩) k c) (l.take k) := by
  subst hn
  refine ⟨5, by simp, ?_⟩
  rcases h.2 with ⟨hv, -⟩ | ⟨g', cap, cur, hv, hb, hh, hn, hm, hs, ht⟩
  · cases hv
  · simp only [Value.slice.injEq, Option.some.injEq, Addr.mk.injEq, and_true, true_and] at hv
    obtain ⟨rfl, rfl⟩ := hv
    have hkl : (l.take k).length = k := by rw [List.length_take]; omega
    refine .inr ⟨g, c, cur, by rw [hkl], hb, hh, by omega, hm, hs, ?_⟩
    rw [hkl, List.map_take, ← ht, List.take_take]
    congr 1
    omega

set_option maxRecDepth 100000 in
set_option maxHeartbeats 1000000 in
theorem checkS_ok (key : List UInt8) (ak : Option Addr) (ck : Nat) (w : World) (hk : key.length = 16) (hc : 16 ≤ ck) (rk : RowAt w ak key) :
    Calls Try.prog 29 #[.slice ak 16 ck] w fun e w' => ∃ v, e = .returned v ∧ Own w' w.heap.size v ((tdeaN key (zeros8 8) false).take 3) ∧ Below w.heap.size w w' := by
  obtain ⟨i0, hi, hz0, hz1, hz2⟩ := info_parts Try.info5
  have hmz : (madeCells (Value.int .u8 0).cells (8 * 1)).toList = (zeros8 8).map byte := by kernel_rfl
  have HT := fun (ab : Option Addr) (wx : World) (rk : RowAt wx ak key) (rb : RowAt wx ab (zeros8 8)) => tdea_spec_ok key (zeros8 8) false ak ab ck 8 wx hk (zeros8_length 8) (by omega) rk rb
  rw [hk, zeros8_length] at HT
  obtain ⟨N, hN⟩ : ∃ N, N = tdeaN key (zeros8 8) false := ⟨_, rfl⟩
  have hnl := tdeaN_length key (zeros8 8) false
  rw [← hN] at HT hnl ⊢
  clear hN
  go_enter Try.func29, Try.ntmps29
  go_wp2_with (first
    | (at_make; refine wpList_make_full _ rfl _ _ 22 rfl w.heap.size 5 i0 (.int .u8 0) 1 Try.underlying22 hi hz0 hz1 .i64 .i64 _ _ 8 rfl rfl rfl rfl (by rw [hz2]; omega) (by unfold maxLen; omega) (Nat.le_refl _) ?_; intro w0 hown0 hgrow0; have bel0 := below_of_grown hgrow0)
    | (go_at_call 23; refine (HT _ _ (rk.below bel0) (rowAt_block (by have h := own_blk hown0; rw [hmz] at h; exact h))).mono ?_; rintro e w1 ⟨v1, rfl, own1, bel1⟩; obtain ⟨g1, c1, hc1, hv1, row1⟩ := own_at own1 hnl (by omega); subst hv1; have hc3 : (3 : Int) ≤ (c1 : Int) := (by omega)))
  go_ret
  have b1 := below_step bel0 bel1
  exact ⟨_, rfl, (own1.mono bel0.size).take hnl (by omega), b1⟩

theorem check_all (key : List UInt8) (ak : Option Addr) (ck : Nat) (w : World) (hn : key.length ≤ 1048576) (_hc : key.length ≤ ck) (rk : RowAt w ak key) :
    Calls Try.prog 30 #[.slice ak key.length ck] w fun e w' => ∃ v, e = .returned v ∧ Own w' w.heap.size v (checkL key) ∧ Below w.heap.size w w' := by
  unfold checkL
  by_cases h : key.length = 16
  · rw [if_pos h]
    obtain ⟨kb, ko, rfl, hr⟩ := rk.range (by omega)
    rw [h]
    exact check_ok key kb ko ck w h hr
  · rw [if_neg h]
    refine (check_wrong _ ak ck w hn h).mono ?_
    rintro e w' ⟨rfl, rfl⟩
    exact ⟨_, rfl, ⟨5, World.ownsRow_nil _ _ _ _⟩, Below.refl _ _⟩
theorem specCheck_all (key : List UInt8) (ak : Option Addr) (ck : Nat) (w : World) (hn : key.length ≤ 1048576) (hc : key.length ≤ ck) (rk : RowAt w ak key) :
    Calls Try.prog 29 #[.slice ak key.length ck] w fun e w' => ∃ v, e = .returned v ∧ Own w' w.heap.size v (checkL key) ∧ Below w.heap.size w w' := by
  unfold checkL
  by_cases h : key.length = 16
  · rw [if_pos h, h]
    exact checkS_ok key ak ck w h (by omega) rk
  · rw [if_neg h]
    refine (checkS_wrong _ ak ck w hn h).mono ?_
    rintro e w' ⟨rfl, rfl⟩
    exact ⟨_, rfl, ⟨5, World.ownsRow_nil _ _ _ _⟩, Below.refl _ _⟩
theorem checkL_le (key : List UInt8) (_ : key.length ≤ 1048576) : (checkL key).length ≤ 1048576 := by
  unfold checkL
  split
  · rw [tdea_take]; omega
  · simp
end Go.Proofs.Ythjnalbgnjbdnaa
