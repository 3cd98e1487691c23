import Derived.Test.YtjkofmomoljelaaGreatDoorSfL
namespace Go.Proofs.YtjkofmomoljelaaGreatDoor
open Go.RowKit
set_option maxHeartbeats 400000 in
theorem isUse_any (u : Int) (w : World) :
    Calls Tryz.prog 24 #[.int .i64 u] w fun e w' => e = .returned (.bool (decide (1 ≤ u) && decide (u ≤ 3))) ∧ w' = w := by
  by_cases h : 1 ≤ u
  · go_enter Tryz.func24, Tryz.ntmps24
    go_wp2
    go_ret
    exact ⟨by simp [h], rfl⟩
  · go_enter Tryz.func24, Tryz.ntmps24
    go_wp2
    go_ret
    exact ⟨by rw [decide_eq_false (show ¬ 1 ≤ u from by omega)]; rfl, rfl⟩
theorem Own.at' {w : World} {base n : Nat} {v : Value} {l : List UInt8} (h : Own w base v l) (hl : l.length = n) (h0 : 0 < n) : ∃ g cap, n ≤ cap ∧ v = .slice (some ⟨g, 0, none⟩) n cap ∧ w.rangeAt g 0 (l.map byte) ∧ base ≤ g ∧ g < w.heap.size := by
  subst hl
  have hq := h
  obtain ⟨t, h⟩ := h
  obtain ⟨ao, cap, rfl, row, hg, -, -⟩ := hq.shape
  rcases h.2 with ⟨-, hn⟩ | ⟨g, cap', cur, hv, hb, hh, hn, hm, hs, ht⟩
  · omega
  · simp only [Value.slice.injEq, true_and] at hv
    obtain ⟨rfl, rfl⟩ := hv
    obtain ⟨g', o', he, hr⟩ := row.range (by omega)
    cases he
    exact ⟨g, cap, hn, rfl, hr, hb, lt_of_block hh⟩
theorem Blk.apart {w : World} {g g' t t' : Nat} {cs cs' : List Value} (h : Blk w g t cs) (h' : Blk w g' t' cs') (hn : t ≠ t') : some g ≠ some g' := by
  intro he
  cases he
  unfold Blk at h h'
  rw [h] at h'
  simp only [Option.some.injEq, Obj.cells.injEq] at h'
  exact hn h'.2.1
/-- The key that seals. -/
def sealK (master : List UInt8) : List UInt8 := cmacN master [69]
set_option maxRecDepth 100000 in
set_option maxHeartbeats 2000000 in
theorem sealing_any (master : List UInt8) (kb ko ck : Nat) (w : World) (hk : master.length = 16) (rk : w.rangeAt kb ko (master.map byte)) :
    Calls Tryz.prog 28 #[.slice (some ⟨kb, ko, none⟩) 16 ck] w fun e w' => ∃ S1 S2 S3 S4, e = .returned (.agg (aesCells ((keysUpto (sealK master) 11).map byte) S1 S2 S3 S4).toArray) ∧ Tabs w' S1 S2 S3 S4 ∧ Below w.heap.size w w' := by
  have hz := (zero_of_info Tryz.zero59).1
  have hEl : (sealK master).length = 16 := cmacN_length master [69] hk
  have HC := hid_of' (fun (c : Nat) (g : Nat) (wx : World) (hc : 1 ≤ c) (h1 : wx.rangeAt kb ko (master.map byte)) (h2 : RowAt wx (some ⟨g, 0, none⟩) [69]) => cmac_some master [69] kb ko ck c (some ⟨g, 0, none⟩) wx hk (by simp) (by simpa using hc) h1 h2)
  obtain ⟨E, hE⟩ : ∃ E, E = sealK master := ⟨_, rfl⟩
  have hE' : cmacN master [69] = E := hE.symm
  rw [hE'] at HC
  rw [← hE] at hEl ⊢
  have HNew := hid_of' (fun wx => newAes_any E wx hEl)
  have hEm : (E.map byte).length = 16 := by rw [List.length_map, hEl]
  have hks : ((keysUpto E 11).map byte).length = 176 := by rw [List.length_map, keysUpto_length E hEl]
  obtain ⟨w0, hw0⟩ : ∃ x, x = (w.alloc (.cells zeroAes.toArray 59)).alloc (.cells #[.int .u8 69] 5) := ⟨_, rfl⟩
  have b0 : Below w.heap.size w w0 := by rw [hw0]; exact ((Below.refl _ w).alloc (Nat.le_refl _) _).alloc (by simp) _
  have k0 : Blk w0 w.heap.size 59 zeroAes := by rw [hw0]; exact (Blk.new w _ _).alloc _
  have r69 : RowAt w0 (some ⟨w.heap.size + 1, 0, none⟩) [69] := by rw [hw0]; exact rowAt_block (t := 5) (Blk.new2 w _ _ _)
  have rk0 := range_below rk b0
  clear hE hE' rk
  go_enter Tryz.func28, Tryz.ntmps28
  go_wp2_with fail
  rw [← hw0]
  clear hw0
  refine (HC.out _ _ w0 (Nat.le_refl _) rk0 r69).mono ?_
  rintro e w1 ⟨v1, rfl, own1, bel1⟩
  obtain ⟨g1, c1, hc1, rfl, rg1, -, -⟩ := Own.at' own1 hEl (by omega)
  have k1 := k0.below bel1 k0.lt
  have b1 := below_step b0 bel1
  have har := fun c (wx : World) => run_arrayAt (P := Tryz.prog) (w := wx) 54 5 16 (some ⟨g1, 0, none⟩) 16 c Tryz.underlying54 (Nat.le_refl _)
  clear k0 own1 bel1 b0
  go_wp2_with (first
    | (refine wpList_load_mid rfl 54 _ rfl g1 0 rfl (E.map byte) _ rg1 Tryz.underlying54 rfl (by rw [hEm]; kernel_rfl) ?_)
    | (go_at_call 51; refine (HNew.out _).mono ?_; rintro e w2 ⟨S1, S2, S3, S4, rfl, t1, t2, t3, t4, bel2⟩; have htl := aesCells_length ((keysUpto E 11).map byte) S1 S2 S3 S4 hks; have k2 := k1.below bel2 k1.lt; have b2 := below_step b1 bel2)
    | (refine store_blk rfl 59 _ _ rfl _ rfl rfl k2 (by rw [htl]; kernel_rfl) (by rw [htl]; exact zeroAes_length) (allOne_aes _ _ _ _ _) ?_; intro w3 hb3 hg3 hs3))
  have l2 := b2.size
  exact bodyPost_ret (v := .agg (aesCells ((keysUpto E 11).map byte) S1 S2 S3 S4).toArray) (results_blk Tryz.results28 _ _ rfl hb3 Tryz.underlying59 rfl (by rw [htl]; kernel_rfl)) rfl ⟨S1, S2, S3, S4, rfl, ⟨t1.grown hg3 (t1.apart k2 (by decide)), t2.grown hg3 (t2.apart k2 (by decide)), t3.grown hg3 (t3.apart k2 (by decide)), t4.grown hg3 (t4.apart k2 (by decide))⟩, b2.grown hg3 l2 (by intro k hk; cases hk; exact Nat.le_refl _)⟩
end Go.Proofs.YtjkofmomoljelaaGreatDoor
