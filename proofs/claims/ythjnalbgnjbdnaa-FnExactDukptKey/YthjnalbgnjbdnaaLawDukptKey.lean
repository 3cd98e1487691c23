/-
  laws.FnExactDukptKey: the walk out of the contracts.
-/
import Derived.Test.YthjnalbgnjbdnaaKeyEq
import Derived.Test.YthjnalbgnjbdnaaKeep
namespace Go.Proofs.Ythjnalbgnjbdnaa
open Go.RowKit

set_option maxHeartbeats 4000000 in
theorem lawDukptKey (abdk_ aksn_ : Option Addr) (cbdk_ cksn_ : Nat) (bdk : List UInt8) (ksn : List UInt8) (w : World) (hn_bdk : bdk.length ≤ 1048576) (hn_ksn : ksn.length ≤ 1048576)  (r_bdk : RowAt w abdk_ bdk) (r_ksn : RowAt w aksn_ ksn) :
    Calls Try.prog 10 #[.slice abdk_ bdk.length cbdk_, .slice aksn_ ksn.length cksn_] w fun e w' => e = .returned (.bool true) ∧ Below w.heap.size w w' := by
  obtain ⟨L, hLe⟩ : ∃ L, L = keyL bdk ksn := ⟨_, rfl⟩
  have hL : L.length ≤ 1048576 := by rw [hLe]; exact keyL_le bdk ksn hn_bdk hn_ksn
  have HS : Hid (∀ abdk_ aksn_ cbdk_ cksn_ w, bdk.length ≤ cbdk_ → ksn.length ≤ cksn_ → RowAt w abdk_ bdk → RowAt w aksn_ ksn → Calls Try.prog 33 #[.slice abdk_ bdk.length cbdk_, .slice aksn_ ksn.length cksn_] w fun e w' => ∃ v, e = .returned v ∧ Own w' w.heap.size v L ∧ Below w.heap.size w w') := by
    show ∀ abdk_ aksn_ cbdk_ cksn_ w, bdk.length ≤ cbdk_ → ksn.length ≤ cksn_ → RowAt w abdk_ bdk → RowAt w aksn_ ksn → Calls Try.prog 33 #[.slice abdk_ bdk.length cbdk_, .slice aksn_ ksn.length cksn_] w fun e w' => ∃ v, e = .returned v ∧ Own w' w.heap.size v L ∧ Below w.heap.size w w'
    intro abdk_ aksn_ cbdk_ cksn_ w hc_bdk hc_ksn r_bdk r_ksn
    rw [hLe]
    exact keyS_all bdk ksn abdk_ aksn_ cbdk_ cksn_ w hn_bdk hn_ksn  hc_bdk hc_ksn r_bdk r_ksn
  have HI : Hid (∀ abdk_ aksn_ cbdk_ cksn_ w, bdk.length ≤ cbdk_ → ksn.length ≤ cksn_ → RowAt w abdk_ bdk → RowAt w aksn_ ksn → Calls Try.prog 34 #[.slice abdk_ bdk.length cbdk_, .slice aksn_ ksn.length cksn_] w fun e w' => ∃ v, e = .returned v ∧ Own w' w.heap.size v L ∧ Below w.heap.size w w') := by
    show ∀ abdk_ aksn_ cbdk_ cksn_ w, bdk.length ≤ cbdk_ → ksn.length ≤ cksn_ → RowAt w abdk_ bdk → RowAt w aksn_ ksn → Calls Try.prog 34 #[.slice abdk_ bdk.length cbdk_, .slice aksn_ ksn.length cksn_] w fun e w' => ∃ v, e = .returned v ∧ Own w' w.heap.size v L ∧ Below w.heap.size w w'
    intro abdk_ aksn_ cbdk_ cksn_ w hc_bdk hc_ksn r_bdk r_ksn
    rw [hLe]
    exact key_all bdk ksn abdk_ aksn_ cbdk_ cksn_ w hn_bdk hn_ksn  hc_bdk hc_ksn r_bdk r_ksn
  clear hLe
  go_enter Try.func10, Try.ntmps10
  go_wp2_with fail
  refine (toByteS_any _ _ bdk _ hn_bdk r_bdk).mono ?_
  rintro e w1 ⟨rfl, own1, bel1⟩
  obtain ⟨_, _, hv1, row1, g1, -⟩ := own1.shape
  cases hv1
  have l1 : w.heap.size < w1.heap.size := by obtain ⟨g, hg, -, h⟩ := g1 _ rfl; cases hg; exact h
  have b1 : Below w.heap.size w w1 := bel1
  go_wp2_with fail
  refine (toByteS_any _ _ ksn _ hn_ksn (r_ksn.below b1)).mono ?_
  rintro e w2 ⟨rfl, own2, bel2⟩
  obtain ⟨_, _, hv2, row2, g2, -⟩ := own2.shape
  cases hv2
  have l2 : w1.heap.size < w2.heap.size := by obtain ⟨g, hg, -, h⟩ := g2 _ rfl; cases hg; exact h
  have b2 : Below w.heap.size w w2 := b1.trans (bel2.mono b1.size)
  go_wp2_with fail
  refine (HS.out _ _ _ _ _ (Nat.le_refl _) (Nat.le_refl _) ((row1).below bel2) (row2)).mono ?_
  rintro e w3 ⟨v3, rfl, own3, bel3⟩
  obtain ⟨a3, c3, rfl, row3, g3, -⟩ := own3.shape
  have b3 : Below w.heap.size w w3 := b2.trans (bel3.mono b2.size)
  have s3 := b3.size
  go_wp2_with fail
  refine (toByteS_any _ _ bdk _ hn_bdk (r_bdk.below b3)).mono ?_
  rintro e w4 ⟨rfl, own4, bel4⟩
  obtain ⟨_, _, hv4, row4, g4, -⟩ := own4.shape
  cases hv4
  have l4 : w3.heap.size < w4.heap.size := by obtain ⟨g, hg, -, h⟩ := g4 _ rfl; cases hg; exact h
  have b4 : Below w.heap.size w w4 := b3.trans (bel4.mono b3.size)
  go_wp2_with fail
  refine (toByteS_any _ _ ksn _ hn_ksn (r_ksn.below b4)).mono ?_
  rintro e w5 ⟨rfl, own5, bel5⟩
  obtain ⟨_, _, hv5, row5, g5, -⟩ := own5.shape
  cases hv5
  have l5 : w4.heap.size < w5.heap.size := by obtain ⟨g, hg, -, h⟩ := g5 _ rfl; cases hg; exact h
  have b5 : Below w.heap.size w w5 := b4.trans (bel5.mono b4.size)
  go_wp2_with fail
  refine (HI.out _ _ _ _ _ (Nat.le_refl _) (Nat.le_refl _) ((row4).below bel5) (row5)).mono ?_
  rintro e w6 ⟨v6, rfl, own6, bel6⟩
  obtain ⟨a6, c6, rfl, row6, g6, -⟩ := own6.shape
  have b6 : Below w.heap.size w w6 := b5.trans (bel6.mono b5.size)
  have sim := bel6.size
  go_wp2_with fail
  refine (eqByteS_any _ _ _ _ L _ hL (row6) ((((row3).below bel4).below bel5).below bel6)).mono ?_
  rintro e w7 ⟨rfl, m7, rfl⟩
  have b7 : Below w.heap.size w (w6.drewN m7) := below_drewN b6 m7
  go_wp2_with fail
  refine (toByteS_any _ _ bdk _ hn_bdk (r_bdk.below b7)).mono ?_
  rintro e w8 ⟨rfl, own8, bel8⟩
  obtain ⟨_, _, hv8, row8, g8, -⟩ := own8.shape
  cases hv8
  have l8 : (w6.drewN m7).heap.size < w8.heap.size := by obtain ⟨g, hg, -, h⟩ := g8 _ rfl; cases hg; exact h
  have b8 : Below w.heap.size w w8 := b7.trans (bel8.mono b7.size)
  go_wp2_with fail
  refine (eqByteS_any _ _ _ _ bdk _ hn_bdk (((((row4).below bel5).below bel6).drew m7).below bel8) (row8)).mono ?_
  rintro e w9 ⟨rfl, m9, rfl⟩
  have b9 : Below w.heap.size w (w8.drewN m9) := below_drewN b8 m9
  go_wp2_with fail
  refine (toByteS_any _ _ ksn _ hn_ksn (r_ksn.below b9)).mono ?_
  rintro e w10 ⟨rfl, own10, bel10⟩
  obtain ⟨_, _, hv10, row10, g10, -⟩ := own10.shape
  cases hv10
  have l10 : (w8.drewN m9).heap.size < w10.heap.size := by obtain ⟨g, hg, -, h⟩ := g10 _ rfl; cases hg; exact h
  have b10 : Below w.heap.size w w10 := b9.trans (bel10.mono b9.size)
  go_wp2_with fail
  refine (eqByteS_any _ _ _ _ ksn _ hn_ksn ((((((row5).below bel6).drew m7).below bel8).drew m9).below bel10) (row10)).mono ?_
  rintro e w11 ⟨rfl, m11, rfl⟩
  have b11 : Below w.heap.size w (w10.drewN m11) := below_drewN b10 m11
  have ox0 := (((((((own4).below bel5).below bel6).drew m7).below bel8).drew m9).below bel10).drew m11
  have ox1 := ((((((own5).below bel6).drew m7).below bel8).drew m9).below bel10).drew m11
  have og := (((((own6).drew m7).below bel8).drew m9).below bel10).drew m11
  have rs := ((((((((row3).below bel4).below bel5).below bel6).drew m7).below bel8).drew m9).below bel10).drew m11
  have bx := b11
  have h6ne : ∀ g, g < w5.heap.size → (Value.slice a6 L.length c6).ownBlock = none ∨ (Value.slice a6 L.length c6).ownBlock ≠ some g := by
    intro g hg
    cases a6 with
    | none => exact .inl rfl
    | some a => obtain ⟨q, rfl, h, -⟩ := g6 _ rfl; right; simp only [Value.ownBlock, ne_eq, Option.some.injEq]; omega
  have h3ne : ∀ g, w3.heap.size ≤ g → ∀ a, a3 = some a → some g ≠ some a.block := by
    intro g hg a ha
    obtain ⟨q, rfl, -, h⟩ := g3 _ ha
    simp only [ne_eq, Option.some.injEq]; omega
  clear b1 b2 b3 b4 b5 b6 b7 b8 b9 b10 b11 own4 row4 own5 row5 own3 row3 own6 row6
  go_wp2_with fail
  refine (markByteS_any _ _ _ bdk (1) _ hn_bdk (by omega) ox0).mono ?_
  rintro e w12 ⟨rfl, -, gr12⟩
  replace ox1 := ox1.grown gr12 (by right; simp only [Value.ownBlock, ne_eq, Option.some.injEq]; omega)
  replace og := og.grown gr12 (h6ne w3.heap.size (by omega))
  replace rs := rs.grown gr12 (h3ne w3.heap.size (by omega))
  replace bx : Below w.heap.size w w12 := bx.grown gr12 bx.size (by intro k hk; simp only [Value.ownBlock, Option.some.injEq] at hk; omega)
  clear gr12 ox0
  go_wp2_with fail
  refine (markByteS_any _ _ _ ksn (1 + bdk.length) _ hn_ksn (by omega) ox1).mono ?_
  rintro e w13 ⟨rfl, -, gr13⟩
  replace og := og.grown gr13 (h6ne w4.heap.size (by omega))
  replace rs := rs.grown gr13 (h3ne w4.heap.size (by omega))
  replace bx : Below w.heap.size w w13 := bx.grown gr13 bx.size (by intro k hk; simp only [Value.ownBlock, Option.some.injEq] at hk; omega)
  clear gr13 ox1
  obtain ⟨_, _, hvg, rg, -⟩ := og.shape
  simp only [Value.slice.injEq] at hvg
  obtain ⟨rfl, -, rfl⟩ := hvg
  have hk8 : ¬ (((1 + bdk.length + ksn.length : Nat) : Int) < 0) := by omega
  go_wp2_with fail
  refine (eqByteS_any _ _ _ _ L _ hL rg rs).mono ?_
  rintro e wA ⟨rfl, mA, rfl⟩
  go_wp2_with fail
  refine (markByteS_any _ _ _ L 1 _ hL (by omega) (og.drew mA)).mono ?_
  rintro e wB ⟨rfl, ownB, grB⟩
  obtain ⟨_, _, hvB, rowB, -⟩ := ownB.shape
  simp only [Value.slice.injEq] at hvB
  obtain ⟨rfl, -, rfl⟩ := hvB
  have bB : Below w.heap.size w wB := (below_drewN bx mA).grown grB bx.size (by
    intro k hk
    cases a6 with
    | none => cases hk
    | some a =>
      obtain ⟨q, rfl, h, -⟩ := g6 _ rfl
      simp only [Value.ownBlock, Option.some.injEq] at hk
      omega)
  have rsB := (rs.drew mA).grown grB (by
    intro a ha
    cases a6 with
    | none => simp [Value.ownBlock]
    | some b =>
      obtain ⟨q, rfl, h, -⟩ := g6 _ rfl
      exact h3ne q (by omega) a ha)
  clear og rg rs grB ownB bx
  have hq1 : ¬ (((1 + L.length : Nat) : Int) < 0) := by omega
  go_wp2_with fail
  refine (heldByteS_any _ _ _ 1 _ hL (by omega) rowB).mono ?_
  rintro e wC ⟨rfl, rfl⟩
  go_wp2_with fail
  refine (toByteS_any _ _ bdk _ hn_bdk (r_bdk.below bB)).mono ?_
  rintro e w14 ⟨rfl, own14, bel14⟩
  obtain ⟨_, _, hv14, row14, -⟩ := own14.shape
  cases hv14
  have bb14 : Below w.heap.size w w14 := bB.trans (bel14.mono bB.size)
  go_wp2_with fail
  refine (toByteS_any _ _ ksn _ hn_ksn (r_ksn.below bb14)).mono ?_
  rintro e w15 ⟨rfl, own15, bel15⟩
  obtain ⟨_, _, hv15, row15, -⟩ := own15.shape
  cases hv15
  have bb15 : Below w.heap.size w w15 := bb14.trans (bel15.mono bb14.size)
  go_wp2_with fail
  refine (HI.out _ _ _ _ _ (Nat.le_refl _) (Nat.le_refl _) ((row14).below bel15) (row15)).mono ?_
  rintro e w16 ⟨v16, rfl, own16, bel16⟩
  obtain ⟨a16, c16, rfl, row16, -⟩ := own16.shape
  have bb16 : Below w.heap.size w w16 := bb15.trans (bel16.mono bb15.size)
  go_wp2_with fail
  refine (eqByteS_any _ _ _ _ L _ hL row16 ((((rsB).below bel14).below bel15).below bel16)).mono ?_
  rintro e wD ⟨rfl, mD, rfl⟩
  go_wp2_with fail
  refine (heldByteS_any _ _ _ 1 _ hL (by omega) (((((rowB).below bel14).below bel15).below bel16).drew mD)).mono ?_
  rintro e wE ⟨rfl, rfl⟩
  go_wp2
  go_ret
  exact ⟨rfl, below_drewN bb16 mD⟩
end Go.Proofs.Ythjnalbgnjbdnaa
