/-
  laws.FnExactVariant: the walk out of the contracts.
-/
import Derived.Test.YthjnalbgnjbdnaaVariantSpec
import Derived.Test.YthjnalbgnjbdnaaKeep
namespace Go.Proofs.Ythjnalbgnjbdnaa
open Go.RowKit

set_option maxHeartbeats 4000000 in
theorem lawVariant (akey_ : Option Addr) (ckey_ : Nat) (key : List UInt8) (use : Int) (w : World) (hn_key : key.length ≤ 1048576) (hi_use : -9223372036854775808 ≤ use ∧ use ≤ 9223372036854775807) (r_key : RowAt w akey_ key) :
    Calls Try.prog 11 #[.slice akey_ key.length ckey_, .int .i64 use] w fun e w' => e = .returned (.bool true) ∧ Below w.heap.size w w' := by
  obtain ⟨L, hLe⟩ : ∃ L, L = variantL key use := ⟨_, rfl⟩
  have hL : L.length ≤ 1048576 := by rw [hLe]; exact variantL_le key use hn_key
  have HS : Hid (∀ akey_ ckey_ w, key.length ≤ ckey_ → RowAt w akey_ key → Calls Try.prog 35 #[.slice akey_ key.length ckey_, .int .i64 use] w fun e w' => ∃ v, e = .returned v ∧ Own w' w.heap.size v L ∧ Below w.heap.size w w') := by
    show ∀ akey_ ckey_ w, key.length ≤ ckey_ → RowAt w akey_ key → Calls Try.prog 35 #[.slice akey_ key.length ckey_, .int .i64 use] w fun e w' => ∃ v, e = .returned v ∧ Own w' w.heap.size v L ∧ Below w.heap.size w w'
    intro akey_ ckey_ w hc_key r_key
    rw [hLe]
    exact specVariant_all key use akey_ ckey_ w hn_key hi_use hc_key r_key
  have HI : Hid (∀ akey_ ckey_ w, key.length ≤ ckey_ → RowAt w akey_ key → Calls Try.prog 36 #[.slice akey_ key.length ckey_, .int .i64 use] w fun e w' => ∃ v, e = .returned v ∧ Own w' w.heap.size v L ∧ Below w.heap.size w w') := by
    show ∀ akey_ ckey_ w, key.length ≤ ckey_ → RowAt w akey_ key → Calls Try.prog 36 #[.slice akey_ key.length ckey_, .int .i64 use] w fun e w' => ∃ v, e = .returned v ∧ Own w' w.heap.size v L ∧ Below w.heap.size w w'
    intro akey_ ckey_ w hc_key r_key
    rw [hLe]
    exact variant_all key use akey_ ckey_ w hn_key hi_use hc_key r_key
  clear hLe
  go_enter Try.func11, Try.ntmps11
  go_wp2_with fail
  refine (toByteS_any _ _ key _ hn_key r_key).mono ?_
  rintro e w1 ⟨rfl, own1, bel1⟩
  obtain ⟨_, _, hv1, row1, g1, -⟩ := own1.shape
  cases hv1
  have l1 : w.heap.size < w1.heap.size := by obtain ⟨g, hg, -, h⟩ := g1 _ rfl; cases hg; exact h
  have b1 : Below w.heap.size w w1 := bel1
  go_wp2_with fail
  refine (HS.out _ _ _ (Nat.le_refl _) (row1)).mono ?_
  rintro e w2 ⟨v2, rfl, own2, bel2⟩
  obtain ⟨a2, c2, rfl, row2, g2, -⟩ := own2.shape
  have b2 : Below w.heap.size w w2 := b1.trans (bel2.mono b1.size)
  have s2 := b2.size
  go_wp2_with fail
  refine (toByteS_any _ _ key _ hn_key (r_key.below b2)).mono ?_
  rintro e w3 ⟨rfl, own3, bel3⟩
  obtain ⟨_, _, hv3, row3, g3, -⟩ := own3.shape
  cases hv3
  have l3 : w2.heap.size < w3.heap.size := by obtain ⟨g, hg, -, h⟩ := g3 _ rfl; cases hg; exact h
  have b3 : Below w.heap.size w w3 := b2.trans (bel3.mono b2.size)
  go_wp2_with fail
  refine (HI.out _ _ _ (Nat.le_refl _) (row3)).mono ?_
  rintro e w4 ⟨v4, rfl, own4, bel4⟩
  obtain ⟨a4, c4, rfl, row4, g4, -⟩ := own4.shape
  have b4 : Below w.heap.size w w4 := b3.trans (bel4.mono b3.size)
  have sim := bel4.size
  go_wp2_with fail
  refine (eqByteS_any _ _ _ _ L _ hL (row4) (((row2).below bel3).below bel4)).mono ?_
  rintro e w5 ⟨rfl, m5, rfl⟩
  have b5 : Below w.heap.size w (w4.drewN m5) := below_drewN b4 m5
  go_wp2_with fail
  refine (toByteS_any _ _ key _ hn_key (r_key.below b5)).mono ?_
  rintro e w6 ⟨rfl, own6, bel6⟩
  obtain ⟨_, _, hv6, row6, g6, -⟩ := own6.shape
  cases hv6
  have l6 : (w4.drewN m5).heap.size < w6.heap.size := by obtain ⟨g, hg, -, h⟩ := g6 _ rfl; cases hg; exact h
  have b6 : Below w.heap.size w w6 := b5.trans (bel6.mono b5.size)
  go_wp2_with fail
  refine (eqByteS_any _ _ _ _ key _ hn_key ((((row3).below bel4).drew m5).below bel6) (row6)).mono ?_
  rintro e w7 ⟨rfl, m7, rfl⟩
  have b7 : Below w.heap.size w (w6.drewN m7) := below_drewN b6 m7
  have ox0 := ((((own3).below bel4).drew m5).below bel6).drew m7
  have og := (((own4).drew m5).below bel6).drew m7
  have rs := (((((row2).below bel3).below bel4).drew m5).below bel6).drew m7
  have bx := b7
  have h6ne : ∀ g, g < w3.heap.size → (Value.slice a4 L.length c4).ownBlock = none ∨ (Value.slice a4 L.length c4).ownBlock ≠ some g := by
    intro g hg
    cases a4 with
    | none => exact .inl rfl
    | some a => obtain ⟨q, rfl, h, -⟩ := g4 _ rfl; right; simp only [Value.ownBlock, ne_eq, Option.some.injEq]; omega
  have h3ne : ∀ g, w2.heap.size ≤ g → ∀ a, a2 = some a → some g ≠ some a.block := by
    intro g hg a ha
    obtain ⟨q, rfl, -, h⟩ := g2 _ ha
    simp only [ne_eq, Option.some.injEq]; omega
  clear b1 b2 b3 b4 b5 b6 b7 own3 row3 own2 row2 own4 row4
  go_wp2_with fail
  refine (markByteS_any _ _ _ key (1) _ hn_key (by omega) ox0).mono ?_
  rintro e w8 ⟨rfl, -, gr8⟩
  replace og := og.grown gr8 (h6ne w2.heap.size (by omega))
  replace rs := rs.grown gr8 (h3ne w2.heap.size (by omega))
  replace bx : Below w.heap.size w w8 := bx.grown gr8 bx.size (by intro k hk; simp only [Value.ownBlock, Option.some.injEq] at hk; omega)
  clear gr8 ox0
  obtain ⟨_, _, hvg, rg, -⟩ := og.shape
  simp only [Value.slice.injEq] at hvg
  obtain ⟨rfl, -, rfl⟩ := hvg
  have hk8 : ¬ (((1 + key.length : Nat) : Int) < 0) := by omega
  go_wp2_with fail
  refine (eqByteS_any _ _ _ _ L _ hL rg rs).mono ?_
  rintro e wA ⟨rfl, mA, rfl⟩
  go_wp2_with fail
  refine (markByteS_any _ _ _ L 1 _ hL (by omega) (og.drew mA)).mono ?_
  rintro e wB ⟨rfl, ownB, grB⟩
  obtain ⟨_, _, hvB, rowB, -⟩ := ownB.shape
  simp only [Value.slice.injEq] at hvB
  obtain ⟨rfl, -, rfl⟩ := hvB
  have bB : Below w.heap.size w wB := (below_drewN bx mA).grown grB bx.size (by
    intro k hk
    cases a4 with
    | none => cases hk
    | some a =>
      obtain ⟨q, rfl, h, -⟩ := g4 _ rfl
      simp only [Value.ownBlock, Option.some.injEq] at hk
      omega)
  have rsB := (rs.drew mA).grown grB (by
    intro a ha
    cases a4 with
    | none => simp [Value.ownBlock]
    | some b =>
      obtain ⟨q, rfl, h, -⟩ := g4 _ rfl
      exact h3ne q (by omega) a ha)
  clear og rg rs grB ownB bx
  have hq1 : ¬ (((1 + L.length : Nat) : Int) < 0) := by omega
  go_wp2_with fail
  refine (heldByteS_any _ _ _ 1 _ hL (by omega) rowB).mono ?_
  rintro e wC ⟨rfl, rfl⟩
  go_wp2_with fail
  refine (toByteS_any _ _ key _ hn_key (r_key.below bB)).mono ?_
  rintro e w9 ⟨rfl, own9, bel9⟩
  obtain ⟨_, _, hv9, row9, -⟩ := own9.shape
  cases hv9
  have bb9 : Below w.heap.size w w9 := bB.trans (bel9.mono bB.size)
  go_wp2_with fail
  refine (HI.out _ _ _ (Nat.le_refl _) (row9)).mono ?_
  rintro e w10 ⟨v10, rfl, own10, bel10⟩
  obtain ⟨a10, c10, rfl, row10, -⟩ := own10.shape
  have bb10 : Below w.heap.size w w10 := bb9.trans (bel10.mono bb9.size)
  go_wp2_with fail
  refine (eqByteS_any _ _ _ _ L _ hL row10 (((rsB).below bel9).below bel10)).mono ?_
  rintro e wD ⟨rfl, mD, rfl⟩
  go_wp2_with fail
  refine (heldByteS_any _ _ _ 1 _ hL (by omega) ((((rowB).below bel9).below bel10).drew mD)).mono ?_
  rintro e wE ⟨rfl, rfl⟩
  go_wp2
  go_ret
  exact ⟨rfl, below_drewN bb10 mD⟩
end Go.Proofs.Ythjnalbgnjbdnaa
