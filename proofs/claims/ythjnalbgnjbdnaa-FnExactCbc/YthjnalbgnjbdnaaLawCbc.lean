/-
  laws.FnExactCbc: the walk out of the contracts.
-/
import Derived.Test.YthjnalbgnjbdnaaCbcEq
import Derived.Test.YthjnalbgnjbdnaaKeep
namespace Go.Proofs.Ythjnalbgnjbdnaa
open Go.RowKit

set_option maxHeartbeats 4000000 in
theorem lawCbc (akey_ aiv_ adata_ : Option Addr) (ckey_ civ_ cdata_ : Nat) (key : List UInt8) (iv : List UInt8) (data : List UInt8) (dec : Bool) (w : World) (hn_key : key.length ≤ 1048576) (hn_iv : iv.length ≤ 1048576) (hn_data : data.length ≤ 1048576)  (r_key : RowAt w akey_ key) (r_iv : RowAt w aiv_ iv) (r_data : RowAt w adata_ data) :
    Calls Try.prog 6 #[.slice akey_ key.length ckey_, .slice aiv_ iv.length civ_, .slice adata_ data.length cdata_, .bool dec] w fun e w' => e = .returned (.bool true) ∧ Below w.heap.size w w' := by
  obtain ⟨L, hLe⟩ : ∃ L, L = cbcL key iv data dec := ⟨_, rfl⟩
  have hL : L.length ≤ 1048576 := by rw [hLe]; exact cbcL_le key iv data dec hn_key hn_iv hn_data
  have HS : Hid (∀ akey_ aiv_ adata_ ckey_ civ_ cdata_ w, key.length ≤ ckey_ → iv.length ≤ civ_ → data.length ≤ cdata_ → RowAt w akey_ key → RowAt w aiv_ iv → RowAt w adata_ data → Calls Try.prog 25 #[.slice akey_ key.length ckey_, .slice aiv_ iv.length civ_, .slice adata_ data.length cdata_, .bool dec] w fun e w' => ∃ v, e = .returned v ∧ Own w' w.heap.size v L ∧ Below w.heap.size w w') := by
    show ∀ akey_ aiv_ adata_ ckey_ civ_ cdata_ w, key.length ≤ ckey_ → iv.length ≤ civ_ → data.length ≤ cdata_ → RowAt w akey_ key → RowAt w aiv_ iv → RowAt w adata_ data → Calls Try.prog 25 #[.slice akey_ key.length ckey_, .slice aiv_ iv.length civ_, .slice adata_ data.length cdata_, .bool dec] w fun e w' => ∃ v, e = .returned v ∧ Own w' w.heap.size v L ∧ Below w.heap.size w w'
    intro akey_ aiv_ adata_ ckey_ civ_ cdata_ w hc_key hc_iv hc_data r_key r_iv r_data
    rw [hLe]
    exact cbcS_all key iv data dec akey_ aiv_ adata_ ckey_ civ_ cdata_ w hn_key hn_iv hn_data  hc_key hc_iv hc_data r_key r_iv r_data
  have HI : Hid (∀ akey_ aiv_ adata_ ckey_ civ_ cdata_ w, key.length ≤ ckey_ → iv.length ≤ civ_ → data.length ≤ cdata_ → RowAt w akey_ key → RowAt w aiv_ iv → RowAt w adata_ data → Calls Try.prog 26 #[.slice akey_ key.length ckey_, .slice aiv_ iv.length civ_, .slice adata_ data.length cdata_, .bool dec] w fun e w' => ∃ v, e = .returned v ∧ Own w' w.heap.size v L ∧ Below w.heap.size w w') := by
    show ∀ akey_ aiv_ adata_ ckey_ civ_ cdata_ w, key.length ≤ ckey_ → iv.length ≤ civ_ → data.length ≤ cdata_ → RowAt w akey_ key → RowAt w aiv_ iv → RowAt w adata_ data → Calls Try.prog 26 #[.slice akey_ key.length ckey_, .slice aiv_ iv.length civ_, .slice adata_ data.length cdata_, .bool dec] w fun e w' => ∃ v, e = .returned v ∧ Own w' w.heap.size v L ∧ Below w.heap.size w w'
    intro akey_ aiv_ adata_ ckey_ civ_ cdata_ w hc_key hc_iv hc_data r_key r_iv r_data
    rw [hLe]
    exact cbc_all key iv data dec akey_ aiv_ adata_ ckey_ civ_ cdata_ w hn_key hn_iv hn_data  hc_key hc_iv hc_data r_key r_iv r_data
  clear hLe
  go_enter Try.func6, Try.ntmps6
  go_wp2_with fail
  refine (toByteS_any _ _ key _ hn_key r_key).mono ?_
  rintro e w1 ⟨rfl, own1, bel1⟩
  obtain ⟨_, _, hv1, row1, g1, -⟩ := own1.shape
  cases hv1
  have l1 : w.heap.size < w1.heap.size := by obtain ⟨g, hg, -, h⟩ := g1 _ rfl; cases hg; exact h
  have b1 : Below w.heap.size w w1 := bel1
  go_wp2_with fail
  refine (toByteS_any _ _ iv _ hn_iv (r_iv.below b1)).mono ?_
  rintro e w2 ⟨rfl, own2, bel2⟩
  obtain ⟨_, _, hv2, row2, g2, -⟩ := own2.shape
  cases hv2
  have l2 : w1.heap.size < w2.heap.size := by obtain ⟨g, hg, -, h⟩ := g2 _ rfl; cases hg; exact h
  have b2 : Below w.heap.size w w2 := b1.trans (bel2.mono b1.size)
  go_wp2_with fail
  refine (toByteS_any _ _ data _ hn_data (r_data.below b2)).mono ?_
  rintro e w3 ⟨rfl, own3, bel3⟩
  obtain ⟨_, _, hv3, row3, g3, -⟩ := own3.shape
  cases hv3
  have l3 : w2.heap.size < w3.heap.size := by obtain ⟨g, hg, -, h⟩ := g3 _ rfl; cases hg; exact h
  have b3 : Below w.heap.size w w3 := b2.trans (bel3.mono b2.size)
  go_wp2_with fail
  refine (HS.out _ _ _ _ _ _ _ (Nat.le_refl _) (Nat.le_refl _) (Nat.le_refl _) (((row1).below bel2).below bel3) ((row2).below bel3) (row3)).mono ?_
  rintro e w4 ⟨v4, rfl, own4, bel4⟩
  obtain ⟨a4, c4, rfl, row4, g4, -⟩ := own4.shape
  have b4 : Below w.heap.size w w4 := b3.trans (bel4.mono b3.size)
  have s4 := b4.size
  go_wp2_with fail
  refine (toByteS_any _ _ key _ hn_key (r_key.below b4)).mono ?_
  rintro e w5 ⟨rfl, own5, bel5⟩
  obtain ⟨_, _, hv5, row5, g5, -⟩ := own5.shape
  cases hv5
  have l5 : w4.heap.size < w5.heap.size := by obtain ⟨g, hg, -, h⟩ := g5 _ rfl; cases hg; exact h
  have b5 : Below w.heap.size w w5 := b4.trans (bel5.mono b4.size)
  go_wp2_with fail
  refine (toByteS_any _ _ iv _ hn_iv (r_iv.below b5)).mono ?_
  rintro e w6 ⟨rfl, own6, bel6⟩
  obtain ⟨_, _, hv6, row6, g6, -⟩ := own6.shape
  cases hv6
  have l6 : w5.heap.size < w6.heap.size := by obtain ⟨g, hg, -, h⟩ := g6 _ rfl; cases hg; exact h
  have b6 : Below w.heap.size w w6 := b5.trans (bel6.mono b5.size)
  go_wp2_with fail
  refine (toByteS_any _ _ data _ hn_data (r_data.below b6)).mono ?_
  rintro e w7 ⟨rfl, own7, bel7⟩
  obtain ⟨_, _, hv7, row7, g7, -⟩ := own7.shape
  cases hv7
  have l7 : w6.heap.size < w7.heap.size := by obtain ⟨g, hg, -, h⟩ := g7 _ rfl; cases hg; exact h
  have b7 : Below w.heap.size w w7 := b6.trans (bel7.mono b6.size)
  go_wp2_with fail
  refine (HI.out _ _ _ _ _ _ _ (Nat.le_refl _) (Nat.le_refl _) (Nat.le_refl _) (((row5).below bel6).below bel7) ((row6).below bel7) (row7)).mono ?_
  rintro e w8 ⟨v8, rfl, own8, bel8⟩
  obtain ⟨a8, c8, rfl, row8, g8, -⟩ := own8.shape
  have b8 : Below w.heap.size w w8 := b7.trans (bel8.mono b7.size)
  have sim := bel8.size
  go_wp2_with fail
  refine (eqByteS_any _ _ _ _ L _ hL (row8) (((((row4).below bel5).below bel6).below bel7).below bel8)).mono ?_
  rintro e w9 ⟨rfl, m9, rfl⟩
  have b9 : Below w.heap.size w (w8.drewN m9) := below_drewN b8 m9
  go_wp2_with fail
  refine (toByteS_any _ _ key _ hn_key (r_key.below b9)).mono ?_
  rintro e w10 ⟨rfl, own10, bel10⟩
  obtain ⟨_, _, hv10, row10, g10, -⟩ := own10.shape
  cases hv10
  have l10 : (w8.drewN m9).heap.size < w10.heap.size := by obtain ⟨g, hg, -, h⟩ := g10 _ rfl; cases hg; exact h
  have b10 : Below w.heap.size w w10 := b9.trans (bel10.mono b9.size)
  go_wp2_with fail
  refine (eqByteS_any _ _ _ _ key _ hn_key ((((((row5).below bel6).below bel7).below bel8).drew m9).below bel10) (row10)).mono ?_
  rintro e w11 ⟨rfl, m11, rfl⟩
  have b11 : Below w.heap.size w (w10.drewN m11) := below_drewN b10 m11
  go_wp2_with fail
  refine (toByteS_any _ _ iv _ hn_iv (r_iv.below b11)).mono ?_
  rintro e w12 ⟨rfl, own12, bel12⟩
  obtain ⟨_, _, hv12, row12, g12, -⟩ := own12.shape
  cases hv12
  have l12 : (w10.drewN m11).heap.size < w12.heap.size := by obtain ⟨g, hg, -, h⟩ := g12 _ rfl; cases hg; exact h
  have b12 : Below w.heap.size w w12 := b11.trans (bel12.mono b11.size)
  go_wp2_with fail
  refine (eqByteS_any _ _ _ _ iv _ hn_iv (((((((row6).below bel7).below bel8).drew m9).below bel10).drew m11).below bel12) (row12)).mono ?_
  rintro e w13 ⟨rfl, m13, rfl⟩
  have b13 : Below w.heap.size w (w12.drewN m13) := below_drewN b12 m13
  go_wp2_with fail
  refine (toByteS_any _ _ data _ hn_data (r_data.below b13)).mono ?_
  rintro e w14 ⟨rfl, own14, bel14⟩
  obtain ⟨_, _, hv14, row14, g14, -⟩ := own14.shape
  cases hv14
  have l14 : (w12.drewN m13).heap.size < w14.heap.size := by obtain ⟨g, hg, -, h⟩ := g14 _ rfl; cases hg; exact h
  have b14 : Below w.heap.size w w14 := b13.trans (bel14.mono b13.size)
  go_wp2_with fail
  refine (eqByteS_any _ _ _ _ data _ hn_data ((((((((row7).below bel8).drew m9).below bel10).drew m11).below bel12).drew m13).below bel14) (row14)).mono ?_
  rintro e w15 ⟨rfl, m15, rfl⟩
  have b15 : Below w.heap.size w (w14.drewN m15) := below_drewN b14 m15
  have ox0 := ((((((((((own5).below bel6).below bel7).below bel8).drew m9).below bel10).drew m11).below bel12).drew m13).below bel14).drew m15
  have ox1 := (((((((((own6).below bel7).below bel8).drew m9).below bel10).drew m11).below bel12).drew m13).below bel14).drew m15
  have ox2 := ((((((((own7).below bel8).drew m9).below bel10).drew m11).below bel12).drew m13).below bel14).drew m15
  have og := (((((((own8).drew m9).below bel10).drew m11).below bel12).drew m13).below bel14).drew m15
  have rs := (((((((((((row4).below bel5).below bel6).below bel7).below bel8).drew m9).below bel10).drew m11).below bel12).drew m13).below bel14).drew m15
  have bx := b15
  have h6ne : ∀ g, g < w7.heap.size → (Value.slice a8 L.length c8).ownBlock = none ∨ (Value.slice a8 L.length c8).ownBlock ≠ some g := by
    intro g hg
    cases a8 with
    | none => exact .inl rfl
    | some a => obtain ⟨q, rfl, h, -⟩ := g8 _ rfl; right; simp only [Value.ownBlock, ne_eq, Option.some.injEq]; omega
  have h3ne : ∀ g, w4.heap.size ≤ g → ∀ a, a4 = some a → some g ≠ some a.block := by
    intro g hg a ha
    obtain ⟨q, rfl, -, h⟩ := g4 _ ha
    simp only [ne_eq, Option.some.injEq]; omega
  clear b1 b2 b3 b4 b5 b6 b7 b8 b9 b10 b11 b12 b13 b14 b15 own5 row5 own6 row6 own7 row7 own4 row4 own8 row8
  go_wp2_with fail
  refine (markByteS_any _ _ _ key (1) _ hn_key (by omega) ox0).mono ?_
  rintro e w16 ⟨rfl, -, gr16⟩
  replace ox1 := ox1.grown gr16 (by right; simp only [Value.ownBlock, ne_eq, Option.some.injEq]; omega)
  replace ox2 := ox2.grown gr16 (by right; simp only [Value.ownBlock, ne_eq, Option.some.injEq]; omega)
  replace og := og.grown gr16 (h6ne w4.heap.size (by omega))
  replace rs := rs.grown gr16 (h3ne w4.heap.size (by omega))
  replace bx : Below w.heap.size w w16 := bx.grown gr16 bx.size (by intro k hk; simp only [Value.ownBlock, Option.some.injEq] at hk; omega)
  clear gr16 ox0
  go_wp2_with fail
  refine (markByteS_any _ _ _ iv (1 + key.length) _ hn_iv (by omega) ox1).mono ?_
  rintro e w17 ⟨rfl, -, gr17⟩
  replace ox2 := ox2.grown gr17 (by right; simp only [Value.ownBlock, ne_eq, Option.some.injEq]; omega)
  replace og := og.grown gr17 (h6ne w5.heap.size (by omega))
  replace rs := rs.grown gr17 (h3ne w5.heap.size (by omega))
  replace bx : Below w.heap.size w w17 := bx.grown gr17 bx.size (by intro k hk; simp only [Value.ownBlock, Option.some.injEq] at hk; omega)
  clear gr17 ox1
  go_wp2_with fail
  refine (markByteS_any _ _ _ data (1 + key.length + iv.length) _ hn_data (by omega) ox2).mono ?_
  rintro e w18 ⟨rfl, -, gr18⟩
  replace og := og.grown gr18 (h6ne w6.heap.size (by omega))
  replace rs := rs.grown gr18 (h3ne w6.heap.size (by omega))
  replace bx : Below w.heap.size w w18 := bx.grown gr18 bx.size (by intro k hk; simp only [Value.ownBlock, Option.some.injEq] at hk; omega)
  clear gr18 ox2
  obtain ⟨_, _, hvg, rg, -⟩ := og.shape
  simp only [Value.slice.injEq] at hvg
  obtain ⟨rfl, -, rfl⟩ := hvg
  have hk8 : ¬ (((1 + key.length + iv.length + data.length : Nat) : Int) < 0) := by omega
  go_wp2_with fail
  refine (eqByteS_any _ _ _ _ L _ hL rg rs).mono ?_
  rintro e wA ⟨rfl, mA, rfl⟩
  go_wp2_with fail
  refine (markByteS_any _ _ _ L 1 _ hL (by omega) (og.drew mA)).mono ?_
  rintro e wB ⟨rfl, ownB, grB⟩
  obtain ⟨_, _, hvB, rowB, -⟩ := ownB.shape
  simp only [Value.slice.injEq] at hvB
  obtain ⟨rfl, -, rfl⟩ := hvB
  have bB : Below w.heap.size w wB := (below_drewN bx mA).grown grB bx.size (by
    intro k hk
    cases a8 with
    | none => cases hk
    | some a =>
      obtain ⟨q, rfl, h, -⟩ := g8 _ rfl
      simp only [Value.ownBlock, Option.some.injEq] at hk
      omega)
  have rsB := (rs.drew mA).grown grB (by
    intro a ha
    cases a8 with
    | none => simp [Value.ownBlock]
    | some b =>
      obtain ⟨q, rfl, h, -⟩ := g8 _ rfl
      exact h3ne q (by omega) a ha)
  clear og rg rs grB ownB bx
  have hq1 : ¬ (((1 + L.length : Nat) : Int) < 0) := by omega
  go_wp2_with fail
  refine (heldByteS_any _ _ _ 1 _ hL (by omega) rowB).mono ?_
  rintro e wC ⟨rfl, rfl⟩
  go_wp2_with fail
  refine (toByteS_any _ _ key _ hn_key (r_key.below bB)).mono ?_
  rintro e w19 ⟨rfl, own19, bel19⟩
  obtain ⟨_, _, hv19, row19, -⟩ := own19.shape
  cases hv19
  have bb19 : Below w.heap.size w w19 := bB.trans (bel19.mono bB.size)
  go_wp2_with fail
  refine (toByteS_any _ _ iv _ hn_iv (r_iv.below bb19)).mono ?_
  rintro e w20 ⟨rfl, own20, bel20⟩
  obtain ⟨_, _, hv20, row20, -⟩ := own20.shape
  cases hv20
  have bb20 : Below w.heap.size w w20 := bb19.trans (bel20.mono bb19.size)
  go_wp2_with fail
  refine (toByteS_any _ _ data _ hn_data (r_data.below bb20)).mono ?_
  rintro e w21 ⟨rfl, own21, bel21⟩
  obtain ⟨_, _, hv21, row21, -⟩ := own21.shape
  cases hv21
  have bb21 : Below w.heap.size w w21 := bb20.trans (bel21.mono bb20.size)
  go_wp2_with fail
  refine (HI.out _ _ _ _ _ _ _ (Nat.le_refl _) (Nat.le_refl _) (Nat.le_refl _) (((row19).below bel20).below bel21) ((row20).below bel21) (row21)).mono ?_
  rintro e w22 ⟨v22, rfl, own22, bel22⟩
  obtain ⟨a22, c22, rfl, row22, -⟩ := own22.shape
  have bb22 : Below w.heap.size w w22 := bb21.trans (bel22.mono bb21.size)
  go_wp2_with fail
  refine (eqByteS_any _ _ _ _ L _ hL row22 (((((rsB).below bel19).below bel20).below bel21).below bel22)).mono ?_
  rintro e wD ⟨rfl, mD, rfl⟩
  go_wp2_with fail
  refine (heldByteS_any _ _ _ 1 _ hL (by omega) ((((((rowB).below bel19).below bel20).below bel21).below bel22).drew mD)).mono ?_
  rintro e wE ⟨rfl, rfl⟩
  go_wp2
  go_ret
  exact ⟨rfl, below_drewN bb22 mD⟩
end Go.Proofs.Ythjnalbgnjbdnaa
