/-
  laws.FnExactDes: the walk out of the contracts.
-/
import Derived.Test.YthjnalbgnjbdnaaDesMath3
import Derived.Test.YthjnalbgnjbdnaaKeep
namespace Go.Proofs.Ythjnalbgnjbdnaa
open Go.RowKit

theorem desL_length (key block : List UInt8) (dec : Bool) : (desL key block dec).length ≤ 8 := by
  unfold desL; split
  · rw [desN_length]; exact Nat.le_refl _
  · simp

theorem specDes_all (key block : List UInt8) (ak ab : Option Addr) (ck cb : Nat) (dec : Bool) (w : World) (hn : key.length ≤ 1048576) (hm : block.length ≤ 1048576) (rk : RowAt w ak key) (rb : RowAt w ab block) :
    Calls Try.prog 21 #[.slice ak key.length ck, .slice ab block.length cb, .bool dec] w fun e w' =>
      ∃ v, e = .returned v ∧ Own w' w.heap.size v (desL key block dec) ∧ Below w.heap.size w w' := by
  unfold desL
  by_cases h : key.length = 8 ∧ block.length = 8
  · rw [if_pos h, des_eq key block dec h.1 h.2]
    refine (des_spec_ok ak ab ck cb key block dec w h.1 h.2 rk rb).mono ?_
    rintro e w' ⟨v, rfl, own, bel⟩
    exact ⟨v, rfl, own.own, bel⟩
  · rw [if_neg h]
    refine (des_spec_wrong _ _ ak ab ck cb dec w hn hm h).mono ?_
    rintro e w' ⟨rfl, rfl⟩
    exact ⟨_, rfl, ⟨5, World.ownsRow_nil _ _ _ _⟩, Below.refl _ _⟩

set_option maxHeartbeats 4000000 in
theorem lawDes (ak ab : Option Addr) (ck cb : Nat) (key block : List UInt8) (dec : Bool) (w : World) (hn : key.length ≤ 1048576) (hm : block.length ≤ 1048576) (rk : RowAt w ak key) (rb : RowAt w ab block) :
    Calls Try.prog 4 #[.slice ak key.length ck, .slice ab block.length cb, .bool dec] w fun e w' => e = .returned (.bool true) ∧ Below w.heap.size w w' := by
  obtain ⟨L, hLe⟩ : ∃ L, L = desL key block dec := ⟨_, rfl⟩
  have hL8 := desL_length key block dec
  rw [← hLe] at hL8
  have hL : L.length ≤ 1048576 := by omega
  have HS := fun ak ab ck cb w rk rb => specDes_all key block ak ab ck cb dec w hn hm rk rb
  have HI := fun ak ab ck cb w rk rb => des_all key block ak ab ck cb dec w hn hm rk rb
  rw [← hLe] at HS HI
  have HS' := (show Hid (∀ ak ab ck cb w, RowAt w ak key → RowAt w ab block → Calls Try.prog 21 #[.slice ak key.length ck, .slice ab block.length cb, .bool dec] w fun e w' => ∃ v, e = .returned v ∧ Own w' w.heap.size v L ∧ Below w.heap.size w w') from HS)
  have HI' := (show Hid (∀ ak ab ck cb w, RowAt w ak key → RowAt w ab block → Calls Try.prog 22 #[.slice ak key.length ck, .slice ab block.length cb, .bool dec] w fun e w' => ∃ v, e = .returned v ∧ Own w' w.heap.size v L ∧ Below w.heap.size w w') from HI)
  clear hLe HS HI hL8
  go_enter Try.func4, Try.ntmps4
  go_wp2_with fail
  refine (toByteS_any _ _ key _ hn rk).mono ?_
  rintro e w1 ⟨rfl, own1, bel1⟩
  obtain ⟨_, _, hv1, row1, -⟩ := own1.shape
  cases hv1
  go_wp2_with fail
  refine (toByteS_any _ _ block _ hm (rb.below bel1)).mono ?_
  rintro e w2 ⟨rfl, own2, bel2⟩
  obtain ⟨_, _, hv2, row2, -⟩ := own2.shape
  cases hv2
  have b2 : Below w.heap.size w w2 := bel1.trans (bel2.mono bel1.size)
  go_wp2_with fail
  refine (HS'.out _ _ _ _ _ (row1.below bel2) row2).mono ?_
  rintro e w3 ⟨v3, rfl, own3, bel3⟩
  obtain ⟨a3, c3, rfl, row3, g3, -⟩ := own3.shape
  have b3 : Below w.heap.size w w3 := b2.trans (bel3.mono b2.size)
  clear own1 own2 row1 row2 bel1 bel2 own3
  go_wp2_with fail
  refine (toByteS_any _ _ key _ hn (rk.below b3)).mono ?_
  rintro e w4 ⟨rfl, own4, bel4⟩
  obtain ⟨_, _, hv4, row4, g4, -⟩ := own4.shape
  cases hv4
  have l4 : w3.heap.size < w4.heap.size := by obtain ⟨g, hg, -, h⟩ := g4 _ rfl; cases hg; exact h
  have b4 : Below w.heap.size w w4 := b3.trans (bel4.mono b3.size)
  go_wp2_with fail
  refine (toByteS_any _ _ block _ hm (rb.below b4)).mono ?_
  rintro e w5 ⟨rfl, own5, bel5⟩
  obtain ⟨_, _, hv5, row5, g5, -⟩ := own5.shape
  cases hv5
  have l5 : w4.heap.size < w5.heap.size := by obtain ⟨g, hg, -, h⟩ := g5 _ rfl; cases hg; exact h
  have b5 : Below w.heap.size w w5 := b4.trans (bel5.mono b4.size)
  go_wp2_with fail
  refine (HI'.out _ _ _ _ _ (row4.below bel5) row5).mono ?_
  rintro e w6 ⟨v6, rfl, own6, bel6⟩
  obtain ⟨a6, c6, rfl, row6, g6, -⟩ := own6.shape
  have b6 : Below w.heap.size w w6 := b5.trans (bel6.mono b5.size)
  have row3a := ((row3.below bel4).below bel5).below bel6
  go_wp2_with fail
  refine (eqByteS_any _ _ _ _ L _ hL row6 row3a).mono ?_
  rintro e w7 ⟨rfl, m7, rfl⟩
  have b7 : Below w.heap.size w (w6.drewN m7) := below_drewN b6 m7
  go_wp2_with fail
  refine (toByteS_any _ _ key _ hn (rk.below b7)).mono ?_
  rintro e w8 ⟨rfl, own8, bel8⟩
  obtain ⟨_, _, hv8, row8, -⟩ := own8.shape
  cases hv8
  have b8 : Below w.heap.size w w8 := b7.trans (bel8.mono b7.size)
  have row4a := (((row4.below bel5).below bel6).drew m7).below bel8
  go_wp2_with fail
  refine (eqByteS_any _ _ _ _ key _ hn row4a row8).mono ?_
  rintro e w9 ⟨rfl, m9, rfl⟩
  have b9 : Below w.heap.size w (w8.drewN m9) := below_drewN b8 m9
  go_wp2_with fail
  refine (toByteS_any _ _ block _ hm (rb.below b9)).mono ?_
  rintro e w10 ⟨rfl, own10, bel10⟩
  obtain ⟨_, _, hv10, row10, -⟩ := own10.shape
  cases hv10
  have b10 : Below w.heap.size w w10 := b9.trans (bel10.mono b9.size)
  have row5a := ((((row5.below bel6).drew m7).below bel8).drew m9).below bel10
  go_wp2_with fail
  refine (eqByteS_any _ _ _ _ block _ hm row5a row10).mono ?_
  rintro e w11 ⟨rfl, m11, rfl⟩
  have own4a := (((((((own4.below bel5).below bel6).drew m7).below bel8).drew m9).below bel10).drew m11)
  have own5a := ((((((own5.below bel6).drew m7).below bel8).drew m9).below bel10).drew m11)
  have own6a := (((((own6.drew m7).below bel8).drew m9).below bel10).drew m11)
  have row3b := ((((row3a.drew m7).below bel8).drew m9).below bel10).drew m11
  have b11 : Below w.heap.size w (w10.drewN m11) := below_drewN b10 m11
  have s6 : w5.heap.size ≤ w6.heap.size := bel6.size
  clear own8 own10 row8 row10 row4a row5a row3a row4 row5 row6 row3 bel3 bel4 bel5 bel6 bel8 bel10 own4 own5 own6 b2 b4 b5 b6 b7 b8 b9 b10
  go_wp2_with fail
  refine (markByteS_any _ _ _ key 1 _ hn (by omega) own4a).mono ?_
  rintro e w12 ⟨rfl, own12, gr12⟩
  have h6ne : ∀ g, g < w5.heap.size → (Value.slice a6 L.length c6).ownBlock = none ∨ (Value.slice a6 L.length c6).ownBlock ≠ some g := by
    intro g hg
    cases a6 with
    | none => exact .inl rfl
    | some a => obtain ⟨q, rfl, h, -⟩ := g6 _ rfl; right; simp only [Value.ownBlock, ne_eq, Option.some.injEq]; omega
  have h3ne : ∀ g, w3.heap.size ≤ g → ∀ a, a3 = some a → some g ≠ some a.block := by
    intro g hg a ha
    obtain ⟨q, rfl, -, h⟩ := g3 _ ha
    simp only [ne_eq, Option.some.injEq]; omega
  have own5b := own5a.grown gr12 (by right; simp only [Value.ownBlock, ne_eq, Option.some.injEq]; omega)
  have own6b := own6a.grown gr12 (h6ne w3.heap.size (by omega))
  have row3c := row3b.grown gr12 (h3ne w3.heap.size (Nat.le_refl _))
  have s3 := b3.size
  have b12 : Below w.heap.size w w12 := b11.grown gr12 b11.size (by intro k hk; simp only [Value.ownBlock, Option.some.injEq] at hk; omega)
  clear own5a own6a row3b gr12 own12 own4a b11
  go_wp2_with fail
  refine (markByteS_any _ _ _ block (1 + key.length) _ hm (by omega) own5b).mono ?_
  rintro e w13 ⟨rfl, own13, gr13⟩
  have own6c := own6b.grown gr13 (h6ne w4.heap.size (by omega))
  have row3d := row3c.grown gr13 (h3ne w4.heap.size (by omega))
  have b13 : Below w.heap.size w w13 := b12.grown gr13 b12.size (by intro k hk; simp only [Value.ownBlock, Option.some.injEq] at hk; omega)
  obtain ⟨_, _, hv6, row6, -⟩ := own6c.shape
  simp only [Value.slice.injEq] at hv6
  obtain ⟨rfl, -, rfl⟩ := hv6
  clear own5b own6b row3c gr13 own13 b12
  have hk8 : ¬ (((1 + key.length + block.length : Nat) : Int) < 0) := by omega
  go_wp2_with fail
  refine (eqByteS_any _ _ _ _ L _ hL row6 row3d).mono ?_
  rintro e w14 ⟨rfl, m14, rfl⟩
  go_wp2_with fail
  refine (markByteS_any _ _ _ L 1 _ hL (by omega) (own6c.drew m14)).mono ?_
  rintro e w15 ⟨rfl, own15, gr15⟩
  obtain ⟨_, _, hv15, row15, -⟩ := own15.shape
  simp only [Value.slice.injEq] at hv15
  obtain ⟨rfl, -, rfl⟩ := hv15
  have b15 : Below w.heap.size w w15 := (below_drewN b13 m14).grown gr15 b13.size (by
    intro k hk
    cases a6 with
    | none => cases hk
    | some a =>
      obtain ⟨q, rfl, h, -⟩ := g6 _ rfl
      simp only [Value.ownBlock, Option.some.injEq] at hk
      omega)
  have row3e := (row3d.drew m14).grown gr15 (by
    intro a ha
    cases a6 with
    | none => simp [Value.ownBlock]
    | some b =>
      obtain ⟨q, rfl, h, -⟩ := g6 _ rfl
      exact h3ne q (by omega) a ha)
  clear own6c row6 row3d gr15 own15 b13
  have hq1 : ¬ (((1 + L.length : Nat) : Int) < 0) := by omega
  go_wp2_with fail
  refine (heldByteS_any _ _ _ 1 _ hL (by omega) row15).mono ?_
  rintro e w15' ⟨rfl, rfl⟩
  go_wp2_with fail
  refine (toByteS_any _ _ key _ hn (rk.below b15)).mono ?_
  rintro e w16 ⟨rfl, own16, bel16⟩
  obtain ⟨_, _, hv16, row16, -⟩ := own16.shape
  cases hv16
  have b16 : Below w.heap.size w w16 := b15.trans (bel16.mono b15.size)
  go_wp2_with fail
  refine (toByteS_any _ _ block _ hm (rb.below b16)).mono ?_
  rintro e w17 ⟨rfl, own17, bel17⟩
  obtain ⟨_, _, hv17, row17, -⟩ := own17.shape
  cases hv17
  have b17 : Below w.heap.size w w17 := b16.trans (bel17.mono b16.size)
  go_wp2_with fail
  refine (HI'.out _ _ _ _ _ (row16.below bel17) row17).mono ?_
  rintro e w18 ⟨v18, rfl, own18, bel18⟩
  obtain ⟨a18, c18, rfl, row18, -⟩ := own18.shape
  have b18 : Below w.heap.size w w18 := b17.trans (bel18.mono b17.size)
  go_wp2_with fail
  refine (eqByteS_any _ _ _ _ L _ hL row18 (((row3e.below bel16).below bel17).below bel18)).mono ?_
  rintro e w19 ⟨rfl, m19, rfl⟩
  have row19 := (((row15.below bel16).below bel17).below bel18).drew m19
  go_wp2_with fail
  refine (heldByteS_any _ _ _ 1 _ hL (by omega) row19).mono ?_
  rintro e w20 ⟨rfl, rfl⟩
  go_wp2
  go_ret
  exact ⟨rfl, below_drewN b18 m19⟩
end Go.Proofs.Ythjnalbgnjbdnaa
