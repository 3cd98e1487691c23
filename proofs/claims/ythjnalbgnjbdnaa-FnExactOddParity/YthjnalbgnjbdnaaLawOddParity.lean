/-
  laws.FnExactOddParity: the walk out of the contracts.
-/
import Derived.Test.YthjnalbgnjbdnaaOddSpec
import Derived.Test.YthjnalbgnjbdnaaKeep
namespace Go.Proofs.Ythjnalbgnjbdnaa
open Go.RowKit

set_option maxHeartbeats 1000000 in
theorem lawOddParity (ao : Option Addr) (cap : Nat) (bs : List UInt8) (w : World) (hn : bs.length ≤ 1048576) (hr : RowAt w ao bs) :
    Calls Try.prog 3 #[.slice ao bs.length cap] w fun e w' => e = .returned (.bool true) ∧ Below w.heap.size w w' := by
  have hL := oddL_length bs hn
  go_enter Try.func3, Try.ntmps3
  go_wp2_with fail
  refine (toByteS_any _ _ bs _ hn hr).mono ?_
  rintro e w1 ⟨rfl, own1, bel1⟩
  obtain ⟨_, _, hv1, row1, -⟩ := own1.shape
  cases hv1
  go_wp2_with fail
  refine (specOdd_all _ _ bs _ hn row1).mono ?_
  rintro e w2 ⟨v2, rfl, own2, bel2⟩
  obtain ⟨ao2, cap2, rfl, row2, g2, nil2, -⟩ := own2.shape
  have hr2 := (hr.below bel1).below bel2
  go_wp2_with fail
  refine (toByteS_any _ _ bs _ hn hr2).mono ?_
  rintro e w3 ⟨rfl, own3, bel3⟩
  obtain ⟨_, _, hv3, row3, g3, -⟩ := own3.shape
  cases hv3
  have lt3 : w2.heap.size < w3.heap.size := by obtain ⟨g, hg, -, h⟩ := g3 _ rfl; cases hg; exact h
  go_wp2_with fail
  refine (implOdd_all _ _ bs _ hn row3).mono ?_
  rintro e w4 ⟨v4, rfl, own4, bel4⟩
  obtain ⟨ao4, cap4, rfl, row4, g4, nil4, -⟩ := own4.shape
  have row2' := (row2.below bel3).below bel4
  go_wp2_with fail
  refine (eqByteS_any _ _ _ _ (oddL bs) _ hL row4 row2').mono ?_
  rintro e w5 ⟨rfl, m5, rfl⟩
  have belA : Below w.heap.size w (w4.drewN m5) :=
    below_drewN ((((bel1.trans (bel2.mono bel1.size)).trans (bel3.mono (Nat.le_trans bel1.size bel2.size))).trans (bel4.mono (Nat.le_trans bel1.size (Nat.le_trans bel2.size bel3.size))))) m5
  have hr5 : RowAt (w4.drewN m5) ao bs := hr.below belA
  go_wp2_with fail
  refine (toByteS_any _ _ bs _ hn hr5).mono ?_
  rintro e w6 ⟨rfl, own6, bel6⟩
  obtain ⟨_, _, hv6, row6, -⟩ := own6.shape
  cases hv6
  have row3' := ((row3.below bel4).drew m5).below bel6
  go_wp2_with fail
  refine (eqByteS_any _ _ _ _ bs _ hn row3' row6).mono ?_
  rintro e w7 ⟨rfl, m7, rfl⟩
  have own3' := (((own3.below bel4).drew m5).below bel6).drew m7
  go_wp2_with fail
  refine (markByteS_any _ _ _ bs 1 _ hn (by omega) own3').mono ?_
  rintro e w8 ⟨rfl, own8, gr8⟩
  have row4' := (((row4.drew m5).below bel6).drew m7).grown gr8 (by rintro a rfl; obtain ⟨g, rfl, h, -⟩ := g4 _ rfl; simp only [Value.ownBlock, ne_eq, Option.some.injEq]; omega)
  have row2'' := (((row2'.drew m5).below bel6).drew m7).grown gr8 (by rintro a rfl; obtain ⟨g, rfl, -, h⟩ := g2 _ rfl; simp only [Value.ownBlock, ne_eq, Option.some.injEq]; omega)
  have own4' := (((own4.drew m5).below bel6).drew m7).grown gr8 (by
    cases ao4 with
    | none => exact .inl rfl
    | some a => obtain ⟨g, rfl, h, -⟩ := g4 _ rfl; right; simp only [Value.ownBlock, ne_eq, Option.some.injEq]; omega)
  have s12 := bel1.size
  have s23 := bel2.size
  have belB : Below w.heap.size w w8 := (below_drewN (belA.trans (bel6.mono belA.size)) m7).grown gr8 (Nat.le_trans belA.size bel6.size) (by intro k hk; simp only [Value.ownBlock, Option.some.injEq] at hk; omega)
  have hk8 : ¬ (((1 + bs.length : Nat) : Int) < 0) := by omega
  go_wp2_with fail
  refine (eqByteS_any _ _ _ _ (oddL bs) _ hL row4' row2'').mono ?_
  rintro e w9 ⟨rfl, m9, rfl⟩
  go_wp2_with fail
  refine (markByteS_any _ _ _ (oddL bs) 1 _ hL (by omega) (own4'.drew m9)).mono ?_
  rintro e w10 ⟨rfl, own10, gr10⟩
  obtain ⟨_, _, hv10, row10, -⟩ := own10.shape
  simp only [Value.slice.injEq] at hv10
  obtain ⟨rfl, -, rfl⟩ := hv10
  have belC : Below w.heap.size w w10 := (below_drewN belB m9).grown gr10 belB.size (by
    intro k hk
    cases ao4 with
    | none => cases hk
    | some a =>
      obtain ⟨g, rfl, h, -⟩ := g4 _ rfl
      simp only [Value.ownBlock, Option.some.injEq] at hk
      omega)
  have row2x := (row2''.drew m9).grown gr10 (by
    rintro a rfl
    obtain ⟨g, rfl, -, h⟩ := g2 _ rfl
    cases ao4 with
    | none => simp [Value.ownBlock]
    | some a =>
      obtain ⟨g', rfl, h', -⟩ := g4 _ rfl
      simp only [Value.ownBlock, ne_eq, Option.some.injEq]
      omega)
  have hq1 : ¬ (((1 + (oddL bs).length : Nat) : Int) < 0) := by omega
  go_wp2_with fail
  refine (heldByteS_any _ _ _ 1 _ hL (by omega) row10).mono ?_
  rintro e w10' ⟨rfl, rfl⟩
  have hr10 : RowAt w10' ao bs := hr.below belC
  go_wp2_with fail
  refine (toByteS_any _ _ bs _ hn hr10).mono ?_
  rintro e w11 ⟨rfl, own11, bel11⟩
  obtain ⟨_, _, hv11, row11, -⟩ := own11.shape
  cases hv11
  go_wp2_with fail
  refine (implOdd_all _ _ bs _ hn row11).mono ?_
  rintro e w12 ⟨v12, rfl, own12, bel12⟩
  obtain ⟨ao12, cap12, rfl, row12, -⟩ := own12.shape
  go_wp2_with fail
  refine (eqByteS_any _ _ _ _ (oddL bs) _ hL row12 ((row2x.below bel11).below bel12)).mono ?_
  rintro e w13 ⟨rfl, m13, rfl⟩
  have row13 := ((row10.below bel11).below bel12).drew m13
  have belD : Below w.heap.size w (w12.drewN m13) := below_drewN ((belC.trans (bel11.mono belC.size)).trans (bel12.mono (Nat.le_trans belC.size bel11.size))) m13
  go_wp2_with fail
  refine (heldByteS_any _ _ _ 1 _ hL (by omega) row13).mono ?_
  rintro e w14 ⟨rfl, rfl⟩
  go_wp2
  go_ret
  exact ⟨rfl, belD⟩
end Go.Proofs.Ythjnalbgnjbdnaa
