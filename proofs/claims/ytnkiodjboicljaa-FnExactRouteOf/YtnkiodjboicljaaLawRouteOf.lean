/-
  laws.FnExactRouteOf: the walk out of the contracts.
-/
import Derived.Test.YtnkiodjboicljaaRouteSpec
namespace Go.Proofs.Ytnkiodjboicljaa
open Go.RowKit

set_option maxHeartbeats 1000000 in
theorem lawRouteOf (ao : Option Addr) (cap : Nat) (rs : List Rt) (pan : ByteArray) (w : World) (hn : rs.length ≤ maxLen) (hpz : pan.size ≤ maxLen) (hs : ∀ r ∈ rs, r.1.size ≤ maxLen) (hr : RtsAt w ao rs) :
    Calls Try.prog 3 #[.slice ao rs.length cap, .string pan] w fun e w' => e = .returned (.bool true) ∧ Below w.heap.size w w' := by
  have hpz' := hpz
  unfold maxLen at hpz'
  by_cases hp : pan.size ≤ 1048576
  · go_enter Try.func3, Try.ntmps3
    go_wp2_with fail
    refine (szRouteS_any _ _ rs _ hn hs hr).mono ?_
    rintro e w1 ⟨v, rfl, hv, hv1, hv2, bel1⟩
    by_cases hneg : v < 0
    · clear hv
      go_wp2_with fail
      go_ret
      exact ⟨rfl, bel1⟩
    · have hl : rs.length ≤ 1048576 := hv (by omega)
      clear hv
      have hr1 := hr.below bel1
      go_wp2_with fail
      refine (toRouteS_any _ _ rs _ hl hr1).mono ?_
      rintro e w2 ⟨rfl, row2, bel2⟩
      go_wp2_with fail
      refine (routeS_any _ _ rs pan _ hl (Nat.le_refl _) hpz hs row2).mono ?_
      rintro e w3 ⟨a, rfl, ha, bel3⟩
      have HA : Hid (BestOf (rs.take 20) pan a) := ha
      clear ha
      have belA := (bel1.trans (bel2.mono bel1.size)).trans (bel3.mono (Nat.le_trans bel1.size bel2.size))
      clear bel1 bel2 bel3 hr1 row2
      have hr3 := hr.below belA
      go_wp2_with fail
      refine (toRouteS_any _ _ rs _ hl hr3).mono ?_
      rintro e w4 ⟨rfl, row4, bel4⟩
      go_wp2_with fail
      refine (routeI_any _ _ rs pan _ hl (Nat.le_refl _) hs row4).mono ?_
      rintro e w5 ⟨c, rfl, hc, bel5⟩
      obtain rfl := HA.out.one hc
      clear hc HA
      have belB := (belA.trans (bel4.mono belA.size)).trans (bel5.mono (Nat.le_trans belA.size bel4.size))
      have row5 := row4.below bel5
      clear bel4 bel5 belA row4 hr3
      have hr5 := hr.below belB
      go_wp2_with fail
      refine (toRouteS_any _ _ rs _ hl hr5).mono ?_
      rintro e w6 ⟨rfl, row6, bel6⟩
      have row56 := row5.below bel6
      have belC := belB.trans (bel6.mono belB.size)
      clear bel6 belB row5 hr5
      go_wp2_with fail
      refine (eqRouteS_any _ _ _ _ rs _ hl row56 row6).mono ?_
      rintro e w7 ⟨rfl, bel7⟩
      have belD := belC.trans (bel7.mono belC.size)
      go_wp2_with fail
      go_ret
      exact ⟨rfl, belD⟩
  · go_enter Try.func3, Try.ntmps3
    go_wp2_with fail
    go_ret
    exact ⟨rfl, Below.refl _ _⟩
end Go.Proofs.Ytnkiodjboicljaa
