/-
  spec.l6Kind: a field's kind and its length.
-/
import Derived.Test.YtacgbajcdngokaaGreatDoorKeep
import Derived.Test.YtacgbajcdngokaaGreatDoorBlk
namespace Go.Proofs.YtacgbajcdngokaaGreatDoor
open Go.RowKit

/-- A field's kind and its length. -/
def kindOf (no : Int) : Int × Int := if no = 2 then (4, 2) else if no = 3 then (1, 6) else if no = 11 then (1, 6) else if no = 4 then (1, 12) else if no = 7 then (1, 10) else if no = 70 then (1, 3) else if no = 37 then (2, 12) else if no = 39 then (2, 2) else if no = 41 then (2, 8) else if no = 48 then (5, 3) else if no = 52 then (3, 8) else if no = 64 then (3, 8) else if no = 128 then (3, 8) else if no = 53 then (3, 10) else (0, 0)
set_option maxRecDepth 100000 in
set_option maxHeartbeats 4000000 in
theorem l6Kind_any (no : Int) (w : World) : Calls Tryz.prog 42 #[.int .i64 no] w fun e w' => e = .returned (.tuple #[.int .i64 (kindOf no).1, .int .i64 (kindOf no).2]) ∧ w' = w := by
  by_cases h2 : no = 2
  · subst h2
    go_enter Tryz.func42, Tryz.ntmps42
    go_wp2
    go_ret2
    exact ⟨rfl, rfl⟩
  by_cases h3 : no = 3
  · subst h3
    go_enter Tryz.func42, Tryz.ntmps42
    go_wp2
    go_ret2
    exact ⟨rfl, rfl⟩
  by_cases h11 : no = 11
  · subst h11
    go_enter Tryz.func42, Tryz.ntmps42
    go_wp2
    go_ret2
    exact ⟨rfl, rfl⟩
  by_cases h4 : no = 4
  · subst h4
    go_enter Tryz.func42, Tryz.ntmps42
    go_wp2
    go_ret2
    exact ⟨rfl, rfl⟩
  by_cases h7 : no = 7
  · subst h7
    go_enter Tryz.func42, Tryz.ntmps42
    go_wp2
    go_ret2
    exact ⟨rfl, rfl⟩
  by_cases h70 : no = 70
  · subst h70
    go_enter Tryz.func42, Tryz.ntmps42
    go_wp2
    go_ret2
    exact ⟨rfl, rfl⟩
  by_cases h37 : no = 37
  · subst h37
    go_enter Tryz.func42, Tryz.ntmps42
    go_wp2
    go_ret2
    exact ⟨rfl, rfl⟩
  by_cases h39 : no = 39
  · subst h39
    go_enter Tryz.func42, Tryz.ntmps42
    go_wp2
    go_ret2
    exact ⟨rfl, rfl⟩
  by_cases h41 : no = 41
  · subst h41
    go_enter Tryz.func42, Tryz.ntmps42
    go_wp2
    go_ret2
    exact ⟨rfl, rfl⟩
  by_cases h48 : no = 48
  · subst h48
    go_enter Tryz.func42, Tryz.ntmps42
    go_wp2
    go_ret2
    exact ⟨rfl, rfl⟩
  by_cases h52 : no = 52
  · subst h52
    go_enter Tryz.func42, Tryz.ntmps42
    go_wp2
    go_ret2
    exact ⟨rfl, rfl⟩
  by_cases h64 : no = 64
  · subst h64
    go_enter Tryz.func42, Tryz.ntmps42
    go_wp2
    go_ret2
    exact ⟨rfl, rfl⟩
  by_cases h128 : no = 128
  · subst h128
    go_enter Tryz.func42, Tryz.ntmps42
    go_wp2
    go_ret2
    exact ⟨rfl, rfl⟩
  by_cases h53 : no = 53
  · subst h53
    go_enter Tryz.func42, Tryz.ntmps42
    go_wp2
    go_ret2
    exact ⟨rfl, rfl⟩
  have hk : kindOf no = (0, 0) := by unfold kindOf; rw [if_neg h2, if_neg h3, if_neg h11, if_neg h4, if_neg h7, if_neg h70, if_neg h37, if_neg h39, if_neg h41, if_neg h48, if_neg h52, if_neg h64, if_neg h128, if_neg h53]
  rw [hk]
  have b2 : (no == 2) = false := by rw [beq_eq_false_iff_ne]; exact h2
  have b3 : (no == 3) = false := by rw [beq_eq_false_iff_ne]; exact h3
  have b11 : (no == 11) = false := by rw [beq_eq_false_iff_ne]; exact h11
  have b4 : (no == 4) = false := by rw [beq_eq_false_iff_ne]; exact h4
  have b7 : (no == 7) = false := by rw [beq_eq_false_iff_ne]; exact h7
  have b70 : (no == 70) = false := by rw [beq_eq_false_iff_ne]; exact h70
  have b37 : (no == 37) = false := by rw [beq_eq_false_iff_ne]; exact h37
  have b39 : (no == 39) = false := by rw [beq_eq_false_iff_ne]; exact h39
  have b41 : (no == 41) = false := by rw [beq_eq_false_iff_ne]; exact h41
  have b48 : (no == 48) = false := by rw [beq_eq_false_iff_ne]; exact h48
  have b52 : (no == 52) = false := by rw [beq_eq_false_iff_ne]; exact h52
  have b64 : (no == 64) = false := by rw [beq_eq_false_iff_ne]; exact h64
  have b128 : (no == 128) = false := by rw [beq_eq_false_iff_ne]; exact h128
  have b53 : (no == 53) = false := by rw [beq_eq_false_iff_ne]; exact h53
  clear hk h2 h3 h11 h4 h7 h70 h37 h39 h41 h48 h52 h64 h128 h53
  go_enter Tryz.func42, Tryz.ntmps42
  go_wp2
  go_ret2
  exact ⟨rfl, rfl⟩
end Go.Proofs.YtacgbajcdngokaaGreatDoor
