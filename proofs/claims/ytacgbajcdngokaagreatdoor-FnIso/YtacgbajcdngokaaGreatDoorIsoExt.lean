/-
  The kinds of fields: extent, allows.
-/
import Derived.Test.YtacgbajcdngokaaGreatDoorIsoTab
namespace Go.Proofs.YtacgbajcdngokaaGreatDoor
open Go.RowKit

theorem ext_countedDigits (d l m : Int) (w : World) : (Go.method 281 82 (.agg #[.int .i64 d, .int .i64 l, .int .i64 m]) "loop.example/s01728/impl.extent").run Tryz.prog w = .ok (111, .agg #[.int .i64 d, .int .i64 l, .int .i64 m]) w := by kernel_rfl
theorem ext_countedBytes (d l m : Int) (w : World) : (Go.method 281 91 (.agg #[.int .i64 d, .int .i64 l, .int .i64 m]) "loop.example/s01728/impl.extent").run Tryz.prog w = .ok (111, .agg #[.int .i64 d, .int .i64 l, .int .i64 m]) w := by kernel_rfl
theorem ext_fixedDigits (n : Int) (w : World) : (Go.method 281 85 (.agg #[.int .i64 n]) "loop.example/s01728/impl.extent").run Tryz.prog w = .ok (113, .int .i64 n) w := by kernel_rfl
theorem ext_fixedText (n : Int) (w : World) : (Go.method 281 88 (.agg #[.int .i64 n]) "loop.example/s01728/impl.extent").run Tryz.prog w = .ok (113, .int .i64 n) w := by kernel_rfl
theorem ext_fixedBytes (n : Int) (w : World) : (Go.method 281 93 (.agg #[.int .i64 n]) "loop.example/s01728/impl.extent").run Tryz.prog w = .ok (113, .int .i64 n) w := by kernel_rfl
theorem all_countedDigits (d l m : Int) (w : World) : (Go.method 281 82 (.agg #[.int .i64 d, .int .i64 l, .int .i64 m]) "loop.example/s01728/impl.allows").run Tryz.prog w = .ok (112, .agg #[]) w := by kernel_rfl
theorem all_countedBytes (d l m : Int) (w : World) : (Go.method 281 91 (.agg #[.int .i64 d, .int .i64 l, .int .i64 m]) "loop.example/s01728/impl.allows").run Tryz.prog w = .ok (115, .agg #[]) w := by kernel_rfl
theorem all_fixedDigits (n : Int) (w : World) : (Go.method 281 85 (.agg #[.int .i64 n]) "loop.example/s01728/impl.allows").run Tryz.prog w = .ok (112, .agg #[]) w := by kernel_rfl
theorem all_fixedText (n : Int) (w : World) : (Go.method 281 88 (.agg #[.int .i64 n]) "loop.example/s01728/impl.allows").run Tryz.prog w = .ok (114, .agg #[]) w := by kernel_rfl
theorem all_fixedBytes (n : Int) (w : World) : (Go.method 281 93 (.agg #[.int .i64 n]) "loop.example/s01728/impl.allows").run Tryz.prog w = .ok (115, .agg #[]) w := by kernel_rfl
set_option maxHeartbeats 1000000 in
theorem extent_fixed (n : Int) (w : World) : Calls Tryz.prog 113 #[.int .i64 n] w fun e w' => e = .returned (.agg #[.int .i64 0, .int .i64 n, .int .i64 n]) ∧ Below w.heap.size w w' := by
  go_enter Tryz.func113, Tryz.ntmps113
  go_wp2
  exact bodyPost_ret (v := .agg [.int .i64 0, .int .i64 n, .int .i64 n].toArray) (results_blk Tryz.results113 _ _ rfl (show Blk _ _ 96 [.int .i64 0, .int .i64 n, .int .i64 n] from Blk.new w _ #[.int .i64 0, .int .i64 n, .int .i64 n]) Tryz.underlying96 rfl (by kernel_rfl)) rfl ⟨rfl, below_newT _ _⟩
set_option maxHeartbeats 1000000 in
theorem extent_counted (d l m : Int) (w : World) : Calls Tryz.prog 111 #[.agg #[.int .i64 d, .int .i64 l, .int .i64 m]] w fun e w' => e = .returned (.agg #[.int .i64 d, .int .i64 l, .int .i64 m]) ∧ Below w.heap.size w w' := by
  go_enter Tryz.func111, Tryz.ntmps111
  go_wp2
  exact bodyPost_ret (v := .agg [.int .i64 d, .int .i64 l, .int .i64 m].toArray) (results_blk Tryz.results111 _ _ rfl (show Blk _ _ 96 [.int .i64 d, .int .i64 l, .int .i64 m] from Blk.new2 w _ _ #[.int .i64 d, .int .i64 l, .int .i64 m]) Tryz.underlying96 rfl (by kernel_rfl)) rfl ⟨rfl, ((Below.refl _ w).alloc (Nat.le_refl _) _).alloc (by simp) _⟩
set_option maxHeartbeats 1000000 in
theorem allow_digits (b : UInt8) (w : World) : Calls Tryz.prog 112 #[.agg #[], .int .u8 (b.toNat : Int)] w fun e w' => e = .returned (.bool (decide (48 ≤ b.toNat ∧ b.toNat ≤ 57))) ∧ Below w.heap.size w w' := by
  have hb := UInt8.toNat_lt b
  obtain ⟨x, hx⟩ : ∃ x, x = b.toNat := ⟨_, rfl⟩
  rw [← hx] at hb ⊢
  clear hx
  have hw : IntKind.i32.wrap (x : Int) = (x : Int) := by rw [IntKind.wrap_i32]; omega
  by_cases h1 : 48 ≤ x
  · have g1 : (48 : Int) ≤ (x : Int) := by omega
    by_cases h2 : x ≤ 57
    · have g2 : (x : Int) ≤ 57 := by omega
      rw [decide_eq_true ⟨h1, h2⟩]
      go_enter Tryz.func112, Tryz.ntmps112
      go_wp2
      go_ret
      exact ⟨rfl, below_newT _ _⟩
    · have g2 : ¬ ((x : Int) ≤ 57) := by omega
      rw [decide_eq_false (fun h => h2 h.2)]
      go_enter Tryz.func112, Tryz.ntmps112
      go_wp2
      go_ret
      exact ⟨by simp, below_newT _ _⟩
  · have g1 : ¬ ((48 : Int) ≤ (x : Int)) := by omega
    rw [decide_eq_false (fun h => h1 h.1)]
    go_enter Tryz.func112, Tryz.ntmps112
    go_wp2
    go_ret
    exact ⟨rfl, below_newT _ _⟩
set_option maxHeartbeats 1000000 in
theorem allow_text (b : UInt8) (w : World) : Calls Tryz.prog 114 #[.agg #[], .int .u8 (b.toNat : Int)] w fun e w' => e = .returned (.bool (decide (32 ≤ b.toNat ∧ b.toNat ≤ 126))) ∧ Below w.heap.size w w' := by
  obtain ⟨x, hx⟩ : ∃ x, x = b.toNat := ⟨_, rfl⟩
  rw [← hx]
  clear hx
  by_cases h1 : 32 ≤ x
  · have g1 : (32 : Int) ≤ (x : Int) := by omega
    by_cases h2 : x ≤ 126
    · have g2 : (x : Int) ≤ 126 := by omega
      rw [decide_eq_true ⟨h1, h2⟩]
      go_enter Tryz.func114, Tryz.ntmps114
      go_wp2
      go_ret
      exact ⟨rfl, below_newT _ _⟩
    · have g2 : ¬ ((x : Int) ≤ 126) := by omega
      rw [decide_eq_false (fun h => h2 h.2)]
      go_enter Tryz.func114, Tryz.ntmps114
      go_wp2
      go_ret
      exact ⟨by simp, below_newT _ _⟩
  · have g1 : ¬ ((32 : Int) ≤ (x : Int)) := by omega
    rw [decide_eq_false (fun h => h1 h.1)]
    go_enter Tryz.func114, Tryz.ntmps114
    go_wp2
    go_ret
    exact ⟨rfl, below_newT _ _⟩
set_option maxHeartbeats 1000000 in
theorem allow_bytes (b : UInt8) (w : World) : Calls Tryz.prog 115 #[.agg #[], .int .u8 (b.toNat : Int)] w fun e w' => e = .returned (.bool true) ∧ Below w.heap.size w w' := by
  go_enter Tryz.func115, Tryz.ntmps115
  go_wp2
  go_ret
  exact ⟨rfl, below_newT _ _⟩
end Go.Proofs.YtacgbajcdngokaaGreatDoor
