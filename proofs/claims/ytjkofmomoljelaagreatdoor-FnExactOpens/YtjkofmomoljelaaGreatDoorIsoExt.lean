/-
  The kinds of fields: extent, allows.
-/
import Derived.Test.YtjkofmomoljelaaGreatDoorIsoTab
namespace Go.Proofs.YtjkofmomoljelaaGreatDoor
open Go.RowKit

theorem ext_countedDigits (d l m : Int) (w : World) : (Go.method 394 161 (.agg #[.int .i64 d, .int .i64 l, .int .i64 m]) "loop.example/s01728/impl.extent").run Tryz.prog w = .ok (233, .agg #[.int .i64 d, .int .i64 l, .int .i64 m]) w := by kernel_rfl
theorem ext_countedBytes (d l m : Int) (w : World) : (Go.method 394 170 (.agg #[.int .i64 d, .int .i64 l, .int .i64 m]) "loop.example/s01728/impl.extent").run Tryz.prog w = .ok (233, .agg #[.int .i64 d, .int .i64 l, .int .i64 m]) w := by kernel_rfl
theorem ext_fixedDigits (n : Int) (w : World) : (Go.method 394 164 (.agg #[.int .i64 n]) "loop.example/s01728/impl.extent").run Tryz.prog w = .ok (235, .int .i64 n) w := by kernel_rfl
theorem ext_fixedText (n : Int) (w : World) : (Go.method 394 167 (.agg #[.int .i64 n]) "loop.example/s01728/impl.extent").run Tryz.prog w = .ok (235, .int .i64 n) w := by kernel_rfl
theorem ext_fixedBytes (n : Int) (w : World) : (Go.method 394 172 (.agg #[.int .i64 n]) "loop.example/s01728/impl.extent").run Tryz.prog w = .ok (235, .int .i64 n) w := by kernel_rfl
theorem all_countedDigits (d l m : Int) (w : World) : (Go.method 394 161 (.agg #[.int .i64 d, .int .i64 l, .int .i64 m]) "loop.example/s01728/impl.allows").run Tryz.prog w = .ok (234, .agg #[]) w := by kernel_rfl
theorem all_countedBytes (d l m : Int) (w : World) : (Go.method 394 170 (.agg #[.int .i64 d, .int .i64 l, .int .i64 m]) "loop.example/s01728/impl.allows").run Tryz.prog w = .ok (237, .agg #[]) w := by kernel_rfl
theorem all_fixedDigits (n : Int) (w : World) : (Go.method 394 164 (.agg #[.int .i64 n]) "loop.example/s01728/impl.allows").run Tryz.prog w = .ok (234, .agg #[]) w := by kernel_rfl
theorem all_fixedText (n : Int) (w : World) : (Go.method 394 167 (.agg #[.int .i64 n]) "loop.example/s01728/impl.allows").run Tryz.prog w = .ok (236, .agg #[]) w := by kernel_rfl
theorem all_fixedBytes (n : Int) (w : World) : (Go.method 394 172 (.agg #[.int .i64 n]) "loop.example/s01728/impl.allows").run Tryz.prog w = .ok (237, .agg #[]) w := by kernel_rfl
set_option maxHeartbeats 1000000 in
theorem extent_fixed (n : Int) (w : World) : Calls Tryz.prog 235 #[.int .i64 n] w fun e w' => e = .returned (.agg #[.int .i64 0, .int .i64 n, .int .i64 n]) ∧ Below w.heap.size w w' := by
  go_enter Tryz.func235, Tryz.ntmps235
  go_wp2
  exact bodyPost_ret (v := .agg [.int .i64 0, .int .i64 n, .int .i64 n].toArray) (results_blk Tryz.results235 _ _ rfl (show Blk _ _ 117 [.int .i64 0, .int .i64 n, .int .i64 n] from Blk.new w _ #[.int .i64 0, .int .i64 n, .int .i64 n]) Tryz.underlying117 rfl (by kernel_rfl)) rfl ⟨rfl, below_newT _ _⟩
set_option maxHeartbeats 1000000 in
theorem extent_counted (d l m : Int) (w : World) : Calls Tryz.prog 233 #[.agg #[.int .i64 d, .int .i64 l, .int .i64 m]] w fun e w' => e = .returned (.agg #[.int .i64 d, .int .i64 l, .int .i64 m]) ∧ Below w.heap.size w w' := by
  go_enter Tryz.func233, Tryz.ntmps233
  go_wp2
  exact bodyPost_ret (v := .agg [.int .i64 d, .int .i64 l, .int .i64 m].toArray) (results_blk Tryz.results233 _ _ rfl (show Blk _ _ 117 [.int .i64 d, .int .i64 l, .int .i64 m] from Blk.new2 w _ _ #[.int .i64 d, .int .i64 l, .int .i64 m]) Tryz.underlying117 rfl (by kernel_rfl)) rfl ⟨rfl, ((Below.refl _ w).alloc (Nat.le_refl _) _).alloc (by simp) _⟩
set_option maxHeartbeats 1000000 in
theorem allow_digits (b : UInt8) (w : World) : Calls Tryz.prog 234 #[.agg #[], .int .u8 (b.toNat : Int)] w fun e w' => e = .returned (.bool (decide (48 ≤ b.toNat ∧ b.toNat ≤ 57))) ∧ Below w.heap.size w w' := by
  have hb := UInt8.toNat_lt b
  obtain ⟨x, hx⟩ : ∃ x, x = b.toNat := ⟨_, rfl⟩
  rw [← hx] at hb ⊢
  clear hx
  have hw : IntKind.i32.wrap (x : Int) = (x : Int) := by rw [IntKind.wrap_i32]; omega
  by_cases h1 : 48 ≤ x
  · have g1 : (48 : Int) ≤ (x : Int) := by omega
    by_cases h2 : x ≤ 57
    · have g2 : (x : Int) ≤ 57 := by omega
      rw [decide_eq_true ⟨h1, h2⟩]
      go_enter Tryz.func234, Tryz.ntmps234
      go_wp2
      go_ret
      exact ⟨rfl, below_newT _ _⟩
    · have g2 : ¬ ((x : Int) ≤ 57) := by omega
      rw [decide_eq_false (fun h => h2 h.2)]
      go_enter Tryz.func234, Tryz.ntmps234
      go_wp2
      go_ret
      exact ⟨by simp, below_newT _ _⟩
  · have g1 : ¬ ((48 : Int) ≤ (x : Int)) := by omega
    rw [decide_eq_false (fun h => h1 h.1)]
    go_enter Tryz.func234, Tryz.ntmps234
    go_wp2
    go_ret
    exact ⟨rfl, below_newT _ _⟩
set_option maxHeartbeats 1000000 in
theorem allow_text (b : UInt8) (w : World) : Calls Tryz.prog 236 #[.agg #[], .int .u8 (b.toNat : Int)] w fun e w' => e = .returned (.bool (decide (32 ≤ b.toNat ∧ b.toNat ≤ 126))) ∧ Below w.heap.size w w' := by
  obtain ⟨x, hx⟩ : ∃ x, x = b.toNat := ⟨_, rfl⟩
  rw [← hx]
  clear hx
  by_cases h1 : 32 ≤ x
  · have g1 : (32 : Int) ≤ (x : Int) := by omega
    by_cases h2 : x ≤ 126
    · have g2 : (x : Int) ≤ 126 := by omega
      rw [decide_eq_true ⟨h1, h2⟩]
      go_enter Tryz.func236, Tryz.ntmps236
      go_wp2
      go_ret
      exact ⟨rfl, below_newT _ _⟩
    · have g2 : ¬ ((x : Int) ≤ 126) := by omega
      rw [decide_eq_false (fun h => h2 h.2)]
      go_enter Tryz.func236, Tryz.ntmps236
      go_wp2
      go_ret
      exact ⟨by simp, below_newT _ _⟩
  · have g1 : ¬ ((32 : Int) ≤ (x : Int)) := by omega
    rw [decide_eq_false (fun h => h1 h.1)]
    go_enter Tryz.func236, Tryz.ntmps236
    go_wp2
    go_ret
    exact ⟨rfl, below_newT _ _⟩
set_option maxHeartbeats 1000000 in
theorem allow_bytes (b : UInt8) (w : World) : Calls Tryz.prog 237 #[.agg #[], .int .u8 (b.toNat : Int)] w fun e w' => e = .returned (.bool true) ∧ Below w.heap.size w w' := by
  go_enter Tryz.func237, Tryz.ntmps237
  go_wp2
  go_ret
  exact ⟨rfl, below_newT _ _⟩
end Go.Proofs.YtjkofmomoljelaaGreatDoor
