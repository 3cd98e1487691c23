/-
  impl.DukptKey.
-/
import Derived.Test.YthjnalbgnjbdnaaDukEq
import Derived.Test.YthjnalbgnjbdnaaHalfImpl
namespace Go.Proofs.Ythjnalbgnjbdnaa
open Go.RowKit

def stepN (key r : List UInt8) : List UInt8 := dhalfN (xorL key serialL) r ++ dhalfN key r
theorem xorS_length (key : List UInt8) (h : key.length = 16) : (xorL key serialL).length = 16 := by rw [xorL_length _ _ (by rw [h]; rfl), h]
theorem stepN_length (key r : List UInt8) (h : key.length = 16) : (stepN key r).length = 16 := by
  unfold stepN
  rw [List.length_append, dhalfN_length _ _ (xorS_length _ h), dhalfN_length _ _ h]
/-- The walk over the bits of the counter c, from the highest on. -/
def bitAt (j : Nat) : Nat := 1048576 / 2 ^ j
def walkR (base c : Nat) : Nat → Nat
  | 0 => base
  | j + 1 => if c / 2 ^ (20 - j) % 2 = 1 then walkR base c j + bitAt j else walkR base c j
def walkK (init : List UInt8) (base c : Nat) : Nat → List UInt8
  | 0 => init
  | j + 1 => if c / 2 ^ (20 - j) % 2 = 1 then stepN (walkK init base c j) (blockN (walkR base c (j + 1))) else walkK init base c j
theorem walkK_length (init : List UInt8) (h : init.length = 16) (base c j : Nat) : (walkK init base c j).length = 16 := by
  induction j with
  | zero => exact h
  | succ j ih =>
    show (if _ then _ else _ : List UInt8).length = 16
    split
    · exact stepN_length _ _ ih
    · exact ih
theorem bitAt_succ (j : Nat) : bitAt (j + 1) = bitAt j / 2 := by unfold bitAt; rw [Nat.pow_succ, Nat.div_div_eq_div_mul]
theorem bitAt_pow (j : Nat) (h : j ≤ 20) : bitAt j = 2 ^ (20 - j) := by
  unfold bitAt
  rw [show (1048576 : Nat) = 2 ^ (20 - j) * 2 ^ j from by rw [← Nat.pow_add, Nat.sub_add_cancel h], Nat.mul_div_cancel _ (Nat.pow_pos (by omega))]
theorem walkR_spec (base c : Nat) (hc : c < 2097152) (j : Nat) (hj : j ≤ 21) : walkR base c j = base + c / 2 ^ (21 - j) * 2 ^ (21 - j) := by
  induction j with
  | zero =>
    show base = _
    rw [Nat.div_eq_of_lt (by simpa using hc)]; omega
  | succ j ih =>
    have h1 := ih (by omega)
    show (if c / 2 ^ (20 - j) % 2 = 1 then walkR base c j + bitAt j else walkR base c j) = _
    rw [h1, bitAt_pow j (by omega), show 21 - (j + 1) = 20 - j from by omega, show 21 - j = (20 - j) + 1 from by omega, Nat.pow_succ]
    have hp : 0 < 2 ^ (20 - j) := Nat.pow_pos (by omega)
    obtain ⟨p, hpE⟩ : ∃ p, p = 2 ^ (20 - j) := ⟨_, rfl⟩
    rw [← hpE] at hp ⊢
    rw [← Nat.div_div_eq_div_mul]
    obtain ⟨q, hq⟩ : ∃ q, q = c / p := ⟨_, rfl⟩
    rw [← hq]
    split
    · rename_i h
      have e : q = q / 2 * 2 + 1 := by omega
      have e2 : q * p = q / 2 * (p * 2) + p := by
        calc q * p = (q / 2 * 2 + 1) * p := by rw [← e]
          _ = q / 2 * (p * 2) + p := by rw [Nat.add_mul, Nat.one_mul, Nat.mul_assoc, Nat.mul_comm 2 p]
      omega
    · rename_i h
      have e : q = q / 2 * 2 := by omega
      have e2 : q * p = q / 2 * (p * 2) := by
        calc q * p = (q / 2 * 2) * p := by rw [← e]
          _ = q / 2 * (p * 2) := by rw [Nat.mul_assoc, Nat.mul_comm 2 p]
      omega
theorem and_bit (c p : Nat) (k : Nat) (hc : c < 18446744073709551616) (hk : k < 64) (hp : p = 2 ^ k) : bits BinOp.and IntKind.u64 (c : Int) (p : Int) = ((if c / 2 ^ k % 2 = 1 then p else 0 : Nat) : Int) := by
  have hlt : p < 18446744073709551616 := by rw [hp]; exact Nat.pow_lt_pow_right (by omega) hk
  rw [u64_and_nat _ _ hc hlt]
  congr 1
  rw [hp]
  apply Nat.eq_of_testBit_eq
  intro i
  rw [Nat.testBit_and, Nat.testBit_two_pow]
  split
  · rename_i h
    rw [Nat.testBit_two_pow]
    by_cases e : k = i
    · subst e; simp [Nat.testBit_eq_decide_div_mod_eq, h]
    · simp [e]
  · rename_i h
    by_cases e : k = i
    · subst e; simp [Nat.testBit_eq_decide_div_mod_eq, h]
    · simp [e]
theorem or_bit21 (r p k : Nat) (hr : r % 2 ^ (k + 1) = 0) (hr2 : r < 18446744073709551616) (hk : k < 64) (hp : p = 2 ^ k) : bits BinOp.or IntKind.u64 (r : Int) (p : Int) = ((r + p : Nat) : Int) := by
  have hlt : p < 18446744073709551616 := by rw [hp]; exact Nat.pow_lt_pow_right (by omega) hk
  rw [u64_or_nat _ _ hr2 hlt, nat_join (k + 1) r p hr (by rw [hp, Nat.pow_succ]; have := Nat.pow_pos (n := k) (show 0 < 2 by omega); omega)]
end Go.Proofs.Ythjnalbgnjbdnaa
