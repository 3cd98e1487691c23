/-
  The key of a counter is one step from that of the counter without its lowest bit.
-/
import Derived.Test.YtoajfbkblpaejaaDoorGmJ
namespace Go.Proofs.YtoajfbkblpaejaaDoor
open Go.RowKit

theorem walkK_same (init : List UInt8) (base c d : Nat) : ∀ j, (∀ i, i < j → c / 2 ^ (20 - i) % 2 = d / 2 ^ (20 - i) % 2) → walkK init base c j = walkK init base d j ∧ walkR base c j = walkR base d j := by
  intro j
  induction j with
  | zero => intro _; exact ⟨rfl, rfl⟩
  | succ j ih =>
    intro h
    obtain ⟨h1, h2⟩ := ih (fun i hi => h i (by omega))
    have hj := h j (by omega)
    have e2 : walkR base c (j + 1) = walkR base d (j + 1) := by
      show (if _ then _ else _ : Nat) = if _ then _ else _
      rw [hj, h2]
    refine ⟨?_, e2⟩
    show (if _ then _ else _ : List UInt8) = if _ then _ else _
    rw [hj, h1, e2]
theorem walkK_skip (init : List UInt8) (base c j : Nat) : ∀ d, (∀ i, j ≤ i → i < j + d → ¬ c / 2 ^ (20 - i) % 2 = 1) → walkK init base c (j + d) = walkK init base c j := by
  intro d
  induction d with
  | zero => intro _; rfl
  | succ d ih =>
    intro h
    have h1 := ih (fun i h1 h2 => h i h1 (by omega))
    have h2 := h (j + d) (by omega) (by omega)
    show (if c / 2 ^ (20 - (j + d)) % 2 = 1 then _ else _ : List UInt8) = _
    rw [if_neg h2]
    exact h1
theorem high_bits (q k a : Nat) (ha : a < 2 ^ (k + 1)) (e : Nat) (he : k + 1 ≤ e) : (2 ^ (k + 1) * q + a) / 2 ^ e = q / 2 ^ (e - (k + 1)) := by
  obtain ⟨d, rfl⟩ : ∃ d, e = k + 1 + d := ⟨e - (k + 1), by omega⟩
  rw [Nat.pow_add 2 (k + 1) d, ← Nat.div_div_eq_div_mul, Nat.mul_add_div (Nat.pow_pos (by omega)), Nat.div_eq_of_lt ha, Nat.add_zero, Nat.add_sub_cancel_left]
theorem low_zero (q k e : Nat) (he : e < k) : (2 ^ k * q) / 2 ^ e % 2 = 0 := by
  obtain ⟨d, rfl⟩ : ∃ d, k = e + 1 + d := ⟨k - (e + 1), by omega⟩
  rw [Nat.pow_add, Nat.pow_succ, Nat.mul_assoc, Nat.mul_assoc, Nat.mul_div_cancel_left _ (Nat.pow_pos (by omega)), Nat.mul_mod_right]
theorem walk_low (init : List UInt8) (base q k : Nat) (hk : k < 21) (hb : 2 ^ (k + 1) * q + 2 ^ k < 2097152) :
    walkK init base (2 ^ (k + 1) * q + 2 ^ k) 21 = stepN (walkK init base (2 ^ (k + 1) * q) 21) (blockN (base + (2 ^ (k + 1) * q + 2 ^ k))) := by
  have hp : 2 ^ k < 2 ^ (k + 1) := Nat.pow_lt_pow_right (by omega) (by omega)
  have hsame := walkK_same init base (2 ^ (k + 1) * q + 2 ^ k) (2 ^ (k + 1) * q) (20 - k) (fun i hi => by
    rw [high_bits q k _ hp _ (by omega), show 2 ^ (k + 1) * q = 2 ^ (k + 1) * q + 0 from rfl, high_bits q k 0 (Nat.pow_pos (by omega)) _ (by omega)])
  have hn : 2 ^ (k + 1) * q + 2 ^ k = 2 ^ k * (2 * q + 1) := by rw [Nat.pow_succ, Nat.mul_assoc, Nat.mul_add, Nat.mul_one]
  have e1 := walkK_skip init base (2 ^ (k + 1) * q + 2 ^ k) (21 - k) k (fun i h1 h2 => by rw [hn, low_zero _ _ _ (by omega)]; omega)
  have e2 := walkK_skip init base (2 ^ (k + 1) * q) (20 - k) (k + 1) (fun i h1 h2 => by rw [low_zero _ _ _ (by omega)]; omega)
  rw [show 21 - k + k = 21 from by omega] at e1
  rw [show 20 - k + (k + 1) = 21 from by omega] at e2
  rw [e1, e2, show 21 - k = (20 - k) + 1 from by omega]
  have hbit : (2 ^ (k + 1) * q + 2 ^ k) / 2 ^ (20 - (20 - k)) % 2 = 1 := by
    rw [show 20 - (20 - k) = k from by omega, hn, Nat.mul_div_cancel_left _ (Nat.pow_pos (by omega))]
    omega
  show (if (2 ^ (k + 1) * q + 2 ^ k) / 2 ^ (20 - (20 - k)) % 2 = 1 then stepN (walkK init base (2 ^ (k + 1) * q + 2 ^ k) (20 - k)) (blockN (walkR base (2 ^ (k + 1) * q + 2 ^ k) (20 - k + 1))) else _) = _
  rw [if_pos hbit, hsame.1, walkR_spec base _ hb _ (by omega), show 21 - (20 - k + 1) = k from by omega]
  congr 3
  rw [hn, Nat.mul_div_cancel_left _ (Nat.pow_pos (by omega)), Nat.mul_comm]
theorem low_bit (n : Nat) (h : 0 < n) : ∃ k q, n = 2 ^ (k + 1) * q + 2 ^ k := by
  induction n using Nat.strongRecOn with
  | _ n ih =>
    by_cases ho : n % 2 = 1
    · exact ⟨0, n / 2, by simp; omega⟩
    · obtain ⟨k, q, hq⟩ := ih (n / 2) (by omega) (by omega)
      refine ⟨k + 1, q, ?_⟩
      have e : n = 2 * (n / 2) := by omega
      rw [e, hq, Nat.mul_add, ← Nat.mul_assoc, ← Nat.pow_succ', ← Nat.pow_succ']
theorem low_bit21 (n : Nat) (h : 0 < n) (hn : n < 2097152) : ∃ k q, k < 21 ∧ n = 2 ^ (k + 1) * q + 2 ^ k := by
  obtain ⟨k, q, hq⟩ := low_bit n h
  refine ⟨k, q, ?_, hq⟩
  by_cases hk : k < 21
  · exact hk
  · have : 2 ^ 21 ≤ 2 ^ k := Nat.pow_le_pow_right (by omega) (by omega)
    omega
theorem and_pred_nat (q k : Nat) : (2 ^ (k + 1) * q + 2 ^ k) &&& (2 ^ (k + 1) * q + 2 ^ k - 1) = 2 ^ (k + 1) * q := by
  have hp : 0 < 2 ^ k := Nat.pow_pos (by omega)
  have hp1 : 2 ^ k < 2 ^ (k + 1) := Nat.pow_lt_pow_right (by omega) (by omega)
  rw [show 2 ^ (k + 1) * q + 2 ^ k - 1 = 2 ^ (k + 1) * q + (2 ^ k - 1) from by omega]
  apply Nat.eq_of_testBit_eq
  intro j
  rw [Nat.testBit_and, Nat.testBit_two_pow_mul_add _ hp1, Nat.testBit_two_pow_mul_add _ (by omega), Nat.testBit_two_pow_mul]
  by_cases hj : j < k + 1
  · rw [if_pos hj, if_pos hj, Nat.testBit_two_pow, Nat.testBit_two_pow_sub_one]
    have : ¬ (k + 1 ≤ j) := by omega
    simp only [this, decide_false, Bool.false_and]
    by_cases hkj : k = j
    · subst hkj; simp
    · simp [hkj]
  · rw [if_neg hj, if_neg hj]
    have : k + 1 ≤ j := by omega
    simp [this]
theorem clr_less (x : UInt8) (a : Nat) (ha : a < 32) : clr (UInt8.ofNat (x.toNat / 32 * 32 + a)) = clr x := by
  have := x.toNat_lt
  unfold clr
  rw [UInt8.toNat_ofNat']
  congr 1
  omega
/-- The serial number with another counter. -/
def lessL (s : List UInt8) (m : Nat) : List UInt8 := ((s.set 7 (UInt8.ofNat ((s.getD 7 0).toNat / 32 * 32 + m / 65536))).set 8 (UInt8.ofNat (m / 256))).set 9 (UInt8.ofNat m)
theorem lessL_length (s : List UInt8) (m : Nat) : (lessL s m).length = s.length := by simp [lessL]
theorem ten_of (s : List UInt8) (hs : s.length = 10) : ∃ s0 s1 s2 s3 s4 s5 s6 s7 s8 s9, s = [s0, s1, s2, s3, s4, s5, s6, s7, s8, s9] := by
  match s, hs with
  | [s0, s1, s2, s3, s4, s5, s6, s7, s8, s9], _ => exact ⟨_, _, _, _, _, _, _, _, _, _, rfl⟩
theorem less_word (s2 s3 s4 s5 s6 s7 s8 s9 : UInt8) (m : Nat) (hm : m < 2097152) : wordN (rBytes s2 s3 s4 s5 s6 s7 m) = wordN [s2, s3, s4, s5, s6, s7, s8, s9] / 2097152 * 2097152 + m := by
  have h7 := s7.toNat_lt; have h8 := s8.toNat_lt; have h9 := s9.toNat_lt
  unfold rBytes
  simp only [wordN, List.foldl_cons, List.foldl_nil, UInt8.toNat_ofNat']
  omega
theorem less_ser (bdk : List UInt8) (s0 s1 s2 s3 s4 s5 s6 s7 s8 s9 : UInt8) (m : Nat) (hm : m < 2097152) : dinitL bdk ([s0, s1] ++ rBytes s2 s3 s4 s5 s6 s7 m) = dinitL bdk [s0, s1, s2, s3, s4, s5, s6, s7, s8, s9] := by
  unfold dinitL
  have e : serR ([s0, s1] ++ rBytes s2 s3 s4 s5 s6 s7 m) = serR [s0, s1, s2, s3, s4, s5, s6, s7, s8, s9] := by
    show [s0, s1, s2, s3, s4, s5, s6] ++ [clr (UInt8.ofNat (s7.toNat / 32 * 32 + m / 65536))] = [s0, s1, s2, s3, s4, s5, s6] ++ [clr s7]
    rw [clr_less s7 (m / 65536) (by omega)]
  rw [e]
theorem ser_ten (s0 s1 s2 s3 s4 s5 s6 s7 s8 s9 : UInt8) : serW [s0, s1, s2, s3, s4, s5, s6, s7, s8, s9] = wordN [s2, s3, s4, s5, s6, s7, s8, s9] := rfl
theorem ser_less (s0 s1 s2 s3 s4 s5 s6 s7 : UInt8) (m : Nat) : serW ([s0, s1] ++ rBytes s2 s3 s4 s5 s6 s7 m) = wordN (rBytes s2 s3 s4 s5 s6 s7 m) := rfl
theorem dukStep (bdk s : List UInt8) (hs : s.length = 10) (q k : Nat) (hk : k < 21) (hn : countN s = 2 ^ (k + 1) * q + 2 ^ k) (hb : countN s < 2097152) :
    keyN16 bdk s = stepN (keyN16 bdk (lessL s (2 ^ (k + 1) * q))) (s.drop 2) := by
  obtain ⟨s0, s1, s2, s3, s4, s5, s6, s7, s8, s9, rfl⟩ := ten_of s hs
  have hp : 0 < 2 ^ k := Nat.pow_pos (by omega)
  have hm : 2 ^ (k + 1) * q < 2097152 := by omega
  have hw := walk_low (dinitL bdk [s0, s1, s2, s3, s4, s5, s6, s7, s8, s9]) (wordN [s2, s3, s4, s5, s6, s7, s8, s9] / 2097152 * 2097152) q k hk (by omega)
  obtain ⟨m, hme⟩ : ∃ m, m = 2 ^ (k + 1) * q := ⟨_, rfl⟩
  have hc := count_word s0 s1 s2 s3 s4 s5 s6 s7 s8 s9
  have hl : lessL [s0, s1, s2, s3, s4, s5, s6, s7, s8, s9] m = [s0, s1] ++ rBytes s2 s3 s4 s5 s6 s7 m := rfl
  have hdr : List.drop 2 [s0, s1, s2, s3, s4, s5, s6, s7, s8, s9] = [s2, s3, s4, s5, s6, s7, s8, s9] := rfl
  rw [← hn, ← hme] at hw
  rw [← hme] at hm ⊢
  have hlw := less_word s2 s3 s4 s5 s6 s7 s8 s9 m hm
  have hbl : blockN (wordN [s2, s3, s4, s5, s6, s7, s8, s9] / 2097152 * 2097152 + countN [s0, s1, s2, s3, s4, s5, s6, s7, s8, s9]) = [s2, s3, s4, s5, s6, s7, s8, s9] := by
    rw [← hc, Nat.div_add_mod']
    exact block_word _ _ _ _ _ _ _ _
  rw [hdr, hl]
  unfold keyN16
  rw [less_ser bdk s0 s1 s2 s3 s4 s5 s6 s7 s8 s9 m hm, ser_ten, ser_less, hlw, hc]
  obtain ⟨Wd, hWd⟩ : ∃ Wd, Wd = wordN [s2, s3, s4, s5, s6, s7, s8, s9] / 2097152 := ⟨_, rfl⟩
  rw [← hWd] at hw hbl ⊢
  rw [show (Wd * 2097152 + m) / 2097152 = Wd from by omega, show (Wd * 2097152 + m) % 2097152 = m from by omega, hw, hbl]
end Go.Proofs.YtoajfbkblpaejaaDoor
