/-
  The walk over the counter's bits: numbers and bytes.
-/
import Derived.Test.YthjnalbgnjbdnaaKeyMath
import Derived.Test.YthjnalbgnjbdnaaHalfSpec
namespace Go.Proofs.Ythjnalbgnjbdnaa
open Go.RowKit

theorem low_nat64 (q k : Nat) (hk : k < 63) (hn : 2 ^ (k + 1) * q + 2 ^ k < 2 ^ 64) : (2 ^ (k + 1) * q + 2 ^ k) &&& (2 ^ 64 - (2 ^ (k + 1) * q + 2 ^ k)) = 2 ^ k := by
  have hp : 0 < 2 ^ k := Nat.pow_pos (by omega)
  have hlt : 2 ^ k < 2 ^ (k + 1) := Nat.pow_lt_pow_right (by omega) (by omega)
  have hlt2 : 2 ^ k - 1 < 2 ^ (k + 1) := by omega
  have e : 2 ^ 64 - (2 ^ (k + 1) * q + 2 ^ k) = 2 ^ 64 - ((2 ^ (k + 1) * q + (2 ^ k - 1)) + 1) := by
    rw [Nat.add_assoc, Nat.sub_add_cancel hp]
  rw [e]
  apply Nat.eq_of_testBit_eq
  intro i
  rw [Nat.testBit_and, Nat.testBit_two_pow_sub_succ (by omega), Nat.testBit_two_pow_mul_add _ hlt, Nat.testBit_two_pow_mul_add _ hlt2, Nat.testBit_two_pow]
  by_cases h : i < k + 1
  · rw [if_pos h, if_pos h, Nat.testBit_two_pow_sub_one]
    by_cases e2 : k = i
    · subst e2; simp; omega
    · simp [e2]
  · rw [if_neg h, if_neg h]
    have : ¬ k = i := by omega
    simp [this]
    intro h1 _
    exact h1
theorem and_neg (n q k : Nat) (hk : k < 30) (hn : n = 2 ^ (k + 1) * q + 2 ^ k) (hb : n < 4294967296) : bits BinOp.and IntKind.i64 (n : Int) (-(n : Int)) = ((2 ^ k : Nat) : Int) := by
  show IntKind.i64.wrap ((BitVec.ofInt 64 (n : Int) &&& BitVec.ofInt 64 (-(n : Int))).toNat : Int) = _
  have hp : 0 < 2 ^ k := Nat.pow_pos (by omega)
  have h0 : 0 < n := by omega
  have h1 : (BitVec.ofInt 64 (-(n : Int))).toNat = 2 ^ 64 - n := by
    rw [BitVec.toNat_ofInt]
    omega
  rw [BitVec.toNat_and, ofInt_u64 n (by omega), h1, hn, low_nat64 q k (by omega) (by omega), IntKind.wrap_i64]
  have : 2 ^ k < 2 ^ 30 := Nat.pow_lt_pow_right (by omega) hk
  omega

theorem block_word (a b c d e f g h : UInt8) : blockN (wordN [a, b, c, d, e, f, g, h]) = [a, b, c, d, e, f, g, h] := by
  have ha := a.toNat_lt; have hb := b.toNat_lt; have hc := c.toNat_lt; have hd := d.toNat_lt
  have he := e.toNat_lt; have hf := f.toNat_lt; have hg := g.toNat_lt; have hh := h.toNat_lt
  have u : ∀ (x : UInt8) (n : Nat), n % 256 = x.toNat → UInt8.ofNat n = x := by
    intro x n hn
    apply UInt8.toNat.inj
    rw [UInt8.toNat_ofNat', hn]
  simp only [blockN, wordN, List.foldl_cons, List.foldl_nil, List.range, List.range.loop, List.map_cons, List.map_nil]
  simp only [List.cons.injEq, and_true]
  refine ⟨u _ _ ?_, u _ _ ?_, u _ _ ?_, u _ _ ?_, u _ _ ?_, u _ _ ?_, u _ _ ?_, u _ _ ?_⟩ <;> simp <;> omega

/-- The eight bytes of a step. -/
def rBytes (s2 s3 s4 s5 s6 s7 : UInt8) (n : Nat) : List UInt8 := [s2, s3, s4, s5, s6, UInt8.ofNat (s7.toNat / 32 * 32 + n / 65536), UInt8.ofNat (n / 256), UInt8.ofNat n]
theorem rBytes_block (s2 s3 s4 s5 s6 s7 s8 s9 : UInt8) (n : Nat) (hn : n < 2097152) : blockN (wordN [s2, s3, s4, s5, s6, s7, s8, s9] / 2097152 * 2097152 + n) = rBytes s2 s3 s4 s5 s6 s7 n := by
  have h7 := s7.toNat_lt; have h8 := s8.toNat_lt; have h9 := s9.toNat_lt
  have e : wordN [s2, s3, s4, s5, s6, s7, s8, s9] / 2097152 * 2097152 + n = wordN (rBytes s2 s3 s4 s5 s6 s7 n) := by
    unfold rBytes
    simp only [wordN, List.foldl_cons, List.foldl_nil, UInt8.toNat_ofNat']
    omega
  rw [e]
  exact block_word _ _ _ _ _ _ _ _
theorem count_word (s0 s1 s2 s3 s4 s5 s6 s7 s8 s9 : UInt8) : wordN [s2, s3, s4, s5, s6, s7, s8, s9] % 2097152 = countN [s0, s1, s2, s3, s4, s5, s6, s7, s8, s9] := by
  have h7 := s7.toNat_lt; have h8 := s8.toNat_lt; have h9 := s9.toNat_lt
  simp only [wordN, countN, List.foldl_cons, List.foldl_nil, List.getD_cons_succ, List.getD_cons_zero]
  omega
theorem or_seven (x n : Nat) (hx : x < 256) (hn : n < 32) : bits BinOp.or IntKind.u8 ((x / 32 * 32 : Nat) : Int) (n : Int) = ((x / 32 * 32 + n : Nat) : Int) := by
  rw [u8_or_nat _ _ (by omega) (by omega), nat_join 5 (x / 32 * 32) n (by omega) (by omega)]
theorem Own.at {w : World} {base n : Nat} {v : Value} {l : List UInt8} (h : Own w base v l) (hl : l.length = n) (h0 : 0 < n) : ∃ g cap, n ≤ cap ∧ v = .slice (some ⟨g, 0, none⟩) n cap ∧ RowAt w (some ⟨g, 0, none⟩) l := by
  subst hl
  obtain ⟨ao, cap, rfl, row, -⟩ := h.shape
  obtain ⟨t, h⟩ := h
  rcases h.2 with ⟨-, hn⟩ | ⟨g, cap', cur, hv, hb, hh, hn, hm, hs, ht⟩
  · omega
  · simp only [Value.slice.injEq, true_and] at hv
    obtain ⟨rfl, rfl⟩ := hv
    exact ⟨g, cap, hn, rfl, row⟩
end Go.Proofs.Ythjnalbgnjbdnaa
