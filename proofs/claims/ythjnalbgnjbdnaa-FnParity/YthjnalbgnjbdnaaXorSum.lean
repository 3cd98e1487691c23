/-
  Sums of blocks.
-/
import Derived.Test.YthjnalbgnjbdnaaTdeaEq
namespace Go.Proofs.Ythjnalbgnjbdnaa
open Go.RowKit

def zeros8 (n : Nat) : List UInt8 := List.replicate n 0
theorem zeros8_cells (n : Nat) : zerosOf n .u8 = (zeros8 n).map byte := by simp [zerosOf, zeros8, byte]
theorem xorL_zeros (b : List UInt8) (n : Nat) (h : b.length = n) : xorL (zeros8 n) b = b := by
  apply List.ext_getElem
  · simp [xorL, zeros8, h]
  · intro i h1 h2
    simp [xorL, zeros8]
theorem xorL_comm (a b : List UInt8) : xorL a b = xorL b a := by
  unfold xorL
  rw [List.zipWith_comm]
  congr 1
  funext x y
  exact UInt8.xor_comm _ _

/-- The sum of the first k blocks. -/
def sumsL (n : Nat) (bl : List (List UInt8)) : Nat → List UInt8
  | 0 => zeros8 n
  | k + 1 => xorL (sumsL n bl k) (bl.getD k [])
theorem sumsL_length (n : Nat) (bl : List (List UInt8)) (hn : ∀ b ∈ bl, b.length = n) (k : Nat) (hk : k ≤ bl.length) : (sumsL n bl k).length = n := by
  induction k with
  | zero => simp [sumsL, zeros8]
  | succ k ih =>
    have h1 := ih (by omega)
    have h2 : (bl.getD k []).length = n := by
      have : bl.getD k [] = bl[k] := by simp [show k < bl.length from by omega]
      rw [this]; exact hn _ (List.getElem_mem _)
    show (xorL (sumsL n bl k) (bl.getD k [])).length = n
    rw [xorL_length _ _ (by omega), h1]
theorem sums_two (n : Nat) (a b : List UInt8) (ha : a.length = n) : sumsL n [a, b] 2 = xorL a b := by
  show xorL (xorL (zeros8 n) a) b = xorL a b
  rw [xorL_zeros a n ha]

/-- In the midst of a block: the first j are summed. -/
def mixL (a b : List UInt8) (j : Nat) : List UInt8 := (xorL a b).take j ++ a.drop j
theorem mixL_zero (a b : List UInt8) : mixL a b 0 = a := by simp [mixL]
theorem mixL_all (a b : List UInt8) (n : Nat) (ha : a.length = n) (hb : b.length = n) : mixL a b n = xorL a b := by
  unfold mixL
  rw [List.take_of_length_le (by rw [xorL_length _ _ (by omega)]; omega), List.drop_of_length_le (by omega), List.append_nil]
theorem mixL_length (a b : List UInt8) (j n : Nat) (ha : a.length = n) (hb : b.length = n) (hj : j ≤ n) : (mixL a b j).length = n := by
  unfold mixL
  rw [List.length_append, List.length_take, List.length_drop, xorL_length _ _ (by omega)]
  omega
theorem mixL_at (a b : List UInt8) (j n : Nat) (ha : a.length = n) (hb : b.length = n) (hj : j < n) : (mixL a b j)[j]? = some (a[j]'(by omega)) := by
  unfold mixL
  have hl : ((xorL a b).take j).length = j := by rw [List.length_take, xorL_length _ _ (by omega)]; omega
  rw [List.getElem?_append_right (by omega), hl, Nat.sub_self, List.getElem?_drop, Nat.add_zero, List.getElem?_eq_getElem]
theorem mixL_set (a b : List UInt8) (j n : Nat) (ha : a.length = n) (hb : b.length = n) (hj : j < n) : (mixL a b j).set j ((a[j]'(by omega)) ^^^ (b[j]'(by omega))) = mixL a b (j + 1) := by
  unfold mixL
  have hx : (xorL a b).length = n := by rw [xorL_length _ _ (by omega), ha]
  have hl : ((xorL a b).take j).length = j := by rw [List.length_take, hx]; omega
  rw [List.set_append_right _ _ (by omega), hl, Nat.sub_self, List.drop_eq_getElem_cons (show j < a.length by omega), List.set_cons_zero, take_snoc (xorL a b) j (by omega), xorL_get a b j (by omega) (by omega), List.append_assoc, List.singleton_append]
end Go.Proofs.Ythjnalbgnjbdnaa
