/-
  Helpers of the laws: markByteS, heldByteS, eqByteS.
-/
import Derived.Test.YtacgbajcdngokaaGreatDoorCopy
import Derived.Deep.QuietTactic
import Derived.BigQuiet
namespace Go.Proofs.YtacgbajcdngokaaGreatDoor
open Go.RowKit

/-- The marks k, k + 1, ..: n of them. -/
def marks (k n : Nat) : List UInt8 := (List.range n).map fun i => UInt8.ofNat (k + i)

theorem marks_length (k n : Nat) : (marks k n).length = n := by simp [marks]
theorem marks_get (k n i : Nat) (h : i < n) : (marks k n)[i]'(by rw [marks_length]; exact h) = UInt8.ofNat (k + i) := by simp [marks]
theorem marks_getD (k n i : Nat) (h : i < n) : (marks k n).getD i 0 = UInt8.ofNat (k + i) := by simp [marks, h]

def marked (bs : List UInt8) (k j : Nat) : List UInt8 := marks k j ++ bs.drop j

theorem marked_length (bs : List UInt8) (k j : Nat) (h : j ≤ bs.length) : (marked bs k j).length = bs.length := by simp [marked, marks_length]; omega
theorem marked_zero (bs : List UInt8) (k : Nat) : marked bs k 0 = bs := by simp [marked, marks]
theorem marked_all (bs : List UInt8) (k : Nat) : marked bs k bs.length = marks k bs.length := by simp [marked]
theorem marked_set (bs : List UInt8) (k j : Nat) (h : j < bs.length) : (marked bs k j).set j (UInt8.ofNat (k + j)) = marked bs k (j + 1) := by
  unfold marked
  rw [List.set_append_right _ _ (by rw [marks_length]; exact Nat.le_refl _), marks_length, Nat.sub_self, List.drop_eq_getElem_cons h, List.set_cons_zero]
  simp [marks, List.range_succ]

theorem byte_mark (n : Nat) : byte (UInt8.ofNat n) = .int .u8 ((n % 256 : Nat) : Int) := by
  unfold byte
  rw [UInt8.toNat_ofNat']

end Go.Proofs.YtacgbajcdngokaaGreatDoor
