/-
  Helpers of the laws: toByteS.
-/
import Derived.Test.YtacgbajcdngokaaGreatDoorRows
import Derived.Test.YtacgbajcdngokaaGreatDoorBase
import Derived.WalkLawsBesides
namespace Go.Proofs.YtacgbajcdngokaaGreatDoor
open Go.RowKit

theorem Tryz.info5 : (Tryz.prog.info? 5).map (fun i => (i.zero, i.size, i.bytes)) = some (some (.int .u8 0), 1, 1) := by kernel_rfl

theorem made_zero (n : Nat) : (madeCells (Value.int .u8 0).cells (n * 1)).toList = List.replicate n (.int .u8 0) := by
  rw [Nat.mul_one]; exact toList_madeCells_one _ _

/-- Of n cells the first k are done. -/
def part (bs : List UInt8) (k : Nat) : List Value := (bs.take k).map byte ++ List.replicate (bs.length - k) (.int .u8 0)

theorem part_zero (bs : List UInt8) : part bs 0 = List.replicate bs.length (.int .u8 0) := by simp [part]
theorem part_all (bs : List UInt8) : part bs bs.length = bs.map byte := by simp [part]
theorem part_set (bs : List UInt8) (k : Nat) (h : k < bs.length) : (part bs k).set k (byte bs[k]) = part bs (k + 1) := by
  unfold part
  have hl : ((bs.take k).map byte).length = k := by simp; omega
  rw [List.set_append_right _ _ (by omega), hl, Nat.sub_self]
  obtain ⟨m, hm⟩ : ∃ m, bs.length - k = m + 1 := ⟨bs.length - k - 1, by omega⟩
  rw [hm, List.replicate_succ, List.set_cons_zero, take_snoc bs k h, show bs.length - (k + 1) = m from by omega]
  simp only [List.map_append, List.map_cons, List.map_nil, List.append_assoc, List.singleton_append]

end Go.Proofs.YtacgbajcdngokaaGreatDoor
