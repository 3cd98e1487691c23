/-
  laws.FnRekey: what the row says of the program, in parts.
-/
import Derived.Test.YtbkokcjolanpeaaGreatDoorRows
import Derived.JoinedOf
namespace Go.Proofs.YtbkokcjolanpeaaGreatDoor.fnRekey
theorem jA : (Rows.fnRekeyRow.inPlace == Tryz.prog.inPlace 4) = true := by kernel_rfl
theorem jB : (Rows.fnRekeyRow.unfollowed == Tryz.prog.unfollowed 4) = true := by kernel_rfl
theorem jC : (Rows.fnRekeyRow.recurses == Tryz.prog.recurses 4) = true := by kernel_rfl
theorem jD : (Rows.fnRekeyRow.named == Tryz.prog.varsNamed 4) = true := by kernel_rfl
theorem jE : joinedFacts Tryz.prog 4 Tryz.f4 Rows.fnRekeySpec Rows.fnRekeyRow = true := by
  unfold joinedFacts
  rw [jA, jB, jC, jD]
  kernel_rfl
end Go.Proofs.YtbkokcjolanpeaaGreatDoor.fnRekey
