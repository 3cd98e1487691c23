/-
  Nothing: this seat calls no errors.Is.
-/
import Derived.Test.YtdelidfigcgglaaGreatDoorOpenM
namespace Go.Proofs.YtdelidfigcgglaaGreatDoor
open Go.RowKit

theorem isNone : True := trivial
end Go.Proofs.YtdelidfigcgglaaGreatDoor
