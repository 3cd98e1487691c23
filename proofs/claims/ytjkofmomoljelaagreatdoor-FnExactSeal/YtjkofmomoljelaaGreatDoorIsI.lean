/-
  Nothing: this seat calls no errors.Is.
-/
import Derived.Test.YtjkofmomoljelaaGreatDoorOpenM
namespace Go.Proofs.YtjkofmomoljelaaGreatDoor
open Go.RowKit

theorem isNone : True := trivial
end Go.Proofs.YtjkofmomoljelaaGreatDoor
