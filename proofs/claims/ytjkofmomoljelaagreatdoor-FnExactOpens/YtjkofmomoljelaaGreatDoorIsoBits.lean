/-
  spec.l1Bits, spec.l1Bytes (taken out of SpecBits, SpecXor, CmacSpec).
-/
import Derived.Test.YtjkofmomoljelaaGreatDoorIsoHolds
import Derived.Laws.CopyOwn
namespace Go.Proofs.YtjkofmomoljelaaGreatDoor
open Go.RowKit

end Go.Proofs.YtjkofmomoljelaaGreatDoor
