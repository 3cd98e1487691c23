/-
  What the PIN blocks need of rows, words and sums.
-/
import Derived.Test.YtjkofmomoljelaaGreatDoorGrA
import Derived.Laws.CopyOwn
import Derived.WideShapes
import Derived.Deep.MidRow
import Derived.Test.YtjkofmomoljelaaGreatDoorMacI
namespace Go.Proofs.YtjkofmomoljelaaGreatDoor
open Go.RowKit

end Go.Proofs.YtjkofmomoljelaaGreatDoor
