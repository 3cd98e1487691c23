/-
  Words and blocks.
-/
import Derived.Test.YtoajfbkblpaejaaDoorPinPack
namespace Go.Proofs.YtoajfbkblpaejaaDoor
open Go.RowKit

end Go.Proofs.YtoajfbkblpaejaaDoor
