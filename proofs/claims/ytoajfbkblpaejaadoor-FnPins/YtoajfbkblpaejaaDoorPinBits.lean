/-
  What the PIN blocks need of rows, words and sums.
-/
import Derived.Test.YtoajfbkblpaejaaDoorGrA
import Derived.Laws.CopyOwn
import Derived.WideShapes
import Derived.Deep.MidRow
import Derived.Test.YtoajfbkblpaejaaDoorGmJ
import Derived.Test.YtoajfbkblpaejaaDoorWrapTop
import Derived.Test.YtoajfbkblpaejaaDoorGrG
namespace Go.Proofs.YtoajfbkblpaejaaDoor
open Go.RowKit

end Go.Proofs.YtoajfbkblpaejaaDoor
