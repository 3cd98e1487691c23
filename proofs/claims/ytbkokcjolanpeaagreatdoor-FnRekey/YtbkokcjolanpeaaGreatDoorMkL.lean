import Derived.Test.YtbkokcjolanpeaaGreatDoorMkH
import Derived.Deep.AppendLies
import Derived.Laws.Cover3
import Derived.Deep.DeepCutAuto
import Derived.Laws.CopyOwn
import Derived.WideShapes
import Derived.Laws.AppendOwn
set_option maxRecDepth 100000
set_option maxHeartbeats 20000000
namespace Go.Proofs.YtbkokcjolanpeaaGreatDoor
open Go.RowKit Go.Proofs.Tryz Act
structure Tabs (w:World) (S1 S2 S3 S4:Nat):Prop where
 t1:Blk w S1 240 (AT.map byte)
 t2:Blk w S2 240 (invTab.map byte)
 t3:Blk w S3 247 (A6 Bn)
 t4:Blk w S4 247 (A6 Bc)
theorem Tabs.below {w w':World} {b d c f:Nat} (h:Tabs w b d c f) (a:Bl w w'):Tabs w' b d c f:=⟨h.t1.below a h.t1.lt,h.t2.below a h.t2.lt,h.t3.below a h.t3.lt,h.t4.below a h.t4.lt⟩
end Go.Proofs.YtbkokcjolanpeaaGreatDoor
