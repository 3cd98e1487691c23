import Derived.Test.YtbkokcjolanpeaaGreatDoorMkM
import Derived.LaidEql
import Derived.Stop.Asserts
import Derived.RowKitTokens
import Derived.Lib.SlBytesConst
import Derived.Laws.BytesString
import Derived.Laws.BytesArg
set_option maxRecDepth 100000
set_option maxHeartbeats 20000000
namespace Go.Proofs.YtbkokcjolanpeaaGreatDoor
open Go.RowKit Go.Proofs.Tryz Act
theorem Gk {w:World} {b o:Nat} {l:LU} (h:w.rangeAt b o (l.map byte)) (k n:Nat):w.rangeAt b (o + k) (((l.drop k).take n).map byte):=Lr h k n
open Go.RowKit Go.Extern.Stop Go.Stop Go.Extern
abbrev IV:List Value:=[.int .i64 0,.int .i64 0,.int .i64 0,.slice none 0 0]
theorem Tryz.zeroOp:(prog.info? 145).map (fun i=>(i.zero,i.size)) = some (some (.agg IV.toArray),4):=by kernel_rfl
end Go.Proofs.YtbkokcjolanpeaaGreatDoor
