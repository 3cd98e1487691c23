import Derived.Test.YtbkokcjolanpeaaGreatDoorMkLb
import Derived.Test.YtbkokcjolanpeaaGreatDoorMkO
set_option maxRecDepth 100000
set_option maxHeartbeats 20000000
namespace Go.Proofs.YtbkokcjolanpeaaGreatDoor
open Go.RowKit Go.Proofs.Tryz Act
def headL (u a:Nat):LU:=[75,UInt8.ofNat u,UInt8.ofNat a,16]
def PZ (a key:LU) (u b:Nat):LU:=Bf (Bf a [77]) (headL u b ++ key)
def AY (a key:LU) (u b:Nat):LU:=headL u b ++ (PZ a key u b ++ Do (Bw a) (AE key (PZ a key u b)) false)
end Go.Proofs.YtbkokcjolanpeaaGreatDoor
