/-
  impl.Wrap.
-/
import Derived.Test.YtoajfbkblpaejaaDoorWrap1
namespace Go.Proofs.YtoajfbkblpaejaaDoor
open Go.RowKit

theorem row_of {w : World} {g o : Nat} {l : List UInt8} (h : w.rangeAt g o (l.map byte)) : RowAt w (some ⟨g, o, none⟩) l :=
  .inr ⟨g, o, rfl, fun i hi => h i _ (by simp [byte, hi])⟩
def headL (u gen : Nat) : List UInt8 := [75, UInt8.ofNat u, UInt8.ofNat gen, 16]
def tagN (master key : List UInt8) (u gen : Nat) : List UInt8 := cmacN (cmacN master [77]) (headL u gen ++ key)
def wrapN (master key : List UInt8) (u gen : Nat) : List UInt8 := headL u gen ++ (tagN master key u gen ++ aesN (sealK master) (xorL key (tagN master key u gen)) false)

end Go.Proofs.YtoajfbkblpaejaaDoor
