/-
  Texts laid together: AesDec, AesTop.
-/
import Derived.Test.YtoajfbkblpaejaaDoorGrL
import Derived.Test.YtoajfbkblpaejaaDoorGrJ
/-
  impl: the method decrypt of an aesCipher.
-/
namespace Go.Proofs.YtoajfbkblpaejaaDoor
open Go.RowKit

end Go.Proofs.YtoajfbkblpaejaaDoor

/-
  impl.Aes.
-/
namespace Go.Proofs.YtoajfbkblpaejaaDoor
open Go.RowKit

def aesN (key block : List UInt8) (dec : Bool) : List UInt8 := if dec then decL (keyR key) block else encL (keyR key) block
theorem aesN_length (key block : List UInt8) (dec : Bool) (hk : key.length = 16) : (aesN key block dec).length = 16 := by
  unfold aesN
  cases dec
  · exact encL_length _ _ (keyR_length key hk)
  · exact decL_length _ _ (keyR_length key hk)
theorem aesL_le (key block : List UInt8) (dec : Bool) (_ : key.length ≤ 1048576) (_ : block.length ≤ 1048576) : (aesL key block dec).length ≤ 1048576 := Nat.le_trans (aesL_length key block dec) (by omega)
end Go.Proofs.YtoajfbkblpaejaaDoor
