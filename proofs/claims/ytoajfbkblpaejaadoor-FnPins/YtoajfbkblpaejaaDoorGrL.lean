/-
  impl: the method encrypt of an aesCipher.
-/
import Derived.Test.YtoajfbkblpaejaaDoorGrK
namespace Go.Proofs.YtoajfbkblpaejaaDoor
open Go.RowKit

theorem wpList_bld2 {P : Program} {ops : Array Oper} {rest : List Oper} {op : Oper} {a : Act} {w : World} {Q : Exit → Act → World → Prop} (hgd : op.guard = none) (t : TypeId) (x y : Operand) (ho : op.op = .buildSlice t 2 #[(0, x), (1, y)]) (e N : Nat) (z : Value) (A B : List Value) (hx : a.eval x = .agg A.toArray) (hy : a.eval y = .agg B.toArray)
    (ht : P.underlying t = some (.slice e)) (hz : (P.info? e).map (fun i => (i.zero, i.size)) = some (some z, N)) (hA : A.length = N) (hB : B.length = N) (h0 : 0 < N) (hN : N ≤ 1048576)
    (h : wpList P ops Q rest (a.put op.dst (.slice (some ⟨w.heap.size, 0, none⟩) 2 2)) (w.alloc (.cells (A ++ B).toArray e))) : wpList P ops Q (op :: rest) a w :=
  wpList_plain hgd fun _ hK => wp_build2 op.dst rfl t x y ho e N z A B hx hy ht hz hA hB h0 hN (hK _ _ h)
theorem xor16_let (A B : List UInt8) (hA : A.length = 16) (hB : B.length = 16) : (xorL A B).length = 16 := by rw [xorL_length _ _ (by omega), hA]

end Go.Proofs.YtoajfbkblpaejaaDoor
