import Derived.Test.YtoajfbkblpaejaaGreatDoorUnwrapI
import Derived.Test.YtoajfbkblpaejaaGreatDoorGrA
namespace Go.Proofs.YtoajfbkblpaejaaGreatDoor
open Go.RowKit
theorem Sents.grown {w w':World} {x0 x1:Addr} {row:Option Nat} (h:Sents w x0 x1) (hg:w.grownBy w' row) {B:Nat} (hr:∀ k,row = some k → B ≤ k) (hB:0 < B ∧ 1 < B ∧ x0.block < B ∧ x1.block < B):Sents w' x0 x1:=by
 obtain ⟨g0,g1,ne,⟨c0,t0,b0⟩,⟨c1,t1,b1⟩⟩:=h
 have ne':∀ k,k < B → some k ≠ row:=by intro k hk e;have:=hr k e.symm;omega
 exact ⟨hg.cell g0 (ne' 0 hB.1),hg.cell g1 (ne' 1 hB.2.1),ne,⟨c0,t0,by rw [hg.block _ (lt_of_block b0) (ne' _ hB.2.2.1)];exact b0⟩,⟨c1,t1,by rw [hg.block _ (lt_of_block b1) (ne' _ hB.2.2.2)];exact b1⟩⟩
theorem Sents.lt {w:World} {x0 x1:Addr} (h:Sents w x0 x1):0 < w.heap.size ∧ 1 < w.heap.size ∧ x0.block < w.heap.size ∧ x1.block < w.heap.size:=by
 obtain ⟨g0,g1,ne,⟨c0,t0,b0⟩,⟨c1,t1,b1⟩⟩:=h
 exact ⟨World.block_lt_of_cell? w _ g0,World.block_lt_of_cell? w _ g1,lt_of_block b0,lt_of_block b1⟩
end Go.Proofs.YtoajfbkblpaejaaGreatDoor
