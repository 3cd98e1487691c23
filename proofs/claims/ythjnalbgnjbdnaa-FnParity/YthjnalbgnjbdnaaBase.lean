/-
  Bytes in memory: rows that are read, rows that the call owns. Nothing of the program.
-/
import Derived.WalkKit
import Derived.WalkSpells
namespace Go.Proofs.Ythjnalbgnjbdnaa
open Go.RowKit

/-- A byte as a value of the model. -/
def byte (b : UInt8) : Value := .int .u8 (b.toNat : Int)

/-- From the address on lie the bytes bs; of an empty row nothing is asked. -/
def RowAt (w : World) (ao : Option Addr) (bs : List UInt8) : Prop :=
  bs = [] ∨ ∃ b off, ao = some ⟨b, off, none⟩ ∧ ∀ i, i < bs.length → w.cell? ⟨b, off + i, none⟩ = some (.int .u8 ((bs.getD i 0).toNat : Int))

theorem RowAt.at {w : World} {ao : Option Addr} {bs : List UInt8} (h : RowAt w ao bs) {k : Nat} (hk : k < bs.length) :
    ∃ b off, ao = some ⟨b, off, none⟩ ∧ ∀ i, i < bs.length → w.cell? ⟨b, off + i, none⟩ = some (.int .u8 ((bs.getD i 0).toNat : Int)) := by
  rcases h with rfl | h
  · simp at hk
  · exact h

theorem RowAt.lt {w : World} {b off : Nat} {bs : List UInt8} (h : ∀ i, i < bs.length → w.cell? ⟨b, off + i, none⟩ = some (.int .u8 ((bs.getD i 0).toNat : Int))) {k : Nat} (hk : k < bs.length) : b < w.heap.size := by
  have := h k hk
  exact World.block_lt_of_cell? w _ this

/-- The value v is a row of bytes among the blocks from base on, all of it owned by the call. -/
def Own (w : World) (base : Nat) (v : Value) (bs : List UInt8) : Prop := ∃ t, w.ownsRow base t 1 v bs.length (bs.map byte)

theorem Own.shape {w : World} {base : Nat} {v : Value} {bs : List UInt8} (h : Own w base v bs) :
    ∃ ao cap, v = .slice ao bs.length cap ∧ RowAt w ao bs ∧ (∀ a, ao = some a → ∃ g, a = ⟨g, 0, none⟩ ∧ base ≤ g ∧ g < w.heap.size) ∧ (ao = none → bs = []) ∧ bs.length ≤ maxLen := by
  obtain ⟨t, h⟩ := h
  rcases h.2 with ⟨hv, hn⟩ | ⟨g, cap, cur, hv, hb, hh, hn, hm, hs, ht⟩
  · refine ⟨none, 0, ?_, .inl (List.length_eq_zero_iff.1 hn), ?_, fun _ => List.length_eq_zero_iff.1 hn, by omega⟩
    · rw [hv, hn]
    · intro a ha; cases ha
  · subst hv
    refine ⟨some ⟨g, 0, none⟩, cap, rfl, .inr ⟨g, 0, rfl, ?_⟩, ?_, ?_, by omega⟩
    · intro i hi
      rw [Nat.zero_add, h.cellAt i (by omega)]
      simp [hi, byte]
    · intro a ha; cases ha; exact ⟨g, rfl, hb, lt_of_block hh⟩
    · intro hc; cases hc

theorem own_some {w : World} {base e size g n cap : Nat} {xs : List Value} (h : w.ownsRow base e size (.slice (some ⟨g, 0, none⟩) n cap) n xs) {j : Nat} (hj : j < n * size) : ∃ u, w.cell? ⟨g, j, none⟩ = some u := by
  rw [h.cellAt j hj]
  have := h.1
  exact ⟨xs[j]'(by omega), List.getElem?_eq_getElem _⟩

theorem RowAt.grown {w w' : World} {row : Option Nat} {ao : Option Addr} {bs : List UInt8} (h : RowAt w ao bs) (hg : w.grownBy w' row) (hne : ∀ a, ao = some a → row ≠ some a.block) : RowAt w' ao bs := by
  rcases h with rfl | ⟨b, off, rfl, hc⟩
  · exact .inl rfl
  · exact .inr ⟨b, off, rfl, fun i hi => hg.cell (hc i hi) (fun e => hne _ rfl e.symm)⟩

theorem RowAt.below {w w' : World} {ao : Option Addr} {bs : List UInt8} (h : RowAt w ao bs) (hb : Below w.heap.size w w') : RowAt w' ao bs := by
  rcases h with rfl | ⟨b, off, rfl, hc⟩
  · exact .inl rfl
  · exact .inr ⟨b, off, rfl, fun i hi => by rw [hb.cell (p := ⟨b, off + i, none⟩) (World.block_lt_of_cell? w _ (hc i hi))]; exact hc i hi⟩

theorem RowAt.drew1 {w : World} {ao : Option Addr} {bs : List UInt8} (h : RowAt w ao bs) : RowAt w.drew ao bs := h

theorem below_of_grown {w w' : World} (h : w.grownBy w' none) : Below w.heap.size w w' := ⟨h.os, h.tape, h.output, h.size, fun k hk => h.block k hk (by simp)⟩

theorem grown_of_below {w w' : World} (h : Below w.heap.size w w') (row : Option Nat) : w.grownBy w' row := ⟨h.os, h.tape, h.output, h.size, fun k hk _ => h.block k hk⟩

theorem grown_trans {a b c : World} {row : Option Nat} (h : a.grownBy b row) (k : b.grownBy c row) : a.grownBy c row :=
  ⟨k.os.trans h.os, k.tape.trans h.tape, k.output.trans h.output, Nat.le_trans h.size k.size, fun i hi hr => (k.block i (Nat.lt_of_lt_of_le hi h.size) hr).trans (h.block i hi hr)⟩

theorem Own.grown {w w' : World} {row : Option Nat} {base : Nat} {v : Value} {bs : List UInt8} (h : Own w base v bs) (hg : w.grownBy w' row) (hne : v.ownBlock = none ∨ v.ownBlock ≠ row) : Own w' base v bs := by
  obtain ⟨t, h⟩ := h
  exact ⟨t, World.ownsRow.kept h hg hne⟩

theorem ret_int {k : IntKind} {a b : Int} (h : a = b) : Ending.returned (.int k a) = .returned (.int k b) := by rw [h]

theorem take_snoc {α : Type} (l : List α) (k : Nat) (h : k < l.length) : l.take (k + 1) = l.take k ++ [l[k]] := by
  rw [List.take_succ_eq_append_getElem h]

end Go.Proofs.Ythjnalbgnjbdnaa
