/-
  Texts laid together: DesRev, DesCipher, DesTop.
-/
import Derived.Test.YtoajfbkblpaejaaDoorGrB
import Derived.Deep.MidRow
import Derived.Laws.Cover3
import Derived.Deep.DeepCutAuto
import Derived.Deep.RegionHeld3
/-
  slices.Reverse over sixteen words.
-/
namespace Go.Proofs.YtoajfbkblpaejaaDoor
open Go.RowKit

/-- The cells behind k exchanges. -/
def revAt (f : Nat → Value) (k i : Nat) : Value := if i < k ∨ 15 < i + k then f (15 - i) else f i
def revCells (f : Nat → Value) (k : Nat) : List Value := (List.range 16).map (revAt f k)
theorem revCells_length (f : Nat → Value) (k : Nat) : (revCells f k).length = 16 := by simp [revCells]
theorem revCells_get (f : Nat → Value) (k i : Nat) (h : i < 16) : (revCells f k)[i]'(by rw [revCells_length]; exact h) = revAt f k i := by simp [revCells]
theorem revCells_step (f : Nat → Value) (k : Nat) (h : k < 8) : ((revCells f k).set k (f (15 - k))).set (15 - k) (f k) = revCells f (k + 1) := by
  apply List.ext_getElem
  · simp [revCells]
  · intro i h1 h2
    rw [revCells_length] at h2
    rw [List.getElem_set, List.getElem_set, revCells_get f k i h2, revCells_get f (k + 1) i h2]
    unfold revAt
    by_cases e1 : 15 - k = i
    · rw [if_pos e1, if_pos (by omega), show 15 - i = k from by omega]
    · rw [if_neg e1]
      by_cases e2 : k = i
      · rw [if_pos e2, if_pos (by omega), e2]
      · rw [if_neg e2]
        by_cases e3 : i < k ∨ 15 < i + k
        · rw [if_pos e3, if_pos (by omega)]
        · rw [if_neg e3, if_neg (by omega)]

end Go.Proofs.YtoajfbkblpaejaaDoor

/-
  impl: encrypt, decrypt, direction, Des.
-/
namespace Go.Proofs.YtoajfbkblpaejaaDoor
open Go.RowKit

/-- Des of the program, with the round keys in their order, and turned round. -/
def encN (key block : List UInt8) : List UInt8 := runN (keyNums key) block
def decN (key block : List UInt8) : List UInt8 := runN (keyNums key).reverse block
theorem encN_length (key block : List UInt8) : (encN key block).length = 8 := runN_length _ _
theorem decN_length (key block : List UInt8) : (decN key block).length = 8 := runN_length _ _

theorem rev_cells (key : List UInt8) : ((List.range 16).map fun i => word64 (keyN key (15 - i))) = ((keyNums key).reverse).map word64 := by
  apply List.ext_getElem
  · simp [keyNums]
  · intro i h1 h2
    simp [keyNums]
theorem keyCells_words (key : List UInt8) : keyCells key = (List.range 16).map fun i => word64 (keyN key i) := by
  simp [keyCells, keyCell, word64]

end Go.Proofs.YtoajfbkblpaejaaDoor

/-
  impl.Des.
-/
namespace Go.Proofs.YtoajfbkblpaejaaDoor
open Go.RowKit

/-- What Des answers. -/
def desN (key block : List UInt8) (dec : Bool) : List UInt8 := if dec then decN key block else encN key block
theorem desN_length (key block : List UInt8) (dec : Bool) : (desN key block dec).length = 8 := by
  unfold desN; cases dec
  · exact encN_length _ _
  · exact decN_length _ _

/-- Eight cells from an address on. -/
structure Eight (w : World) (b off : Nat) (k0 k1 k2 k3 k4 k5 k6 k7 : UInt8) : Prop where
  c0 : w.cell? ⟨b, off, none⟩ = some (byte k0)
  c1 : w.cell? ⟨b, off + 1, none⟩ = some (byte k1)
  c2 : w.cell? ⟨b, off + 2, none⟩ = some (byte k2)
  c3 : w.cell? ⟨b, off + 3, none⟩ = some (byte k3)
  c4 : w.cell? ⟨b, off + 4, none⟩ = some (byte k4)
  c5 : w.cell? ⟨b, off + 5, none⟩ = some (byte k5)
  c6 : w.cell? ⟨b, off + 6, none⟩ = some (byte k6)
  c7 : w.cell? ⟨b, off + 7, none⟩ = some (byte k7)

theorem RowAt.eight {w : World} {ao : Option Addr} {k0 k1 k2 k3 k4 k5 k6 k7 : UInt8} (h : RowAt w ao [k0, k1, k2, k3, k4, k5, k6, k7]) :
    ∃ b off, ao = some ⟨b, off, none⟩ ∧ b < w.heap.size ∧ Eight w b off k0 k1 k2 k3 k4 k5 k6 k7 := by
  obtain ⟨b, off, rfl, hc⟩ := h.at (k := 0) (by simp)
  exact ⟨b, off, rfl, RowAt.lt hc (k := 0) (by simp), ⟨hc 0 (by simp), hc 1 (by simp), hc 2 (by simp), hc 3 (by simp), hc 4 (by simp), hc 5 (by simp), hc 6 (by simp), hc 7 (by simp)⟩⟩

theorem Eight.below {w w' : World} {b off : Nat} {k0 k1 k2 k3 k4 k5 k6 k7 : UInt8} {B : Nat} (h : Eight w b off k0 k1 k2 k3 k4 k5 k6 k7) (hb : Below B w w') (hl : b < B) : Eight w' b off k0 k1 k2 k3 k4 k5 k6 k7 :=
  ⟨(hb.cell (p := ⟨b, off, none⟩) hl).trans h.c0, (hb.cell (p := ⟨b, off + 1, none⟩) hl).trans h.c1, (hb.cell (p := ⟨b, off + 2, none⟩) hl).trans h.c2, (hb.cell (p := ⟨b, off + 3, none⟩) hl).trans h.c3,
   (hb.cell (p := ⟨b, off + 4, none⟩) hl).trans h.c4, (hb.cell (p := ⟨b, off + 5, none⟩) hl).trans h.c5, (hb.cell (p := ⟨b, off + 6, none⟩) hl).trans h.c6, (hb.cell (p := ⟨b, off + 7, none⟩) hl).trans h.c7⟩

theorem below_drew {B : Nat} {w w' : World} (h : Below B w.drew w') : Below B w w' := ⟨h.os, h.tape, h.output, h.size, h.block⟩

theorem Eight.alloc {w : World} {b off : Nat} {k0 k1 k2 k3 k4 k5 k6 k7 : UInt8} (h : Eight w b off k0 k1 k2 k3 k4 k5 k6 k7) (o : Obj) : Eight (w.alloc o) b off k0 k1 k2 k3 k4 k5 k6 k7 :=
  h.below ((Below.refl _ _).alloc (Nat.le_refl _) o) (World.block_lt_of_cell? w _ h.c0)

theorem Eight.drew1 {w : World} {b off : Nat} {k0 k1 k2 k3 k4 k5 k6 k7 : UInt8} (h : Eight w b off k0 k1 k2 k3 k4 k5 k6 k7) : Eight w.drew b off k0 k1 k2 k3 k4 k5 k6 k7 := ⟨h.c0, h.c1, h.c2, h.c3, h.c4, h.c5, h.c6, h.c7⟩

theorem Eight.setRow {w : World} {b off g : Nat} {cs : Array Value} {k0 k1 k2 k3 k4 k5 k6 k7 : UInt8} (h : Eight w b off k0 k1 k2 k3 k4 k5 k6 k7) (hne : ¬ b = g) :
    (w.setRow g cs).cell? ⟨b, off, none⟩ = some (byte k0) ∧ (w.setRow g cs).cell? ⟨b, off + 1, none⟩ = some (byte k1) ∧ (w.setRow g cs).cell? ⟨b, off + 2, none⟩ = some (byte k2) ∧ (w.setRow g cs).cell? ⟨b, off + 3, none⟩ = some (byte k3) ∧
    (w.setRow g cs).cell? ⟨b, off + 4, none⟩ = some (byte k4) ∧ (w.setRow g cs).cell? ⟨b, off + 5, none⟩ = some (byte k5) ∧ (w.setRow g cs).cell? ⟨b, off + 6, none⟩ = some (byte k6) ∧ (w.setRow g cs).cell? ⟨b, off + 7, none⟩ = some (byte k7) := by
  have e : ∀ o, (w.setRow g cs).cell? ⟨b, o, none⟩ = w.cell? ⟨b, o, none⟩ := fun o => cell_setRow_other w g cs ⟨b, o, none⟩ (by simpa using hne)
  exact ⟨(e _).trans h.c0, (e _).trans h.c1, (e _).trans h.c2, (e _).trans h.c3, (e _).trans h.c4, (e _).trans h.c5, (e _).trans h.c6, (e _).trans h.c7⟩
theorem eight_drew {w w1 : World} {b off : Nat} {k0 k1 k2 k3 k4 k5 k6 k7 : UInt8} (h : Eight w b off k0 k1 k2 k3 k4 k5 k6 k7) (hl : b < w.heap.size) (hb : Below w.drew.heap.size w.drew w1) : Eight w1 b off k0 k1 k2 k3 k4 k5 k6 k7 := h.drew1.below hb hl
theorem eight_alloc {w w1 : World} {o : Obj} {b off : Nat} {k0 k1 k2 k3 k4 k5 k6 k7 : UInt8} (h : Eight w b off k0 k1 k2 k3 k4 k5 k6 k7) (hl : b < w.heap.size) (hb : Below (w.alloc o).drew.heap.size (w.alloc o).drew w1) : Eight w1 b off k0 k1 k2 k3 k4 k5 k6 k7 :=
  (h.alloc o).drew1.below hb (Nat.lt_of_lt_of_le hl ((Below.refl _ _).alloc (Nat.le_refl _) o).size)
theorem own_of_blk {w : World} {g t base n : Nat} {bs : List UInt8} (h : Blk w g t (bs.map byte)) (hb : base ≤ g) (hn : bs.length = n) (hm : n ≤ maxLen) : Own w base (.slice (some ⟨g, 0, none⟩) n n) bs := by
  subst hn
  exact ⟨t, by simp, .inr ⟨g, bs.length, (bs.map byte).toArray, rfl, hb, h, Nat.le_refl _, hm, by simp, by rw [List.take_of_length_le (by simp)]⟩⟩

/-- What impl.Des answers, whatever it is given. -/
def desL (key block : List UInt8) (dec : Bool) : List UInt8 := if key.length = 8 ∧ block.length = 8 then desN key block dec else []

end Go.Proofs.YtoajfbkblpaejaaDoor
