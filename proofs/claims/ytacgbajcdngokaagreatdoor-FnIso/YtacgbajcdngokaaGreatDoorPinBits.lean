/-
  What the PIN blocks need of rows, words and sums.
-/
import Derived.Test.YtacgbajcdngokaaGreatDoorKeep
import Derived.Test.YtacgbajcdngokaaGreatDoorBlk
import Derived.Laws.CopyOwn
import Derived.WideShapes
import Derived.Deep.MidRow
namespace Go.Proofs.YtacgbajcdngokaaGreatDoor
open Go.RowKit

/-- A row of bytes that an append may go on with. -/
def OwnB (w : World) (base : Nat) (v : Value) (l : List UInt8) : Prop := w.ownsRow base 5 1 v l.length (l.map byte)
theorem OwnB.own {w : World} {base : Nat} {v : Value} {l : List UInt8} (h : OwnB w base v l) : Own w base v l := ⟨_, h⟩
theorem OwnB.below {w w' : World} {base : Nat} {v : Value} {l : List UInt8} (h : OwnB w base v l) (hb : Below w.heap.size w w') : OwnB w' base v l :=
  World.ownsRow.kept h (grown_of_below hb none) (by cases hv : v.ownBlock <;> simp)
theorem OwnB.mono {w : World} {B base : Nat} {v : Value} {l : List UInt8} (h : OwnB w base v l) (hB : B ≤ base) : OwnB w B v l := by
  refine ⟨h.1, ?_⟩
  rcases h.2 with h | ⟨g, cap, cur, hv, hb, r⟩
  · exact .inl h
  · exact .inr ⟨g, cap, cur, hv, by omega, r⟩
theorem own_at {w : World} {base n : Nat} {v : Value} {l : List UInt8} (h : OwnB w base v l) (hl : l.length = n) (h0 : 0 < n) : ∃ g cap, n ≤ cap ∧ v = .slice (some ⟨g, 0, none⟩) n cap ∧ RowAt w (some ⟨g, 0, none⟩) l := by
  subst hl
  obtain ⟨ao, cap, rfl, row, -⟩ := h.own.shape
  rcases h.2 with ⟨-, hn⟩ | ⟨g, cap', cur, hv, hb, hh, hn, hm, hs, ht⟩
  · omega
  · simp only [Value.slice.injEq, true_and] at hv
    obtain ⟨rfl, rfl⟩ := hv
    exact ⟨g, cap, hn, rfl, row⟩
theorem own_num {w : World} {base n : Nat} {v : Value} {l : List UInt8} (h : OwnB w base v l) (hn : l.length = n) : w.ownsRow base 5 1 v n (l.map byte) := by
  subst hn; exact h
theorem RowAt.take {w : World} {ao : Option Addr} {l : List UInt8} (h : RowAt w ao l) (n : Nat) : RowAt w ao (l.take n) := by
  rcases h with rfl | ⟨b, off, rfl, hc⟩
  · exact .inl (by simp)
  · refine .inr ⟨b, off, rfl, fun i hi => ?_⟩
    rw [List.length_take] at hi
    rw [hc i (by omega)]
    simp [show i < n by omega]
theorem RowAt.drop {w : World} {b off : Nat} {l : List UInt8} (h : RowAt w (some ⟨b, off, none⟩) l) (n : Nat) : RowAt w (some ⟨b, off + n, none⟩) (l.drop n) := by
  rcases h with rfl | ⟨b', off', e, hc⟩
  · exact .inl (by simp)
  · simp only [Option.some.injEq, Addr.mk.injEq, and_true] at e
    obtain ⟨rfl, rfl⟩ := e
    refine .inr ⟨b, off + n, rfl, fun i hi => ?_⟩
    rw [List.length_drop] at hi
    rw [Nat.add_assoc, hc (n + i) (by omega)]
    simp
theorem RowAt.blk {w : World} {g : Nat} {l : List UInt8} (h : RowAt w (some ⟨g, 0, none⟩) l) (h0 : 0 < l.length) : g < w.heap.size := by
  obtain ⟨b, off, e, hc⟩ := h.at h0
  simp only [Option.some.injEq, Addr.mk.injEq, and_true] at e
  obtain ⟨rfl, rfl⟩ := e
  exact RowAt.lt hc h0
theorem OwnB.low {w : World} {base : Nat} {v : Value} {l : List UInt8} (h : OwnB w base v l) : ∀ g, v.ownBlock = some g → base ≤ g := fun g hg => (h.lt g hg).1
def xorL (a b : List UInt8) : List UInt8 := List.zipWith (· ^^^ ·) a b
theorem xorL_length (a b : List UInt8) (h : a.length = b.length) : (xorL a b).length = a.length := by simp [xorL, h]
theorem xorL_get (a b : List UInt8) (i : Nat) (ha : i < a.length) (hb : i < b.length) : (xorL a b)[i]'(by simp [xorL]; omega) = a[i] ^^^ b[i] := by simp [xorL]
theorem byte_xor (x y : UInt8) : Value.int .u8 (bits BinOp.xor IntKind.u8 (x.toNat : Int) (y.toNat : Int)) = byte (x ^^^ y) := by
  unfold byte
  rw [u8_xor_nat _ _ x.toNat_lt y.toNat_lt, UInt8.toNat_xor]
theorem own_blk {w : World} {base e g n : Nat} {xs : List Value} (h : w.ownsRow base e 1 (.slice (some ⟨g, 0, none⟩) n n) n xs) : Blk w g e xs := by
  rcases h.2 with ⟨hv, -⟩ | ⟨g', cap, cur, hv, hb, hh, hn, hm, hs, ht⟩
  · cases hv
  · simp only [Value.slice.injEq, Option.some.injEq, Addr.mk.injEq, and_true, true_and] at hv
    obtain ⟨rfl, rfl⟩ := hv
    unfold Blk
    rw [hh, ← ht, List.take_of_length_le (by simp; omega)]
/-- A table of so many bytes: a row of a block. -/
theorem rowAt_block {w : World} {g : Nat} {bs : List UInt8} {t : TypeId} {fr : Nat × Nat} (h : w.heap[g]? = some (.cells (bs.map byte).toArray t fr)) : RowAt w (some ⟨g, 0, none⟩) bs := by
  refine .inr ⟨g, 0, rfl, fun i hi => ?_⟩
  rw [Nat.zero_add, cell_of_row w g i _ t fr h]
  simp [hi, byte]
/-- A word as eight bytes. -/
def blockN (word : Nat) : List UInt8 := (List.range 8).map fun i => UInt8.ofNat (word / 2 ^ (56 - 8 * i))
theorem blockN_length (word : Nat) : (blockN word).length = 8 := by simp [blockN]
theorem blockN_get (word i : Nat) (h : i < 8) : (blockN word)[i]'(by rw [blockN_length]; exact h) = UInt8.ofNat (word / 2 ^ (56 - 8 * i)) := by simp [blockN]
theorem part_length (bs : List UInt8) (k : Nat) (h : k ≤ bs.length) : (part bs k).length = bs.length := by simp [part]; omega
/-- What a hex digit counts. -/
def hexN (n : Nat) : Nat := if 65 ≤ n then n - 55 else (n + 208) % 256
/-- So many zeros of a kind: plain cells, not to be laid open. -/
def zerosOf (n : Nat) (k : IntKind) : List Value := List.replicate n (.int k 0)
theorem zerosOf_length (n : Nat) (k : IntKind) : (zerosOf n k).length = n := by simp [zerosOf]
theorem range_below {w w' : World} {b off : Nat} {cs : List Value} (h : w.rangeAt b off cs) (hb : Below w.heap.size w w') : w'.rangeAt b off cs := by
  intro j v hv
  rw [hb.cell (p := ⟨b, off + j, none⟩) (World.block_lt_of_cell? w _ (h j v hv))]
  exact h j v hv
def zeros8 (n : Nat) : List UInt8 := List.replicate n 0
theorem zeros8_cells (n : Nat) : zerosOf n .u8 = (zeros8 n).map byte := by simp [zerosOf, zeros8, byte]
theorem xorL_zeros (b : List UInt8) (n : Nat) (h : b.length = n) : xorL (zeros8 n) b = b := by
  apply List.ext_getElem
  · simp [xorL, zeros8, h]
  · intro i h1 h2
    simp [xorL, zeros8]
theorem xorL_comm (a b : List UInt8) : xorL a b = xorL b a := by
  unfold xorL
  rw [List.zipWith_comm]
  congr 1
  funext x y
  exact UInt8.xor_comm _ _
/-- The sum of the first k blocks. -/
def sumsL (n : Nat) (bl : List (List UInt8)) : Nat → List UInt8
  | 0 => zeros8 n
  | k + 1 => xorL (sumsL n bl k) (bl.getD k [])
theorem sumsL_length (n : Nat) (bl : List (List UInt8)) (hn : ∀ b ∈ bl, b.length = n) (k : Nat) (hk : k ≤ bl.length) : (sumsL n bl k).length = n := by
  induction k with
  | zero => simp [sumsL, zeros8]
  | succ k ih =>
    have h1 := ih (by omega)
    have h2 : (bl.getD k []).length = n := by
      have : bl.getD k [] = bl[k] := by simp [show k < bl.length from by omega]
      rw [this]; exact hn _ (List.getElem_mem _)
    show (xorL (sumsL n bl k) (bl.getD k [])).length = n
    rw [xorL_length _ _ (by omega), h1]
theorem sums_two (n : Nat) (a b : List UInt8) (ha : a.length = n) : sumsL n [a, b] 2 = xorL a b := by
  show xorL (xorL (zeros8 n) a) b = xorL a b
  rw [xorL_zeros a n ha]
/-- In the midst of a block: the first j are summed. -/
def mixL (a b : List UInt8) (j : Nat) : List UInt8 := (xorL a b).take j ++ a.drop j
theorem mixL_zero (a b : List UInt8) : mixL a b 0 = a := by simp [mixL]
theorem mixL_all (a b : List UInt8) (n : Nat) (ha : a.length = n) (hb : b.length = n) : mixL a b n = xorL a b := by
  unfold mixL
  rw [List.take_of_length_le (by rw [xorL_length _ _ (by omega)]; omega), List.drop_of_length_le (by omega), List.append_nil]
theorem mixL_length (a b : List UInt8) (j n : Nat) (ha : a.length = n) (hb : b.length = n) (hj : j ≤ n) : (mixL a b j).length = n := by
  unfold mixL
  rw [List.length_append, List.length_take, List.length_drop, xorL_length _ _ (by omega)]
  omega
theorem mixL_at (a b : List UInt8) (j n : Nat) (ha : a.length = n) (hb : b.length = n) (hj : j < n) : (mixL a b j)[j]? = some (a[j]'(by omega)) := by
  unfold mixL
  have hl : ((xorL a b).take j).length = j := by rw [List.length_take, xorL_length _ _ (by omega)]; omega
  rw [List.getElem?_append_right (by omega), hl, Nat.sub_self, List.getElem?_drop, Nat.add_zero, List.getElem?_eq_getElem]
theorem mixL_set (a b : List UInt8) (j n : Nat) (ha : a.length = n) (hb : b.length = n) (hj : j < n) : (mixL a b j).set j ((a[j]'(by omega)) ^^^ (b[j]'(by omega))) = mixL a b (j + 1) := by
  unfold mixL
  have hx : (xorL a b).length = n := by rw [xorL_length _ _ (by omega), ha]
  have hl : ((xorL a b).take j).length = j := by rw [List.length_take, hx]; omega
  rw [List.set_append_right _ _ (by omega), hl, Nat.sub_self, List.drop_eq_getElem_cons (show j < a.length by omega), List.set_cons_zero, take_snoc (xorL a b) j (by omega), xorL_get a b j (by omega) (by omega), List.append_assoc, List.singleton_append]
theorem blk_range {w : World} {g t : Nat} {a b c : List Value} (h : Blk w g t (a ++ b ++ c)) : w.rangeAt g a.length b := by
  intro j v hv
  have hj : j < b.length := (List.getElem?_eq_some_iff.1 hv).1
  have hl : a.length + j < (a ++ b ++ c).length := by simp; omega
  rw [h.cell (a.length + j) hl, ← List.getElem?_eq_getElem hl, List.append_assoc, List.getElem?_append_right (by omega), Nat.add_sub_cancel_left, List.getElem?_append_left hj, hv]
theorem blk_first {w : World} {g t : Nat} {a b : List Value} (h : Blk w g t (a ++ b)) : w.rangeAt g 0 a := blk_range (a := []) (b := a) (c := b) h
theorem blk_second {w : World} {g t n : Nat} {a b : List Value} (h : Blk w g t (a ++ b)) (hn : a.length = n) : w.rangeAt g n b := by
  subst hn
  exact blk_range (a := a) (b := b) (c := []) (by rw [List.append_nil]; exact h)
end Go.Proofs.YtacgbajcdngokaaGreatDoor
