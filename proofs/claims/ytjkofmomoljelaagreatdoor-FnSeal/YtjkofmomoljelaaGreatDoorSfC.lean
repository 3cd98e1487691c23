import Derived.Test.YtjkofmomoljelaaGreatDoorSfB
import Derived.Deep.MidRow
import Derived.Laws.Cover3
import Derived.Deep.DeepCutAuto
import Derived.Deep.RegionHeld3
import Derived.Laws.CopyOwn
import Derived.WideShapes
import Derived.Deep.AppendLies
/-
  slices.Reverse over sixteen words.
-/
namespace Go.Proofs.YtjkofmomoljelaaGreatDoor
open Go.RowKit
/-- The cells behind k exchanges. -/
def revAt (f : Nat → Value) (k i : Nat) : Value := if i < k ∨ 15 < i + k then f (15 - i) else f i
def revCells (f : Nat → Value) (k : Nat) : List Value := (List.range 16).map (revAt f k)
theorem revCells_length (f : Nat → Value) (k : Nat) : (revCells f k).length = 16 := by simp [revCells]
theorem revCells_get (f : Nat → Value) (k i : Nat) (h : i < 16) : (revCells f k)[i]'(by rw [revCells_length]; exact h) = revAt f k i := by simp [revCells]
theorem revCells_step (f : Nat → Value) (k : Nat) (h : k < 8) : ((revCells f k).set k (f (15 - k))).set (15 - k) (f k) = revCells f (k + 1) := by
  apply List.ext_getElem
  · simp [revCells]
  · intro i h1 h2
    rw [revCells_length] at h2
    rw [List.getElem_set, List.getElem_set, revCells_get f k i h2, revCells_get f (k + 1) i h2]
    unfold revAt
    by_cases e1 : 15 - k = i
    · rw [if_pos e1, if_pos (by omega), show 15 - i = k from by omega]
    · rw [if_neg e1]
      by_cases e2 : k = i
      · rw [if_pos e2, if_pos (by omega), e2]
      · rw [if_neg e2]
        by_cases e3 : i < k ∨ 15 < i + k
        · rw [if_pos e3, if_pos (by omega)]
        · rw [if_neg e3, if_neg (by omega)]
set_option maxHeartbeats 1000000 in
theorem reverse_any (g t : Nat) (f : Nat → Nat) (w : World) (hb : Blk w g t ((List.range 16).map fun i => word64 (f i))) :
    Calls Tryz.prog 142 #[.slice (some ⟨g, 0, none⟩) 16 16] w fun e w' => e = .returned (.tuple #[]) ∧ Blk w' g t ((List.range 16).map fun i => word64 (f (15 - i))) ∧ w.grownBy w' (some g) := by
  have h0 : Blk w g t (revCells (fun i => word64 (f i)) 0) := by
    have : revCells (fun i => word64 (f i)) 0 = (List.range 16).map fun i => word64 (f i) := by
      unfold revCells revAt
      apply List.map_congr_left
      intro i hi
      rw [List.mem_range] at hi
      rw [if_neg (by omega)]
    rw [this]; exact hb
  clear hb
  go_enter Tryz.func142, Tryz.ntmps142
  go_wp2
  go_loopw [2, 3] (fun i j wr => ∃ k : Nat, k ≤ 8 ∧ i = .int .i64 k ∧ j = .int .i64 ((15 : Int) - k) ∧ Blk wr g t (revCells (fun i => word64 (f i)) k) ∧ w.grownBy wr (some g)) (fun i _ _ => 8 - (intOf i).toNat)
  case atStart => exact ⟨0, Nat.zero_le _, rfl, rfl, h0, World.grownBy.refl _ _⟩
  case round =>
    clear h0
    obtain ⟨k, hk, rfl, rfl, hb, hg⟩ := hrel
    by_cases hlt : k < 8
    · obtain ⟨j, hj, hj16, Hj⟩ : ∃ j : Nat, ((15 : Int) - (k : Int)) = (j : Int) ∧ j < 16 ∧ Hid (j = 15 - k) := ⟨15 - k, by omega, by omega, rfl⟩
      have hkj : k < j := by have := Hj.out; omega
      have hk16 : k < 16 := by omega
      have ck : wr.cell? ⟨g, k, none⟩ = some (.int .u64 (f k : Nat)) := by
        rw [hb.cell k (by rw [revCells_length]; exact hk16), revCells_get _ _ _ hk16]; unfold revAt; rw [if_neg (by omega)]; rfl
      have cj : wr.cell? ⟨g, j, none⟩ = some (.int .u64 (f j : Nat)) := by
        rw [hb.cell j (by rw [revCells_length]; exact hj16), revCells_get _ _ _ hj16]; unfold revAt; rw [if_neg (by have := Hj.out; omega)]; rfl
      have fk := hb.free k
      have fj := hb.free j
      have hne : ¬ k = j := by omega
      have hne2 : ¬ j = k := by omega
      have hkI : (k : Int) < 16 := by omega
      have hjI : (j : Int) < 16 := by omega
      have hkjI : (k : Int) < (j : Int) := by omega
      have hst := (hb.set k (word64 (f j))).set j (word64 (f k))
      have hgr := grown_trans hg (grown_trans (b := wr.setCell ⟨g, k, none⟩ (word64 (f j))) ⟨rfl, rfl, rfl, by simp [World.setCell], fun i _ hi => heap_setCell_other wr _ i _ (fun e => hi (by simp [e]))⟩ (c := (wr.setCell ⟨g, k, none⟩ (word64 (f j))).setCell ⟨g, j, none⟩ (word64 (f k))) ⟨rfl, rfl, rfl, by simp [World.setCell], fun i _ hi => heap_setCell_other _ _ i _ (fun e => hi (by simp [e]))⟩)
      rw [hj]
      clear hj
      go_wp2
      go_region
      go_wp2
      go_roundw
      case rel =>
        have hs : ((revCells (fun i => word64 (f i)) k).set k (word64 (f j))).set j (word64 (f k)) = revCells (fun i => word64 (f i)) (k + 1) := by
          have := revCells_step (fun i => word64 (f i)) k hlt
          rw [← Hj.out] at this
          exact this
        rw [hs] at hst
        exact ⟨k + 1, by omega, by go_num, by have := Hj.out; go_num, hst, ⟨hgr.os, hgr.tape, hgr.output, hgr.size, hgr.block⟩⟩
      case measure => simp [intOf]; omega
    · obtain rfl : k = 8 := by omega
      go_wp2
      go_end0
      refine ⟨rfl, ?_, hg⟩
      have : revCells (fun i => word64 (f i)) 8 = (List.range 16).map fun i => word64 (f (15 - i)) := by
        unfold revCells revAt
        apply List.map_congr_left
        intro i hi
        rw [List.mem_range] at hi
        by_cases h : i < 8 ∨ 15 < i + 8
        · rw [if_pos h]
        · omega
      rw [← this]; exact hb
end Go.Proofs.YtjkofmomoljelaaGreatDoor
/-
  impl: encrypt, decrypt, direction, Des.
-/
namespace Go.Proofs.YtjkofmomoljelaaGreatDoor
open Go.RowKit
theorem cipher_round (key : List UInt8) (S : Nat) : (cipherCells key S)[16]? = some (.func (.func 166) #[] #[.pointer (some ⟨S, 0, none⟩)]) := by
  unfold cipherCells
  rw [List.getElem?_append_right (by rw [keyCells_length]; exact Nat.le_refl _), keyCells_length]
  rfl
theorem cipher_keys {w : World} {g t : Nat} {key : List UInt8} {S : Nat} (h : Blk w g t (cipherCells key S)) : w.rangeAt g 0 (keyCells key) := by
  intro j v hv
  have hj : j < (keyCells key).length := (List.getElem?_eq_some_iff.1 hv).1
  rw [Nat.zero_add, h.cell j (by rw [cipherCells_length]; rw [keyCells_length] at hj; omega)]
  have : (cipherCells key S)[j]? = some v := by unfold cipherCells; rw [List.getElem?_append_left hj]; exact hv
  rw [List.getElem?_eq_getElem (by rw [cipherCells_length]; rw [keyCells_length] at hj; omega)] at this
  exact this
/-- Des of the program, with the round keys in their order, and turned round. -/
def encN (key block : List UInt8) : List UInt8 := runN (keyNums key) block
def decN (key block : List UInt8) : List UInt8 := runN (keyNums key).reverse block
theorem encN_length (key block : List UInt8) : (encN key block).length = 8 := runN_length _ _
theorem decN_length (key block : List UInt8) : (decN key block).length = 8 := runN_length _ _
set_option maxHeartbeats 1000000 in
theorem encrypt_any (key block : List UInt8) (S : Nat) (w : World) (h8 : block.length = 8) (hS : Blk w S 228 mergedCells) :
    Calls Tryz.prog 113 #[.agg (cipherCells key S).toArray, .agg (block.map byte).toArray] w fun e w' => e = .returned (.agg ((encN key block).map byte).toArray) ∧ Below w.heap.size w w' := by
  have hz := (zero_of_info Tryz.zero190).1
  have hl : (block.map byte).length = 8 := by simp [h8]
  obtain ⟨W, hW⟩ : ∃ W, W = ((w.alloc (.cells (cipherCells key S).toArray 184)).alloc (.cells (block.map byte).toArray 190)).alloc (.cells (zerosOf 8 .u8).toArray 190) := ⟨_, rfl⟩
  have k0 : Blk W w.heap.size 184 (cipherCells key S) := by rw [hW]; exact ((Blk.new w _ _).alloc _).alloc _
  have k1 : Blk W (w.heap.size + 1) 190 (block.map byte) := by rw [hW]; exact (Blk.new2 w _ _ _).alloc _
  have k2 : Blk W (w.heap.size + 1 + 1) 190 (zerosOf 8 .u8) := by rw [hW]; exact Blk.newAt _ _ _ _ (by simp)
  have kS : Blk W S 228 mergedCells := by rw [hW]; exact ((hS.alloc _).alloc _).alloc _
  have bW : Below w.heap.size w W := by rw [hW]; exact (((Below.refl _ _).alloc (Nat.le_refl _) _).alloc (by simp) _).alloc (by simp; omega) _
  subst hW
  go_enter Tryz.func113, Tryz.ntmps113
  go_wp2_with (first
    | (refine load_blk rfl 184 _ rfl _ rfl k0 Tryz.underlying184 rfl (by rw [cipherCells_length]; kernel_rfl) ?_)
    | (refine load_blk rfl 190 _ rfl _ rfl k1 Tryz.underlying190 rfl (by rw [hl]; kernel_rfl) ?_)
    | (refine wpList_load_mid rfl 181 _ rfl w.heap.size 0 rfl (keyCells key) _ (cipher_keys k0) Tryz.underlying181 rfl (by rw [keyCells_length]; kernel_rfl) ?_)
    | (go_at_call 141; rw [keyCells_nums]; refine (run_any (cipherCells key S) block (keyNums key) S _ (cipherCells_length _ _) (cipher_round _ _) h8 (keyNums_length _) (keyNums_lt _) kS).mono ?_; rintro e w1 ⟨rfl, bel1⟩)
    | (refine store_blk rfl 190 _ _ rfl _ rfl rfl (k2.below bel1 k2.lt) (by rw [List.length_map, runN_length]; kernel_rfl) (by rw [List.length_map, runN_length]; exact zerosOf_length _ _) (allOne_bytes _) ?_; intro w2 hb2 hg2 hs2))
  have lW := bW.size
  exact bodyPost_ret (v := .agg ((encN key block).map byte).toArray) (results_blk Tryz.results113 _ _ rfl hb2 Tryz.underlying190 rfl (by rw [List.length_map, encN_length]; kernel_rfl)) rfl
    ⟨rfl, (bW.trans (bel1.mono lW)).grown hg2 (Nat.le_trans lW bel1.size) (by intro k hk; cases hk; omega)⟩
theorem rev_cells (key : List UInt8) : ((List.range 16).map fun i => word64 (keyN key (15 - i))) = ((keyNums key).reverse).map word64 := by
  apply List.ext_getElem
  · simp [keyNums]
  · intro i h1 h2
    simp [keyNums]
theorem keyCells_words (key : List UInt8) : keyCells key = (List.range 16).map fun i => word64 (keyN key i) := by
  simp [keyCells, keyCell, word64]
set_option maxHeartbeats 1000000 in
theorem decrypt_any (key block : List UInt8) (S : Nat) (w : World) (h8 : block.length = 8) (hS : Blk w S 228 mergedCells) :
    Calls Tryz.prog 115 #[.agg (cipherCells key S).toArray, .agg (block.map byte).toArray] w fun e w' => e = .returned (.agg ((decN key block).map byte).toArray) ∧ Below w.heap.size w w' := by
  have hz := (zero_of_info Tryz.zero190).1
  have hz2 := (zero_of_info Tryz.zero181).1
  have hl : (block.map byte).length = 8 := by simp [h8]
  obtain ⟨W, hW⟩ : ∃ W, W = ((w.alloc (.cells (cipherCells key S).toArray 184)).alloc (.cells (block.map byte).toArray 190)).alloc (.cells (zerosOf 8 .u8).toArray 190) := ⟨_, rfl⟩
  have k0 : Blk W w.heap.size 184 (cipherCells key S) := by rw [hW]; exact ((Blk.new w _ _).alloc _).alloc _
  have k1 : Blk W (w.heap.size + 1) 190 (block.map byte) := by rw [hW]; exact (Blk.new2 w _ _ _).alloc _
  have k2 : Blk W (w.heap.size + 1 + 1) 190 (zerosOf 8 .u8) := by rw [hW]; exact Blk.newAt _ _ _ _ (by simp)
  have kS : Blk W S 228 mergedCells := by rw [hW]; exact ((hS.alloc _).alloc _).alloc _
  have bW : Below w.heap.size w W := by rw [hW]; exact (((Below.refl _ _).alloc (Nat.le_refl _) _).alloc (by simp) _).alloc (by simp; omega) _
  have sW : W.heap.size = w.heap.size + 1 + 1 + 1 := by rw [hW]; simp
  subst hW
  have lS := hS.lt
  go_enter Tryz.func115, Tryz.ntmps115
  go_wp2_with (first
    | (refine wpList_load_mid rfl 181 _ rfl w.heap.size 0 rfl (keyCells key) _ (cipher_keys k0) Tryz.underlying181 rfl (by rw [keyCells_length]; kernel_rfl) ?_)
    | (refine store_blk rfl 181 _ _ rfl _ rfl rfl (Blk.newAt _ _ _ _ (by simp)) (by rw [keyCells_length]; kernel_rfl) (by rw [keyCells_length]; exact zerosOf_length _ _) (allOne_keys _) ?_; intro w2 hb2 hg2 hs2))
  have hb2' := hb2
  rw [keyCells_words] at hb2'
  refine (reverse_any _ _ (keyN key) _ hb2').mono ?_
  rintro e w3 ⟨rfl, hb3, hg3⟩
  rw [rev_cells] at hb3
  have s2 : w2.heap.size = w.heap.size + 1 + 1 + 1 + 1 := by rw [hs2]; simp
  have m0 := ((k0.alloc _).grown hg2 (by simp; omega)).grown hg3 (by simp; omega)
  have m1 := ((k1.alloc _).grown hg2 (by simp)).grown hg3 (by simp)
  have m2 := ((k2.alloc _).grown hg2 (by simp)).grown hg3 (by simp)
  have mS := ((kS.alloc _).grown hg2 (by simp; omega)).grown hg3 (by simp; omega)
  have b3 := ((bW.alloc bW.size _).grown hg2 (by simp; omega) (by intro k hk; cases hk; omega)).grown hg3 (by omega) (by intro k hk; cases hk; omega)
  have hrl : (((keyNums key).reverse).map word64).length = 16 := by simp [keyNums_length]
  clear hb2 hb2' k0 k1 k2 kS hg2 hg3 hs2 hz hz2 bW sW
  go_wp2_with (first
    | (refine load_blk rfl 184 _ rfl _ rfl m0 Tryz.underlying184 rfl (by rw [cipherCells_length]; kernel_rfl) ?_)
    | (refine load_blk rfl 190 _ rfl _ rfl m1 Tryz.underlying190 rfl (by rw [hl]; kernel_rfl) ?_)
    | (refine load_blk rfl 181 _ rfl _ rfl hb3 Tryz.underlying181 rfl (by rw [hrl]; kernel_rfl) ?_)
    | (go_at_call 141; refine (run_any (cipherCells key S) block (keyNums key).reverse S _ (cipherCells_length _ _) (cipher_round _ _) h8 (by rw [List.length_reverse]; exact keyNums_length _) (fun x hx => keyNums_lt key x (List.mem_reverse.1 hx)) mS).mono ?_; rintro e w4 ⟨rfl, bel4⟩)
    | (refine store_blk rfl 190 _ _ rfl _ rfl rfl (m2.below bel4 m2.lt) (by rw [List.length_map, runN_length]; kernel_rfl) (by rw [List.length_map, runN_length]; exact zerosOf_length _ _) (allOne_bytes _) ?_; intro w5 hb5 hg5 hs5))
  have l3 := b3.size
  exact bodyPost_ret (v := .agg ((decN key block).map byte).toArray) (results_blk Tryz.results115 _ _ rfl hb5 Tryz.underlying190 rfl (by rw [List.length_map, decN_length]; kernel_rfl)) rfl
    ⟨rfl, (b3.trans (bel4.mono l3)).grown hg5 (Nat.le_trans l3 bel4.size) (by intro k hk; cases hk; omega)⟩
end Go.Proofs.YtjkofmomoljelaaGreatDoor
/-
  impl.Des.
-/
namespace Go.Proofs.YtjkofmomoljelaaGreatDoor
open Go.RowKit
/-- Eight cells from an address on. -/
structure Eight (w : World) (b off : Nat) (k0 k1 k2 k3 k4 k5 k6 k7 : UInt8) : Prop where
  c0 : w.cell? ⟨b, off, none⟩ = some (byte k0)
  c1 : w.cell? ⟨b, off + 1, none⟩ = some (byte k1)
  c2 : w.cell? ⟨b, off + 2, none⟩ = some (byte k2)
  c3 : w.cell? ⟨b, off + 3, none⟩ = some (byte k3)
  c4 : w.cell? ⟨b, off + 4, none⟩ = some (byte k4)
  c5 : w.cell? ⟨b, off + 5, none⟩ = some (byte k5)
  c6 : w.cell? ⟨b, off + 6, none⟩ = some (byte k6)
  c7 : w.cell? ⟨b, off + 7, none⟩ = some (byte k7)
theorem RowAt.eight {w : World} {ao : Option Addr} {k0 k1 k2 k3 k4 k5 k6 k7 : UInt8} (h : RowAt w ao [k0, k1, k2, k3, k4, k5, k6, k7]) :
    ∃ b off, ao = some ⟨b, off, none⟩ ∧ b < w.heap.size ∧ Eight w b off k0 k1 k2 k3 k4 k5 k6 k7 := by
  obtain ⟨b, off, rfl, hc⟩ := h.at (k := 0) (by simp)
  exact ⟨b, off, rfl, RowAt.lt hc (k := 0) (by simp), ⟨hc 0 (by simp), hc 1 (by simp), hc 2 (by simp), hc 3 (by simp), hc 4 (by simp), hc 5 (by simp), hc 6 (by simp), hc 7 (by simp)⟩⟩
theorem Eight.below {w w' : World} {b off : Nat} {k0 k1 k2 k3 k4 k5 k6 k7 : UInt8} {B : Nat} (h : Eight w b off k0 k1 k2 k3 k4 k5 k6 k7) (hb : Below B w w') (hl : b < B) : Eight w' b off k0 k1 k2 k3 k4 k5 k6 k7 :=
  ⟨(hb.cell (p := ⟨b, off, none⟩) hl).trans h.c0, (hb.cell (p := ⟨b, off + 1, none⟩) hl).trans h.c1, (hb.cell (p := ⟨b, off + 2, none⟩) hl).trans h.c2, (hb.cell (p := ⟨b, off + 3, none⟩) hl).trans h.c3,
   (hb.cell (p := ⟨b, off + 4, none⟩) hl).trans h.c4, (hb.cell (p := ⟨b, off + 5, none⟩) hl).trans h.c5, (hb.cell (p := ⟨b, off + 6, none⟩) hl).trans h.c6, (hb.cell (p := ⟨b, off + 7, none⟩) hl).trans h.c7⟩
theorem below_drew {B : Nat} {w w' : World} (h : Below B w.drew w') : Below B w w' := ⟨h.os, h.tape, h.output, h.size, h.block⟩
theorem Eight.alloc {w : World} {b off : Nat} {k0 k1 k2 k3 k4 k5 k6 k7 : UInt8} (h : Eight w b off k0 k1 k2 k3 k4 k5 k6 k7) (o : Obj) : Eight (w.alloc o) b off k0 k1 k2 k3 k4 k5 k6 k7 :=
  h.below ((Below.refl _ _).alloc (Nat.le_refl _) o) (World.block_lt_of_cell? w _ h.c0)
theorem Eight.drew1 {w : World} {b off : Nat} {k0 k1 k2 k3 k4 k5 k6 k7 : UInt8} (h : Eight w b off k0 k1 k2 k3 k4 k5 k6 k7) : Eight w.drew b off k0 k1 k2 k3 k4 k5 k6 k7 := ⟨h.c0, h.c1, h.c2, h.c3, h.c4, h.c5, h.c6, h.c7⟩
theorem Eight.setRow {w : World} {b off g : Nat} {cs : Array Value} {k0 k1 k2 k3 k4 k5 k6 k7 : UInt8} (h : Eight w b off k0 k1 k2 k3 k4 k5 k6 k7) (hne : ¬ b = g) :
    (w.setRow g cs).cell? ⟨b, off, none⟩ = some (byte k0) ∧ (w.setRow g cs).cell? ⟨b, off + 1, none⟩ = some (byte k1) ∧ (w.setRow g cs).cell? ⟨b, off + 2, none⟩ = some (byte k2) ∧ (w.setRow g cs).cell? ⟨b, off + 3, none⟩ = some (byte k3) ∧
    (w.setRow g cs).cell? ⟨b, off + 4, none⟩ = some (byte k4) ∧ (w.setRow g cs).cell? ⟨b, off + 5, none⟩ = some (byte k5) ∧ (w.setRow g cs).cell? ⟨b, off + 6, none⟩ = some (byte k6) ∧ (w.setRow g cs).cell? ⟨b, off + 7, none⟩ = some (byte k7) := by
  have e : ∀ o, (w.setRow g cs).cell? ⟨b, o, none⟩ = w.cell? ⟨b, o, none⟩ := fun o => cell_setRow_other w g cs ⟨b, o, none⟩ (by simpa using hne)
  exact ⟨(e _).trans h.c0, (e _).trans h.c1, (e _).trans h.c2, (e _).trans h.c3, (e _).trans h.c4, (e _).trans h.c5, (e _).trans h.c6, (e _).trans h.c7⟩
theorem own_of_blk {w : World} {g t base n : Nat} {bs : List UInt8} (h : Blk w g t (bs.map byte)) (hb : base ≤ g) (hn : bs.length = n) (hm : n ≤ maxLen) : Own w base (.slice (some ⟨g, 0, none⟩) n n) bs := by
  subst hn
  exact ⟨t, by simp, .inr ⟨g, bs.length, (bs.map byte).toArray, rfl, hb, h, Nat.le_refl _, hm, by simp, by rw [List.take_of_length_le (by simp)]⟩⟩
end Go.Proofs.YtjkofmomoljelaaGreatDoor
/-
  spec: tables of numbers, bits of bytes.
-/
namespace Go.Proofs.YtjkofmomoljelaaGreatDoor
open Go.RowKit
def num (n : Nat) : Value := .int .i64 (n : Int)
/-- From the address on lie these ints. -/
def RowI (w : World) (ao : Option Addr) (ns : List Nat) : Prop :=
  ns = [] ∨ ∃ b off, ao = some ⟨b, off, none⟩ ∧ ∀ i, i < ns.length → w.cell? ⟨b, off + i, none⟩ = some (.int .i64 ((ns.getD i 0 : Nat) : Int))
theorem RowI.at {w : World} {ao : Option Addr} {ns : List Nat} (h : RowI w ao ns) {k : Nat} (hk : k < ns.length) :
    ∃ b off, ao = some ⟨b, off, none⟩ ∧ ∀ i, i < ns.length → w.cell? ⟨b, off + i, none⟩ = some (.int .i64 ((ns.getD i 0 : Nat) : Int)) := by
  rcases h with rfl | h
  · simp at hk
  · exact h
theorem RowI.lt {w : World} {b off : Nat} {ns : List Nat} (h : ∀ i, i < ns.length → w.cell? ⟨b, off + i, none⟩ = some (.int .i64 ((ns.getD i 0 : Nat) : Int))) {k : Nat} (hk : k < ns.length) : b < w.heap.size :=
  World.block_lt_of_cell? w _ (h k hk)
theorem RowI.below {w w' : World} {ao : Option Addr} {ns : List Nat} (h : RowI w ao ns) (hb : Below w.heap.size w w') : RowI w' ao ns := by
  rcases h with rfl | ⟨b, off, rfl, hc⟩
  · exact .inl rfl
  · exact .inr ⟨b, off, rfl, fun i hi => by rw [hb.cell (p := ⟨b, off + i, none⟩) (RowI.lt hc hi)]; exact hc i hi⟩
def OwnI (w : World) (base : Nat) (v : Value) (ns : List Nat) : Prop := w.ownsRow base 3 1 v ns.length (ns.map num)
theorem OwnI.shape {w : World} {base : Nat} {v : Value} {ns : List Nat} (h : OwnI w base v ns) : ∃ ao cap, v = .slice ao ns.length cap ∧ RowI w ao ns := by
  rcases h.2 with ⟨hv, hn⟩ | ⟨g, cap, cur, hv, hb, hh, hn, hm, hs, ht⟩
  · exact ⟨none, 0, by rw [hv, hn], .inl (List.length_eq_zero_iff.1 hn)⟩
  · subst hv
    refine ⟨some ⟨g, 0, none⟩, cap, rfl, .inr ⟨g, 0, rfl, ?_⟩⟩
    intro i hi
    have h' : w.ownsRow base 3 1 (.slice (some ⟨g, 0, none⟩) ns.length cap) ns.length (ns.map num) := h
    rw [Nat.zero_add, h'.cellAt i (by omega)]
    simp [hi, num]
end Go.Proofs.YtjkofmomoljelaaGreatDoor
/-
  spec: l1Bits, l1Pick.
-/
namespace Go.Proofs.YtjkofmomoljelaaGreatDoor
open Go.RowKit
/-- A row of bytes that an append may go on with. -/
def OwnB (w : World) (base : Nat) (v : Value) (l : List UInt8) : Prop := w.ownsRow base 5 1 v l.length (l.map byte)
theorem OwnB.own {w : World} {base : Nat} {v : Value} {l : List UInt8} (h : OwnB w base v l) : Own w base v l := ⟨_, h⟩
end Go.Proofs.YtjkofmomoljelaaGreatDoor
/-
  spec: l1IP, l1E.
-/
namespace Go.Proofs.YtjkofmomoljelaaGreatDoor
open Go.RowKit
end Go.Proofs.YtjkofmomoljelaaGreatDoor
/-
  spec: l1Xor, l1Bytes, l1Hex.
-/
namespace Go.Proofs.YtjkofmomoljelaaGreatDoor
open Go.RowKit
def xorL (a b : List UInt8) : List UInt8 := List.zipWith (· ^^^ ·) a b
theorem xorL_length (a b : List UInt8) (h : a.length = b.length) : (xorL a b).length = a.length := by simp [xorL, h]
theorem xorL_get (a b : List UInt8) (i : Nat) (ha : i < a.length) (hb : i < b.length) : (xorL a b)[i]'(by simp [xorL]; omega) = a[i] ^^^ b[i] := by simp [xorL]
theorem byte_xor (x y : UInt8) : Value.int .u8 (bits BinOp.xor IntKind.u8 (x.toNat : Int) (y.toNat : Int)) = byte (x ^^^ y) := by
  unfold byte
  rw [u8_xor_nat _ _ x.toNat_lt y.toNat_lt, UInt8.toNat_xor]
theorem own_blk {w : World} {base e g n : Nat} {xs : List Value} (h : w.ownsRow base e 1 (.slice (some ⟨g, 0, none⟩) n n) n xs) : Blk w g e xs := by
  rcases h.2 with ⟨hv, -⟩ | ⟨g', cap, cur, hv, hb, hh, hn, hm, hs, ht⟩
  · cases hv
  · simp only [Value.slice.injEq, Option.some.injEq, Addr.mk.injEq, and_true, true_and] at hv
    obtain ⟨rfl, rfl⟩ := hv
    unfold Blk
    rw [hh, ← ht, List.take_of_length_le (by simp; omega)]
theorem blk_own {w : World} {base g : Nat} {l : List UInt8} (h : Blk w g 5 (l.map byte)) (hb : base ≤ g) (hm : l.length ≤ maxLen) : OwnB w base (.slice (some ⟨g, 0, none⟩) l.length l.length) l :=
  ⟨by simp, .inr ⟨g, l.length, (l.map byte).toArray, rfl, hb, h, Nat.le_refl _, hm, by simp, by rw [List.take_of_length_le (by simp)]⟩⟩
end Go.Proofs.YtjkofmomoljelaaGreatDoor
/-
  spec: l1Box, l1Round.
-/
namespace Go.Proofs.YtjkofmomoljelaaGreatDoor
open Go.RowKit
end Go.Proofs.YtjkofmomoljelaaGreatDoor
/-
  spec: l1Round.
-/
namespace Go.Proofs.YtjkofmomoljelaaGreatDoor
open Go.RowKit
def isBits (l : List UInt8) : Prop := ∀ b ∈ l, b.toNat ≤ 1
/-- Bits, the highest first, as a number. -/
def valN (l : List UInt8) : Nat := l.foldl (fun t b => 2 * t + b.toNat) 0
theorem OwnB.below {w w' : World} {base : Nat} {v : Value} {l : List UInt8} (h : OwnB w base v l) (hb : Below w.heap.size w w') : OwnB w' base v l :=
  World.ownsRow.kept h (grown_of_below hb none) (by cases hv : v.ownBlock <;> simp)
theorem OwnB.mono {w : World} {B base : Nat} {v : Value} {l : List UInt8} (h : OwnB w base v l) (hB : B ≤ base) : OwnB w B v l := by
  refine ⟨h.1, ?_⟩
  rcases h.2 with h | ⟨g, cap, cur, hv, hb, r⟩
  · exact .inl h
  · exact .inr ⟨g, cap, cur, hv, by omega, r⟩
end Go.Proofs.YtjkofmomoljelaaGreatDoor
/-
  spec: l1Keys.
-/
namespace Go.Proofs.YtjkofmomoljelaaGreatDoor
open Go.RowKit
theorem RowAt.drop {w : World} {b off : Nat} {l : List UInt8} (h : RowAt w (some ⟨b, off, none⟩) l) (n : Nat) : RowAt w (some ⟨b, off + n, none⟩) (l.drop n) := by
  rcases h with rfl | ⟨b', off', e, hc⟩
  · exact .inl (by simp)
  · simp only [Option.some.injEq, Addr.mk.injEq, and_true] at e
    obtain ⟨rfl, rfl⟩ := e
    refine .inr ⟨b, off + n, rfl, fun i hi => ?_⟩
    rw [List.length_drop] at hi
    rw [Nat.add_assoc, hc (n + i) (by omega)]
    simp
theorem RowAt.take {w : World} {ao : Option Addr} {l : List UInt8} (h : RowAt w ao l) (n : Nat) : RowAt w ao (l.take n) := by
  rcases h with rfl | ⟨b, off, rfl, hc⟩
  · exact .inl (by simp)
  · refine .inr ⟨b, off, rfl, fun i hi => ?_⟩
    rw [List.length_take] at hi
    rw [hc i (by omega)]
    simp [show i < n by omega]
theorem RowAt.news {w : World} {b off : Nat} {l : List UInt8} (h : RowAt w (some ⟨b, off, none⟩) l) : ∀ j u, (l.map byte)[j]? = some u → w.cell? ((⟨b, off, none⟩ : Addr).add j) = some u := by
  intro j u hj
  have hl : j < l.length := by simpa using (List.getElem?_eq_some_iff.1 hj).1
  obtain ⟨b', off', e, hc⟩ := h.at hl
  simp only [Option.some.injEq, Addr.mk.injEq, and_true] at e
  obtain ⟨rfl, rfl⟩ := e
  rw [Go.WideShapes.add_plain, hc j hl, ← hj]
  simp [hl, byte]
theorem OwnB.low {w : World} {base : Nat} {v : Value} {l : List UInt8} (h : OwnB w base v l) : ∀ g, v.ownBlock = some g → base ≤ g := fun g hg => (h.lt g hg).1
theorem RowAt.blk {w : World} {g : Nat} {l : List UInt8} (h : RowAt w (some ⟨g, 0, none⟩) l) (h0 : 0 < l.length) : g < w.heap.size := by
  obtain ⟨b, off, e, hc⟩ := h.at h0
  simp only [Option.some.injEq, Addr.mk.injEq, and_true] at e
  obtain ⟨rfl, rfl⟩ := e
  exact RowAt.lt hc h0
end Go.Proofs.YtjkofmomoljelaaGreatDoor
/-
  spec: l1Unbits.
-/
namespace Go.Proofs.YtjkofmomoljelaaGreatDoor
open Go.RowKit
theorem valN_lt (l : List UInt8) (h : isBits l) : valN l < 2 ^ l.length := by
  have : ∀ t, l.foldl (fun t b => 2 * t + b.toNat) t < (t + 1) * 2 ^ l.length := by
    induction l with
    | nil => intro t; simp
    | cons c l ih =>
      intro t
      have hc := h c (by simp)
      have hh := ih (fun b hb => h b (by simp [hb])) (2 * t + c.toNat)
      simp only [List.foldl_cons, List.length_cons]
      refine Nat.lt_of_lt_of_le hh ?_
      rw [Nat.pow_succ, Nat.mul_comm (2 ^ l.length) 2, ← Nat.mul_assoc]
      exact Nat.mul_le_mul_right _ (by omega)
  simpa [valN] using this 0
/-- The bits of byte j among the first i. -/
def seg (l : List UInt8) (i j : Nat) : List UInt8 := ((l.take i).drop (8 * j)).take 8
def cellU (l : List UInt8) (i j : Nat) : UInt8 := UInt8.ofNat (valN (seg l i j))
def cellsU (l : List UInt8) (i : Nat) : List UInt8 := (List.range (l.length / 8)).map (cellU l i)
def unbitsL (l : List UInt8) : List UInt8 := cellsU l l.length
theorem cellsU_length (l : List UInt8) (i : Nat) : (cellsU l i).length = l.length / 8 := by simp [cellsU]
end Go.Proofs.YtjkofmomoljelaaGreatDoor
/-
  spec: Des.
-/
namespace Go.Proofs.YtjkofmomoljelaaGreatDoor
open Go.RowKit
end Go.Proofs.YtjkofmomoljelaaGreatDoor
