/-
  Texts laid together: DesRev, DesCipher, DesTop, TdeaCells, TdeaNew.
-/
import Derived.Test.YtoiemdjfeplmiaaGdB
import Derived.Deep.MidRow
import Derived.Laws.Cover3
import Derived.Deep.DeepCutAuto
import Derived.Deep.RegionHeld3
/-
  slices.Reverse over sixteen words.
-/
namespace Go.Proofs.Ytoiemdjfeplmiaa
open Go.RowKit

/-- The cells behind k exchanges. -/
def revAt (f : Nat → Value) (k i : Nat) : Value := if i < k ∨ 15 < i + k then f (15 - i) else f i
def revCells (f : Nat → Value) (k : Nat) : List Value := (List.range 16).map (revAt f k)
theorem revCells_length (f : Nat → Value) (k : Nat) : (revCells f k).length = 16 := by simp [revCells]
theorem revCells_get (f : Nat → Value) (k i : Nat) (h : i < 16) : (revCells f k)[i]'(by rw [revCells_length]; exact h) = revAt f k i := by simp [revCells]
theorem revCells_step (f : Nat → Value) (k : Nat) (h : k < 8) : ((revCells f k).set k (f (15 - k))).set (15 - k) (f k) = revCells f (k + 1) := by
  apply List.ext_getElem
  · simp [revCells]
  · intro i h1 h2
    rw [revCells_length] at h2
    rw [List.getElem_set, List.getElem_set, revCells_get f k i h2, revCells_get f (k + 1) i h2]
    unfold revAt
    by_cases e1 : 15 - k = i
    · rw [if_pos e1, if_pos (by omega), show 15 - i = k from by omega]
    · rw [if_neg e1]
      by_cases e2 : k = i
      · rw [if_pos e2, if_pos (by omega), e2]
      · rw [if_neg e2]
        by_cases e3 : i < k ∨ 15 < i + k
        · rw [if_pos e3, if_pos (by omega)]
        · rw [if_neg e3, if_neg (by omega)]

set_option maxHeartbeats 1000000 in
theorem reverse_any (g t : Nat) (f : Nat → Nat) (w : World) (hb : Blk w g t ((List.range 16).map fun i => word64 (f i))) :
    Calls Try.prog 82 #[.slice (some ⟨g, 0, none⟩) 16 16] w fun e w' => e = .returned (.tuple #[]) ∧ Blk w' g t ((List.range 16).map fun i => word64 (f (15 - i))) ∧ w.grownBy w' (some g) := by
  have h0 : Blk w g t (revCells (fun i => word64 (f i)) 0) := by
    have : revCells (fun i => word64 (f i)) 0 = (List.range 16).map fun i => word64 (f i) := by
      unfold revCells revAt
      apply List.map_congr_left
      intro i hi
      rw [List.mem_range] at hi
      rw [if_neg (by omega)]
    rw [this]; exact hb
  clear hb
  go_enter Try.func82, Try.ntmps82
  go_wp2
  go_loopw [2, 3] (fun i j wr => ∃ k : Nat, k ≤ 8 ∧ i = .int .i64 k ∧ j = .int .i64 ((15 : Int) - k) ∧ Blk wr g t (revCells (fun i => word64 (f i)) k) ∧ w.grownBy wr (some g)) (fun i _ _ => 8 - (intOf i).toNat)
  case atStart => exact ⟨0, Nat.zero_le _, rfl, rfl, h0, World.grownBy.refl _ _⟩
  case round =>
    clear h0
    obtain ⟨k, hk, rfl, rfl, hb, hg⟩ := hrel
    by_cases hlt : k < 8
    · obtain ⟨j, hj, hj16, Hj⟩ : ∃ j : Nat, ((15 : Int) - (k : Int)) = (j : Int) ∧ j < 16 ∧ Hid (j = 15 - k) := ⟨15 - k, by omega, by omega, rfl⟩
      have hkj : k < j := by have := Hj.out; omega
      have hk16 : k < 16 := by omega
      have ck : wr.cell? ⟨g, k, none⟩ = some (.int .u64 (f k : Nat)) := by
        rw [hb.cell k (by rw [revCells_length]; exact hk16), revCells_get _ _ _ hk16]; unfold revAt; rw [if_neg (by omega)]; rfl
      have cj : wr.cell? ⟨g, j, none⟩ = some (.int .u64 (f j : Nat)) := by
        rw [hb.cell j (by rw [revCells_length]; exact hj16), revCells_get _ _ _ hj16]; unfold revAt; rw [if_neg (by have := Hj.out; omega)]; rfl
      have fk := hb.free k
      have fj := hb.free j
      have hne : ¬ k = j := by omega
      have hne2 : ¬ j = k := by omega
      have hkI : (k : Int) < 16 := by omega
      have hjI : (j : Int) < 16 := by omega
      have hkjI : (k : Int) < (j : Int) := by omega
      have hst := (hb.set k (word64 (f j))).set j (word64 (f k))
      have hgr := grown_trans hg (grown_trans (b := wr.setCell ⟨g, k, none⟩ (word64 (f j))) ⟨rfl, rfl, rfl, by simp [World.setCell], fun i _ hi => heap_setCell_other wr _ i _ (fun e => hi (by simp [e]))⟩ (c := (wr.setCell ⟨g, k, none⟩ (word64 (f j))).setCell ⟨g, j, none⟩ (word64 (f k))) ⟨rfl, rfl, rfl, by simp [World.setCell], fun i _ hi => heap_setCell_other _ _ i _ (fun e => hi (by simp [e]))⟩)
      rw [hj]
      clear hj
      go_wp2
      go_region
      go_wp2
      go_roundw
      case rel =>
        have hs : ((revCells (fun i => word64 (f i)) k).set k (word64 (f j))).set j (word64 (f k)) = revCells (fun i => word64 (f i)) (k + 1) := by
          have := revCells_step (fun i => word64 (f i)) k hlt
          rw [← Hj.out] at this
          exact this
        rw [hs] at hst
        exact ⟨k + 1, by omega, by go_num, by have := Hj.out; go_num, hst, ⟨hgr.os, hgr.tape, hgr.output, hgr.size, hgr.block⟩⟩
      case measure => simp [intOf]; omega
    · obtain rfl : k = 8 := by omega
      go_wp2
      go_end0
      refine ⟨rfl, ?_, hg⟩
      have : revCells (fun i => word64 (f i)) 8 = (List.range 16).map fun i => word64 (f (15 - i)) := by
        unfold revCells revAt
        apply List.map_congr_left
        intro i hi
        rw [List.mem_range] at hi
        by_cases h : i < 8 ∨ 15 < i + 8
        · rw [if_pos h]
        · omega
      rw [← this]; exact hb
end Go.Proofs.Ytoiemdjfeplmiaa

/-
  impl: encrypt, decrypt, direction, Des.
-/
namespace Go.Proofs.Ytoiemdjfeplmiaa
open Go.RowKit

theorem cipher_round (key : List UInt8) (S : Nat) : (cipherCells key S)[16]? = some (.func (.func 79) #[] #[.pointer (some ⟨S, 0, none⟩)]) := by
  unfold cipherCells
  rw [List.getElem?_append_right (by rw [keyCells_length]; exact Nat.le_refl _), keyCells_length]
  rfl
theorem cipher_keys {w : World} {g t : Nat} {key : List UInt8} {S : Nat} (h : Blk w g t (cipherCells key S)) : w.rangeAt g 0 (keyCells key) := by
  intro j v hv
  have hj : j < (keyCells key).length := (List.getElem?_eq_some_iff.1 hv).1
  rw [Nat.zero_add, h.cell j (by rw [cipherCells_length]; rw [keyCells_length] at hj; omega)]
  have : (cipherCells key S)[j]? = some v := by unfold cipherCells; rw [List.getElem?_append_left hj]; exact hv
  rw [List.getElem?_eq_getElem (by rw [cipherCells_length]; rw [keyCells_length] at hj; omega)] at this
  exact this

/-- Des of the program, with the round keys in their order, and turned round. -/
def encN (key block : List UInt8) : List UInt8 := runN (keyNums key) block
def decN (key block : List UInt8) : List UInt8 := runN (keyNums key).reverse block
theorem encN_length (key block : List UInt8) : (encN key block).length = 8 := runN_length _ _
theorem decN_length (key block : List UInt8) : (decN key block).length = 8 := runN_length _ _

set_option maxHeartbeats 1000000 in
theorem encrypt_any (key block : List UInt8) (S : Nat) (w : World) (h8 : block.length = 8) (hS : Blk w S 86 mergedCells) :
    Calls Try.prog 47 #[.agg (cipherCells key S).toArray, .agg (block.map byte).toArray] w fun e w' => e = .returned (.agg ((encN key block).map byte).toArray) ∧ Below w.heap.size w w' := by
  have hz := (zero_of_info Try.zero40).1
  have hl : (block.map byte).length = 8 := by simp [h8]
  obtain ⟨W, hW⟩ : ∃ W, W = ((w.alloc (.cells (cipherCells key S).toArray 48)).alloc (.cells (block.map byte).toArray 40)).alloc (.cells (zerosOf 8 .u8).toArray 40) := ⟨_, rfl⟩
  have k0 : Blk W w.heap.size 48 (cipherCells key S) := by rw [hW]; exact ((Blk.new w _ _).alloc _).alloc _
  have k1 : Blk W (w.heap.size + 1) 40 (block.map byte) := by rw [hW]; exact (Blk.new2 w _ _ _).alloc _
  have k2 : Blk W (w.heap.size + 1 + 1) 40 (zerosOf 8 .u8) := by rw [hW]; exact Blk.newAt _ _ _ _ (by simp)
  have kS : Blk W S 86 mergedCells := by rw [hW]; exact ((hS.alloc _).alloc _).alloc _
  have bW : Below w.heap.size w W := by rw [hW]; exact (((Below.refl _ _).alloc (Nat.le_refl _) _).alloc (by simp) _).alloc (by simp; omega) _
  subst hW
  go_enter Try.func47, Try.ntmps47
  go_wp2_with (first
    | (refine load_blk rfl 48 _ rfl _ rfl k0 Try.underlying48 rfl (by rw [cipherCells_length]; kernel_rfl) ?_)
    | (refine load_blk rfl 40 _ rfl _ rfl k1 Try.underlying40 rfl (by rw [hl]; kernel_rfl) ?_)
    | (refine wpList_load_mid rfl 45 _ rfl w.heap.size 0 rfl (keyCells key) _ (cipher_keys k0) Try.underlying45 rfl (by rw [keyCells_length]; kernel_rfl) ?_)
    | (go_at_call 81; rw [keyCells_nums]; refine (run_any (cipherCells key S) block (keyNums key) S _ (cipherCells_length _ _) (cipher_round _ _) h8 (keyNums_length _) (keyNums_lt _) kS).mono ?_; rintro e w1 ⟨rfl, bel1⟩)
    | (refine store_blk rfl 40 _ _ rfl _ rfl rfl (k2.below bel1 k2.lt) (by rw [List.length_map, runN_length]; kernel_rfl) (by rw [List.length_map, runN_length]; exact zerosOf_length _ _) (allOne_bytes _) ?_; intro w2 hb2 hg2 hs2))
  have lW := bW.size
  exact bodyPost_ret (v := .agg ((encN key block).map byte).toArray) (results_blk Try.results47 _ _ rfl hb2 Try.underlying40 rfl (by rw [List.length_map, encN_length]; kernel_rfl)) rfl
    ⟨rfl, (bW.trans (bel1.mono lW)).grown hg2 (Nat.le_trans lW bel1.size) (by intro k hk; cases hk; omega)⟩

theorem rev_cells (key : List UInt8) : ((List.range 16).map fun i => word64 (keyN key (15 - i))) = ((keyNums key).reverse).map word64 := by
  apply List.ext_getElem
  · simp [keyNums]
  · intro i h1 h2
    simp [keyNums]
theorem keyCells_words (key : List UInt8) : keyCells key = (List.range 16).map fun i => word64 (keyN key i) := by
  simp [keyCells, keyCell, word64]

set_option maxHeartbeats 1000000 in
theorem decrypt_any (key block : List UInt8) (S : Nat) (w : World) (h8 : block.length = 8) (hS : Blk w S 86 mergedCells) :
    Calls Try.prog 48 #[.agg (cipherCells key S).toArray, .agg (block.map byte).toArray] w fun e w' => e = .returned (.agg ((decN key block).map byte).toArray) ∧ Below w.heap.size w w' := by
  have hz := (zero_of_info Try.zero40).1
  have hz2 := (zero_of_info Try.zero45).1
  have hl : (block.map byte).length = 8 := by simp [h8]
  obtain ⟨W, hW⟩ : ∃ W, W = ((w.alloc (.cells (cipherCells key S).toArray 48)).alloc (.cells (block.map byte).toArray 40)).alloc (.cells (zerosOf 8 .u8).toArray 40) := ⟨_, rfl⟩
  have k0 : Blk W w.heap.size 48 (cipherCells key S) := by rw [hW]; exact ((Blk.new w _ _).alloc _).alloc _
  have k1 : Blk W (w.heap.size + 1) 40 (block.map byte) := by rw [hW]; exact (Blk.new2 w _ _ _).alloc _
  have k2 : Blk W (w.heap.size + 1 + 1) 40 (zerosOf 8 .u8) := by rw [hW]; exact Blk.newAt _ _ _ _ (by simp)
  have kS : Blk W S 86 mergedCells := by rw [hW]; exact ((hS.alloc _).alloc _).alloc _
  have bW : Below w.heap.size w W := by rw [hW]; exact (((Below.refl _ _).alloc (Nat.le_refl _) _).alloc (by simp) _).alloc (by simp; omega) _
  have sW : W.heap.size = w.heap.size + 1 + 1 + 1 := by rw [hW]; simp
  subst hW
  have lS := hS.lt
  go_enter Try.func48, Try.ntmps48
  go_wp2_with (first
    | (refine wpList_load_mid rfl 45 _ rfl w.heap.size 0 rfl (keyCells key) _ (cipher_keys k0) Try.underlying45 rfl (by rw [keyCells_length]; kernel_rfl) ?_)
    | (refine store_blk rfl 45 _ _ rfl _ rfl rfl (Blk.newAt _ _ _ _ (by simp)) (by rw [keyCells_length]; kernel_rfl) (by rw [keyCells_length]; exact zerosOf_length _ _) (allOne_keys _) ?_; intro w2 hb2 hg2 hs2))
  have hb2' := hb2
  rw [keyCells_words] at hb2'
  refine (reverse_any _ _ (keyN key) _ hb2').mono ?_
  rintro e w3 ⟨rfl, hb3, hg3⟩
  rw [rev_cells] at hb3
  have s2 : w2.heap.size = w.heap.size + 1 + 1 + 1 + 1 := by rw [hs2]; simp
  have m0 := ((k0.alloc _).grown hg2 (by simp; omega)).grown hg3 (by simp; omega)
  have m1 := ((k1.alloc _).grown hg2 (by simp)).grown hg3 (by simp)
  have m2 := ((k2.alloc _).grown hg2 (by simp)).grown hg3 (by simp)
  have mS := ((kS.alloc _).grown hg2 (by simp; omega)).grown hg3 (by simp; omega)
  have b3 := ((bW.alloc bW.size _).grown hg2 (by simp; omega) (by intro k hk; cases hk; omega)).grown hg3 (by omega) (by intro k hk; cases hk; omega)
  have hrl : (((keyNums key).reverse).map word64).length = 16 := by simp [keyNums_length]
  clear hb2 hb2' k0 k1 k2 kS hg2 hg3 hs2 hz hz2 bW sW
  go_wp2_with (first
    | (refine load_blk rfl 48 _ rfl _ rfl m0 Try.underlying48 rfl (by rw [cipherCells_length]; kernel_rfl) ?_)
    | (refine load_blk rfl 40 _ rfl _ rfl m1 Try.underlying40 rfl (by rw [hl]; kernel_rfl) ?_)
    | (refine load_blk rfl 45 _ rfl _ rfl hb3 Try.underlying45 rfl (by rw [hrl]; kernel_rfl) ?_)
    | (go_at_call 81; refine (run_any (cipherCells key S) block (keyNums key).reverse S _ (cipherCells_length _ _) (cipher_round _ _) h8 (by rw [List.length_reverse]; exact keyNums_length _) (fun x hx => keyNums_lt key x (List.mem_reverse.1 hx)) mS).mono ?_; rintro e w4 ⟨rfl, bel4⟩)
    | (refine store_blk rfl 40 _ _ rfl _ rfl rfl (m2.below bel4 m2.lt) (by rw [List.length_map, runN_length]; kernel_rfl) (by rw [List.length_map, runN_length]; exact zerosOf_length _ _) (allOne_bytes _) ?_; intro w5 hb5 hg5 hs5))
  have l3 := b3.size
  exact bodyPost_ret (v := .agg ((decN key block).map byte).toArray) (results_blk Try.results48 _ _ rfl hb5 Try.underlying40 rfl (by rw [List.length_map, decN_length]; kernel_rfl)) rfl
    ⟨rfl, (b3.trans (bel4.mono l3)).grown hg5 (Nat.le_trans l3 bel4.size) (by intro k hk; cases hk; omega)⟩

set_option maxHeartbeats 400000 in
theorem direction_any (a b : Value) (dec : Bool) (w : World) :
    Calls Try.prog 46 #[a, b, .bool dec] w fun e w' => e = .returned (if dec then b else a) ∧ w' = w := by
  cases dec
  all_goals
    go_enter Try.func46, Try.ntmps46
    go_wp2
    go_ret
    exact ⟨rfl, rfl⟩
end Go.Proofs.Ytoiemdjfeplmiaa

/-
  impl.Des.
-/
namespace Go.Proofs.Ytoiemdjfeplmiaa
open Go.RowKit

/-- What Des answers. -/
def desN (key block : List UInt8) (dec : Bool) : List UInt8 := if dec then decN key block else encN key block
theorem desN_length (key block : List UInt8) (dec : Bool) : (desN key block dec).length = 8 := by
  unfold desN; cases dec
  · exact encN_length _ _
  · exact decN_length _ _

/-- Eight cells from an address on. -/
structure Eight (w : World) (b off : Nat) (k0 k1 k2 k3 k4 k5 k6 k7 : UInt8) : Prop where
  c0 : w.cell? ⟨b, off, none⟩ = some (byte k0)
  c1 : w.cell? ⟨b, off + 1, none⟩ = some (byte k1)
  c2 : w.cell? ⟨b, off + 2, none⟩ = some (byte k2)
  c3 : w.cell? ⟨b, off + 3, none⟩ = some (byte k3)
  c4 : w.cell? ⟨b, off + 4, none⟩ = some (byte k4)
  c5 : w.cell? ⟨b, off + 5, none⟩ = some (byte k5)
  c6 : w.cell? ⟨b, off + 6, none⟩ = some (byte k6)
  c7 : w.cell? ⟨b, off + 7, none⟩ = some (byte k7)

theorem RowAt.eight {w : World} {ao : Option Addr} {k0 k1 k2 k3 k4 k5 k6 k7 : UInt8} (h : RowAt w ao [k0, k1, k2, k3, k4, k5, k6, k7]) :
    ∃ b off, ao = some ⟨b, off, none⟩ ∧ b < w.heap.size ∧ Eight w b off k0 k1 k2 k3 k4 k5 k6 k7 := by
  obtain ⟨b, off, rfl, hc⟩ := h.at (k := 0) (by simp)
  exact ⟨b, off, rfl, RowAt.lt hc (k := 0) (by simp), ⟨hc 0 (by simp), hc 1 (by simp), hc 2 (by simp), hc 3 (by simp), hc 4 (by simp), hc 5 (by simp), hc 6 (by simp), hc 7 (by simp)⟩⟩

theorem Eight.below {w w' : World} {b off : Nat} {k0 k1 k2 k3 k4 k5 k6 k7 : UInt8} {B : Nat} (h : Eight w b off k0 k1 k2 k3 k4 k5 k6 k7) (hb : Below B w w') (hl : b < B) : Eight w' b off k0 k1 k2 k3 k4 k5 k6 k7 :=
  ⟨(hb.cell (p := ⟨b, off, none⟩) hl).trans h.c0, (hb.cell (p := ⟨b, off + 1, none⟩) hl).trans h.c1, (hb.cell (p := ⟨b, off + 2, none⟩) hl).trans h.c2, (hb.cell (p := ⟨b, off + 3, none⟩) hl).trans h.c3,
   (hb.cell (p := ⟨b, off + 4, none⟩) hl).trans h.c4, (hb.cell (p := ⟨b, off + 5, none⟩) hl).trans h.c5, (hb.cell (p := ⟨b, off + 6, none⟩) hl).trans h.c6, (hb.cell (p := ⟨b, off + 7, none⟩) hl).trans h.c7⟩

theorem store_cipher (key : List UInt8) (S : Nat) (w : World) : (storeCells ⟨w.heap.size, 0, none⟩ (cipherCells key S) 0).run Try.prog (w.alloc (.cells zeroCipher.toArray 48)) = .ok () (w.alloc (.cells (cipherCells key S).toArray 48)) :=
  run_storeCells_new (P := Try.prog) w 48 zeroCipher.toArray (cipherCells key S).toArray (by rw [List.size_toArray, cipherCells_length]; kernel_rfl) (by rw [List.size_toArray, List.size_toArray, cipherCells_length]; rfl) (allOne_cipher key S)

theorem store_cipher_at (key : List UInt8) (S : Nat) {w : World} {g t : Nat} (h : Blk w g t zeroCipher) : (storeCells ⟨g, 0, none⟩ (cipherCells key S) 0).run Try.prog w = .ok () (w.setRow g (cipherCells key S).toArray) := by
  have := run_storeCells_from (P := Try.prog) g t (cipherCells key S) 0 zeroCipher.toArray w h (by rw [cipherCells_length]; rfl) (fun v hv => (Array.all_eq_true_iff_forall_mem.1 (allOne_cipher key S)) v (by simpa using hv))
  simpa using this

/-- What the statement that makes the cipher leaves. -/
structure Made (w wx : World) (key : List UInt8) (G S : Nat) : Prop where
  cipher : Blk wx G 48 (cipherCells key S)
  boxes : Blk wx S 86 mergedCells
  below : Below w.heap.size w wx

theorem below_drew {B : Nat} {w w' : World} (h : Below B w.drew w') : Below B w w' := ⟨h.os, h.tape, h.output, h.size, h.block⟩

theorem made_last {w w1 w2 : World} {key : List UInt8} {S : Nat} (hS : Blk w1 S 86 mergedCells) (b1 : Below w.heap.size w w1) (b2 : Below w1.heap.size w1 w2) : Made w (w2.alloc (.cells (cipherCells key S).toArray 48)) key w2.heap.size S :=
  ⟨Blk.new w2 _ _, (hS.below b2 hS.lt).alloc _, (b1.trans (b2.mono b1.size)).alloc (Nat.le_trans b1.size b2.size) _⟩

theorem made_at {w w2 : World} {key : List UInt8} {G S : Nat} (hS : Blk w2 S 86 mergedCells) (hG : Blk w2 G 48 zeroCipher) (hne : S ≠ G) (hl : w.heap.size ≤ G) (b : Below w.heap.size w w2) : Made w (w2.setRow G (cipherCells key S).toArray) key G S :=
  ⟨Blk.setRow hG _, by unfold Blk; rw [setRow_other w2 G S _ hne]; exact hS, below_setRow' b hl _⟩

theorem Eight.alloc {w : World} {b off : Nat} {k0 k1 k2 k3 k4 k5 k6 k7 : UInt8} (h : Eight w b off k0 k1 k2 k3 k4 k5 k6 k7) (o : Obj) : Eight (w.alloc o) b off k0 k1 k2 k3 k4 k5 k6 k7 :=
  h.below ((Below.refl _ _).alloc (Nat.le_refl _) o) (World.block_lt_of_cell? w _ h.c0)

theorem Eight.drew1 {w : World} {b off : Nat} {k0 k1 k2 k3 k4 k5 k6 k7 : UInt8} (h : Eight w b off k0 k1 k2 k3 k4 k5 k6 k7) : Eight w.drew b off k0 k1 k2 k3 k4 k5 k6 k7 := ⟨h.c0, h.c1, h.c2, h.c3, h.c4, h.c5, h.c6, h.c7⟩

theorem made_mid {w w1 w2 : World} {key : List UInt8} {S : Nat} (hS : Blk w1 S 86 mergedCells) (b1 : Below w.drew.heap.size w.drew w1) (b2 : Below (w1.alloc (.cells zeroCipher.toArray 48)).heap.size (w1.alloc (.cells zeroCipher.toArray 48)) w2) : Made w (w2.setRow w1.heap.size (cipherCells key S).toArray) key w1.heap.size S := by
  have b1' : Below w.heap.size w w1 := below_drew b1
  have hS2 : Blk (w1.alloc (.cells zeroCipher.toArray 48)) S 86 mergedCells := hS.alloc _
  have b3 : Below w.heap.size w (w1.alloc (.cells zeroCipher.toArray 48)) := b1'.alloc b1'.size _
  exact made_at (hS2.below b2 hS2.lt) (Blk.below (Blk.new w1 48 zeroCipher.toArray) b2 (Blk.lt (Blk.new w1 48 zeroCipher.toArray))) (Nat.ne_of_lt hS.lt) b1'.size (b3.trans (b2.mono b3.size))

theorem made_first {w w1 w2 : World} {key : List UInt8} {S : Nat} (hS1 : (w.alloc (.cells zeroCipher.toArray 48)).drew.heap.size ≤ S) (hS : Blk w1 S 86 mergedCells) (b1 : Below (w.alloc (.cells zeroCipher.toArray 48)).drew.heap.size (w.alloc (.cells zeroCipher.toArray 48)).drew w1) (b2 : Below w1.heap.size w1 w2) : Made w (w2.setRow w.heap.size (cipherCells key S).toArray) key w.heap.size S := by
  have b0 : Below w.heap.size w (w.alloc (.cells zeroCipher.toArray 48)) := (Below.refl _ _).alloc (Nat.le_refl _) _
  have b1' : Below (w.alloc (.cells zeroCipher.toArray 48)).heap.size (w.alloc (.cells zeroCipher.toArray 48)) w1 := below_drew b1
  have b3 := b0.trans (b1'.mono b0.size)
  have hG1 : Blk w1 w.heap.size 48 zeroCipher := Blk.below (Blk.new w 48 zeroCipher.toArray) b1' (Blk.lt (Blk.new w 48 zeroCipher.toArray))
  have hS1' : w.heap.size + 1 ≤ S := by
    have e : (w.alloc (.cells zeroCipher.toArray 48)).drew.heap.size = w.heap.size + 1 := World.size_alloc ..
    omega
  exact made_at (hS.below b2 hS.lt) (hG1.below b2 hG1.lt) (by omega) (Nat.le_refl _) (b3.trans (b2.mono b3.size))

theorem Eight.setRow {w : World} {b off g : Nat} {cs : Array Value} {k0 k1 k2 k3 k4 k5 k6 k7 : UInt8} (h : Eight w b off k0 k1 k2 k3 k4 k5 k6 k7) (hne : ¬ b = g) :
    (w.setRow g cs).cell? ⟨b, off, none⟩ = some (byte k0) ∧ (w.setRow g cs).cell? ⟨b, off + 1, none⟩ = some (byte k1) ∧ (w.setRow g cs).cell? ⟨b, off + 2, none⟩ = some (byte k2) ∧ (w.setRow g cs).cell? ⟨b, off + 3, none⟩ = some (byte k3) ∧
    (w.setRow g cs).cell? ⟨b, off + 4, none⟩ = some (byte k4) ∧ (w.setRow g cs).cell? ⟨b, off + 5, none⟩ = some (byte k5) ∧ (w.setRow g cs).cell? ⟨b, off + 6, none⟩ = some (byte k6) ∧ (w.setRow g cs).cell? ⟨b, off + 7, none⟩ = some (byte k7) := by
  have e : ∀ o, (w.setRow g cs).cell? ⟨b, o, none⟩ = w.cell? ⟨b, o, none⟩ := fun o => cell_setRow_other w g cs ⟨b, o, none⟩ (by simpa using hne)
  exact ⟨(e _).trans h.c0, (e _).trans h.c1, (e _).trans h.c2, (e _).trans h.c3, (e _).trans h.c4, (e _).trans h.c5, (e _).trans h.c6, (e _).trans h.c7⟩
theorem eight_drew {w w1 : World} {b off : Nat} {k0 k1 k2 k3 k4 k5 k6 k7 : UInt8} (h : Eight w b off k0 k1 k2 k3 k4 k5 k6 k7) (hl : b < w.heap.size) (hb : Below w.drew.heap.size w.drew w1) : Eight w1 b off k0 k1 k2 k3 k4 k5 k6 k7 := h.drew1.below hb hl
theorem eight_alloc {w w1 : World} {o : Obj} {b off : Nat} {k0 k1 k2 k3 k4 k5 k6 k7 : UInt8} (h : Eight w b off k0 k1 k2 k3 k4 k5 k6 k7) (hl : b < w.heap.size) (hb : Below (w.alloc o).drew.heap.size (w.alloc o).drew w1) : Eight w1 b off k0 k1 k2 k3 k4 k5 k6 k7 :=
  (h.alloc o).drew1.below hb (Nat.lt_of_lt_of_le hl ((Below.refl _ _).alloc (Nat.le_refl _) o).size)
theorem zero_first {w w1 w2 : World} (hb : Below (w.alloc (.cells zeroCipher.toArray 48)).drew.heap.size (w.alloc (.cells zeroCipher.toArray 48)).drew w1) (hb2 : Below w1.heap.size w1 w2) : Blk w2 w.heap.size 48 zeroCipher := by
  have h1 : Blk w1 w.heap.size 48 zeroCipher := Blk.below (Blk.drew1 (Blk.new w 48 zeroCipher.toArray)) hb (Blk.lt (Blk.new w 48 zeroCipher.toArray))
  exact h1.below hb2 h1.lt
theorem zero_mid {w1 w2 : World} (hb2 : Below (w1.alloc (.cells zeroCipher.toArray 48)).heap.size (w1.alloc (.cells zeroCipher.toArray 48)) w2) : Blk w2 w1.heap.size 48 zeroCipher :=
  Blk.below (Blk.new w1 48 zeroCipher.toArray) hb2 (Blk.lt (Blk.new w1 48 zeroCipher.toArray))

theorem own_of_blk {w : World} {g t base n : Nat} {bs : List UInt8} (h : Blk w g t (bs.map byte)) (hb : base ≤ g) (hn : bs.length = n) (hm : n ≤ maxLen) : Own w base (.slice (some ⟨g, 0, none⟩) n n) bs := by
  subst hn
  exact ⟨t, by simp, .inr ⟨g, bs.length, (bs.map byte).toArray, rfl, hb, h, Nat.le_refl _, hm, by simp, by rw [List.take_of_length_le (by simp)]⟩⟩

set_option maxRecDepth 100000 in
set_option maxHeartbeats 2000000 in
theorem des_lit (k0 k1 k2 k3 k4 k5 k6 k7 b0 b1 b2 b3 b4 b5 b6 b7 : UInt8) (kb ko bb bo ck cb : Nat) (dec : Bool) (w : World) (hkl : kb < w.heap.size) (hbl : bb < w.heap.size) (hk : Eight w kb ko k0 k1 k2 k3 k4 k5 k6 k7) (hb : Eight w bb bo b0 b1 b2 b3 b4 b5 b6 b7) :
    Calls Try.prog 24 #[.slice (some ⟨kb, ko, none⟩) 8 ck, .slice (some ⟨bb, bo, none⟩) 8 cb, .bool dec] w fun e w' =>
      ∃ v, e = .returned v ∧ Own w' w.heap.size v (desN [k0, k1, k2, k3, k4, k5, k6, k7] [b0, b1, b2, b3, b4, b5, b6, b7] dec) ∧ Below w.heap.size w w' := by
  have hz := (zero_of_info Try.zero48).1
  have hz2 := (zero_of_info Try.zero40).1
  obtain ⟨c0, c1, c2, c3, c4, c5, c6, c7⟩ := hk
  have hk : Eight w kb ko k0 k1 k2 k3 k4 k5 k6 k7 := ⟨c0, c1, c2, c3, c4, c5, c6, c7⟩
  have har := fun c (wx : World) => run_arrayAt (P := Try.prog) (w := wx) 40 5 8 (some ⟨kb, ko, none⟩) 8 c Try.underlying40 (Nat.le_refl _)
  have har2 := fun c (wx : World) => run_arrayAt (P := Try.prog) (w := wx) 40 5 8 (some ⟨bb, bo, none⟩) 8 c Try.underlying40 (Nat.le_refl _)
  go_enter Try.func24, Try.ntmps24
  have hkne : ¬ kb = w.heap.size := by omega
  have hkne2 : ¬ w.heap.size = kb := by omega
  go_upto_region 3 with fail
  go_cut [7] (fun p wx => ∃ G S, p = .pointer (some ⟨G, 0, none⟩) ∧ Made w wx [k0, k1, k2, k3, k4, k5, k6, k7] G S)
  case first =>
    go_region_held3 (fun w' => w'.cell? ⟨kb, ko, none⟩ = some (byte k0) ∧ w'.cell? ⟨kb, ko + 1, none⟩ = some (byte k1) ∧ w'.cell? ⟨kb, ko + 2, none⟩ = some (byte k2) ∧ w'.cell? ⟨kb, ko + 3, none⟩ = some (byte k3) ∧ w'.cell? ⟨kb, ko + 4, none⟩ = some (byte k4) ∧ w'.cell? ⟨kb, ko + 5, none⟩ = some (byte k5) ∧ w'.cell? ⟨kb, ko + 6, none⟩ = some (byte k6) ∧ w'.cell? ⟨kb, ko + 7, none⟩ = some (byte k7)) (first | exact ⟨p0, p1, p2, p3, p4, p5, p6, p7⟩ | exact ⟨q0, q1, q2, q3, q4, q5, q6, q7⟩ | exact Eight.setRow hF hkn1 | exact Eight.setRow hF hkne | go_keep)
      (first
      | (go_at_call 45; refine (newRound_any _).mono ?_; rintro e w1 ⟨S, rfl, hS1, hS2, bel1⟩; have hE : Eight w1 kb ko k0 k1 k2 k3 k4 k5 k6 k7 := (by first | exact eight_drew hk hkl bel1 | exact eight_alloc hk hkl bel1); obtain ⟨q0, q1, q2, q3, q4, q5, q6, q7⟩ := id hE; have hl1 : kb < w1.heap.size := (World.block_lt_of_cell? w1 _ q0); have hkn1 : ¬ kb = w1.heap.size := (by omega); have hkn2 : ¬ w1.heap.size = kb := (by omega))
      | (go_at_call 44; refine (newDes_any [k0, k1, k2, k3, k4, k5, k6, k7] S _ rfl).mono ?_; rintro e w2 ⟨rfl, bel2⟩; have hF : Eight w2 kb ko k0 k1 k2 k3 k4 k5 k6 k7 := (by first | exact hE.below bel2 hl1 | exact (hE.alloc _).below bel2 (Nat.lt_of_lt_of_le hl1 ((Below.refl _ _).alloc (Nat.le_refl _) _).size)); obtain ⟨p0, p1, p2, p3, p4, p5, p6, p7⟩ := id hF; have hl2 : kb < w2.heap.size := (World.block_lt_of_cell? w2 _ p0); have hkn3 : ¬ kb = w2.heap.size := (by omega); have hkn4 : ¬ w2.heap.size = kb := (by omega); have hcl := cipherCells_length [k0, k1, k2, k3, k4, k5, k6, k7] S; first | (have hZ := zero_mid bel2; have hst := store_cipher_at [k0, k1, k2, k3, k4, k5, k6, k7] S hZ) | (have hZ := zero_first bel1 bel2; have hst := store_cipher_at [k0, k1, k2, k3, k4, k5, k6, k7] S hZ) | (have hst := store_cipher [k0, k1, k2, k3, k4, k5, k6, k7] S w2)))
    all_goals
      go_wp2_with fail
      go_meet
      case rel => first | exact ⟨_, _, rfl, made_last hS2 (below_drew bel1) bel2⟩ | exact ⟨_, _, rfl, made_mid hS2 bel1 bel2⟩ | exact ⟨_, _, rfl, made_first hS1 hS2 bel1 bel2⟩
  case rest =>
    obtain ⟨G, S, rfl, hM⟩ := hcut
    obtain ⟨e0, e1, e2, e3, e4, e5, e6, e7⟩ := hb.below hM.below hbl
    have m1 := hM.cipher
    have m2 := hM.boxes
    have m3 := hM.below
    clear c0 c1 c2 c3 c4 c5 c6 c7 hk hb hM
    have hcl := cipherCells_length [k0, k1, k2, k3, k4, k5, k6, k7] S
    cases dec
    · go_wp2_with (first
        | (refine load_blk rfl 48 _ rfl _ rfl m1 Try.underlying48 rfl (by rw [hcl]; kernel_rfl) ?_)
        | (go_at_call 46; refine (direction_any _ _ false _).mono ?_; rintro e wd ⟨rfl, rfl⟩)
        | (go_at_call 47; refine (encrypt_any [k0, k1, k2, k3, k4, k5, k6, k7] [b0, b1, b2, b3, b4, b5, b6, b7] S _ rfl m2).mono ?_; rintro e w5 ⟨rfl, bel5⟩)
        | (refine store_blk rfl 40 _ _ rfl _ rfl rfl (Blk.new w5 _ _) (by rw [List.length_map, encN_length]; kernel_rfl) (by rw [List.length_map, encN_length]; exact zerosOf_length _ _) (allOne_bytes _) ?_; intro w6 hb6 hg6 hs6))
      go_ret
      have l3 := m3.size
      have l5 := bel5.size
      exact ⟨_, rfl, own_of_blk hb6 (by omega) (encN_length _ _) (by unfold maxLen; omega), ((m3.trans (bel5.mono l3)).alloc (by omega) _).grown hg6 (by simp; omega) (by intro k hk; cases hk; omega)⟩
    · go_wp2_with (first
        | (refine load_blk rfl 48 _ rfl _ rfl m1 Try.underlying48 rfl (by rw [hcl]; kernel_rfl) ?_)
        | (go_at_call 46; refine (direction_any _ _ true _).mono ?_; rintro e wd ⟨rfl, rfl⟩)
        | (go_at_call 48; refine (decrypt_any [k0, k1, k2, k3, k4, k5, k6, k7] [b0, b1, b2, b3, b4, b5, b6, b7] S _ rfl m2).mono ?_; rintro e w5 ⟨rfl, bel5⟩)
        | (refine store_blk rfl 40 _ _ rfl _ rfl rfl (Blk.new w5 _ _) (by rw [List.length_map, decN_length]; kernel_rfl) (by rw [List.length_map, decN_length]; exact zerosOf_length _ _) (allOne_bytes _) ?_; intro w6 hb6 hg6 hs6))
      go_ret
      have l3 := m3.size
      have l5 := bel5.size
      exact ⟨_, rfl, own_of_blk hb6 (by omega) (decN_length _ _) (by unfold maxLen; omega), ((m3.trans (bel5.mono l3)).alloc (by omega) _).grown hg6 (by simp; omega) (by intro k hk; cases hk; omega)⟩

theorem des_ok (key block : List UInt8) (ak ab : Option Addr) (ck cb : Nat) (dec : Bool) (w : World) (hk8 : key.length = 8) (hb8 : block.length = 8) (rk : RowAt w ak key) (rb : RowAt w ab block) :
    Calls Try.prog 24 #[.slice ak key.length ck, .slice ab block.length cb, .bool dec] w fun e w' =>
      ∃ v, e = .returned v ∧ Own w' w.heap.size v (desN key block dec) ∧ Below w.heap.size w w' := by
  obtain ⟨k0, k1, k2, k3, k4, k5, k6, k7, rfl⟩ := eight key hk8
  obtain ⟨b0, b1, b2, b3, b4, b5, b6, b7, rfl⟩ := eight block hb8
  obtain ⟨kb, ko, rfl, hkl, hk⟩ := rk.eight
  obtain ⟨bb, bo, rfl, hbl, hb⟩ := rb.eight
  exact des_lit k0 k1 k2 k3 k4 k5 k6 k7 b0 b1 b2 b3 b4 b5 b6 b7 kb ko bb bo ck cb dec w hkl hbl hk hb

set_option maxHeartbeats 400000 in
theorem des_wrong (n m : Nat) (ak ab : Option Addr) (ck cb : Nat) (dec : Bool) (w : World) (hn : n ≤ 1048576) (_hm : m ≤ 1048576) (h : ¬ (n = 8 ∧ m = 8)) :
    Calls Try.prog 24 #[.slice ak n ck, .slice ab m cb, .bool dec] w fun e w' => e = .returned (.slice none 0 0) ∧ w' = w := by
  by_cases h1 : n = 8
  · have h2 : ((m : Int) != 8) = true := by rw [bne_iff_ne]; omega
    subst h1
    go_enter Try.func24, Try.ntmps24
    go_wp2
    go_ret
    exact ⟨rfl, rfl⟩
  · have h2 : ((n : Int) != 8) = true := by rw [bne_iff_ne]; omega
    go_enter Try.func24, Try.ntmps24
    go_wp2
    go_ret
    exact ⟨rfl, rfl⟩

/-- What impl.Des answers, whatever it is given. -/
def desL (key block : List UInt8) (dec : Bool) : List UInt8 := if key.length = 8 ∧ block.length = 8 then desN key block dec else []

theorem des_all (key block : List UInt8) (ak ab : Option Addr) (ck cb : Nat) (dec : Bool) (w : World) (hn : key.length ≤ 1048576) (hm : block.length ≤ 1048576) (rk : RowAt w ak key) (rb : RowAt w ab block) :
    Calls Try.prog 24 #[.slice ak key.length ck, .slice ab block.length cb, .bool dec] w fun e w' =>
      ∃ v, e = .returned v ∧ Own w' w.heap.size v (desL key block dec) ∧ Below w.heap.size w w' := by
  unfold desL
  by_cases h : key.length = 8 ∧ block.length = 8
  · rw [if_pos h]
    exact des_ok key block ak ab ck cb dec w h.1 h.2 rk rb
  · rw [if_neg h]
    refine (des_wrong _ _ ak ab ck cb dec w hn hm h).mono ?_
    rintro e w' ⟨rfl, rfl⟩
    exact ⟨_, rfl, ⟨5, World.ownsRow_nil _ _ _ _⟩, Below.refl _ _⟩
end Go.Proofs.Ytoiemdjfeplmiaa

/-
  impl: the cells of a tdeaCipher.
-/
namespace Go.Proofs.Ytoiemdjfeplmiaa
open Go.RowKit

def tdeaCells (k1 k2 : List UInt8) (S : Nat) : List Value := cipherCells k1 S ++ cipherCells k2 S
theorem tdeaCells_length (k1 k2 : List UInt8) (S : Nat) : (tdeaCells k1 k2 S).length = 34 := by simp [tdeaCells, cipherCells_length]
theorem allOne_tdea (k1 k2 : List UInt8) (S : Nat) : (tdeaCells k1 k2 S).toArray.all (·.oneCell') = true := by
  rw [Array.all_eq_true_iff_forall_mem]
  intro v hv
  simp only [tdeaCells, List.mem_toArray, List.mem_append] at hv
  rcases hv with hv | hv
  · exact (Array.all_eq_true_iff_forall_mem.1 (allOne_cipher k1 S)) v (by simpa using hv)
  · exact (Array.all_eq_true_iff_forall_mem.1 (allOne_cipher k2 S)) v (by simpa using hv)
def zeroTdea : List Value := zeroCipher ++ zeroCipher
theorem zeroTdea_length : zeroTdea.length = 34 := rfl
theorem Try.zero54 : (Try.prog.info? 54).map (fun i => (i.zero, i.size)) = some (some (.agg zeroTdea.toArray), 34) := by kernel_rfl
theorem of17 {l : List Value} (h : l.length = 17) : ∃ a0 a1 a2 a3 a4 a5 a6 a7 a8 a9 a10 a11 a12 a13 a14 a15 a16, l = [a0, a1, a2, a3, a4, a5, a6, a7, a8, a9, a10, a11, a12, a13, a14, a15, a16] := by
  match l, h with
  | [a0, a1, a2, a3, a4, a5, a6, a7, a8, a9, a10, a11, a12, a13, a14, a15, a16], _ => exact ⟨a0, a1, a2, a3, a4, a5, a6, a7, a8, a9, a10, a11, a12, a13, a14, a15, a16, rfl⟩
theorem built_two {a b : List Value} (ha : a.length = 17) (hb : b.length = 17) : Try.prog.built 54 [(0, .agg a.toArray), (1, .agg b.toArray)] = some (a ++ b).toArray := by
  obtain ⟨a0, a1, a2, a3, a4, a5, a6, a7, a8, a9, a10, a11, a12, a13, a14, a15, a16, rfl⟩ := of17 ha
  obtain ⟨b0, b1, b2, b3, b4, b5, b6, b7, b8, b9, b10, b11, b12, b13, b14, b15, b16, rfl⟩ := of17 hb
  kernel_rfl
theorem build_tdea (k1 k2 : List UInt8) (S : Nat) (w : World) : (Instr.build 54 #[(0, .agg (cipherCells k1 S).toArray), (1, .agg (cipherCells k2 S).toArray)]).run Try.prog w = .ok (.agg (tdeaCells k1 k2 S).toArray) w :=
  run_build w _ _ _ (built_two (cipherCells_length _ _) (cipherCells_length _ _))
theorem store_all {w : World} {g t : Nat} {old cs : List Value} (h : Blk w g t old) (hl : cs.length = old.length) (ho : cs.toArray.all (·.oneCell') = true) : (storeCells ⟨g, 0, none⟩ cs 0).run Try.prog w = .ok () (w.setRow g cs.toArray) := by
  have := run_storeCells_from (P := Try.prog) g t cs 0 old.toArray w h (by rw [List.size_toArray, Nat.zero_add]; exact hl) (fun v hv => (Array.all_eq_true_iff_forall_mem.1 ho) v (by simpa using hv))
  rw [List.take_zero, List.nil_append] at this
  exact this
theorem store_tdea (k1 k2 : List UInt8) (S : Nat) {w : World} {g t : Nat} (h : Blk w g t zeroTdea) : (storeCells ⟨g, 0, none⟩ (tdeaCells k1 k2 S) 0).run Try.prog w = .ok () (w.setRow g (tdeaCells k1 k2 S).toArray) :=
  store_all h ((tdeaCells_length _ _ _).trans zeroTdea_length.symm) (allOne_tdea _ _ _)

theorem eight_blk {w : World} {g t n : Nat} {l : List UInt8} {k0 k1 k2 k3 k4 k5 k6 k7 : UInt8} (h : Blk w g t (l.map byte)) (hl : (l.drop n).take 8 = [k0, k1, k2, k3, k4, k5, k6, k7]) : Eight w g n k0 k1 k2 k3 k4 k5 k6 k7 := by
  have hc : ∀ j, j < 8 → w.cell? ⟨g, n + j, none⟩ = some (byte ([k0, k1, k2, k3, k4, k5, k6, k7].getD j 0)) := by
    intro j hj
    have hlen : n + j < l.length := by
      have := congrArg List.length hl
      simp at this
      omega
    rw [h.cell (n + j) (by simpa using hlen), ← hl]
    simp [hj, hlen]
  exact ⟨hc 0 (by omega), hc 1 (by omega), hc 2 (by omega), hc 3 (by omega), hc 4 (by omega), hc 5 (by omega), hc 6 (by omega), hc 7 (by omega)⟩

theorem sixteen {w : World} {g t : Nat} {k0 k1 k2 k3 k4 k5 k6 k7 j0 j1 j2 j3 j4 j5 j6 j7 : UInt8} (h : Blk w g t ([k0, k1, k2, k3, k4, k5, k6, k7, j0, j1, j2, j3, j4, j5, j6, j7].map byte)) : w.cell? ⟨g, 0, none⟩ = some (byte k0) ∧ w.cell? ⟨g, 1, none⟩ = some (byte k1) ∧ w.cell? ⟨g, 2, none⟩ = some (byte k2) ∧ w.cell? ⟨g, 3, none⟩ = some (byte k3) ∧ w.cell? ⟨g, 4, none⟩ = some (byte k4) ∧ w.cell? ⟨g, 5, none⟩ = some (byte k5) ∧ w.cell? ⟨g, 6, none⟩ = some (byte k6) ∧ w.cell? ⟨g, 7, none⟩ = some (byte k7) ∧ w.cell? ⟨g, 8, none⟩ = some (byte j0) ∧ w.cell? ⟨g, 9, none⟩ = some (byte j1) ∧ w.cell? ⟨g, 10, none⟩ = some (byte j2) ∧ w.cell? ⟨g, 11, none⟩ = some (byte j3) ∧ w.cell? ⟨g, 12, none⟩ = some (byte j4) ∧ w.cell? ⟨g, 13, none⟩ = some (byte j5) ∧ w.cell? ⟨g, 14, none⟩ = some (byte j6) ∧ w.cell? ⟨g, 15, none⟩ = some (byte j7) :=
  ⟨h.cell 0 (by simp), h.cell 1 (by simp), h.cell 2 (by simp), h.cell 3 (by simp), h.cell 4 (by simp), h.cell 5 (by simp), h.cell 6 (by simp), h.cell 7 (by simp), h.cell 8 (by simp), h.cell 9 (by simp), h.cell 10 (by simp), h.cell 11 (by simp), h.cell 12 (by simp), h.cell 13 (by simp), h.cell 14 (by simp), h.cell 15 (by simp)⟩
theorem Blk.setRow_other {w : World} {g g' t : Nat} {l : List Value} {cs : Array Value} (h : Blk w g t l) (hne : ¬ g = g') : Blk (w.setRow g' cs) g t l := by
  unfold Blk; rw [_root_.Go.setRow_other w g' g _ hne]; exact h


/-- The first half laid, the second still zero. -/
def halfCells (k1 : List UInt8) (S : Nat) : List Value := cipherCells k1 S ++ zeroCipher
theorem halfCells_length (k1 : List UInt8) (S : Nat) : (halfCells k1 S).length = 34 := by unfold halfCells; rw [List.length_append, cipherCells_length, zeroCipher_length]
theorem fold_first {a : List Value} (ha : a.length = 17) : List.foldl (fun (cs : Array Value) (x : Value × Nat) => cs.setIfInBounds x.snd x.fst) #[Value.int IntKind.u64 0, Value.int IntKind.u64 0, Value.int IntKind.u64 0, Value.int IntKind.u64 0, Value.int IntKind.u64 0, Value.int IntKind.u64 0, Value.int IntKind.u64 0, Value.int IntKind.u64 0, Value.int IntKind.u64 0, Value.int IntKind.u64 0, Value.int IntKind.u64 0, Value.int IntKind.u64 0, Value.int IntKind.u64 0, Value.int IntKind.u64 0, Value.int IntKind.u64 0, Value.int IntKind.u64 0, Value.nilFunc, Value.int IntKind.u64 0, Value.int IntKind.u64 0, Value.int IntKind.u64 0, Value.int IntKind.u64 0, Value.int IntKind.u64 0, Value.int IntKind.u64 0, Value.int IntKind.u64 0, Value.int IntKind.u64 0, Value.int IntKind.u64 0, Value.int IntKind.u64 0, Value.int IntKind.u64 0, Value.int IntKind.u64 0, Value.int IntKind.u64 0, Value.int IntKind.u64 0, Value.int IntKind.u64 0, Value.int IntKind.u64 0, Value.nilFunc] a.zipIdx = (a ++ zeroCipher).toArray := by
  obtain ⟨a0, a1, a2, a3, a4, a5, a6, a7, a8, a9, a10, a11, a12, a13, a14, a15, a16, rfl⟩ := of17 ha
  kernel_rfl
theorem fold_second {a b : List Value} (ha : a.length = 17) (hb : b.length = 17) : List.foldl (fun (cs : Array Value) (x : Value × Nat) => cs.setIfInBounds (17 + x.snd) x.fst) (a ++ zeroCipher).toArray b.zipIdx = (a ++ b).toArray := by
  obtain ⟨a0, a1, a2, a3, a4, a5, a6, a7, a8, a9, a10, a11, a12, a13, a14, a15, a16, rfl⟩ := of17 ha
  obtain ⟨b0, b1, b2, b3, b4, b5, b6, b7, b8, b9, b10, b11, b12, b13, b14, b15, b16, rfl⟩ := of17 hb
  kernel_rfl
theorem fold_half (k1 : List UInt8) (S : Nat) : List.foldl (fun (cs : Array Value) (x : Value × Nat) => cs.setIfInBounds x.snd x.fst) #[Value.int IntKind.u64 0, Value.int IntKind.u64 0, Value.int IntKind.u64 0, Value.int IntKind.u64 0, Value.int IntKind.u64 0, Value.int IntKind.u64 0, Value.int IntKind.u64 0, Value.int IntKind.u64 0, Value.int IntKind.u64 0, Value.int IntKind.u64 0, Value.int IntKind.u64 0, Value.int IntKind.u64 0, Value.int IntKind.u64 0, Value.int IntKind.u64 0, Value.int IntKind.u64 0, Value.int IntKind.u64 0, Value.nilFunc, Value.int IntKind.u64 0, Value.int IntKind.u64 0, Value.int IntKind.u64 0, Value.int IntKind.u64 0, Value.int IntKind.u64 0, Value.int IntKind.u64 0, Value.int IntKind.u64 0, Value.int IntKind.u64 0, Value.int IntKind.u64 0, Value.int IntKind.u64 0, Value.int IntKind.u64 0, Value.int IntKind.u64 0, Value.int IntKind.u64 0, Value.int IntKind.u64 0, Value.int IntKind.u64 0, Value.int IntKind.u64 0, Value.nilFunc] (cipherCells k1 S).zipIdx = (halfCells k1 S).toArray := fold_first (cipherCells_length _ _)
theorem fold_tdea (k1 k2 : List UInt8) (S : Nat) : List.foldl (fun (cs : Array Value) (x : Value × Nat) => cs.setIfInBounds (17 + x.snd) x.fst) (halfCells k1 S).toArray (cipherCells k2 S).zipIdx = (tdeaCells k1 k2 S).toArray := fold_second (cipherCells_length _ _) (cipherCells_length _ _)
end Go.Proofs.Ytoiemdjfeplmiaa

/-
  impl: newTdea.
-/
namespace Go.Proofs.Ytoiemdjfeplmiaa
open Go.RowKit

set_option maxRecDepth 100000 in
set_option maxHeartbeats 2000000 in
theorem newTdea_lit (k0 k1 k2 k3 k4 k5 k6 k7 j0 j1 j2 j3 j4 j5 j6 j7 : UInt8) (w : World) :
    Calls Try.prog 49 #[.agg #[byte k0, byte k1, byte k2, byte k3, byte k4, byte k5, byte k6, byte k7, byte j0, byte j1, byte j2, byte j3, byte j4, byte j5, byte j6, byte j7]] w fun e w' =>
      ∃ S, e = .returned (.agg (tdeaCells [k0, k1, k2, k3, k4, k5, k6, k7] [j0, j1, j2, j3, j4, j5, j6, j7] S).toArray) ∧ w.heap.size ≤ S ∧ Blk w' S 86 mergedCells ∧ Below w.heap.size w w' := by
  have hz := (zero_of_info Try.zero54).1
  obtain ⟨W, hW⟩ : ∃ W, W = (w.alloc (.cells #[byte k0, byte k1, byte k2, byte k3, byte k4, byte k5, byte k6, byte k7, byte j0, byte j1, byte j2, byte j3, byte j4, byte j5, byte j6, byte j7] 41)).alloc (.cells zeroTdea.toArray 54) := ⟨_, rfl⟩
  have K0 : Blk W w.heap.size 41 ([k0, k1, k2, k3, k4, k5, k6, k7, j0, j1, j2, j3, j4, j5, j6, j7].map byte) := by rw [hW]; exact (Blk.new w _ _).alloc _
  have K1 : Blk W (w.heap.size + 1) 54 zeroTdea := by rw [hW]; exact Blk.new2 w _ _ _
  have bW : Below w.heap.size w W := by rw [hW]; exact ((Below.refl _ _).alloc (Nat.le_refl _) _).alloc (by simp) _
  have sW : W.heap.size = w.heap.size + 1 + 1 := by rw [hW]; simp
  subst hW
  have har := fun n c (wx : World) => run_arrayAt (P := Try.prog) (w := wx) 40 5 8 (some ⟨w.heap.size, n, none⟩) 8 c Try.underlying40 (Nat.le_refl _)
  go_enter Try.func49, Try.ntmps49
  go_wp2_with fail
  refine (newRound_any _).mono ?_
  rintro e w1 ⟨S, rfl, hS1, hS2, bel1⟩
  have A0 := K0.below bel1 K0.lt
  have A1 := K1.below bel1 K1.lt
  have b1 := bW.trans (bel1.mono bW.size)
  have hS0 : w.heap.size + 1 + 1 ≤ S := by omega
  have hA := cipherCells_length [k0, k1, k2, k3, k4, k5, k6, k7] S
  have hB := cipherCells_length [j0, j1, j2, j3, j4, j5, j6, j7] S
  have hf1 := fold_half [k0, k1, k2, k3, k4, k5, k6, k7] S
  have hf2 := fold_tdea [k0, k1, k2, k3, k4, k5, k6, k7] [j0, j1, j2, j3, j4, j5, j6, j7] S
  have hh := halfCells_length [k0, k1, k2, k3, k4, k5, k6, k7] S
  have lA := A0.lt
  have lA1 := A1.lt
  obtain ⟨c0, c1, c2, c3, c4, c5, c6, c7, c8, c9, c10, c11, c12, c13, c14, c15⟩ := sixteen A0
  have hne : ¬ w.heap.size = w.heap.size + 1 := (by omega)
  have htl := tdeaCells_length [k0, k1, k2, k3, k4, k5, k6, k7] [j0, j1, j2, j3, j4, j5, j6, j7] S
  clear K0 K1 bW sW bel1 hS1 hz
  go_wp2_with fail
  go_region_held3 (fun w' => w'.cell? ⟨w.heap.size, 0, none⟩ = some (byte k0) ∧ w'.cell? ⟨w.heap.size, 1, none⟩ = some (byte k1) ∧ w'.cell? ⟨w.heap.size, 2, none⟩ = some (byte k2) ∧ w'.cell? ⟨w.heap.size, 3, none⟩ = some (byte k3) ∧ w'.cell? ⟨w.heap.size, 4, none⟩ = some (byte k4) ∧ w'.cell? ⟨w.heap.size, 5, none⟩ = some (byte k5) ∧ w'.cell? ⟨w.heap.size, 6, none⟩ = some (byte k6) ∧ w'.cell? ⟨w.heap.size, 7, none⟩ = some (byte k7) ∧ w'.cell? ⟨w.heap.size, 8, none⟩ = some (byte j0) ∧ w'.cell? ⟨w.heap.size, 9, none⟩ = some (byte j1) ∧ w'.cell? ⟨w.heap.size, 10, none⟩ = some (byte j2) ∧ w'.cell? ⟨w.heap.size, 11, none⟩ = some (byte j3) ∧ w'.cell? ⟨w.heap.size, 12, none⟩ = some (byte j4) ∧ w'.cell? ⟨w.heap.size, 13, none⟩ = some (byte j5) ∧ w'.cell? ⟨w.heap.size, 14, none⟩ = some (byte j6) ∧ w'.cell? ⟨w.heap.size, 15, none⟩ = some (byte j7)) (first | exact sixteen C0 | exact sixteen B0 | exact sixteen (Blk.setRow_other C0 hne) | go_keep)
    (first
    | (go_at_call 44; refine (newDes_any [k0, k1, k2, k3, k4, k5, k6, k7] S _ rfl).mono ?_; rintro e w2 ⟨rfl, bel2⟩; have B0 : Blk w2 w.heap.size 41 ([k0, k1, k2, k3, k4, k5, k6, k7, j0, j1, j2, j3, j4, j5, j6, j7].map byte) := (by first | exact A0.below bel2 lA | exact (Blk.drew1 A0).below bel2 lA); have B1 : Blk w2 (w.heap.size + 1) 54 zeroTdea := (by first | exact A1.below bel2 lA1 | exact (Blk.drew1 A1).below bel2 lA1); have b2 : Below w.heap.size w w2 := (by first | exact b1.trans (bel2.mono b1.size) | exact b1.trans ((below_drew bel2).mono b1.size)); have B2 : Blk w2 S 86 mergedCells := (by first | exact hS2.below bel2 hS2.lt | exact (Blk.drew1 hS2).below bel2 hS2.lt); obtain ⟨p0, p1, p2, p3, p4, p5, p6, p7, p8, p9, p10, p11, p12, p13, p14, p15⟩ := sixteen B0)
    | (go_at_call 44; refine (newDes_any [j0, j1, j2, j3, j4, j5, j6, j7] S _ rfl).mono ?_; rintro e w3 ⟨rfl, bel3⟩; have C0 : Blk w3 w.heap.size 41 ([k0, k1, k2, k3, k4, k5, k6, k7, j0, j1, j2, j3, j4, j5, j6, j7].map byte) := B0.below bel3 B0.lt; have C1 : Blk w3 (w.heap.size + 1) 54 zeroTdea := B1.below bel3 B1.lt; have b3 : Below w.heap.size w w3 := b2.trans (bel3.mono b2.size); have C2 : Blk w3 S 86 mergedCells := B2.below bel3 B2.lt; obtain ⟨q0, q1, q2, q3, q4, q5, q6, q7, q8, q9, q10, q11, q12, q13, q14, q15⟩ := sixteen C0; have hst := store_tdea [k0, k1, k2, k3, k4, k5, k6, k7] [j0, j1, j2, j3, j4, j5, j6, j7] S C1))
  all_goals
    go_wp2_with fail
    exact bodyPost_ret (v := .agg (tdeaCells [k0, k1, k2, k3, k4, k5, k6, k7] [j0, j1, j2, j3, j4, j5, j6, j7] S).toArray) (results_blk Try.results49 _ _ rfl (Blk.setRow C1 _) Try.underlying54 rfl (by rw [tdeaCells_length]; kernel_rfl)) rfl ⟨S, rfl, by omega, Blk.setRow_other C2 (by omega), below_setRow' b3 (by omega) _⟩

theorem newTdea_any (key : List UInt8) (w : World) (h : key.length = 16) :
    Calls Try.prog 49 #[.agg (key.map byte).toArray] w fun e w' =>
      ∃ S, e = .returned (.agg (tdeaCells (key.take 8) (key.drop 8) S).toArray) ∧ w.heap.size ≤ S ∧ Blk w' S 86 mergedCells ∧ Below w.heap.size w w' := by
  match key, h with
  | [k0, k1, k2, k3, k4, k5, k6, k7, j0, j1, j2, j3, j4, j5, j6, j7], _ => exact newTdea_lit k0 k1 k2 k3 k4 k5 k6 k7 j0 j1 j2 j3 j4 j5 j6 j7 w
end Go.Proofs.Ytoiemdjfeplmiaa
