/-
  impl: encrypt, decrypt, direction, Des.
-/
import Derived.Test.YthjnalbgnjbdnaaDesRev
import Derived.Deep.MidRow
namespace Go.Proofs.Ythjnalbgnjbdnaa
open Go.RowKit

theorem cipher_round (key : List UInt8) (S : Nat) : (cipherCells key S)[16]? = some (.func (.func 97) #[] #[.pointer (some ⟨S, 0, none⟩)]) := by
  unfold cipherCells
  rw [List.getElem?_append_right (by rw [keyCells_length]; exact Nat.le_refl _), keyCells_length]
  rfl
theorem cipher_keys {w : World} {g t : Nat} {key : List UInt8} {S : Nat} (h : Blk w g t (cipherCells key S)) : w.rangeAt g 0 (keyCells key) := by
  intro j v hv
  have hj : j < (keyCells key).length := (List.getElem?_eq_some_iff.1 hv).1
  rw [Nat.zero_add, h.cell j (by rw [cipherCells_length]; rw [keyCells_length] at hj; omega)]
  have : (cipherCells key S)[j]? = some v := by unfold cipherCells; rw [List.getElem?_append_left hj]; exact hv
  rw [List.getElem?_eq_getElem (by rw [cipherCells_length]; rw [keyCells_length] at hj; omega)] at this
  exact this

/-- Des of the program, with the round keys in their order, and turned round. -/
def encN (key block : List UInt8) : List UInt8 := runN (keyNums key) block
def decN (key block : List UInt8) : List UInt8 := runN (keyNums key).reverse block
theorem encN_length (key block : List UInt8) : (encN key block).length = 8 := runN_length _ _
theorem decN_length (key block : List UInt8) : (decN key block).length = 8 := runN_length _ _

set_option maxHeartbeats 1000000 in
theorem encrypt_any (key block : List UInt8) (S : Nat) (w : World) (h8 : block.length = 8) (hS : Blk w S 93 mergedCells) :
    Calls Try.prog 55 #[.agg (cipherCells key S).toArray, .agg (block.map byte).toArray] w fun e w' => e = .returned (.agg ((encN key block).map byte).toArray) ∧ Below w.heap.size w w' := by
  have hz := (zero_of_info Try.zero50).1
  have hl : (block.map byte).length = 8 := by simp [h8]
  obtain ⟨W, hW⟩ : ∃ W, W = ((w.alloc (.cells (cipherCells key S).toArray 48)).alloc (.cells (block.map byte).toArray 50)).alloc (.cells (zerosOf 8 .u8).toArray 50) := ⟨_, rfl⟩
  have k0 : Blk W w.heap.size 48 (cipherCells key S) := by rw [hW]; exact ((Blk.new w _ _).alloc _).alloc _
  have k1 : Blk W (w.heap.size + 1) 50 (block.map byte) := by rw [hW]; exact (Blk.new2 w _ _ _).alloc _
  have k2 : Blk W (w.heap.size + 1 + 1) 50 (zerosOf 8 .u8) := by rw [hW]; exact Blk.newAt _ _ _ _ (by simp)
  have kS : Blk W S 93 mergedCells := by rw [hW]; exact ((hS.alloc _).alloc _).alloc _
  have bW : Below w.heap.size w W := by rw [hW]; exact (((Below.refl _ _).alloc (Nat.le_refl _) _).alloc (by simp) _).alloc (by simp; omega) _
  subst hW
  go_enter Try.func55, Try.ntmps55
  go_wp2_with (first
    | (refine load_blk rfl 48 _ rfl _ rfl k0 Try.underlying48 rfl (by rw [cipherCells_length]; kernel_rfl) ?_)
    | (refine load_blk rfl 50 _ rfl _ rfl k1 Try.underlying50 rfl (by rw [hl]; kernel_rfl) ?_)
    | (refine wpList_load_mid rfl 45 _ rfl w.heap.size 0 rfl (keyCells key) _ (cipher_keys k0) Try.underlying45 rfl (by rw [keyCells_length]; kernel_rfl) ?_)
    | (go_at_call 99; rw [keyCells_nums]; refine (run_any (cipherCells key S) block (keyNums key) S _ (cipherCells_length _ _) (cipher_round _ _) h8 (keyNums_length _) (keyNums_lt _) kS).mono ?_; rintro e w1 ⟨rfl, bel1⟩)
    | (refine store_blk rfl 50 _ _ rfl _ rfl rfl (k2.below bel1 k2.lt) (by rw [List.length_map, runN_length]; kernel_rfl) (by rw [List.length_map, runN_length]; exact zerosOf_length _ _) (allOne_bytes _) ?_; intro w2 hb2 hg2 hs2))
  have lW := bW.size
  exact bodyPost_ret (v := .agg ((encN key block).map byte).toArray) (results_blk Try.results55 _ _ rfl hb2 Try.underlying50 rfl (by rw [List.length_map, encN_length]; kernel_rfl)) rfl
    ⟨rfl, (bW.trans (bel1.mono lW)).grown hg2 (Nat.le_trans lW bel1.size) (by intro k hk; cases hk; omega)⟩

theorem rev_cells (key : List UInt8) : ((List.range 16).map fun i => word64 (keyN key (15 - i))) = ((keyNums key).reverse).map word64 := by
  apply List.ext_getElem
  · simp [keyNums]
  · intro i h1 h2
    simp [keyNums]
theorem keyCells_words (key : List UInt8) : keyCells key = (List.range 16).map fun i => word64 (keyN key i) := by
  simp [keyCells, keyCell, word64]

set_option maxHeartbeats 1000000 in
theorem decrypt_any (key block : List UInt8) (S : Nat) (w : World) (h8 : block.length = 8) (hS : Blk w S 93 mergedCells) :
    Calls Try.prog 56 #[.agg (cipherCells key S).toArray, .agg (block.map byte).toArray] w fun e w' => e = .returned (.agg ((decN key block).map byte).toArray) ∧ Below w.heap.size w w' := by
  have hz := (zero_of_info Try.zero50).1
  have hz2 := (zero_of_info Try.zero45).1
  have hl : (block.map byte).length = 8 := by simp [h8]
  obtain ⟨W, hW⟩ : ∃ W, W = ((w.alloc (.cells (cipherCells key S).toArray 48)).alloc (.cells (block.map byte).toArray 50)).alloc (.cells (zerosOf 8 .u8).toArray 50) := ⟨_, rfl⟩
  have k0 : Blk W w.heap.size 48 (cipherCells key S) := by rw [hW]; exact ((Blk.new w _ _).alloc _).alloc _
  have k1 : Blk W (w.heap.size + 1) 50 (block.map byte) := by rw [hW]; exact (Blk.new2 w _ _ _).alloc _
  have k2 : Blk W (w.heap.size + 1 + 1) 50 (zerosOf 8 .u8) := by rw [hW]; exact Blk.newAt _ _ _ _ (by simp)
  have kS : Blk W S 93 mergedCells := by rw [hW]; exact ((hS.alloc _).alloc _).alloc _
  have bW : Below w.heap.size w W := by rw [hW]; exact (((Below.refl _ _).alloc (Nat.le_refl _) _).alloc (by simp) _).alloc (by simp; omega) _
  have sW : W.heap.size = w.heap.size + 1 + 1 + 1 := by rw [hW]; simp
  subst hW
  have lS := hS.lt
  go_enter Try.func56, Try.ntmps56
  go_wp2_with (first
    | (refine wpList_load_mid rfl 45 _ rfl w.heap.size 0 rfl (keyCells key) _ (cipher_keys k0) Try.underlying45 rfl (by rw [keyCells_length]; kernel_rfl) ?_)
    | (refine store_blk rfl 45 _ _ rfl _ rfl rfl (Blk.newAt _ _ _ _ (by simp)) (by rw [keyCells_length]; kernel_rfl) (by rw [keyCells_length]; exact zerosOf_length _ _) (allOne_keys _) ?_; intro w2 hb2 hg2 hs2))
  have hb2' := hb2
  rw [keyCells_words] at hb2'
  refine (reverse_any _ _ (keyN key) _ hb2').mono ?_
  rintro e w3 ⟨rfl, hb3, hg3⟩
  rw [rev_cells] at hb3
  have s2 : w2.heap.size = w.heap.size + 1 + 1 + 1 + 1 := by rw [hs2]; simp
  have m0 := ((k0.alloc _).grown hg2 (by simp; omega)).grown hg3 (by simp; omega)
  have m1 := ((k1.alloc _).grown hg2 (by simp)).grown hg3 (by simp)
  have m2 := ((k2.alloc _).grown hg2 (by simp)).grown hg3 (by simp)
  have mS := ((kS.alloc _).grown hg2 (by simp; omega)).grown hg3 (by simp; omega)
  have b3 := ((bW.alloc bW.size _).grown hg2 (by simp; omega) (by intro k hk; cases hk; omega)).grown hg3 (by omega) (by intro k hk; cases hk; omega)
  have hrl : (((keyNums key).reverse).map word64).length = 16 := by simp [keyNums_length]
  clear hb2 hb2' k0 k1 k2 kS hg2 hg3 hs2 hz hz2 bW sW
  go_wp2_with (first
    | (refine load_blk rfl 48 _ rfl _ rfl m0 Try.underlying48 rfl (by rw [cipherCells_length]; kernel_rfl) ?_)
    | (refine load_blk rfl 50 _ rfl _ rfl m1 Try.underlying50 rfl (by rw [hl]; kernel_rfl) ?_)
    | (refine load_blk rfl 45 _ rfl _ rfl hb3 Try.underlying45 rfl (by rw [hrl]; kernel_rfl) ?_)
    | (go_at_call 99; refine (run_any (cipherCells key S) block (keyNums key).reverse S _ (cipherCells_length _ _) (cipher_round _ _) h8 (by rw [List.length_reverse]; exact keyNums_length _) (fun x hx => keyNums_lt key x (List.mem_reverse.1 hx)) mS).mono ?_; rintro e w4 ⟨rfl, bel4⟩)
    | (refine store_blk rfl 50 _ _ rfl _ rfl rfl (m2.below bel4 m2.lt) (by rw [List.length_map, runN_length]; kernel_rfl) (by rw [List.length_map, runN_length]; exact zerosOf_length _ _) (allOne_bytes _) ?_; intro w5 hb5 hg5 hs5))
  have l3 := b3.size
  exact bodyPost_ret (v := .agg ((decN key block).map byte).toArray) (results_blk Try.results56 _ _ rfl hb5 Try.underlying50 rfl (by rw [List.length_map, decN_length]; kernel_rfl)) rfl
    ⟨rfl, (b3.trans (bel4.mono l3)).grown hg5 (Nat.le_trans l3 bel4.size) (by intro k hk; cases hk; omega)⟩

set_option maxHeartbeats 400000 in
theorem direction_any (a b : Value) (dec : Bool) (w : World) :
    Calls Try.prog 54 #[a, b, .bool dec] w fun e w' => e = .returned (if dec then b else a) ∧ w' = w := by
  cases dec
  all_goals
    go_enter Try.func54, Try.ntmps54
    go_wp2
    go_ret
    exact ⟨rfl, rfl⟩
end Go.Proofs.Ythjnalbgnjbdnaa
