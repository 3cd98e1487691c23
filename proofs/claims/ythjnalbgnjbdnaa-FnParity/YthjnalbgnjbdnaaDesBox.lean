/-
  impl: the boxes, merged with P.
-/
import Derived.Test.YthjnalbgnjbdnaaDesBits
import Derived.Deep.RegionWith
namespace Go.Proofs.Ythjnalbgnjbdnaa
open Go.RowKit

def pTab : List UInt8 := [16, 7, 20, 21, 29, 12, 28, 17, 1, 15, 23, 26, 5, 18, 31, 10, 2, 8, 24, 14, 32, 27, 3, 9, 19, 13, 30, 6, 22, 11, 4, 25]
theorem pTab_cells : (pTab.map byte).length = 32 := rfl
theorem pTab_in : ∀ t ∈ pTab, 1 ≤ t.toNat ∧ t.toNat ≤ 32 := by decide

/-- What P makes of a digit of one box. -/
def spreadN (box d : Nat) : Nat := takeN (d * 2 ^ (28 - 4 * box)) 32 pTab
theorem spreadN_lt (box d : Nat) : spreadN box d < 4294967296 := takeN_lt _ _ pTab

def word32 (n : Nat) : Value := .int .u32 (n : Int)

/-- The first k of n cells are f 0 .. f (k - 1), the rest zeros. -/
def upTo (f : Nat → Value) (z : Value) (n k : Nat) : List Value := (List.range n).map fun i => if i < k then f i else z
theorem upTo_length (f : Nat → Value) (z : Value) (n k : Nat) : (upTo f z n k).length = n := by simp [upTo]
theorem upTo_set (f : Nat → Value) (z : Value) (n k : Nat) : (upTo f z n k).set k (f k) = upTo f z n (k + 1) := by
  apply List.ext_getElem?
  intro i
  rw [List.getElem?_set]
  simp only [upTo, List.length_map, List.length_range, List.getElem?_map]
  by_cases hi : k = i
  · subst hi
    by_cases hn : k < n <;> simp [hn]
  · rw [if_neg hi]
    by_cases hn : i < n
    · simp [hn, show (i < k + 1) = (i < k) from by apply propext; omega]
    · simp [hn]
theorem upTo_zero (f : Nat → Value) (z : Value) (n : Nat) : upTo f z n 0 = List.replicate n z := by
  apply List.ext_getElem?
  intro i
  by_cases hn : i < n <;> simp [upTo, hn]
theorem upTo_all (f : Nat → Value) (z : Value) (n : Nat) : upTo f z n n = (List.range n).map f := by
  apply List.ext_getElem?
  intro i
  by_cases hn : i < n <;> simp [upTo, hn]

/-- The sixteen digits of a box, spread: plain cells, not to be laid open. -/
def spreadCells (box : Nat) : List Value := (List.range 16).map fun d => word32 (spreadN box d)
theorem spreadCells_length (box : Nat) : (spreadCells box).length = 16 := by simp [spreadCells]
theorem spreadCells_get (box d : Nat) (h : d < 16) : (spreadCells box)[d]'(by rw [spreadCells_length]; exact h) = word32 (spreadN box d) := by simp [spreadCells]

theorem Try.zero119 : (Try.prog.info? 119).map (fun i => (i.zero, i.size)) = some (some (.agg (zerosOf 16 .u32).toArray), 16) := by kernel_rfl
theorem Try.zero125 : (Try.prog.info? 125).map (fun i => (i.zero, i.size)) = some (some (.agg (zerosOf 32 .u8).toArray), 32) := by kernel_rfl

theorem allOne_map {α : Type} (f : α → Value) (hf : ∀ a, (f a).oneCell' = true) (l : List α) : (l.map f).toArray.all (·.oneCell') = true := by
  rw [Array.all_eq_true_iff_forall_mem]
  intro v hv
  simp only [List.mem_toArray, List.mem_map] at hv
  obtain ⟨b, -, rfl⟩ := hv
  exact hf b

theorem allOne_spread (box : Nat) : (spreadCells box).toArray.all (·.oneCell') = true := allOne_map _ (fun _ => rfl) _

set_option maxHeartbeats 1000000 in
theorem spreadDigits_any (box : Nat) (w : World) (hbox : box < 8) :
    Calls Try.prog 118 #[.int .i64 box] w fun e w' => e = .returned (.agg (spreadCells box).toArray) ∧ Below w.heap.size w w' := by
  have hz := (zero_of_info Try.zero119).1
  have hz2 := (zero_of_info Try.zero125).1
  go_enter Try.func118, Try.ntmps118
  go_wp2_with (first | (refine build_to rfl 125 _ rfl (pTab.map byte) (by kernel_rfl) ?_) | (refine store_blk rfl 125 _ _ rfl _ rfl rfl (Blk.new2 w _ _ _) (by kernel_rfl) (by rw [pTab_cells]; exact zerosOf_length _ _) (allOne_bytes _) ?_; intro w2 hb2 hg2 hs2))
  have hs3 : w2.heap.size = w.heap.size + 1 + 1 := by simpa using hs2
  have hA : Blk w2 w.heap.size 119 (zerosOf 16 .u32) := by
    unfold Blk; rw [hg2.block _ (by simp; omega) (by simp), Below.heap_alloc _ _ _ (by simp)]; exact heap_alloc_new w _
  have hbel2 : Below w.heap.size w w2 := (((Below.refl _ _).alloc (Nat.le_refl _) _).alloc (by simp) _).grown hg2 (by simp; omega) (by intro k hk; cases hk; omega)
  have hb2' := hb2
  clear hs2 hg2
  go_loopw [5, 7] (fun _ i wr => ∃ k : Nat, k ≤ 16 ∧ i = .int .i64 k ∧ Blk wr (w.heap.size + 1 + 1) 119 (upTo (fun d => word32 (spreadN box d)) (.int .u32 0) 16 k) ∧ Blk wr (w.heap.size + 1) 125 (pTab.map byte) ∧ Blk wr w.heap.size 119 (zerosOf 16 .u32) ∧ Below w.heap.size w wr) (fun _ i _ => 16 - (intOf i).toNat)
  case atStart =>
    refine ⟨0, Nat.zero_le _, rfl, ?_, hb2.alloc _, hA.alloc _, hbel2.alloc (by omega) _⟩
    rw [upTo_zero, ← hs3]
    exact Blk.new w2 _ _
  case round =>
    obtain ⟨k, hk, rfl, hb1, hbt, hb0, hbel⟩ := hrel
    clear hb2 hb2' hA hbel2
    by_cases hlt : k < 16
    · have hf := hb1.free k
      obtain ⟨u, hu⟩ : ∃ u, wr.cell? ⟨w.heap.size + 1 + 1, k, none⟩ = some u := ⟨_, hb1.cell k (by rw [upTo_length]; exact hlt)⟩
      have hst := hb1.set k (word32 (spreadN box k))
      rw [upTo_set (fun d => word32 (spreadN box d))] at hst
      have hrow := rowAt_block hbt
      have hpow : k * 2 ^ (28 - 4 * box) < 18446744073709551616 := by
        have h1 : 2 ^ (28 - 4 * box) ≤ 2 ^ 28 := Nat.pow_le_pow_right (by omega) (by omega)
        have h2 := Nat.mul_le_mul (show k ≤ 16 by omega) h1
        omega
      obtain ⟨m, hm, hm2⟩ : ∃ m : Nat, IntKind.i64.wrap (4 * (box : Int)) = (m : Int) ∧ Hid (m = 4 * box) := ⟨4 * box, by rw [IntKind.wrap_i64]; omega, rfl⟩
      obtain ⟨s, hs, Hs, hs64⟩ : ∃ s : Nat, IntKind.i64.wrap (28 - (m : Int)) = (s : Int) ∧ Hid (s = 28 - 4 * box) ∧ s ≤ 64 := ⟨28 - 4 * box, by have := hm2.out; rw [IntKind.wrap_i64]; omega, rfl, by omega⟩
      have hk64 : IntKind.u64.wrap (k : Int) = (k : Int) := by rw [IntKind.wrap_u64]; omega
      rw [← Hs.out] at hpow
      obtain ⟨q, hwq, hq1, Hq⟩ : ∃ q : Nat, IntKind.u64.wrap ((k : Int) * 2 ^ s) = (q : Int) ∧ q < 18446744073709551616 ∧ Hid (q = k * 2 ^ s) := by
        refine ⟨k * 2 ^ s, ?_, hpow, rfl⟩
        have e : (k : Int) * 2 ^ s = ((k * 2 ^ s : Nat) : Int) := by simp
        rw [e, IntKind.wrap_u64]; omega
      clear hpow
      go_wp2
      go_region_with (go_at_call 116; go_loud (refine (takeBits_at q 32 32 32 _ _ pTab _ hq1 rfl (by omega) rfl (by omega) pTab_in hrow.drew1).mono ?_); rintro e w' ⟨rfl, rfl⟩)
      go_wp2
      go_roundw
      case rel =>
        have hv : Value.int IntKind.u32 ((takeN q 32 pTab : Nat) % 4294967296 : Int) = word32 (spreadN box k) := by
          have := spreadN_lt box k
          unfold word32
          rw [Hq.out, Hs.out]
          show Value.int IntKind.u32 ((spreadN box k : Nat) % 4294967296 : Int) = _
          congr 1
          omega
        rw [hv]
        exact ⟨k + 1, by omega, by go_num, hst.drew1, (hbt.other _ _ (by simp)).drew1, (hb0.other _ _ (by simp; omega)).drew1, (hbel.setCell (by simp; omega) _).drew⟩
      case measure => simp [intOf]; omega
    · obtain rfl : k = 16 := by omega
      have hb1' : Blk wr (w.heap.size + 1 + 1) 119 (spreadCells box) := by rw [upTo_all] at hb1; exact hb1
      go_wp2_with (first | (refine load_blk rfl 119 _ rfl _ rfl hb1' Try.underlying119 rfl (by rw [spreadCells_length]; kernel_rfl) ?_) | (refine store_blk rfl 119 _ _ rfl _ rfl rfl hb0 (by rw [spreadCells_length]; kernel_rfl) (by rw [zerosOf_length, spreadCells_length]) (allOne_spread _) ?_; intro w2 hb2 hg2 hs2))
      exact bodyPost_ret (v := .agg (spreadCells box).toArray) (results_blk Try.results118 _ _ rfl hb2 Try.underlying119 rfl (by rw [spreadCells_length]; kernel_rfl)) rfl ⟨rfl, hbel.grown hg2 hbel.size (by intro k hk; cases hk; exact Nat.le_refl _)⟩
end Go.Proofs.Ythjnalbgnjbdnaa
