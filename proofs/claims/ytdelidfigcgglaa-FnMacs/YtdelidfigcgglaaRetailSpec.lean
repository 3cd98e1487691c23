/-
  spec.l2Chain, spec.RetailMac.
-/
import Derived.Test.YtdelidfigcgglaaGrR
namespace Go.Proofs.Ytdelidfigcgglaa
open Go.RowKit

def chS (key full : List UInt8) : Nat → List UInt8
  | 0 => zeros8 8
  | k + 1 => desS key (xorL (chS key full k) ((full.drop (8 * k)).take 8)) false
theorem chS_length (key full : List UInt8) (k : Nat) : (chS key full k).length = 8 := by
  cases k with
  | zero => exact zeros8_length 8
  | succ k => exact desS_length _ _ _
theorem RowAt.part {w : World} {b off n k : Nat} {l : List UInt8} (h : RowAt w (some ⟨b, off, none⟩) l) : RowAt w (some ⟨b, off + k, none⟩) ((l.drop k).take n) := (h.drop k).take n

/-- The data filled up. -/
def fullL (data : List UInt8) : List UInt8 := data ++ zeros8 (8 * (macBlocks data).length - data.length)
theorem mac_count (data : List UInt8) : data.length ≤ 8 * (macBlocks data).length ∧ 8 * (macBlocks data).length ≤ data.length + 8 ∧ (0 < data.length → 8 * (macBlocks data).length < data.length + 8) := by
  unfold macBlocks leastOne
  rw [chunks_length]
  unfold nBlocks
  split
  · rename_i h; simp; omega
  · rw [chunks_length]; omega
theorem fullL_length (data : List UInt8) : (fullL data).length = 8 * (macBlocks data).length := by
  have := mac_count data
  unfold fullL
  rw [List.length_append, zeros8_length]
  omega
theorem zeros8_drop (n k : Nat) : (zeros8 n).drop k = zeros8 (n - k) := by simp [zeros8]
theorem zeros8_take (n k : Nat) : (zeros8 n).take k = zeros8 (min k n) := by simp [zeros8]
theorem seg_eq (data : List UInt8) (k : Nat) (hk : k < (macBlocks data).length) : (macBlocks data).getD k [] = ((fullL data).drop (8 * k)).take 8 := by
  have hc := mac_count data
  by_cases h0 : data.length = 0
  · obtain rfl : data = [] := List.length_eq_zero_iff.1 h0
    have hk0 : k = 0 := by have : (macBlocks []).length = 1 := rfl; omega
    subst hk0
    rfl
  · have hnb : (macBlocks data) = chunks data (nBlocks data) := by
      unfold macBlocks leastOne
      rw [if_neg (by rw [chunks_length]; unfold nBlocks; omega)]
    rw [hnb, chunks_length] at hk
    have hl : (macBlocks data).length = nBlocks data := by rw [hnb, chunks_length]
    rw [hl] at hc
    have e1 : (chunks data (nBlocks data)).getD k [] = chunk data k := by simp [chunks, hk]
    rw [hnb, e1]
    unfold fullL chunk pad8
    rw [hl]
    have hka : 8 * k < data.length := by unfold nBlocks at hk; omega
    rw [List.drop_append, zeros8_drop, List.take_append, zeros8_take, List.length_take, List.length_drop]
    congr 2
    unfold nBlocks at hk hc
    simp only [nBlocks]
    omega
theorem mac_eq (key data : List UInt8) (hk : key.length = 8) (k : Nat) (h : k ≤ (macBlocks data).length) : befL (encN key) (zeros8 8) (macBlocks data) k = chS key (fullL data) k := by
  induction k with
  | zero => rfl
  | succ k ih =>
    show encN key (xorL ((macBlocks data).getD k []) (befL (encN key) (zeros8 8) (macBlocks data) k)) = desS key (xorL (chS key (fullL data) k) (((fullL data).drop (8 * k)).take 8)) false
    rw [ih (by omega), seg_eq data k (by omega), xorL_comm, enc_eq _ _ hk]
    rw [xorL_length _ _ _, chS_length]
    rw [chS_length, List.length_take, List.length_drop, fullL_length]
    omega
theorem retail_eq (key data : List UInt8) (hk : key.length = 16) : retailN key data = desS (key.take 8) (desS (key.drop 8) (chS (key.take 8) (fullL data) (macBlocks data).length) true) false := by
  unfold retailN hMac
  rw [mac_eq _ _ (take8 hk) _ (Nat.le_refl _), dec_eq _ _ (drop8 hk) (chS_length _ _ _), enc_eq _ _ (take8 hk) (desS_length _ _ _)]

set_option maxRecDepth 100000 in
set_option maxHeartbeats 1000000 in
theorem bytes_none (ao : Option Addr) (cap : Nat) (w : World) :
    Calls Try.prog 59 #[.slice ao 0 cap] w fun e w' => ∃ v, e = .returned v ∧ OwnB w' w.heap.size v [] ∧ Below w.heap.size w w' := by
  obtain ⟨i0, hi, hz0, hz1, hz2⟩ := info_parts Try.info5
  go_enter Try.func59, Try.ntmps59
  go_wp2_with (first
    | (at_make; refine wpList_make_full _ rfl _ _ 22 rfl w.heap.size 5 i0 (.int .u8 0) 1 Try.underlying22 hi hz0 hz1 .i64 .i64 _ _ 0 rfl rfl rfl rfl (by rw [hz2]; omega) (by unfold maxLen; omega) (Nat.le_refl _) ?_; intro w0 hown0 hgrow0; have bel0 := below_of_grown hgrow0)
    | (refine wpList_copy_nothing rfl _ _ 22 22 rfl 5 Try.underlying22 (by kernel_rfl) _ _ 0 0 0 cap rfl rfl rfl ?_))
  go_ret
  rw [show (madeCells (Value.int .u8 0).cells (0 * 1)).toList = [] from by kernel_rfl] at hown0
  exact ⟨_, rfl, hown0, bel0⟩
theorem bytes_all (data : List UInt8) (ao : Option Addr) (cap : Nat) (w : World) (hn : data.length ≤ 1048576) (hr : RowAt w ao data) :
    Calls Try.prog 59 #[.slice ao data.length cap] w fun e w' => ∃ v, e = .returned v ∧ OwnB w' w.heap.size v data ∧ Below w.heap.size w w' := by
  by_cases h0 : 0 < data.length
  · refine (bytes_any ao cap data w hn h0 hr).mono ?_
    rintro e w' ⟨rfl, own, bel⟩
    exact ⟨_, rfl, own, bel⟩
  · obtain rfl : data = [] := List.length_eq_zero_iff.1 (by omega)
    exact bytes_none ao cap w
end Go.Proofs.Ytdelidfigcgglaa
