/-
  impl.cut at every row, impl.atLeastOne.
-/
import Derived.Test.YthjnalbgnjbdnaaChainL
namespace Go.Proofs.Ythjnalbgnjbdnaa
open Go.RowKit

set_option maxHeartbeats 1000000 in
theorem cut_empty (ao : Option Addr) (cap : Nat) (w : World) :
    Calls Try.prog 62 #[.slice ao 0 cap, .int .i64 8, .func (.func 63) #[] #[]] w fun e w' => e = .returned (.slice none 0 0) ∧ w' = w := by
  go_enter Try.func62, Try.ntmps62
  go_wp2
  go_loop [7, 8] (fun v i => v = .slice none 0 0 ∧ i = .int .i64 0) (fun _ _ => 0)
  case atStart => exact ⟨rfl, rfl⟩
  case round =>
    obtain ⟨rfl, rfl⟩ := hrel
    go_wp2
    go_ret
    exact ⟨rfl, rfl⟩

def nBlocks (data : List UInt8) : Nat := (data.length + 7) / 8
theorem cut_any (data : List UInt8) (ao : Option Addr) (cap : Nat) (w : World) (hn : data.length ≤ 4096) (hc : data.length ≤ cap) (hr : RowAt w ao data) :
    Calls Try.prog 62 #[.slice ao data.length cap, .int .i64 8, .func (.func 63) #[] #[]] w fun e w' => ∃ v, e = .returned v ∧ OwnK w' w.heap.size v (chunks data (nBlocks data)) ∧ Below w.heap.size w w' := by
  by_cases h0 : 0 < data.length
  · obtain ⟨b, o, rfl, hrg⟩ := hr.range h0
    exact cut_some data b o cap w hn hc hrg
  · obtain rfl : data = [] := List.length_eq_zero_iff.1 (by omega)
    refine (cut_empty ao cap w).mono ?_
    rintro e w' ⟨rfl, rfl⟩
    exact ⟨_, rfl, World.ownsRow_nil _ _ _ _, Below.refl _ _⟩

def leastOne (bl : List (List UInt8)) : List (List UInt8) := if bl.length = 0 then [zeros8 8] else bl
theorem made_block : (madeCells (Value.agg (zerosOf 8 .u8).toArray).cells (1 * 8)).toList = [zeros8 8].flatten.map byte := by kernel_rfl

set_option maxHeartbeats 1000000 in
theorem least_some (v : Value) (ao : Option Addr) (n cap : Nat) (w : World) (hv : v = .slice ao n cap) (h0 : 0 < n) (hn : n ≤ 4096) :
    Calls Try.prog 65 #[v] w fun e w' => e = .returned v ∧ w' = w := by
  subst hv
  have h1 : ¬ ((n : Int) = 0) := by omega
  go_enter Try.func65, Try.ntmps65
  go_wp2
  go_ret
  exact ⟨rfl, rfl⟩
set_option maxHeartbeats 1000000 in
theorem least_none (ao : Option Addr) (cap : Nat) (w : World) :
    Calls Try.prog 65 #[.slice ao 0 cap] w fun e w' => ∃ v, e = .returned v ∧ OwnK w' w.heap.size v [zeros8 8] ∧ Below w.heap.size w w' := by
  obtain ⟨i0, hi, hz0, hz1, hz2⟩ := info_parts Try.info50
  have hm := made_block
  go_enter Try.func65, Try.ntmps65
  go_wp2_with (at_make; refine wpList_make_full _ rfl _ _ 58 rfl w.heap.size 50 i0 _ 8 Try.underlying58 hi hz0 hz1 .i64 .i64 _ _ 1 rfl rfl rfl rfl (by rw [hz2]; omega) (by unfold maxLen; omega) (Nat.le_refl _) ?_; intro w0 hown0 hgrow0; rw [hm] at hown0; have bel0 := below_of_grown hgrow0)
  go_ret
  exact ⟨_, rfl, hown0, bel0⟩

theorem least_any (v : Value) (bl : List (List UInt8)) (base : Nat) (w : World) (hn : bl.length ≤ 4096) (hb : base ≤ w.heap.size) (h : OwnK w base v bl) :
    Calls Try.prog 65 #[v] w fun e w' => ∃ v', e = .returned v' ∧ OwnK w' base v' (leastOne bl) ∧ Below w.heap.size w w' := by
  unfold leastOne
  by_cases h0 : bl.length = 0
  · rw [if_pos h0]
    obtain ⟨ao, cap, rfl⟩ : ∃ ao cap, v = .slice ao 0 cap := by
      rcases h.2 with ⟨rfl, -⟩ | ⟨g, cap, cur, rfl, -⟩
      · exact ⟨none, 0, rfl⟩
      · exact ⟨_, cap, by rw [h0]⟩
    refine (least_none ao cap w).mono ?_
    rintro e w' ⟨v', rfl, own, bel⟩
    exact ⟨v', rfl, own.mono hb, bel⟩
  · rw [if_neg h0]
    obtain ⟨ao, cap, hv⟩ : ∃ ao cap, v = .slice ao bl.length cap := by
      rcases h.2 with ⟨rfl, h1⟩ | ⟨g, cap, cur, rfl, -⟩
      · omega
      · exact ⟨_, cap, rfl⟩
    refine (least_some v ao bl.length cap w hv (by omega) hn).mono ?_
    rintro e w' ⟨rfl, rfl⟩
    exact ⟨v, rfl, h, Below.refl _ _⟩

/-- The blocks of a MAC. -/
def macBlocks (data : List UInt8) : List (List UInt8) := leastOne (chunks data (nBlocks data))
theorem macBlocks_eight (data : List UInt8) : ∀ b ∈ macBlocks data, b.length = 8 := by
  intro b hb
  unfold macBlocks leastOne at hb
  split at hb
  · simp only [List.mem_singleton] at hb; rw [hb]; simp [zeros8]
  · simp only [chunks, List.mem_map] at hb
    obtain ⟨k, -, rfl⟩ := hb
    exact chunk_length _ _
theorem macBlocks_pos (data : List UInt8) : 0 < (macBlocks data).length := by
  unfold macBlocks leastOne
  split
  · simp
  · omega
theorem macBlocks_le (data : List UInt8) (h : data.length ≤ 4096) : (macBlocks data).length ≤ 4096 := by
  unfold macBlocks leastOne
  split
  · simp
  · rw [chunks_length]; unfold nBlocks; omega
end Go.Proofs.Ythjnalbgnjbdnaa
