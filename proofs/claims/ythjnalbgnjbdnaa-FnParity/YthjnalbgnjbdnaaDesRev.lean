/-
  slices.Reverse over sixteen words.
-/
import Derived.Test.YthjnalbgnjbdnaaDesRun
namespace Go.Proofs.Ythjnalbgnjbdnaa
open Go.RowKit

/-- The cells behind k exchanges. -/
def revAt (f : Nat → Value) (k i : Nat) : Value := if i < k ∨ 15 < i + k then f (15 - i) else f i
def revCells (f : Nat → Value) (k : Nat) : List Value := (List.range 16).map (revAt f k)
theorem revCells_length (f : Nat → Value) (k : Nat) : (revCells f k).length = 16 := by simp [revCells]
theorem revCells_get (f : Nat → Value) (k i : Nat) (h : i < 16) : (revCells f k)[i]'(by rw [revCells_length]; exact h) = revAt f k i := by simp [revCells]
theorem revCells_step (f : Nat → Value) (k : Nat) (h : k < 8) : ((revCells f k).set k (f (15 - k))).set (15 - k) (f k) = revCells f (k + 1) := by
  apply List.ext_getElem
  · simp [revCells]
  · intro i h1 h2
    rw [revCells_length] at h2
    rw [List.getElem_set, List.getElem_set, revCells_get f k i h2, revCells_get f (k + 1) i h2]
    unfold revAt
    by_cases e1 : 15 - k = i
    · rw [if_pos e1, if_pos (by omega), show 15 - i = k from by omega]
    · rw [if_neg e1]
      by_cases e2 : k = i
      · rw [if_pos e2, if_pos (by omega), e2]
      · rw [if_neg e2]
        by_cases e3 : i < k ∨ 15 < i + k
        · rw [if_pos e3, if_pos (by omega)]
        · rw [if_neg e3, if_neg (by omega)]

set_option maxHeartbeats 1000000 in
theorem reverse_any (g t : Nat) (f : Nat → Nat) (w : World) (hb : Blk w g t ((List.range 16).map fun i => word64 (f i))) :
    Calls Try.prog 100 #[.slice (some ⟨g, 0, none⟩) 16 16] w fun e w' => e = .returned (.tuple #[]) ∧ Blk w' g t ((List.range 16).map fun i => word64 (f (15 - i))) ∧ w.grownBy w' (some g) := by
  have h0 : Blk w g t (revCells (fun i => word64 (f i)) 0) := by
    have : revCells (fun i => word64 (f i)) 0 = (List.range 16).map fun i => word64 (f i) := by
      unfold revCells revAt
      apply List.map_congr_left
      intro i hi
      rw [List.mem_range] at hi
      rw [if_neg (by omega)]
    rw [this]; exact hb
  clear hb
  go_enter Try.func100, Try.ntmps100
  go_wp2
  go_loopw [2, 3] (fun i j wr => ∃ k : Nat, k ≤ 8 ∧ i = .int .i64 k ∧ j = .int .i64 ((15 : Int) - k) ∧ Blk wr g t (revCells (fun i => word64 (f i)) k) ∧ w.grownBy wr (some g)) (fun i _ _ => 8 - (intOf i).toNat)
  case atStart => exact ⟨0, Nat.zero_le _, rfl, rfl, h0, World.grownBy.refl _ _⟩
  case round =>
    clear h0
    obtain ⟨k, hk, rfl, rfl, hb, hg⟩ := hrel
    by_cases hlt : k < 8
    · obtain ⟨j, hj, hj16, Hj⟩ : ∃ j : Nat, ((15 : Int) - (k : Int)) = (j : Int) ∧ j < 16 ∧ Hid (j = 15 - k) := ⟨15 - k, by omega, by omega, rfl⟩
      have hkj : k < j := by have := Hj.out; omega
      have hk16 : k < 16 := by omega
      have ck : wr.cell? ⟨g, k, none⟩ = some (.int .u64 (f k : Nat)) := by
        rw [hb.cell k (by rw [revCells_length]; exact hk16), revCells_get _ _ _ hk16]; unfold revAt; rw [if_neg (by omega)]; rfl
      have cj : wr.cell? ⟨g, j, none⟩ = some (.int .u64 (f j : Nat)) := by
        rw [hb.cell j (by rw [revCells_length]; exact hj16), revCells_get _ _ _ hj16]; unfold revAt; rw [if_neg (by have := Hj.out; omega)]; rfl
      have fk := hb.free k
      have fj := hb.free j
      have hne : ¬ k = j := by omega
      have hne2 : ¬ j = k := by omega
      have hkI : (k : Int) < 16 := by omega
      have hjI : (j : Int) < 16 := by omega
      have hkjI : (k : Int) < (j : Int) := by omega
      have hst := (hb.set k (word64 (f j))).set j (word64 (f k))
      have hgr := grown_trans hg (grown_trans (b := wr.setCell ⟨g, k, none⟩ (word64 (f j))) ⟨rfl, rfl, rfl, by simp [World.setCell], fun i _ hi => heap_setCell_other wr _ i _ (fun e => hi (by simp [e]))⟩ (c := (wr.setCell ⟨g, k, none⟩ (word64 (f j))).setCell ⟨g, j, none⟩ (word64 (f k))) ⟨rfl, rfl, rfl, by simp [World.setCell], fun i _ hi => heap_setCell_other _ _ i _ (fun e => hi (by simp [e]))⟩)
      rw [hj]
      clear hj
      go_wp2
      go_region
      go_wp2
      go_roundw
      case rel =>
        have hs : ((revCells (fun i => word64 (f i)) k).set k (word64 (f j))).set j (word64 (f k)) = revCells (fun i => word64 (f i)) (k + 1) := by
          have := revCells_step (fun i => word64 (f i)) k hlt
          rw [← Hj.out] at this
          exact this
        rw [hs] at hst
        exact ⟨k + 1, by omega, by go_num, by have := Hj.out; go_num, hst, ⟨hgr.os, hgr.tape, hgr.output, hgr.size, hgr.block⟩⟩
      case measure => simp [intOf]; omega
    · obtain rfl : k = 8 := by omega
      go_wp2
      go_end0
      refine ⟨rfl, ?_, hg⟩
      have : revCells (fun i => word64 (f i)) 8 = (List.range 16).map fun i => word64 (f (15 - i)) := by
        unfold revCells revAt
        apply List.map_congr_left
        intro i hi
        rw [List.mem_range] at hi
        by_cases h : i < 8 ∨ 15 < i + 8
        · rw [if_pos h]
        · omega
      rw [← this]; exact hb
end Go.Proofs.Ythjnalbgnjbdnaa
