/-
  spec: l1IP, l1E.
-/
import Derived.Test.YthjnalbgnjbdnaaSpecBits
namespace Go.Proofs.Ythjnalbgnjbdnaa
open Go.RowKit

def firstTab : List Nat := [58, 60, 62, 64, 57, 59, 61, 63]
def ipInts : List Nat := ints ipTab
theorem ip_step : ∀ i, i < 8 → ∀ k, k < 8 → ipInts.getD (8 * i + k) 0 = firstTab.getD i 0 - 8 * k ∧ 57 ≤ firstTab.getD i 0 ∧ firstTab.getD i 0 ≤ 64 := by decide +kernel
theorem ipInts_length : ipInts.length = 64 := rfl

theorem take_getD (l : List Nat) (j : Nat) (h : j < l.length) : l.take j ++ [l.getD j 0] = l.take (j + 1) := by
  rw [take_snoc l j h]; simp [h]

theorem own_mono {w : World} {B base : Nat} {v : Value} {ns : List Nat} (h : OwnI w (B + base) v ns) : OwnI w B v ns := by
  refine ⟨h.1, ?_⟩
  rcases h.2 with h | ⟨g, cap, cur, hv, hb, r⟩
  · exact .inl h
  · exact .inr ⟨g, cap, cur, hv, by omega, r⟩

set_option maxRecDepth 100000 in
set_option maxHeartbeats 1000000 in
theorem ip_any (w : World) : Calls Try.prog 47 #[] w fun e w' => ∃ v, e = .returned v ∧ OwnI w' w.heap.size v ipInts ∧ Below w.heap.size w w' := by
  obtain ⟨i0, hi0, hz0, hz1, hz2⟩ := info_parts Try.info3
  go_enter Try.func47, Try.ntmps47
  go_wp2
  have hB0 : Blk (w.alloc (.cells #[.int .i64 58, .int .i64 60, .int .i64 62, .int .i64 64, .int .i64 57, .int .i64 59, .int .i64 61, .int .i64 63] 3)) w.heap.size 3 (firstTab.map num) := Blk.new w _ _
  have hbl0 : Below w.heap.size w (w.alloc (.cells #[.int .i64 58, .int .i64 60, .int .i64 62, .int .i64 64, .int .i64 57, .int .i64 59, .int .i64 61, .int .i64 63] 3)) := (Below.refl _ _).alloc (Nat.le_refl _) _
  go_loopw [1, 3, 4, 7] (fun v _ _ i wr => ∃ k : Nat, k ≤ 8 ∧ i = .int .i64 k ∧ OwnI wr (w.heap.size + 1) v (ipInts.take (8 * k)) ∧ Blk wr w.heap.size 3 (firstTab.map num) ∧ Below w.heap.size w wr) (fun _ _ _ i _ => 8 - (intOf i).toNat)
  case atStart => exact ⟨0, Nat.zero_le _, rfl, World.ownsRow_nil _ _ _ _, hB0, hbl0⟩
  case round =>
    clear hB0 hbl0
    obtain ⟨i, hi, rfl, hown, hB, hbel⟩ := hrel
    by_cases hlt : i < 8
    · obtain ⟨f, hf, Hf⟩ : ∃ f, firstTab.getD i 0 = f ∧ Hid (firstTab.getD i 0 = f) := ⟨_, rfl, rfl⟩
      have hcx : wr.cell? ⟨w.heap.size, i, none⟩ = some (.int .i64 (f : Int)) := by
        rw [hB.cell i (by simpa [firstTab] using hlt), ← hf]
        have : i < firstTab.length := hlt
        simp [num, this]
      clear hf
      have hiI : decide ((i : Int) < 8) = true := decide_eq_true (by omega)
      go_wp2
      go_loopw [1, 4] (fun v kk wr => ∃ k : Nat, k ≤ 8 ∧ kk = .int .i64 k ∧ OwnI wr (w.heap.size + 1) v (ipInts.take (8 * i + k)) ∧ Blk wr w.heap.size 3 (firstTab.map num) ∧ Below w.heap.size w wr) (fun _ kk _ => 8 - (intOf kk).toNat)
      case atStart => exact ⟨0, Nat.zero_le _, rfl, hown, hB, hbel⟩
      case round =>
        clear hown hB hbel hcx
        obtain ⟨k, hk, rfl, hown, hB, hbel⟩ := hrel
        by_cases hkl : k < 8
        · have hs := ip_step i hlt k hkl
          rw [Hf.out] at hs
          have HS : Hid (ipInts.getD (8 * i + k) 0 = f - 8 * k) := hs.1
          have hf1 := hs.2.1
          have hf2 := hs.2.2
          clear hs
          have hll : (ipInts.take (8 * i + k)).length ≤ 64 := by rw [List.length_take]; omega
          have hsz := hB.lt
          go_wp2_with (at_builtin; refine wpList_append_own _ rfl _ _ 42 rfl (w.heap.size + 1) 3 i0 (.int .i64 0) 1 8 Try.underlying42 hi0 hz0 hz1 hz2 rfl (by decide) _ _ _ rfl (hown.alloc _) ⟨wr.heap.size, 0, none⟩ 1 1 [.int .i64 ((f : Int) - 8 * (k : Int))] rfl rfl (cell_one_new _ _ _) (by intro u hu; simp at hu; subst hu; rfl) (by unfold maxLen; omega) (by omega) (by simp; omega) ?_; intro v1 w1 hown1 hgrow1 hnil1)
          have R : OwnI w1 (w.heap.size + 1) v1 (ipInts.take (8 * i + (k + 1))) ∧ Blk w1 w.heap.size 3 (firstTab.map num) ∧ Below w.heap.size w w1 := by
            refine ⟨?_, (hB.alloc _).grown hgrow1 ?_, (hbel.alloc hbel.size _).grown hgrow1 (by simp; omega) (fun j hj => by have := (hown.lt j hj).1; omega)⟩
            · have e : ((f : Int) - 8 * (k : Int)) = ((ipInts.getD (8 * i + k) 0 : Nat) : Int) := by rw [HS.out]; omega
              rw [e] at hown1
              unfold OwnI
              rw [show 8 * i + (k + 1) = 8 * i + k + 1 from by omega, ← take_getD _ _ (by rw [ipInts_length]; omega), List.map_append, List.length_append]
              exact hown1
            · intro e
              have := (hown.lt _ e.symm).1
              omega
          clear hown1 hgrow1 hown hnil1 hB hbel
          go_wp2
          go_roundw
          case rel => first | exact ⟨k + 1, by omega, by go_num, R.1, R.2.1, R.2.2⟩ | ((repeat apply Exists.intro); exact ⟨⟨k + 1, by omega, by go_num, R.1, R.2.1, R.2.2⟩, rfl⟩)
          case measure => simp [intOf]; omega
        · obtain rfl : k = 8 := by omega
          go_wp2
          go_roundw
          case rel => exact ⟨i + 1, by omega, by go_num, by rw [show 8 * (i + 1) = 8 * i + 8 from by omega]; exact hown, hB, hbel⟩
          case measure => simp [intOf]; omega
    · go_wp2
      go_ret
      obtain rfl : i = 8 := by omega
      rw [List.take_of_length_le (by rw [ipInts_length]; omega)] at hown
      exact ⟨_, rfl, own_mono hown, hbel⟩

def eInts : List Nat := (List.range 48).map fun j => (4 * (j / 6) + j % 6 + 31) % 32 + 1
theorem eInts_length : eInts.length = 48 := by simp [eInts]
theorem e_step (i k : Nat) (hi : i < 8) (hk : k < 6) : eInts.getD (6 * i + k) 0 = (4 * i + k + 31) % 32 + 1 := by
  have h : 6 * i + k < 48 := by omega
  simp only [eInts, List.getD_eq_getElem?_getD, List.getElem?_map, List.getElem?_range h, Option.map_some, Option.getD_some]
  rw [show (6 * i + k) / 6 = i from by omega, show (6 * i + k) % 6 = k from by omega]

set_option maxRecDepth 100000 in
set_option maxHeartbeats 1000000 in
theorem e_any (w : World) : Calls Try.prog 91 #[] w fun e w' => ∃ v, e = .returned v ∧ OwnI w' w.heap.size v eInts ∧ Below w.heap.size w w' := by
  obtain ⟨i0, hi0, hz0, hz1, hz2⟩ := info_parts Try.info3
  go_enter Try.func91, Try.ntmps91
  go_wp2
  go_loopw [1, 2, 3] (fun v i _ wr => ∃ k : Nat, k ≤ 8 ∧ i = .int .i64 k ∧ OwnI wr w.heap.size v (eInts.take (6 * k)) ∧ Below w.heap.size w wr) (fun _ i _ _ => 8 - (intOf i).toNat)
  case atStart => exact ⟨0, Nat.zero_le _, rfl, World.ownsRow_nil _ _ _ _, Below.refl _ _⟩
  case round =>
    obtain ⟨i, hi, rfl, hown, hbel⟩ := hrel
    by_cases hlt : i < 8
    · have hiI : decide ((i : Int) < 8) = true := decide_eq_true (by omega)
      go_wp2
      go_loopw [1, 3] (fun v kk wr => ∃ k : Nat, k ≤ 6 ∧ kk = .int .i64 k ∧ OwnI wr w.heap.size v (eInts.take (6 * i + k)) ∧ Below w.heap.size w wr) (fun _ kk _ => 6 - (intOf kk).toNat)
      case atStart => exact ⟨0, Nat.zero_le _, rfl, hown, hbel⟩
      case round =>
        clear hown hbel
        obtain ⟨k, hk, rfl, hown, hbel⟩ := hrel
        by_cases hkl : k < 6
        · have HS : Hid (eInts.getD (6 * i + k) 0 = (4 * i + k + 31) % 32 + 1) := e_step i k hlt hkl
          have hll : (eInts.take (6 * i + k)).length ≤ 48 := by rw [List.length_take, eInts_length]; omega
          have hsz := hbel.size
          go_wp2_with (at_builtin; refine wpList_append_own _ rfl _ _ 42 rfl w.heap.size 3 i0 (.int .i64 0) 1 8 Try.underlying42 hi0 hz0 hz1 hz2 rfl (by decide) _ _ _ rfl (hown.alloc _) ⟨wr.heap.size, 0, none⟩ 1 1 [.int .i64 ((4 * (i : Int) + (k : Int) + 31) % 32 + 1)] rfl rfl (cell_one_new _ _ _) (by intro u hu; simp at hu; subst hu; rfl) (by unfold maxLen; omega) (by omega) (by simp; omega) ?_; intro v1 w1 hown1 hgrow1 hnil1)
          have R := app_step_int (x := eInts.getD (6 * i + k) 0) hown hbel hown1 hgrow1 (by unfold num; rw [HS.out]; congr 1)
          rw [take_getD _ _ (by rw [eInts_length]; omega), show 6 * i + k + 1 = 6 * i + (k + 1) from by omega] at R
          clear hown1 hgrow1 hown hnil1 hbel
          go_wp2
          go_roundw
          case rel => first | exact ⟨k + 1, by omega, by go_num, R.1, R.2⟩ | ((repeat apply Exists.intro); exact ⟨⟨k + 1, by omega, by go_num, R.1, R.2⟩, rfl⟩)
          case measure => simp [intOf]; omega
        · obtain rfl : k = 6 := by omega
          go_wp2
          go_roundw
          case rel => exact ⟨i + 1, by omega, by go_num, by rw [show 6 * (i + 1) = 6 * i + 6 from by omega]; exact hown, hbel⟩
          case measure => simp [intOf]; omega
    · go_wp2
      go_ret
      obtain rfl : i = 8 := by omega
      rw [List.take_of_length_le (by rw [eInts_length]; omega)] at hown
      exact ⟨_, rfl, hown, hbel⟩
end Go.Proofs.Ythjnalbgnjbdnaa
