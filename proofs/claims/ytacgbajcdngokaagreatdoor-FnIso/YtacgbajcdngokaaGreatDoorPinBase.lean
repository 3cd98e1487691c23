/-
  Texts and digits; impl.isDigit, impl.allDigits, impl.isPin, impl.isPan, impl.isFormat, spec.l4Digits, spec.l4GoodPan.
-/
import Derived.Test.YtacgbajcdngokaaGreatDoorPinBits
import Derived.WalkSpells
import Derived.Lib.OthersKept
namespace Go.Proofs.YtacgbajcdngokaaGreatDoor
open Go.RowKit

/-- A byte is a digit. -/
def dig (b : UInt8) : Bool := decide (48 ≤ b.toNat) && decide (b.toNat ≤ 57)
/-- All bytes of a text are digits. -/
def digs (s : ByteArray) : Bool := s.data.toList.all dig
theorem digs_at {s : ByteArray} (h : digs s = true) (k : Nat) (hk : k < s.size) : dig s[k] = true := by
  unfold digs at h
  rw [List.all_eq_true] at h
  exact h _ (by show s.data[k] ∈ s.data.toList; simp)
theorem digs_yes {s : ByteArray} (h : ∀ k (hk : k < s.size), dig s[k] = true) : digs s = true := by
  unfold digs
  rw [List.all_eq_true]
  intro b hb
  obtain ⟨k, hk, rfl⟩ := List.getElem_of_mem hb
  exact h k hk
theorem digs_no {s : ByteArray} (k : Nat) (hk : k < s.size) (h : dig s[k] = false) : digs s = false := by
  cases hd : digs s
  · rfl
  · rw [digs_at hd k hk] at h; cases h
theorem dig_of {b : UInt8} (h1 : 48 ≤ b.toNat) (h2 : b.toNat ≤ 57) : dig b = true := by simp [dig, h1, h2]
theorem dig_to {b : UInt8} (h : dig b = true) : 48 ≤ b.toNat ∧ b.toNat ≤ 57 := by simpa [dig] using h

theorem dig_int (b : UInt8) : (decide (48 ≤ (b.toNat : Int)) && decide ((b.toNat : Int) ≤ 57)) = dig b := by
  unfold dig
  rw [decide_eq_decide.2 (show (48 ≤ (b.toNat : Int)) ↔ 48 ≤ b.toNat from by omega), decide_eq_decide.2 (show ((b.toNat : Int) ≤ 57) ↔ b.toNat ≤ 57 from by omega)]

set_option maxHeartbeats 400000 in
theorem isDigit_any (r : Int) (w : World) :
    Calls Tryz.prog 51 #[.int .i32 r] w fun e w' => e = .returned (.bool (decide (48 ≤ r) && decide (r ≤ 57))) ∧ w' = w := by
  by_cases h : 48 ≤ r
  · go_enter Tryz.func51, Tryz.ntmps51
    go_wp2
    go_ret
    exact ⟨by simp [h], rfl⟩
  · go_enter Tryz.func51, Tryz.ntmps51
    go_wp2
    go_ret
    exact ⟨by rw [show decide (48 ≤ r) = false from by simp; omega]; rfl, rfl⟩

set_option maxHeartbeats 1000000 in
theorem l4Digits_any (s : ByteArray) (lo hi : Nat) (w : World) (_hs : s.size ≤ maxLen) (hh : hi ≤ 1000) (_hl : lo ≤ 1000) :
    Calls Tryz.prog 27 #[.string s, .int .i64 lo, .int .i64 hi] w fun e w' => e = .returned (.bool (decide (lo ≤ s.size) && decide (s.size ≤ hi) && digs s)) ∧ w' = w := by
  by_cases h1 : s.size < lo
  · go_enter Tryz.func27, Tryz.ntmps27
    go_wp2
    go_ret
    exact ⟨by simp [show ¬ lo ≤ s.size from by omega], rfl⟩
  · by_cases h2 : hi < s.size
    · go_enter Tryz.func27, Tryz.ntmps27
      go_wp2
      go_ret
      exact ⟨by simp [show ¬ s.size ≤ hi from by omega], rfl⟩
    · go_enter Tryz.func27, Tryz.ntmps27
      go_wp2_with fail
      go_loopw [7] (fun i wr => ∃ k : Nat, k ≤ s.size ∧ i = .int .i64 k ∧ Hid (∀ j (hj : j < s.size), j < k → dig s[j] = true) ∧ wr = w) (fun i _ => s.size - (intOf i).toNat)
      case atStart => exact ⟨0, Nat.zero_le _, rfl, fun j _ h => absurd h (Nat.not_lt_zero j), rfl⟩
      case round =>
        obtain ⟨k, hk, rfl, HD, hw⟩ := hrel
        subst hw
        by_cases hlt : k < s.size
        · by_cases ha : s[k].toNat < 48
          · go_wp2_with fail
            go_ret
            exact ⟨by rw [digs_no k hlt (by simp [dig]; omega)]; simp, rfl⟩
          · by_cases hb : 57 < s[k].toNat
            · go_wp2_with fail
              go_ret
              exact ⟨by rw [digs_no k hlt (by simp [dig]; omega)]; simp, rfl⟩
            · go_wp2_with fail
              go_roundw
              case rel =>
                refine ⟨k + 1, by omega, by go_num, ?_, by trivial⟩
                show ∀ j (hj : j < s.size), j < k + 1 → dig s[j] = true
                intro j hj hjk
                by_cases hjk2 : j = k
                · subst hjk2; exact dig_of (by omega) (by omega)
                · exact HD.out j hj (by omega)
              case measure => simp [intOf]; omega
        · go_wp2_with fail
          go_ret
          exact ⟨by rw [digs_yes (fun j hj => HD.out j hj (by omega))]; simp; omega, rfl⟩

set_option maxHeartbeats 1000000 in
theorem allDigits_any (s : ByteArray) (w : World) :
    Calls Tryz.prog 32 #[.string s] w fun e w' => e = .returned (.bool (digs s)) ∧ Below w.heap.size w w' := by
  go_enter Tryz.func32, Tryz.ntmps32
  go_wp2_with fail
  go_loopw [] (fun wr => ∃ pos : Nat, pos ≤ s.size ∧ wr.heap[w.heap.size]? = some (.stringIter s pos) ∧ Hid (∀ j (hj : j < s.size), j < pos → dig s[j] = true) ∧ Below w.heap.size w wr) (fun wr => s.size - wr.iterPos w.heap.size)
  case atStart =>
    refine ⟨0, Nat.zero_le _, by simpa using World.iter_heap w s 0, fun j _ h => absurd h (Nat.not_lt_zero j), (Below.refl _ w).alloc (Nat.le_refl _) _⟩
  case round =>
    obtain ⟨pos, hp0, hit, HD, hbel⟩ := hrel
    by_cases hp : pos < s.size
    · by_cases ha : s[pos].toNat < 128
      · have hnx : ∀ ty, (Instr.next (.pointer (some ⟨w.heap.size, 0, none⟩)) true ty).run Tryz.prog wr = _ := fun ty => Lib.run_next_ascii_at wr w.heap.size s pos ty hit hp ha
        have hit2 := Lib.iterAt_heap wr w.heap.size s pos (pos + 1) hit
        have hbw2 := Lib.below_iterAt hbel (k := w.heap.size) (Nat.le_refl _) s (pos + 1)
        cases hd : dig s[pos]
        · go_wp2_with (go_at_call 51; refine (isDigit_any _ _).mono ?_; rintro e w1 ⟨rfl, hw1⟩; subst w1; rw [dig_int, hd])
          go_ret
          exact ⟨by rw [digs_no pos hp hd]; rfl, hbw2⟩
        · go_wp2_with (go_at_call 51; refine (isDigit_any _ _).mono ?_; rintro e w1 ⟨rfl, hw1⟩; subst w1; rw [dig_int, hd])
          go_roundw
          case rel =>
            refine ⟨pos + 1, by omega, hit2, ?_, hbw2⟩
            show ∀ j (hj : j < s.size), j < pos + 1 → dig s[j] = true
            intro j hj hjk
            by_cases hjk2 : j = pos
            · subst hjk2; exact hd
            · exact HD.out j hj (by omega)
          case measure =>
            simp only [World.iterPos, hit2, hit]
            omega
      · have hdh := (decode_high s pos hp (by omega)).1
        have hnx : ∀ ty, (Instr.next (.pointer (some ⟨w.heap.size, 0, none⟩)) true ty).run Tryz.prog wr = _ := fun ty => Lib.run_next_any_at wr w.heap.size s pos ty hit hp
        have hbw2 := Lib.below_iterAt hbel (k := w.heap.size) (Nat.le_refl _) s (pos + (Utf8.decode s pos).2)
        have hno : (decide (48 ≤ ((Utf8.decode s pos).1 : Int)) && decide (((Utf8.decode s pos).1 : Int) ≤ 57)) = false := by
          rw [decide_eq_false (show ¬ ((Utf8.decode s pos).1 : Int) ≤ 57 from by omega), Bool.and_false]
        go_wp2_with (go_at_call 51; refine (isDigit_any _ _).mono ?_; rintro e w1 ⟨rfl, hw1⟩; subst w1; rw [hno])
        go_ret
        exact ⟨by rw [digs_no pos hp (by simp [dig]; omega)]; rfl, hbw2⟩
    · have hnx : ∀ ty, (Instr.next (.pointer (some ⟨w.heap.size, 0, none⟩)) true ty).run Tryz.prog wr = _ := fun ty => Lib.run_next_end_at wr w.heap.size s pos ty hit hp
      go_wp2_with fail
      go_ret
      exact ⟨by rw [digs_yes (fun j hj => HD.out j hj (by omega))]; rfl, hbel⟩

theorem goodPan_any (s : ByteArray) (w : World) (hs : s.size ≤ maxLen) :
    Calls Tryz.prog 55 #[.string s] w fun e w' => e = .returned (.bool (decide (13 ≤ s.size) && decide (s.size ≤ 19) && digs s)) ∧ w' = w := by
  go_enter Tryz.func55, Tryz.ntmps55
  go_wp2_with (go_at_call 27; refine (l4Digits_any s 13 19 _ hs (by omega) (by omega)).mono ?_; rintro e w1 ⟨rfl, hw1⟩; subst w1)
  go_ret
  exact ⟨rfl, rfl⟩
end Go.Proofs.YtacgbajcdngokaaGreatDoor
