import Derived.Test.YtjkofmomoljelaaGreatDoorSfA
import Derived.Laws.CopyOwn
import Derived.WideShapes
import Derived.Deep.MidRow
import Derived.Test.YtjkofmomoljelaaGreatDoorSfT
import Derived.WalkSpells
import Derived.Lib.OthersKept
import Derived.Laws.BitsAllLaws
import Derived.Deep.DeepCutAuto
import Derived.Deep.RegionHeld3
namespace Go.Proofs.YtjkofmomoljelaaGreatDoor
open Go.RowKit
/-- A byte is a digit. -/
def dig (b : UInt8) : Bool := decide (48 ≤ b.toNat) && decide (b.toNat ≤ 57)
/-- All bytes of a text are digits. -/
def digs (s : ByteArray) : Bool := s.data.toList.all dig
theorem digs_at {s : ByteArray} (h : digs s = true) (k : Nat) (hk : k < s.size) : dig s[k] = true := by
  unfold digs at h
  rw [List.all_eq_true] at h
  exact h _ (by show s.data[k] ∈ s.data.toList; simp)
theorem digs_yes {s : ByteArray} (h : ∀ k (hk : k < s.size), dig s[k] = true) : digs s = true := by
  unfold digs
  rw [List.all_eq_true]
  intro b hb
  obtain ⟨k, hk, rfl⟩ := List.getElem_of_mem hb
  exact h k hk
theorem digs_no {s : ByteArray} (k : Nat) (hk : k < s.size) (h : dig s[k] = false) : digs s = false := by
  cases hd : digs s
  · rfl
  · rw [digs_at hd k hk] at h; cases h
theorem dig_to {b : UInt8} (h : dig b = true) : 48 ≤ b.toNat ∧ b.toNat ≤ 57 := by simpa [dig] using h
theorem dig_int (b : UInt8) : (decide (48 ≤ (b.toNat : Int)) && decide ((b.toNat : Int) ≤ 57)) = dig b := by
  unfold dig
  rw [decide_eq_decide.2 (show (48 ≤ (b.toNat : Int)) ↔ 48 ≤ b.toNat from by omega), decide_eq_decide.2 (show ((b.toNat : Int) ≤ 57) ↔ b.toNat ≤ 57 from by omega)]
set_option maxHeartbeats 400000 in
theorem isDigit_any (r : Int) (w : World) :
    Calls Tryz.prog 135 #[.int .i32 r] w fun e w' => e = .returned (.bool (decide (48 ≤ r) && decide (r ≤ 57))) ∧ w' = w := by
  by_cases h : 48 ≤ r
  · go_enter Tryz.func135, Tryz.ntmps135
    go_wp2
    go_ret
    exact ⟨by simp [h], rfl⟩
  · go_enter Tryz.func135, Tryz.ntmps135
    go_wp2
    go_ret
    exact ⟨by rw [show decide (48 ≤ r) = false from by simp; omega]; rfl, rfl⟩
set_option maxHeartbeats 1000000 in
theorem allDigits_any (s : ByteArray) (w : World) :
    Calls Tryz.prog 102 #[.string s] w fun e w' => e = .returned (.bool (digs s)) ∧ Below w.heap.size w w' := by
  go_enter Tryz.func102, Tryz.ntmps102
  go_wp2_with fail
  go_loopw [] (fun wr => ∃ pos : Nat, pos ≤ s.size ∧ wr.heap[w.heap.size]? = some (.stringIter s pos) ∧ Hid (∀ j (hj : j < s.size), j < pos → dig s[j] = true) ∧ Below w.heap.size w wr) (fun wr => s.size - wr.iterPos w.heap.size)
  case atStart =>
    refine ⟨0, Nat.zero_le _, by simpa using World.iter_heap w s 0, fun j _ h => absurd h (Nat.not_lt_zero j), (Below.refl _ w).alloc (Nat.le_refl _) _⟩
  case round =>
    obtain ⟨pos, hp0, hit, HD, hbel⟩ := hrel
    by_cases hp : pos < s.size
    · by_cases ha : s[pos].toNat < 128
      · have hnx : ∀ ty, (Instr.next (.pointer (some ⟨w.heap.size, 0, none⟩)) true ty).run Tryz.prog wr = _ := fun ty => Lib.run_next_ascii_at wr w.heap.size s pos ty hit hp ha
        have hit2 := Lib.iterAt_heap wr w.heap.size s pos (pos + 1) hit
        have hbw2 := Lib.below_iterAt hbel (k := w.heap.size) (Nat.le_refl _) s (pos + 1)
        cases hd : dig s[pos]
        · go_wp2_with (go_at_call 135; refine (isDigit_any _ _).mono ?_; rintro e w1 ⟨rfl, hw1⟩; subst w1; rw [dig_int, hd])
          go_ret
          exact ⟨by rw [digs_no pos hp hd]; rfl, hbw2⟩
        · go_wp2_with (go_at_call 135; refine (isDigit_any _ _).mono ?_; rintro e w1 ⟨rfl, hw1⟩; subst w1; rw [dig_int, hd])
          go_roundw
          case rel =>
            refine ⟨pos + 1, by omega, hit2, ?_, hbw2⟩
            show ∀ j (hj : j < s.size), j < pos + 1 → dig s[j] = true
            intro j hj hjk
            by_cases hjk2 : j = pos
            · subst hjk2; exact hd
            · exact HD.out j hj (by omega)
          case measure =>
            simp only [World.iterPos, hit2, hit]
            omega
      · have hdh := (decode_high s pos hp (by omega)).1
        have hnx : ∀ ty, (Instr.next (.pointer (some ⟨w.heap.size, 0, none⟩)) true ty).run Tryz.prog wr = _ := fun ty => Lib.run_next_any_at wr w.heap.size s pos ty hit hp
        have hbw2 := Lib.below_iterAt hbel (k := w.heap.size) (Nat.le_refl _) s (pos + (Utf8.decode s pos).2)
        have hno : (decide (48 ≤ ((Utf8.decode s pos).1 : Int)) && decide (((Utf8.decode s pos).1 : Int) ≤ 57)) = false := by
          rw [decide_eq_false (show ¬ ((Utf8.decode s pos).1 : Int) ≤ 57 from by omega), Bool.and_false]
        go_wp2_with (go_at_call 135; refine (isDigit_any _ _).mono ?_; rintro e w1 ⟨rfl, hw1⟩; subst w1; rw [hno])
        go_ret
        exact ⟨by rw [digs_no pos hp (by simp [dig]; omega)]; rfl, hbw2⟩
    · have hnx : ∀ ty, (Instr.next (.pointer (some ⟨w.heap.size, 0, none⟩)) true ty).run Tryz.prog wr = _ := fun ty => Lib.run_next_end_at wr w.heap.size s pos ty hit hp
      go_wp2_with fail
      go_ret
      exact ⟨by rw [digs_yes (fun j hj => HD.out j hj (by omega))]; rfl, hbel⟩
end Go.Proofs.YtjkofmomoljelaaGreatDoor
namespace Go.Proofs.YtjkofmomoljelaaGreatDoor
open Go.RowKit
/-- A field's kind and its length. -/
def kindOf (no : Int) : Int × Int := if no = 2 then (4, 2) else if no = 3 then (1, 6) else if no = 11 then (1, 6) else if no = 4 then (1, 12) else if no = 7 then (1, 10) else if no = 70 then (1, 3) else if no = 37 then (2, 12) else if no = 39 then (2, 2) else if no = 41 then (2, 8) else if no = 48 then (5, 3) else if no = 52 then (3, 8) else if no = 64 then (3, 8) else if no = 128 then (3, 8) else if no = 53 then (3, 10) else (0, 0)
set_option maxRecDepth 100000 in
set_option maxHeartbeats 4000000 in
theorem l6Kind_any (no : Int) (w : World) : Calls Tryz.prog 84 #[.int .i64 no] w fun e w' => e = .returned (.tuple #[.int .i64 (kindOf no).1, .int .i64 (kindOf no).2]) ∧ w' = w := by
  by_cases h2 : no = 2
  · subst h2
    go_enter Tryz.func84, Tryz.ntmps84
    go_wp2
    go_ret2
    exact ⟨rfl, rfl⟩
  by_cases h3 : no = 3
  · subst h3
    go_enter Tryz.func84, Tryz.ntmps84
    go_wp2
    go_ret2
    exact ⟨rfl, rfl⟩
  by_cases h11 : no = 11
  · subst h11
    go_enter Tryz.func84, Tryz.ntmps84
    go_wp2
    go_ret2
    exact ⟨rfl, rfl⟩
  by_cases h4 : no = 4
  · subst h4
    go_enter Tryz.func84, Tryz.ntmps84
    go_wp2
    go_ret2
    exact ⟨rfl, rfl⟩
  by_cases h7 : no = 7
  · subst h7
    go_enter Tryz.func84, Tryz.ntmps84
    go_wp2
    go_ret2
    exact ⟨rfl, rfl⟩
  by_cases h70 : no = 70
  · subst h70
    go_enter Tryz.func84, Tryz.ntmps84
    go_wp2
    go_ret2
    exact ⟨rfl, rfl⟩
  by_cases h37 : no = 37
  · subst h37
    go_enter Tryz.func84, Tryz.ntmps84
    go_wp2
    go_ret2
    exact ⟨rfl, rfl⟩
  by_cases h39 : no = 39
  · subst h39
    go_enter Tryz.func84, Tryz.ntmps84
    go_wp2
    go_ret2
    exact ⟨rfl, rfl⟩
  by_cases h41 : no = 41
  · subst h41
    go_enter Tryz.func84, Tryz.ntmps84
    go_wp2
    go_ret2
    exact ⟨rfl, rfl⟩
  by_cases h48 : no = 48
  · subst h48
    go_enter Tryz.func84, Tryz.ntmps84
    go_wp2
    go_ret2
    exact ⟨rfl, rfl⟩
  by_cases h52 : no = 52
  · subst h52
    go_enter Tryz.func84, Tryz.ntmps84
    go_wp2
    go_ret2
    exact ⟨rfl, rfl⟩
  by_cases h64 : no = 64
  · subst h64
    go_enter Tryz.func84, Tryz.ntmps84
    go_wp2
    go_ret2
    exact ⟨rfl, rfl⟩
  by_cases h128 : no = 128
  · subst h128
    go_enter Tryz.func84, Tryz.ntmps84
    go_wp2
    go_ret2
    exact ⟨rfl, rfl⟩
  by_cases h53 : no = 53
  · subst h53
    go_enter Tryz.func84, Tryz.ntmps84
    go_wp2
    go_ret2
    exact ⟨rfl, rfl⟩
  have hk : kindOf no = (0, 0) := by unfold kindOf; rw [if_neg h2, if_neg h3, if_neg h11, if_neg h4, if_neg h7, if_neg h70, if_neg h37, if_neg h39, if_neg h41, if_neg h48, if_neg h52, if_neg h64, if_neg h128, if_neg h53]
  rw [hk]
  have b2 : (no == 2) = false := by rw [beq_eq_false_iff_ne]; exact h2
  have b3 : (no == 3) = false := by rw [beq_eq_false_iff_ne]; exact h3
  have b11 : (no == 11) = false := by rw [beq_eq_false_iff_ne]; exact h11
  have b4 : (no == 4) = false := by rw [beq_eq_false_iff_ne]; exact h4
  have b7 : (no == 7) = false := by rw [beq_eq_false_iff_ne]; exact h7
  have b70 : (no == 70) = false := by rw [beq_eq_false_iff_ne]; exact h70
  have b37 : (no == 37) = false := by rw [beq_eq_false_iff_ne]; exact h37
  have b39 : (no == 39) = false := by rw [beq_eq_false_iff_ne]; exact h39
  have b41 : (no == 41) = false := by rw [beq_eq_false_iff_ne]; exact h41
  have b48 : (no == 48) = false := by rw [beq_eq_false_iff_ne]; exact h48
  have b52 : (no == 52) = false := by rw [beq_eq_false_iff_ne]; exact h52
  have b64 : (no == 64) = false := by rw [beq_eq_false_iff_ne]; exact h64
  have b128 : (no == 128) = false := by rw [beq_eq_false_iff_ne]; exact h128
  have b53 : (no == 53) = false := by rw [beq_eq_false_iff_ne]; exact h53
  clear hk h2 h3 h11 h4 h7 h70 h37 h39 h41 h48 h52 h64 h128 h53
  go_enter Tryz.func84, Tryz.ntmps84
  go_wp2
  go_ret2
  exact ⟨rfl, rfl⟩
end Go.Proofs.YtjkofmomoljelaaGreatDoor
namespace Go.Proofs.YtjkofmomoljelaaGreatDoor
open Go.RowKit
/-- The k-th bit of a row, from 0, the highest of each byte first. -/
def bitL (l : List UInt8) (k : Nat) : Bool := (l.getD (k / 8) 0).toNat.testBit (7 - k % 8)
theorem and_bit (x i : Nat) : ((((x &&& 2 ^ i : Nat) : Int)) != 0) = x.testBit i := by
  cases h : x.testBit i with
  | true =>
    rw [bne_iff_ne]
    intro h0
    have h1 : x &&& 2 ^ i = 0 := by omega
    have h2 : (x &&& 2 ^ i).testBit i = true := by rw [Nat.testBit_and, h, Nat.testBit_two_pow_self]; rfl
    rw [h1, Nat.zero_testBit] at h2
    cases h2
  | false =>
    rw [bne_eq_false_iff_eq]
    have h1 : x &&& 2 ^ i = 0 := by
      apply Nat.eq_of_testBit_eq
      intro j
      rw [Nat.testBit_and, Nat.zero_testBit, Nat.testBit_two_pow]
      by_cases hj : i = j
      · subst hj; rw [h]; rfl
      · simp [hj]
    rw [h1]
    rfl
set_option maxRecDepth 100000 in
set_option maxHeartbeats 2000000 in
theorem hasBit_any (l : List UInt8) (ao : Option Addr) (cap k : Nat) (w : World) (hn : l.length ≤ 1048576) (hk : k < 8 * l.length) (hr : RowAt w ao l) :
    Calls Tryz.prog 74 #[.slice ao l.length cap, .int .i64 ((k + 1 : Nat) : Int)] w fun e w' => e = .returned (.bool (bitL l k)) ∧ w' = w.drew := by
  obtain ⟨n, hnl⟩ : ∃ n, n = l.length := ⟨_, rfl⟩
  obtain ⟨j, hj⟩ : ∃ j, j = k / 8 := ⟨_, rfl⟩
  obtain ⟨r, hr8⟩ : ∃ r, r = k % 8 := ⟨_, rfl⟩
  obtain ⟨x, hx⟩ : ∃ x, x = (l.getD j 0).toNat := ⟨_, rfl⟩
  obtain ⟨b, o, rfl, hc⟩ := hr.at (k := j) (by omega)
  have cW := hc j (by omega)
  rw [← hx] at cW
  have hx8 : x < 256 := by rw [hx]; exact UInt8.toNat_lt _
  obtain ⟨s, hs⟩ : ∃ s, s = 2 ^ (7 - r) := ⟨_, rfl⟩
  have hs8 : s < 256 := by rw [hs]; exact Nat.lt_of_lt_of_le (Nat.pow_lt_pow_right (by omega) (show 7 - r < 8 by omega)) (Nat.le_refl _)
  obtain ⟨y, hy⟩ : ∃ y, y = x &&& s := ⟨_, rfl⟩
  obtain ⟨c, hcb⟩ : ∃ c, c = bitL l k := ⟨_, rfl⟩
  have HC : Hid (bitL l k = c) := hcb.symm
  have hyc : ((y : Int) != 0) = c := by
    rw [hy, hs, and_bit, hcb, hx, hj, hr8]
    rfl
  have hand : bits BinOp.and IntKind.u8 (x : Int) (s : Int) = (y : Int) := by rw [hy]; exact u8_and_nat x s hx8 hs8
  obtain ⟨m, hm⟩ : ∃ m, m = k + 1 := ⟨_, rfl⟩
  have hwm : IntKind.i64.wrap ((m : Int) - 1) = (k : Int) := by rw [IntKind.wrap_i64]; omega
  have hq : (k : Int) / 8 = (j : Int) := by omega
  have hqt : (k : Int).tdiv 8 = (j : Int) := by rw [Int.tdiv_eq_ediv_of_nonneg (Int.natCast_nonneg _)]; exact hq
  have hwj : IntKind.i64.wrap (j : Int) = (j : Int) := by rw [IntKind.wrap_i64]; omega
  have hm8 : (k : Int) % 8 = (r : Int) := by omega
  have hmt : (k : Int).tmod 8 = (r : Int) := by rw [Int.tmod_eq_emod_of_nonneg (Int.natCast_nonneg _)]; exact hm8
  have hjn : j < n := by omega
  have hjI : (j : Int) < (n : Int) := by omega
  have hr7 : r < 8 := by omega
  have hsh : (128 : Int) / 2 ^ r = (s : Int) := by
    rw [hs]
    clear hs hs8 hy hand hyc hmt hm8 hr8
    have : r = 0 ∨ r = 1 ∨ r = 2 ∨ r = 3 ∨ r = 4 ∨ r = 5 ∨ r = 6 ∨ r = 7 := by omega
    rcases this with rfl | rfl | rfl | rfl | rfl | rfl | rfl | rfl <;> rfl
  rw [← hnl, ← hm]
  clear hnl hj hr8 hx hs hy hcb hm hr hc
  go_enter Tryz.func74, Tryz.ntmps74
  go_upto_region 1 with fail
  obtain ⟨V, hV⟩ : ∃ V, V = World.drew w := ⟨_, rfl⟩
  have cV : V.cell? ⟨b, o + j, none⟩ = some (.int .u8 (x : Int)) := by rw [hV]; exact cW
  have HV : Hid (V = w.drew) := hV
  have keep : Hid (∀ {P : Prop}, P → P) := fun h => h
  refine wp_region_held_drew (S := fun z => z.cell? ⟨b, o + j, none⟩ = some (.int .u8 (x : Int))) (by kernel_rfl) (by exact cW) (fun hHeld => ?_)
  rw [← hV] at hHeld ⊢
  clear hV
  refine wpAnyH_take (i := 0) (v := (.slice (some ⟨b, o, none⟩) n cap)) rfl (by kernel_rfl) (by kernel_rfl) (by kernel_rfl) (fun _ _ _ h => h) (Or.inl ⟨by rfl, ?_⟩) hHeld ?_
  · intro _ _; go_simp
  dsimp only [Act.put, List.getElem_toArray, List.getElem_cons_zero, List.getElem_cons_succ]
  simp only [List.setIfInBounds_toArray, List.set_cons_succ, List.set_cons_zero]
  refine wpAnyH_take (i := 1) (v := (.int .i64 (m : Int))) rfl (by kernel_rfl) (by kernel_rfl) (by kernel_rfl) (fun _ _ _ h => h) (Or.inl ⟨by rfl, ?_⟩) hHeld ?_
  · intro _ _; go_simp
  dsimp only [Act.put, List.getElem_toArray, List.getElem_cons_zero, List.getElem_cons_succ]
  simp only [List.setIfInBounds_toArray, List.set_cons_succ, List.set_cons_zero]
  refine wpAnyH_take (i := 2) (v := (.int .i64 (k : Int))) rfl (by kernel_rfl) (by kernel_rfl) (by kernel_rfl) (fun _ _ _ h => h) (Or.inl ⟨by rfl, ?_⟩) hHeld ?_
  · intro _ _; go_simp
  dsimp only [Act.put, List.getElem_toArray, List.getElem_cons_zero, List.getElem_cons_succ]
  simp only [List.setIfInBounds_toArray, List.set_cons_succ, List.set_cons_zero]
  refine wpAnyH_take (i := 3) (v := (.int .i64 (j : Int))) rfl (by kernel_rfl) (by kernel_rfl) (by kernel_rfl) (fun _ _ _ h => h) (Or.inl ⟨by rfl, ?_⟩) hHeld ?_
  · intro _ _; go_simp
  dsimp only [Act.put, List.getElem_toArray, List.getElem_cons_zero, List.getElem_cons_succ]
  simp only [List.setIfInBounds_toArray, List.set_cons_succ, List.set_cons_zero]
  refine wpAnyH_take (i := 4) (v := (.pointer (some ⟨b, o + j, none⟩))) rfl (by kernel_rfl) (by kernel_rfl) (by kernel_rfl) (fun _ _ _ h => h) (Or.inl ⟨by rfl, ?_⟩) hHeld ?_
  · intro _ _; go_simp
  dsimp only [Act.put, List.getElem_toArray, List.getElem_cons_zero, List.getElem_cons_succ]
  simp only [List.setIfInBounds_toArray, List.set_cons_succ, List.set_cons_zero]
  refine wpAnyH_take (i := 5) (v := (.int .u8 (x : Int))) rfl (by kernel_rfl) (by kernel_rfl) (by kernel_rfl) (fun _ _ _ h => h) (Or.inl ⟨by rfl, fun w1 h => by have hc := h; go_simp⟩) hHeld ?_
  dsimp only [Act.put, List.getElem_toArray, List.getElem_cons_zero, List.getElem_cons_succ]
  simp only [List.setIfInBounds_toArray, List.set_cons_succ, List.set_cons_zero]
  refine wpAnyH_take (i := 6) (v := (.int .i64 (m : Int))) rfl (by kernel_rfl) (by kernel_rfl) (by kernel_rfl) (fun _ _ _ h => h) (Or.inl ⟨by rfl, ?_⟩) hHeld ?_
  · intro _ _; go_simp
  dsimp only [Act.put, List.getElem_toArray, List.getElem_cons_zero, List.getElem_cons_succ]
  simp only [List.setIfInBounds_toArray, List.set_cons_succ, List.set_cons_zero]
  refine wpAnyH_take (i := 7) (v := (.int .i64 (k : Int))) rfl (by kernel_rfl) (by kernel_rfl) (by kernel_rfl) (fun _ _ _ h => h) (Or.inl ⟨by rfl, ?_⟩) hHeld ?_
  · intro _ _; go_simp
  dsimp only [Act.put, List.getElem_toArray, List.getElem_cons_zero, List.getElem_cons_succ]
  simp only [List.setIfInBounds_toArray, List.set_cons_succ, List.set_cons_zero]
  refine wpAnyH_take (i := 8) (v := (.int .i64 (r : Int))) rfl (by kernel_rfl) (by kernel_rfl) (by kernel_rfl) (fun _ _ _ h => h) (Or.inl ⟨by rfl, ?_⟩) hHeld ?_
  · intro _ _; go_simp
  dsimp only [Act.put, List.getElem_toArray, List.getElem_cons_zero, List.getElem_cons_succ]
  simp only [List.setIfInBounds_toArray, List.set_cons_succ, List.set_cons_zero]
  refine wpAnyH_take (i := 9) (v := (.int .u8 (s : Int))) rfl (by kernel_rfl) (by kernel_rfl) (by kernel_rfl) (fun _ _ _ h => h) (Or.inl ⟨by rfl, ?_⟩) hHeld ?_
  · intro _ _; go_simp
  dsimp only [Act.put, List.getElem_toArray, List.getElem_cons_zero, List.getElem_cons_succ]
  simp only [List.setIfInBounds_toArray, List.set_cons_succ, List.set_cons_zero]
  refine wpAnyH_take (i := 10) (v := (.int .u8 (y : Int))) rfl (by kernel_rfl) (by kernel_rfl) (by kernel_rfl) (fun _ _ _ h => h) (Or.inl ⟨by rfl, ?_⟩) hHeld ?_
  · intro _ _; go_simp
  dsimp only [Act.put, List.getElem_toArray, List.getElem_cons_zero, List.getElem_cons_succ]
  simp only [List.setIfInBounds_toArray, List.set_cons_succ, List.set_cons_zero]
  refine wpAnyH_take (i := 11) (v := (.bool c)) rfl (by kernel_rfl) (by kernel_rfl) (by kernel_rfl) (fun _ _ _ h => h) (Or.inl ⟨by rfl, ?_⟩) hHeld ?_
  · intro _ _; go_simp
  dsimp only [Act.put, List.getElem_toArray, List.getElem_cons_zero, List.getElem_cons_succ]
  simp only [List.setIfInBounds_toArray, List.set_cons_succ, List.set_cons_zero]
  refine wpAnyH_ready (rs := [12]) (by kernel_rfl) (by simp) ?_
  refine AllReadyH.cons rfl (fun K hK => ?_) (AllReadyH.nil)
  go_simp
  refine hK.out _ _ (keep.out cV) (fun hHeld => ?_)
  clear hK K
  try dsimp only [Act.put]
  refine wpAnyH_done (by kernel_rfl) ?_ _
  go_wp2_with fail
  go_ret
  exact ⟨by rw [HC.out]; rfl, HV.out⟩
end Go.Proofs.YtjkofmomoljelaaGreatDoor
namespace Go.Proofs.YtjkofmomoljelaaGreatDoor
open Go.RowKit
theorem grown_setCellT (w : World) (a : Addr) (v : Value) : w.grownBy (w.setCell a v) (some a.block) :=
  ⟨rfl, rfl, rfl, by simp, fun k _ hk => heap_setCell_other w a k v (fun e => hk (by rw [e]))⟩
theorem grown_drewT {w w' : World} {r : Option Nat} (h : w.grownBy w' r) : w.grownBy w'.drew r := ⟨h.os, h.tape, h.output, h.size, h.block⟩
end Go.Proofs.YtjkofmomoljelaaGreatDoor
namespace Go.Proofs.YtjkofmomoljelaaGreatDoor
open Go.RowKit
theorem below_newT (w : World) (o : Obj) : Below w.heap.size w (w.alloc o) := (Below.refl _ w).alloc (Nat.le_refl _) o
/-- The cells of the table of fields: each its number and its kind. -/
def tabCellsI : List Value := [.int .i64 2, .iface 161 (.agg #[.int .i64 2, .int .i64 13, .int .i64 19]), .int .i64 3, .iface 164 (.agg #[.int .i64 6]), .int .i64 4, .iface 164 (.agg #[.int .i64 12]), .int .i64 7, .iface 164 (.agg #[.int .i64 10]), .int .i64 11, .iface 164 (.agg #[.int .i64 6]), .int .i64 37, .iface 167 (.agg #[.int .i64 12]), .int .i64 39, .iface 167 (.agg #[.int .i64 2]), .int .i64 41, .iface 167 (.agg #[.int .i64 8]), .int .i64 48, .iface 170 (.agg #[.int .i64 3, .int .i64 0, .int .i64 200]), .int .i64 52, .iface 172 (.agg #[.int .i64 8]), .int .i64 53, .iface 172 (.agg #[.int .i64 10]), .int .i64 64, .iface 172 (.agg #[.int .i64 8]), .int .i64 70, .iface 164 (.agg #[.int .i64 3]), .int .i64 128, .iface 172 (.agg #[.int .i64 8])]
set_option maxRecDepth 100000 in
set_option maxHeartbeats 4000000 in
theorem fieldTable_any (w : World) : Calls Tryz.prog 63 #[] w fun e w' => e = .returned (.slice (some ⟨w.heap.size, 0, none⟩) 14 14) ∧ Blk w' w.heap.size 80 tabCellsI ∧ Below w.heap.size w w' := by
  go_enter Tryz.func63, Tryz.ntmps63
  go_wp2
  go_ret
  exact ⟨rfl, Blk.new w _ _, below_newT _ _⟩
end Go.Proofs.YtjkofmomoljelaaGreatDoor
namespace Go.Proofs.YtjkofmomoljelaaGreatDoor
open Go.RowKit
theorem ext_countedDigits (d l m : Int) (w : World) : (Go.method 394 161 (.agg #[.int .i64 d, .int .i64 l, .int .i64 m]) "loop.example/s01728/impl.extent").run Tryz.prog w = .ok (233, .agg #[.int .i64 d, .int .i64 l, .int .i64 m]) w := by kernel_rfl
theorem ext_countedBytes (d l m : Int) (w : World) : (Go.method 394 170 (.agg #[.int .i64 d, .int .i64 l, .int .i64 m]) "loop.example/s01728/impl.extent").run Tryz.prog w = .ok (233, .agg #[.int .i64 d, .int .i64 l, .int .i64 m]) w := by kernel_rfl
theorem ext_fixedDigits (n : Int) (w : World) : (Go.method 394 164 (.agg #[.int .i64 n]) "loop.example/s01728/impl.extent").run Tryz.prog w = .ok (235, .int .i64 n) w := by kernel_rfl
theorem ext_fixedText (n : Int) (w : World) : (Go.method 394 167 (.agg #[.int .i64 n]) "loop.example/s01728/impl.extent").run Tryz.prog w = .ok (235, .int .i64 n) w := by kernel_rfl
theorem ext_fixedBytes (n : Int) (w : World) : (Go.method 394 172 (.agg #[.int .i64 n]) "loop.example/s01728/impl.extent").run Tryz.prog w = .ok (235, .int .i64 n) w := by kernel_rfl
theorem all_countedDigits (d l m : Int) (w : World) : (Go.method 394 161 (.agg #[.int .i64 d, .int .i64 l, .int .i64 m]) "loop.example/s01728/impl.allows").run Tryz.prog w = .ok (234, .agg #[]) w := by kernel_rfl
theorem all_countedBytes (d l m : Int) (w : World) : (Go.method 394 170 (.agg #[.int .i64 d, .int .i64 l, .int .i64 m]) "loop.example/s01728/impl.allows").run Tryz.prog w = .ok (237, .agg #[]) w := by kernel_rfl
theorem all_fixedDigits (n : Int) (w : World) : (Go.method 394 164 (.agg #[.int .i64 n]) "loop.example/s01728/impl.allows").run Tryz.prog w = .ok (234, .agg #[]) w := by kernel_rfl
theorem all_fixedText (n : Int) (w : World) : (Go.method 394 167 (.agg #[.int .i64 n]) "loop.example/s01728/impl.allows").run Tryz.prog w = .ok (236, .agg #[]) w := by kernel_rfl
theorem all_fixedBytes (n : Int) (w : World) : (Go.method 394 172 (.agg #[.int .i64 n]) "loop.example/s01728/impl.allows").run Tryz.prog w = .ok (237, .agg #[]) w := by kernel_rfl
set_option maxHeartbeats 1000000 in
theorem extent_fixed (n : Int) (w : World) : Calls Tryz.prog 235 #[.int .i64 n] w fun e w' => e = .returned (.agg #[.int .i64 0, .int .i64 n, .int .i64 n]) ∧ Below w.heap.size w w' := by
  go_enter Tryz.func235, Tryz.ntmps235
  go_wp2
  exact bodyPost_ret (v := .agg [.int .i64 0, .int .i64 n, .int .i64 n].toArray) (results_blk Tryz.results235 _ _ rfl (show Blk _ _ 117 [.int .i64 0, .int .i64 n, .int .i64 n] from Blk.new w _ #[.int .i64 0, .int .i64 n, .int .i64 n]) Tryz.underlying117 rfl (by kernel_rfl)) rfl ⟨rfl, below_newT _ _⟩
set_option maxHeartbeats 1000000 in
theorem extent_counted (d l m : Int) (w : World) : Calls Tryz.prog 233 #[.agg #[.int .i64 d, .int .i64 l, .int .i64 m]] w fun e w' => e = .returned (.agg #[.int .i64 d, .int .i64 l, .int .i64 m]) ∧ Below w.heap.size w w' := by
  go_enter Tryz.func233, Tryz.ntmps233
  go_wp2
  exact bodyPost_ret (v := .agg [.int .i64 d, .int .i64 l, .int .i64 m].toArray) (results_blk Tryz.results233 _ _ rfl (show Blk _ _ 117 [.int .i64 d, .int .i64 l, .int .i64 m] from Blk.new2 w _ _ #[.int .i64 d, .int .i64 l, .int .i64 m]) Tryz.underlying117 rfl (by kernel_rfl)) rfl ⟨rfl, ((Below.refl _ w).alloc (Nat.le_refl _) _).alloc (by simp) _⟩
set_option maxHeartbeats 1000000 in
theorem allow_digits (b : UInt8) (w : World) : Calls Tryz.prog 234 #[.agg #[], .int .u8 (b.toNat : Int)] w fun e w' => e = .returned (.bool (decide (48 ≤ b.toNat ∧ b.toNat ≤ 57))) ∧ Below w.heap.size w w' := by
  have hb := UInt8.toNat_lt b
  obtain ⟨x, hx⟩ : ∃ x, x = b.toNat := ⟨_, rfl⟩
  rw [← hx] at hb ⊢
  clear hx
  have hw : IntKind.i32.wrap (x : Int) = (x : Int) := by rw [IntKind.wrap_i32]; omega
  by_cases h1 : 48 ≤ x
  · have g1 : (48 : Int) ≤ (x : Int) := by omega
    by_cases h2 : x ≤ 57
    · have g2 : (x : Int) ≤ 57 := by omega
      rw [decide_eq_true ⟨h1, h2⟩]
      go_enter Tryz.func234, Tryz.ntmps234
      go_wp2
      go_ret
      exact ⟨rfl, below_newT _ _⟩
    · have g2 : ¬ ((x : Int) ≤ 57) := by omega
      rw [decide_eq_false (fun h => h2 h.2)]
      go_enter Tryz.func234, Tryz.ntmps234
      go_wp2
      go_ret
      exact ⟨by simp, below_newT _ _⟩
  · have g1 : ¬ ((48 : Int) ≤ (x : Int)) := by omega
    rw [decide_eq_false (fun h => h1 h.1)]
    go_enter Tryz.func234, Tryz.ntmps234
    go_wp2
    go_ret
    exact ⟨rfl, below_newT _ _⟩
set_option maxHeartbeats 1000000 in
theorem allow_text (b : UInt8) (w : World) : Calls Tryz.prog 236 #[.agg #[], .int .u8 (b.toNat : Int)] w fun e w' => e = .returned (.bool (decide (32 ≤ b.toNat ∧ b.toNat ≤ 126))) ∧ Below w.heap.size w w' := by
  obtain ⟨x, hx⟩ : ∃ x, x = b.toNat := ⟨_, rfl⟩
  rw [← hx]
  clear hx
  by_cases h1 : 32 ≤ x
  · have g1 : (32 : Int) ≤ (x : Int) := by omega
    by_cases h2 : x ≤ 126
    · have g2 : (x : Int) ≤ 126 := by omega
      rw [decide_eq_true ⟨h1, h2⟩]
      go_enter Tryz.func236, Tryz.ntmps236
      go_wp2
      go_ret
      exact ⟨rfl, below_newT _ _⟩
    · have g2 : ¬ ((x : Int) ≤ 126) := by omega
      rw [decide_eq_false (fun h => h2 h.2)]
      go_enter Tryz.func236, Tryz.ntmps236
      go_wp2
      go_ret
      exact ⟨by simp, below_newT _ _⟩
  · have g1 : ¬ ((32 : Int) ≤ (x : Int)) := by omega
    rw [decide_eq_false (fun h => h1 h.1)]
    go_enter Tryz.func236, Tryz.ntmps236
    go_wp2
    go_ret
    exact ⟨rfl, below_newT _ _⟩
set_option maxHeartbeats 1000000 in
theorem allow_bytes (b : UInt8) (w : World) : Calls Tryz.prog 237 #[.agg #[], .int .u8 (b.toNat : Int)] w fun e w' => e = .returned (.bool true) ∧ Below w.heap.size w w' := by
  go_enter Tryz.func237, Tryz.ntmps237
  go_wp2
  go_ret
  exact ⟨rfl, below_newT _ _⟩
end Go.Proofs.YtjkofmomoljelaaGreatDoor
