/-
  spec.OddParity: its answer, byte by byte.
-/
import Derived.Test.YthjnalbgnjbdnaaOddImpl
namespace Go.Proofs.Ythjnalbgnjbdnaa
open Go.RowKit

/-- The ones among the bits 1 .. k - 1. -/
def onesTo (n k : Nat) : Nat := ((List.range k).map fun i => if i = 0 then 0 else n / 2 ^ i % 2).sum

theorem onesTo_succ (n k : Nat) (h : 1 ≤ k) : onesTo n (k + 1) = onesTo n k + n / 2 ^ k % 2 := by
  unfold onesTo
  rw [List.range_succ, List.map_append, List.sum_append]
  simp
  omega
theorem onesTo_le (n k : Nat) : onesTo n k ≤ k := by
  unfold onesTo
  induction k with
  | zero => simp
  | succ k ih =>
    rw [List.range_succ, List.map_append, List.sum_append]
    simp only [List.map_cons, List.map_nil, List.sum_cons, List.sum_nil]
    split <;> omega

theorem spec_bit : ∀ n : Nat, n < 256 → ∀ k : Nat, k < 8 → bits BinOp.and IntKind.u8 ((n : Int) / 2 ^ k) 1 = ((n / 2 ^ k % 2 : Nat) : Int) := by decide +kernel
theorem spec_and : ∀ n : Nat, n < 256 → bits BinOp.and IntKind.u8 (n : Int) 254 = ((n / 2 * 2 : Nat) : Int) := by decide +kernel
theorem spec_or : ∀ n : Nat, n < 256 → bits BinOp.or IntKind.u8 ((n / 2 * 2 : Nat) : Int) 1 = ((n / 2 * 2 + 1 : Nat) : Int) := by decide +kernel
theorem spec_even : ∀ n : Nat, n < 256 → onesTo n 8 % 2 = 0 → oddN n % 256 = n / 2 * 2 + 1 := by decide +kernel
theorem spec_uneven : ∀ n : Nat, n < 256 → ¬ onesTo n 8 % 2 = 0 → oddN n % 256 = n / 2 * 2 := by decide +kernel

theorem spec_step {w wr w1 : World} {bs : List UInt8} {k : Nat} {v v1 : Value} {c : Value} (hlt : k < bs.length) (hown : wr.ownsRow w.heap.size 5 1 v k (((bs.take k).map odd).map byte)) (hbel : Below w.heap.size w wr) {o : Obj}
    (hown1 : w1.ownsRow w.heap.size 5 1 v1 (k + 1) (((bs.take k).map odd).map byte ++ [c])) (hgrow1 : (wr.alloc o).grownBy w1 v.ownBlock) (hc : c = byte (odd bs[k])) :
    w1.ownsRow w.heap.size 5 1 v1 ((bs.take (k + 1)).map odd).length (((bs.take (k + 1)).map odd).map byte) ∧ Below w.heap.size w w1 := by
  have hsz := hbel.size
  refine ⟨?_, ?_⟩
  · rw [take_snoc bs k hlt, List.map_append, List.map_append, show ((bs.take k).map odd ++ [bs[k]].map odd).length = k + 1 from by simp; omega]
    subst hc
    exact hown1
  · exact (hbel.alloc hsz o).grown hgrow1 (by simp; omega) (fun j hj => (hown.lt j hj).1)

set_option maxRecDepth 100000 in
set_option maxHeartbeats 1000000 in
theorem specOddParity_any (ao : Option Addr) (cap : Nat) (bs : List UInt8) (w : World) (hn : bs.length ≤ 4096) (hr : RowAt w ao bs) :
    Calls Try.prog 15 #[.slice ao bs.length cap] w fun e w' =>
      ∃ v, e = .returned v ∧ Own w' w.heap.size v (bs.map odd) ∧ Below w.heap.size w w' := by
  obtain ⟨i0, hi, hz0, hz1, hz2⟩ := info_parts Try.info5
  go_enter Try.func15, Try.ntmps15
  go_wp2
  go_loopw [3, 5, 6, 7, 13] (fun v _ _ _ i wr => ∃ k : Nat, k ≤ bs.length ∧ i = .int .i64 k ∧ wr.ownsRow w.heap.size 5 1 v ((bs.take k).map odd).length (((bs.take k).map odd).map byte) ∧ Below w.heap.size w wr) (fun _ _ _ _ i _ => bs.length - (intOf i).toNat)
  case atStart => exact ⟨0, Nat.zero_le _, rfl, World.ownsRow_nil _ _ _ _, Below.refl _ _⟩
  case round =>
    obtain ⟨k, hk, rfl, hown, hbel⟩ := hrel
    by_cases hlt : k < bs.length
    · obtain ⟨b, off, rfl, hc⟩ := hr.at hlt
      have hcx : wr.cell? ⟨b, off + k, none⟩ = some (.int .u8 (bs[k].toNat : Int)) := (hbel.cell (RowAt.lt hc hlt)).trans ((hc k hlt).trans (by simp [hlt]))
      clear hc hr
      go_wp2
      have hx := bs[k].toNat_lt
      go_loop [6, 7] (fun n i => ∃ j : Nat, 1 ≤ j ∧ j ≤ 8 ∧ i = .int .i64 j ∧ n = .int .i64 (onesTo bs[k].toNat j : Nat)) (fun _ i => 8 - (intOf i).toNat)
      case atStart => exact ⟨1, Nat.le_refl _, by omega, rfl, rfl⟩
      case round =>
        obtain ⟨j, hj1, hj8, rfl, rfl⟩ := hrel
        have hle := onesTo_le bs[k].toNat j
        by_cases hj : j < 8
        · have hbit := spec_bit bs[k].toNat hx j hj
          have hsucc := onesTo_succ bs[k].toNat j hj1
          have Hsucc : Hid (onesTo bs[k].toNat (j + 1) = onesTo bs[k].toNat j + bs[k].toNat / 2 ^ j % 2) := hsucc
          clear hsucc
          obtain ⟨c, hc1, Hc⟩ : ∃ c : Nat, c ≤ 1 ∧ Hid (c = bs[k].toNat / 2 ^ j % 2) := ⟨_, by omega, Eq.refl (bs[k].toNat / 2 ^ j % 2)⟩
          rw [← Hc.out] at hbit
          go_wp2
          go_round
          case rel => exact ⟨j + 1, by omega, by omega, by go_num, by rw [Hsucc.out, ← Hc.out]; go_num⟩
          case measure => simp [intOf]; omega
        · obtain rfl : j = 8 := by omega
          obtain ⟨s, hs, Hs⟩ : ∃ s : Nat, bits BinOp.and IntKind.u8 (bs[k].toNat : Int) 254 = (s : Int) ∧ Hid (s = bs[k].toNat / 2 * 2) := ⟨_, spec_and _ hx, Eq.refl (bs[k].toNat / 2 * 2)⟩
          obtain ⟨t, ht, Ht⟩ : ∃ t : Nat, bits BinOp.or IntKind.u8 (s : Int) 1 = (t : Int) ∧ Hid (t = bs[k].toNat / 2 * 2 + 1) := ⟨_, by rw [Hs.out]; exact spec_or _ hx, Eq.refl (bs[k].toNat / 2 * 2 + 1)⟩
          have hlen : ((bs.take k).map odd).length = k := by simp; omega
          have hown' : wr.ownsRow w.heap.size 5 1 u3 k (((bs.take k).map odd).map byte) := by have h := hown; rw [hlen] at h; exact h
          have hsz := hbel.size
          by_cases hp : onesTo bs[k].toNat 8 % 2 = 0
          · have hp' : (((onesTo bs[k].toNat 8 : Nat) : Int) % 2 == 0) = true := by rw [beq_iff_eq]; omega
            go_wp2_with (at_builtin; refine wpList_append_own _ rfl _ _ 22 rfl w.heap.size 5 i0 (.int .u8 0) 1 1 Try.underlying22 hi hz0 hz1 hz2 rfl (by decide) _ _ _ rfl (hown'.alloc _) ⟨wr.heap.size, 0, none⟩ 1 1 [.int .u8 (t : Int)] rfl rfl (cell_one_new _ _ _) (by intro u hu; simp at hu; subst hu; rfl) (by unfold maxLen; omega) (by omega) (by simp; omega) ?_; intro v1 w1 hown1 hgrow1 hnil1)
            have R := spec_step hlt hown' hbel hown1 hgrow1 (by rw [Ht.out, byte_odd, spec_even _ hx hp])
            clear hown1 hgrow1 hown' hown hnil1
            go_wp2
            go_roundw
            case rel => exact ⟨k + 1, by omega, by go_num, R.1, R.2⟩
            case measure => simp [intOf]; omega
          · have hp' : (((onesTo bs[k].toNat 8 : Nat) : Int) % 2 == 0) = false := by rw [beq_eq_false_iff_ne]; omega
            go_wp2_with (at_builtin; refine wpList_append_own _ rfl _ _ 22 rfl w.heap.size 5 i0 (.int .u8 0) 1 1 Try.underlying22 hi hz0 hz1 hz2 rfl (by decide) _ _ _ rfl (hown'.alloc _) ⟨wr.heap.size, 0, none⟩ 1 1 [.int .u8 (s : Int)] rfl rfl (cell_one_new _ _ _) (by intro u hu; simp at hu; subst hu; rfl) (by unfold maxLen; omega) (by omega) (by simp; omega) ?_; intro v1 w1 hown1 hgrow1 hnil1)
            have R := spec_step hlt hown' hbel hown1 hgrow1 (by rw [Hs.out, byte_odd, spec_uneven _ hx hp])
            clear hown1 hgrow1 hown' hown hnil1
            go_wp2
            go_roundw
            case rel => exact ⟨k + 1, by omega, by go_num, R.1, R.2⟩
            case measure => simp [intOf]; omega
    · go_wp2
      go_ret
      have hkl : k = bs.length := by omega
      subst hkl
      rw [List.take_length] at hown
      exact ⟨_, rfl, ⟨_, hown⟩, hbel⟩

set_option maxRecDepth 100000 in
set_option maxHeartbeats 400000 in
theorem specOddParity_long (ao : Option Addr) (cap n : Nat) (w : World) (hn : 4096 < n) (hm : n ≤ 1048576) :
    Calls Try.prog 15 #[.slice ao n cap] w fun e w' => e = .returned (.slice none 0 0) ∧ w' = w := by
  go_enter Try.func15, Try.ntmps15
  go_wp2
  go_ret
  exact ⟨rfl, rfl⟩

/-- What OddParity answers. -/
def oddL (bs : List UInt8) : List UInt8 := if 4096 < bs.length then [] else bs.map odd

theorem oddL_length (bs : List UInt8) (h : bs.length ≤ 1048576) : (oddL bs).length ≤ 1048576 := by
  unfold oddL; split <;> simp; omega

theorem specOdd_all (ao : Option Addr) (cap : Nat) (bs : List UInt8) (w : World) (hn : bs.length ≤ 1048576) (hr : RowAt w ao bs) :
    Calls Try.prog 15 #[.slice ao bs.length cap] w fun e w' =>
      ∃ v, e = .returned v ∧ Own w' w.heap.size v (oddL bs) ∧ Below w.heap.size w w' := by
  by_cases h : 4096 < bs.length
  · refine (specOddParity_long ao cap bs.length w h hn).mono ?_
    rintro e w' ⟨rfl, rfl⟩
    exact ⟨_, rfl, by unfold oddL; rw [if_pos h]; exact ⟨5, World.ownsRow_nil _ _ _ _⟩, Below.refl _ _⟩
  · refine (specOddParity_any ao cap bs w (by omega) hr).mono ?_
    rintro e w' ⟨v, rfl, h1, h2⟩
    exact ⟨_, rfl, by unfold oddL; rw [if_neg h]; exact h1, h2⟩

theorem implOdd_all (ao : Option Addr) (cap : Nat) (bs : List UInt8) (w : World) (hn : bs.length ≤ 1048576) (hr : RowAt w ao bs) :
    Calls Try.prog 17 #[.slice ao bs.length cap] w fun e w' =>
      ∃ v, e = .returned v ∧ Own w' w.heap.size v (oddL bs) ∧ Below w.heap.size w w' := by
  by_cases h : 4096 < bs.length
  · refine (OddParity_long ao cap bs.length w h hn).mono ?_
    rintro e w' ⟨rfl, rfl⟩
    exact ⟨_, rfl, by unfold oddL; rw [if_pos h]; exact ⟨5, World.ownsRow_nil _ _ _ _⟩, Below.refl _ _⟩
  · refine (OddParity_any ao cap bs w (by omega) hr).mono ?_
    rintro e w' ⟨rfl, h1, h2⟩
    exact ⟨_, rfl, by unfold oddL; rw [if_neg h]; exact h1, h2⟩
end Go.Proofs.Ythjnalbgnjbdnaa
