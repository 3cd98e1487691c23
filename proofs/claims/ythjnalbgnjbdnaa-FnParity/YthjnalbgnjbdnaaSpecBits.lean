/-
  spec: l1Bits, l1Pick.
-/
import Derived.Test.YthjnalbgnjbdnaaSpecTabs
namespace Go.Proofs.Ythjnalbgnjbdnaa
open Go.RowKit

/-- A row of bytes that an append may go on with. -/
def OwnB (w : World) (base : Nat) (v : Value) (l : List UInt8) : Prop := w.ownsRow base 5 1 v l.length (l.map byte)
theorem OwnB.own {w : World} {base : Nat} {v : Value} {l : List UInt8} (h : OwnB w base v l) : Own w base v l := ⟨_, h⟩

theorem app_step {w wr w1 : World} {l : List UInt8} {v v1 c : Value} {x : UInt8} {o : Obj} (hown : OwnB wr w.heap.size v l) (hbel : Below w.heap.size w wr)
    (hown1 : w1.ownsRow w.heap.size 5 1 v1 (l.length + 1) (l.map byte ++ [c])) (hgrow1 : (wr.alloc o).grownBy w1 v.ownBlock) (hc : c = byte x) : OwnB w1 w.heap.size v1 (l ++ [x]) ∧ Below w.heap.size w w1 := by
  have hsz := hbel.size
  refine ⟨?_, (hbel.alloc hsz o).grown hgrow1 (by simp; omega) (fun j hj => (hown.lt j hj).1)⟩
  unfold OwnB
  subst hc
  rw [List.map_append, List.length_append]
  exact hown1

theorem app_step_int {w wr w1 : World} {l : List Nat} {v v1 c : Value} {x : Nat} {o : Obj} (hown : OwnI wr w.heap.size v l) (hbel : Below w.heap.size w wr)
    (hown1 : w1.ownsRow w.heap.size 3 1 v1 (l.length + 1) (l.map num ++ [c])) (hgrow1 : (wr.alloc o).grownBy w1 v.ownBlock) (hc : c = num x) : OwnI w1 w.heap.size v1 (l ++ [x]) ∧ Below w.heap.size w w1 := by
  have hsz := hbel.size
  refine ⟨?_, (hbel.alloc hsz o).grown hgrow1 (by simp; omega) (fun j hj => (hown.lt j hj).1)⟩
  unfold OwnI
  subst hc
  rw [List.map_append, List.length_append]
  exact hown1

theorem Try.info3 : (Try.prog.info? 3).map (fun i => (i.zero, i.size, i.bytes)) = some (some (.int .i64 0), 1, 8) := by kernel_rfl

theorem spec_bit_u8 : ∀ n : Nat, n < 256 → ∀ k : Nat, k < 8 → bits BinOp.and IntKind.u8 ((n : Int) / 2 ^ k) 1 = ((n / 2 ^ k % 2 : Nat) : Int) := by decide +kernel

def bitN (x : UInt8) (j : Nat) : UInt8 := UInt8.ofNat (x.toNat / 2 ^ (7 - j) % 2)
def bits8 (x : UInt8) : List UInt8 := (List.range 8).map (bitN x)
def bitsL (bs : List UInt8) : List UInt8 := bs.flatMap bits8
theorem bits8_length (x : UInt8) : (bits8 x).length = 8 := by simp [bits8]
theorem bitsL_length (bs : List UInt8) : (bitsL bs).length = 8 * bs.length := by
  induction bs with
  | nil => rfl
  | cons b bs ih => simp only [bitsL, List.flatMap_cons, List.length_append, bits8_length, List.length_cons] at *; omega
theorem bitsL_snoc (l : List UInt8) (x : UInt8) : bitsL (l ++ [x]) = bitsL l ++ bits8 x := by simp [bitsL]
theorem byte_bit (x : UInt8) (j : Nat) (hj : j < 8) (k : Nat) (hk : k = 7 - j) : Value.int .u8 (bits BinOp.and IntKind.u8 ((x.toNat : Int) / 2 ^ k) 1) = byte (bitN x j) := by
  have h := spec_bit_u8 x.toNat x.toNat_lt (7 - j) (by omega)
  unfold byte bitN
  rw [UInt8.toNat_ofNat', hk, h]
  congr 1
  omega

set_option maxHeartbeats 1000000 in
theorem bits_any (ao : Option Addr) (cap : Nat) (bs : List UInt8) (w : World) (hn : bs.length ≤ 1048576) (hr : RowAt w ao bs) :
    Calls Try.prog 46 #[.slice ao bs.length cap] w fun e w' => ∃ v, e = .returned v ∧ OwnB w' w.heap.size v (bitsL bs) ∧ Below w.heap.size w w' := by
  obtain ⟨i0, hi, hz0, hz1, hz2⟩ := info_parts Try.info5
  go_enter Try.func46, Try.ntmps46
  go_wp2
  go_loopw [3, 5, 6, 9] (fun v _ _ i wr => ∃ k : Nat, k ≤ bs.length ∧ i = .int .i64 k ∧ OwnB wr w.heap.size v (bitsL (bs.take k)) ∧ Below w.heap.size w wr) (fun _ _ _ i _ => bs.length - (intOf i).toNat)
  case atStart => exact ⟨0, Nat.zero_le _, rfl, World.ownsRow_nil _ _ _ _, Below.refl _ _⟩
  case round =>
    obtain ⟨k, hk, rfl, hown, hbel⟩ := hrel
    by_cases hlt : k < bs.length
    · obtain ⟨b, off, rfl, hc⟩ := hr.at hlt
      have hcx : wr.cell? ⟨b, off + k, none⟩ = some (.int .u8 (bs[k].toNat : Int)) := (hbel.cell (RowAt.lt hc hlt)).trans ((hc k hlt).trans (by simp [hlt]))
      clear hc hr
      go_wp2
      have hx := bs[k].toNat_lt
      go_loopw [3, 6] (fun v i wr => ∃ j : Nat, j ≤ 8 ∧ i = .int .i64 (7 - (j : Int)) ∧ OwnB wr w.heap.size v (bitsL (bs.take k) ++ (bits8 bs[k]).take j) ∧ Below w.heap.size w wr) (fun _ i _ => (intOf i + 1).toNat)
      case atStart => exact ⟨0, Nat.zero_le _, rfl, by simpa using hown, hbel⟩
      case round =>
        clear hown hbel hcx
        obtain ⟨j, hj8, rfl, hown, hbel⟩ := hrel
        by_cases hj : j < 8
        · obtain ⟨s, hs, hs8, Hs⟩ : ∃ s : Nat, (7 - (j : Int)) = (s : Int) ∧ s ≤ 7 ∧ Hid (s = 7 - j) := ⟨7 - j, by omega, by omega, rfl⟩
          have hl : (bitsL (bs.take k) ++ (bits8 bs[k]).take j).length ≤ 16777216 := by simp [bitsL_length, bits8_length]; omega
          have hsz := hbel.size
          rw [hs]
          have hsI : (0 : Int) ≤ (s : Int) := by omega
          go_wp2_with (at_builtin; refine wpList_append_own _ rfl _ _ 22 rfl w.heap.size 5 i0 (.int .u8 0) 1 1 Try.underlying22 hi hz0 hz1 hz2 rfl (by decide) _ _ _ rfl (hown.alloc _) ⟨wr.heap.size, 0, none⟩ 1 1 [.int .u8 (bits BinOp.and IntKind.u8 ((bs[k].toNat : Int) / 2 ^ s) 1)] rfl rfl (cell_one_new _ _ _) (by intro u hu; simp at hu; subst hu; rfl) (by unfold maxLen; omega) (by omega) (by simp; omega) ?_; intro v1 w1 hown1 hgrow1 hnil1)
          have R := app_step (x := bitN bs[k] j) hown hbel hown1 hgrow1 (byte_bit bs[k] j hj s Hs.out)
          have e2 : bitsL (bs.take k) ++ (bits8 bs[k]).take j ++ [bitN bs[k] j] = bitsL (bs.take k) ++ (bits8 bs[k]).take (j + 1) := by
            rw [List.append_assoc, take_snoc (bits8 bs[k]) j (by rw [bits8_length]; exact hj)]; simp [bits8]
          rw [e2] at R
          clear hown1 hgrow1 hown hnil1 hs
          go_wp2
          go_roundw
          case rel => exact ⟨j + 1, by omega, by have := Hs.out; go_num, R.1, R.2⟩
          case measure => simp [intOf]
        · obtain rfl : j = 8 := by omega
          go_wp2
          go_roundw
          case rel => exact ⟨k + 1, by omega, by go_num, by rw [take_snoc bs k hlt, bitsL_snoc]; rw [show (bits8 bs[k]).take 8 = bits8 bs[k] from List.take_of_length_le (by rw [bits8_length]; exact Nat.le_refl _)] at hown; exact hown, hbel⟩
          case measure => simp [intOf]; omega
    · go_wp2
      go_ret
      obtain rfl : k = bs.length := by omega
      rw [List.take_length] at hown
      exact ⟨_, rfl, hown, hbel⟩

def pickL (l : List UInt8) (ns : List Nat) : List UInt8 := ns.map fun n => l.getD (n - 1) 0

set_option maxHeartbeats 1000000 in
theorem pick_any (ao ai : Option Addr) (cap ci : Nat) (l : List UInt8) (ns : List Nat) (w : World) (hl : l.length ≤ 1048576) (hn : ns.length ≤ 1048576) (hin : ∀ n ∈ ns, 1 ≤ n ∧ n ≤ l.length) (hr : RowAt w ao l) (hi : RowI w ai ns) :
    Calls Try.prog 45 #[.slice ao l.length cap, .slice ai ns.length ci] w fun e w' => ∃ v, e = .returned v ∧ OwnB w' w.heap.size v (pickL l ns) ∧ Below w.heap.size w w' := by
  obtain ⟨i0, hi0, hz0, hz1, hz2⟩ := info_parts Try.info5
  go_enter Try.func45, Try.ntmps45
  go_wp2
  go_loopw [5, 7, 10] (fun v _ i wr => ∃ k : Nat, k ≤ ns.length ∧ i = .int .i64 k ∧ OwnB wr w.heap.size v (pickL l (ns.take k)) ∧ Below w.heap.size w wr) (fun _ _ i _ => ns.length - (intOf i).toNat)
  case atStart => exact ⟨0, Nat.zero_le _, rfl, World.ownsRow_nil _ _ _ _, Below.refl _ _⟩
  case round =>
    obtain ⟨k, hk, rfl, hown, hbel⟩ := hrel
    by_cases hlt : k < ns.length
    · obtain ⟨b, off, rfl, hc⟩ := hi.at hlt
      have hcx : wr.cell? ⟨b, off + k, none⟩ = some (.int .i64 (ns[k] : Int)) := (hbel.cell (RowI.lt hc hlt)).trans ((hc k hlt).trans (by simp [hlt]))
      have hb := hin ns[k] (List.getElem_mem hlt)
      obtain ⟨m, hm, hml⟩ : ∃ m : Nat, ns[k] = m + 1 ∧ m < l.length := ⟨ns[k] - 1, by omega, by omega⟩
      have Hm : Hid (ns[k] = m + 1) := hm
      have hcx' : wr.cell? ⟨b, off + k, none⟩ = some (.int .i64 ((m : Int) + 1)) := by rw [hcx, hm]; congr 2
      obtain ⟨b2, off2, rfl, hc2⟩ := hr.at hml
      have hcy : wr.cell? ⟨b2, off2 + m, none⟩ = some (.int .u8 (l[m].toNat : Int)) := (hbel.cell (RowAt.lt hc2 hml)).trans ((hc2 m hml).trans (by simp [hml]))
      have hll : (pickL l (ns.take k)).length ≤ 1048576 := by simp [pickL]; omega
      have hsz := hbel.size
      have hmI : (m : Int) < (l.length : Int) := by omega
      clear hc hr hc2 hi hcx hm hb hin
      go_wp2_with (at_builtin; refine wpList_append_own _ rfl _ _ 22 rfl w.heap.size 5 i0 (.int .u8 0) 1 1 Try.underlying22 hi0 hz0 hz1 hz2 rfl (by decide) _ _ _ rfl (hown.alloc _) ⟨wr.heap.size, 0, none⟩ 1 1 [.int .u8 (l[m].toNat : Int)] rfl rfl (cell_one_new _ _ _) (by intro u hu; simp at hu; subst hu; rfl) (by unfold maxLen; omega) (by omega) (by simp; omega) ?_; intro v1 w1 hown1 hgrow1 hnil1)
      have R := app_step (x := l[m]) hown hbel hown1 hgrow1 rfl
      have e2 : pickL l (ns.take k) ++ [l[m]] = pickL l (ns.take (k + 1)) := by
        rw [take_snoc ns k hlt]; simp [pickL, Hm.out, hml]
      rw [e2] at R
      clear hown1 hgrow1 hown hnil1
      go_wp2
      go_roundw
      case rel => exact ⟨k + 1, by omega, by go_num, R.1, R.2⟩
      case measure => simp [intOf]; omega
    · go_wp2
      go_ret
      obtain rfl : k = ns.length := by omega
      rw [List.take_length] at hown
      exact ⟨_, rfl, hown, hbel⟩
end Go.Proofs.Ythjnalbgnjbdnaa
