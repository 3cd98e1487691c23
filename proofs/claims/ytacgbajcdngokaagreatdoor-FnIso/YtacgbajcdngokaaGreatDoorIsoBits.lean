/-
  spec.l1Bits, spec.l1Bytes (taken out of SpecBits, SpecXor, CmacSpec).
-/
import Derived.Test.YtacgbajcdngokaaGreatDoorIsoHolds
import Derived.Laws.CopyOwn
namespace Go.Proofs.YtacgbajcdngokaaGreatDoor
open Go.RowKit

theorem blk_own {w : World} {base g : Nat} {l : List UInt8} (h : Blk w g 5 (l.map byte)) (hb : base ≤ g) (hm : l.length ≤ maxLen) : OwnB w base (.slice (some ⟨g, 0, none⟩) l.length l.length) l :=
  ⟨by simp, .inr ⟨g, l.length, (l.map byte).toArray, rfl, hb, h, Nat.le_refl _, hm, by simp, by rw [List.take_of_length_le (by simp)]⟩⟩
theorem src_cells {w w0 : World} {b off : Nat} {bs : List UInt8} (hb : Below w.heap.size w w0) (hl : b < w.heap.size) (hc : ∀ i, i < bs.length → w.cell? ⟨b, off + i, none⟩ = some (.int .u8 ((bs.getD i 0).toNat : Int))) :
    ∀ j v, (bs.map byte)[j]? = some v → w0.cell? ((⟨b, off, none⟩ : Addr).add j) = some v := by
  intro j v hv
  have hj : j < bs.length := by simpa using (List.getElem?_eq_some_iff.1 hv).1
  rw [Go.WideShapes.add_plain, hb.cell (p := ⟨b, off + j, none⟩) hl, hc j hj, ← hv]
  simp [hj, byte]
theorem app_step {w wr w1 : World} {l : List UInt8} {v v1 c : Value} {x : UInt8} {o : Obj} (hown : OwnB wr w.heap.size v l) (hbel : Below w.heap.size w wr)
    (hown1 : w1.ownsRow w.heap.size 5 1 v1 (l.length + 1) (l.map byte ++ [c])) (hgrow1 : (wr.alloc o).grownBy w1 v.ownBlock) (hc : c = byte x) : OwnB w1 w.heap.size v1 (l ++ [x]) ∧ Below w.heap.size w w1 := by
  have hsz := hbel.size
  refine ⟨?_, (hbel.alloc hsz o).grown hgrow1 (by simp; omega) (fun j hj => (hown.lt j hj).1)⟩
  unfold OwnB
  subst hc
  rw [List.map_append, List.length_append]
  exact hown1
theorem spec_bit_u8 : ∀ n : Nat, n < 256 → ∀ k : Nat, k < 8 → bits BinOp.and IntKind.u8 ((n : Int) / 2 ^ k) 1 = ((n / 2 ^ k % 2 : Nat) : Int) := by decide +kernel
def bitN (x : UInt8) (j : Nat) : UInt8 := UInt8.ofNat (x.toNat / 2 ^ (7 - j) % 2)
def bits8 (x : UInt8) : List UInt8 := (List.range 8).map (bitN x)
def bitsL (bs : List UInt8) : List UInt8 := bs.flatMap bits8
theorem bits8_length (x : UInt8) : (bits8 x).length = 8 := by simp [bits8]
theorem bitsL_length (bs : List UInt8) : (bitsL bs).length = 8 * bs.length := by
  induction bs with
  | nil => rfl
  | cons b bs ih => simp only [bitsL, List.flatMap_cons, List.length_append, bits8_length, List.length_cons] at *; omega
theorem bitsL_snoc (l : List UInt8) (x : UInt8) : bitsL (l ++ [x]) = bitsL l ++ bits8 x := by simp [bitsL]
theorem byte_bit (x : UInt8) (j : Nat) (hj : j < 8) (k : Nat) (hk : k = 7 - j) : Value.int .u8 (bits BinOp.and IntKind.u8 ((x.toNat : Int) / 2 ^ k) 1) = byte (bitN x j) := by
  have h := spec_bit_u8 x.toNat x.toNat_lt (7 - j) (by omega)
  unfold byte bitN
  rw [UInt8.toNat_ofNat', hk, h]
  congr 1
  omega
set_option maxHeartbeats 1000000 in
theorem bits_any (ao : Option Addr) (cap : Nat) (bs : List UInt8) (w : World) (hn : bs.length ≤ 1048576) (hr : RowAt w ao bs) :
    Calls Tryz.prog 45 #[.slice ao bs.length cap] w fun e w' => ∃ v, e = .returned v ∧ OwnB w' w.heap.size v (bitsL bs) ∧ Below w.heap.size w w' := by
  obtain ⟨i0, hi, hz0, hz1, hz2⟩ := info_parts Tryz.info5
  go_enter Tryz.func45, Tryz.ntmps45
  go_wp2
  go_loopw [3, 5, 6, 9] (fun v _ _ i wr => ∃ k : Nat, k ≤ bs.length ∧ i = .int .i64 k ∧ OwnB wr w.heap.size v (bitsL (bs.take k)) ∧ Below w.heap.size w wr) (fun _ _ _ i _ => bs.length - (intOf i).toNat)
  case atStart => exact ⟨0, Nat.zero_le _, rfl, World.ownsRow_nil _ _ _ _, Below.refl _ _⟩
  case round =>
    obtain ⟨k, hk, rfl, hown, hbel⟩ := hrel
    by_cases hlt : k < bs.length
    · obtain ⟨b, off, rfl, hc⟩ := hr.at hlt
      have hcx : wr.cell? ⟨b, off + k, none⟩ = some (.int .u8 (bs[k].toNat : Int)) := (hbel.cell (RowAt.lt hc hlt)).trans ((hc k hlt).trans (by simp [hlt]))
      clear hc hr
      go_wp2
      have hx := bs[k].toNat_lt
      go_loopw [3, 6] (fun v i wr => ∃ j : Nat, j ≤ 8 ∧ i = .int .i64 (7 - (j : Int)) ∧ OwnB wr w.heap.size v (bitsL (bs.take k) ++ (bits8 bs[k]).take j) ∧ Below w.heap.size w wr) (fun _ i _ => (intOf i + 1).toNat)
      case atStart => exact ⟨0, Nat.zero_le _, rfl, by simpa using hown, hbel⟩
      case round =>
        clear hown hbel hcx
        obtain ⟨j, hj8, rfl, hown, hbel⟩ := hrel
        by_cases hj : j < 8
        · obtain ⟨s, hs, hs8, Hs⟩ : ∃ s : Nat, (7 - (j : Int)) = (s : Int) ∧ s ≤ 7 ∧ Hid (s = 7 - j) := ⟨7 - j, by omega, by omega, rfl⟩
          have hl : (bitsL (bs.take k) ++ (bits8 bs[k]).take j).length ≤ 16777216 := by simp [bitsL_length, bits8_length]; omega
          have hsz := hbel.size
          rw [hs]
          have hsI : (0 : Int) ≤ (s : Int) := by omega
          go_wp2_with (at_builtin; refine wpList_append_own _ rfl _ _ 22 rfl w.heap.size 5 i0 (.int .u8 0) 1 1 Tryz.underlying22 hi hz0 hz1 hz2 rfl (by decide) _ _ _ rfl (hown.alloc _) ⟨wr.heap.size, 0, none⟩ 1 1 [.int .u8 (bits BinOp.and IntKind.u8 ((bs[k].toNat : Int) / 2 ^ s) 1)] rfl rfl (cell_one_new _ _ _) (by intro u hu; simp at hu; subst hu; rfl) (by unfold maxLen; omega) (by omega) (by simp; omega) ?_; intro v1 w1 hown1 hgrow1 hnil1)
          have R := app_step (x := bitN bs[k] j) hown hbel hown1 hgrow1 (byte_bit bs[k] j hj s Hs.out)
          have e2 : bitsL (bs.take k) ++ (bits8 bs[k]).take j ++ [bitN bs[k] j] = bitsL (bs.take k) ++ (bits8 bs[k]).take (j + 1) := by
            rw [List.append_assoc, take_snoc (bits8 bs[k]) j (by rw [bits8_length]; exact hj)]; simp [bits8]
          rw [e2] at R
          clear hown1 hgrow1 hown hnil1 hs
          go_wp2
          go_roundw
          case rel => exact ⟨j + 1, by omega, by have := Hs.out; go_num, R.1, R.2⟩
          case measure => simp [intOf]
        · obtain rfl : j = 8 := by omega
          go_wp2
          go_roundw
          case rel => exact ⟨k + 1, by omega, by go_num, by rw [take_snoc bs k hlt, bitsL_snoc]; rw [show (bits8 bs[k]).take 8 = bits8 bs[k] from List.take_of_length_le (by rw [bits8_length]; exact Nat.le_refl _)] at hown; exact hown, hbel⟩
          case measure => simp [intOf]; omega
    · go_wp2
      go_ret
      obtain rfl : k = bs.length := by omega
      rw [List.take_length] at hown
      exact ⟨_, rfl, hown, hbel⟩
set_option maxHeartbeats 1000000 in
set_option maxRecDepth 100000 in
theorem bytes_some (b off cap : Nat) (bs : List UInt8) (w : World) (hn : bs.length ≤ 1048576) (h0 : 0 < bs.length) (hc : ∀ i, i < bs.length → w.cell? ⟨b, off + i, none⟩ = some (.int .u8 ((bs.getD i 0).toNat : Int))) :
    Calls Tryz.prog 47 #[.slice (some ⟨b, off, none⟩) bs.length cap] w fun e w' =>
      e = .returned (.slice (some ⟨w.heap.size, 0, none⟩) bs.length bs.length) ∧ OwnB w' w.heap.size (.slice (some ⟨w.heap.size, 0, none⟩) bs.length bs.length) bs ∧ Below w.heap.size w w' := by
  obtain ⟨i0, hi, hz0, hz1, hz2⟩ := info_parts Tryz.info5
  have hbl := RowAt.lt hc h0
  have HC := fun i hi => (Hid.out (show Hid (w.cell? ⟨b, off + i, none⟩ = some (.int .u8 ((bs.getD i 0).toNat : Int))) from hc i hi))
  have Hc : Hid (∀ i, i < bs.length → w.cell? ⟨b, off + i, none⟩ = some (.int .u8 ((bs.getD i 0).toNat : Int))) := hc
  clear HC hc
  go_enter Tryz.func47, Tryz.ntmps47
  go_wp2_with (first
    | (at_make; refine wpList_make_full _ rfl _ _ 22 rfl w.heap.size 5 i0 (.int .u8 0) 1 Tryz.underlying22 hi hz0 hz1 .i64 .i64 _ _ bs.length rfl rfl rfl rfl (by rw [hz2]; omega) (by unfold maxLen; omega) (Nat.le_refl _) ?_; intro w0 hown0 hgrow0)
    | (refine wpList_copy_own rfl _ _ 22 22 rfl 5 Tryz.underlying22 (by kernel_rfl) w.heap.size 0 bs.length bs.length ⟨b, off, none⟩ bs.length cap rfl rfl _ 5 (own_blk hown0) (bs.map byte) (by simp) (src_cells (below_of_grown hgrow0) hbl Hc.out) (by rw [made_zero]; simp) (by intro v hv; simp only [List.mem_map] at hv; obtain ⟨x, -, rfl⟩ := hv; rfl) ?_))
  go_ret
  have hb1 := own_blk hown0
  have hrow := Blk.setRow hb1 (bs.map byte)
  have e : List.drop bs.length (madeCells #[Value.int IntKind.u8 0] bs.length).toList = [] := by
    rw [toList_madeCells_one]; simp
  refine ⟨rfl, blk_own ?_ (Nat.le_refl _) (by unfold maxLen; omega), ?_⟩
  · rw [e, List.append_nil]; exact hrow
  · exact below_setRow' (below_of_grown hgrow0) (Nat.le_refl _) _
theorem bytes_any (ao : Option Addr) (cap : Nat) (bs : List UInt8) (w : World) (hn : bs.length ≤ 1048576) (h0 : 0 < bs.length) (hr : RowAt w ao bs) :
    Calls Tryz.prog 47 #[.slice ao bs.length cap] w fun e w' =>
      e = .returned (.slice (some ⟨w.heap.size, 0, none⟩) bs.length bs.length) ∧ OwnB w' w.heap.size (.slice (some ⟨w.heap.size, 0, none⟩) bs.length bs.length) bs ∧ Below w.heap.size w w' := by
  obtain ⟨b, off, rfl, hc⟩ := hr.at h0
  exact bytes_some b off cap bs w hn h0 hc
set_option maxRecDepth 100000 in
set_option maxHeartbeats 1000000 in
theorem bytes_noneQ (ao : Option Addr) (cap : Nat) (w : World) :
    Calls Tryz.prog 47 #[.slice ao 0 cap] w fun e w' => ∃ v, e = .returned v ∧ OwnB w' w.heap.size v [] ∧ Below w.heap.size w w' := by
  obtain ⟨i0, hi, hz0, hz1, hz2⟩ := info_parts Tryz.info5
  go_enter Tryz.func47, Tryz.ntmps47
  go_wp2_with (first
    | (at_make; refine wpList_make_full _ rfl _ _ 22 rfl w.heap.size 5 i0 (.int .u8 0) 1 Tryz.underlying22 hi hz0 hz1 .i64 .i64 _ _ 0 rfl rfl rfl rfl (by rw [hz2]; omega) (by unfold maxLen; omega) (Nat.le_refl _) ?_; intro w0 hown0 hgrow0; have bel0 := below_of_grown hgrow0)
    | (refine wpList_copy_nothing rfl _ _ 22 22 rfl 5 Tryz.underlying22 (by kernel_rfl) _ _ 0 0 0 cap rfl rfl rfl ?_))
  go_ret
  rw [show (madeCells (Value.int .u8 0).cells (0 * 1)).toList = [] from by kernel_rfl] at hown0
  exact ⟨_, rfl, hown0, bel0⟩
theorem bytes_allQ (data : List UInt8) (ao : Option Addr) (cap : Nat) (w : World) (hn : data.length ≤ 1048576) (hr : RowAt w ao data) :
    Calls Tryz.prog 47 #[.slice ao data.length cap] w fun e w' => ∃ v, e = .returned v ∧ OwnB w' w.heap.size v data ∧ Below w.heap.size w w' := by
  by_cases h0 : 0 < data.length
  · refine (bytes_any ao cap data w hn h0 hr).mono ?_
    rintro e w' ⟨rfl, own, bel⟩
    exact ⟨_, rfl, own, bel⟩
  · obtain rfl : data = [] := List.length_eq_zero_iff.1 (by omega)
    exact bytes_noneQ ao cap w
end Go.Proofs.YtacgbajcdngokaaGreatDoor
