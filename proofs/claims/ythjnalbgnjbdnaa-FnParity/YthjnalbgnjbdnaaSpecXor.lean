/-
  spec: l1Xor, l1Bytes, l1Hex.
-/
import Derived.Test.YthjnalbgnjbdnaaSpecIp
import Derived.Laws.CopyOwn
import Derived.WideShapes
namespace Go.Proofs.Ythjnalbgnjbdnaa
open Go.RowKit

def xorL (a b : List UInt8) : List UInt8 := List.zipWith (· ^^^ ·) a b
theorem xorL_length (a b : List UInt8) (h : a.length = b.length) : (xorL a b).length = a.length := by simp [xorL, h]
theorem xorL_get (a b : List UInt8) (i : Nat) (ha : i < a.length) (hb : i < b.length) : (xorL a b)[i]'(by simp [xorL]; omega) = a[i] ^^^ b[i] := by simp [xorL]
theorem byte_xor (x y : UInt8) : Value.int .u8 (bits BinOp.xor IntKind.u8 (x.toNat : Int) (y.toNat : Int)) = byte (x ^^^ y) := by
  unfold byte
  rw [u8_xor_nat _ _ x.toNat_lt y.toNat_lt, UInt8.toNat_xor]

set_option maxHeartbeats 1000000 in
theorem xor_any (ao bo : Option Addr) (cap cb : Nat) (a b : List UInt8) (w : World) (hn : a.length ≤ 1048576) (hab : a.length = b.length) (ha : RowAt w ao a) (hb : RowAt w bo b) :
    Calls Try.prog 48 #[.slice ao a.length cap, .slice bo b.length cb] w fun e w' =>
      e = .returned (.slice (some ⟨w.heap.size, 0, none⟩) a.length a.length) ∧ OwnB w' w.heap.size (.slice (some ⟨w.heap.size, 0, none⟩) a.length a.length) (xorL a b) ∧ Below w.heap.size w w' := by
  obtain ⟨i0, hi, hz0, hz1, hz2⟩ := info_parts Try.info5
  have hml := xorL_length a b hab
  have Hab : Hid (a.length = b.length) := hab
  have Hml : Hid ((xorL a b).length = a.length) := hml
  have hle : a.length ≤ b.length := by omega
  clear hab hml
  go_enter Try.func48, Try.ntmps48
  go_wp2_with (at_make; refine wpList_make_full _ rfl _ _ 22 rfl w.heap.size 5 i0 (.int .u8 0) 1 Try.underlying22 hi hz0 hz1 .i64 .i64 _ _ a.length rfl rfl rfl rfl (by rw [hz2]; omega) (by unfold maxLen; omega) (Nat.le_refl _) ?_; intro w0 hown0 hgrow0)
  have hstart : w0.ownsRow w.heap.size 5 1 (.slice (some ⟨w.heap.size, 0, none⟩) a.length a.length) a.length (part (xorL a b) 0) := by
    rw [part_zero, Hml.out, ← made_zero]; exact hown0
  have hb0 := below_of_grown hgrow0
  clear hown0 hgrow0
  go_loopw [6, 12] (fun _ i wr => ∃ k : Nat, k ≤ a.length ∧ i = .int .i64 k ∧ wr.ownsRow w.heap.size 5 1 (.slice (some ⟨w.heap.size, 0, none⟩) a.length a.length) a.length (part (xorL a b) k) ∧ Below w.heap.size w wr) (fun _ i _ => a.length - (intOf i).toNat)
  case atStart => exact ⟨0, Nat.zero_le _, rfl, hstart, hb0⟩
  case round =>
    obtain ⟨k, hk, rfl, hown, hbel⟩ := hrel
    clear hstart hb0
    by_cases hlt : k < a.length
    · have hlt2 : k < b.length := by omega
      obtain ⟨b1, off1, rfl, hc1⟩ := ha.at hlt
      obtain ⟨b2, off2, rfl, hc2⟩ := hb.at hlt2
      have hcx : wr.cell? ⟨b1, off1 + k, none⟩ = some (.int .u8 (a[k].toNat : Int)) := (hbel.cell (RowAt.lt hc1 hlt)).trans ((hc1 k hlt).trans (by simp [hlt]))
      have hcy : wr.cell? ⟨b2, off2 + k, none⟩ = some (.int .u8 (b[k].toNat : Int)) := (hbel.cell (RowAt.lt hc2 hlt2)).trans ((hc2 k hlt2).trans (by simp [hlt2]))
      have hfz : wr.frozen? ⟨w.heap.size, k, none⟩ = false := hown.frozenAt k
      obtain ⟨u, hu⟩ := own_some hown (by omega : k < a.length * 1)
      have hst := (hown.stored k (byte (a[k] ^^^ b[k]))).1
      have hse := part_set (xorL a b) k (by rw [Hml.out]; exact hlt)
      rw [xorL_get a b k hlt hlt2] at hse
      rw [hse] at hst
      have hb2 := hbel.setCell (p := ⟨w.heap.size, k, none⟩) (Nat.le_refl _) (byte (a[k] ^^^ b[k]))
      have hkI : (k : Int) < (a.length : Int) := by omega
      have hkJ : (k : Int) < (b.length : Int) := by omega
      have HV : Hid (Value.int .u8 (bits BinOp.xor IntKind.u8 (a[k].toNat : Int) (b[k].toNat : Int)) = byte (a[k] ^^^ b[k])) := byte_xor _ _
      have Hst : Hid ((wr.setCell ⟨w.heap.size, k, none⟩ (byte (a[k] ^^^ b[k]))).ownsRow w.heap.size 5 1 (.slice (some ⟨w.heap.size, 0, none⟩) a.length a.length) a.length (part (xorL a b) (k + 1))) := hst
      clear hown hbel hc1 hc2 hse ha hb hst
      go_wp2
      go_region
      go_wp2
      go_roundw
      case rel =>
        rw [HV.out]
        exact ⟨k + 1, by omega, by go_num, Hst.out, hb2.drew⟩
      case measure => simp [intOf]; omega
    · go_wp2
      go_ret
      have hkl : k = (xorL a b).length := by have := Hml.out; omega
      subst hkl
      rw [part_all] at hown
      exact ⟨rfl, by unfold OwnB; have e := Hml.out; rw [e]; exact hown, hbel⟩

theorem src_cells {w w0 : World} {b off : Nat} {bs : List UInt8} (hb : Below w.heap.size w w0) (hl : b < w.heap.size) (hc : ∀ i, i < bs.length → w.cell? ⟨b, off + i, none⟩ = some (.int .u8 ((bs.getD i 0).toNat : Int))) :
    ∀ j v, (bs.map byte)[j]? = some v → w0.cell? ((⟨b, off, none⟩ : Addr).add j) = some v := by
  intro j v hv
  have hj : j < bs.length := by simpa using (List.getElem?_eq_some_iff.1 hv).1
  rw [Go.WideShapes.add_plain, hb.cell (p := ⟨b, off + j, none⟩) hl, hc j hj, ← hv]
  simp [hj, byte]

theorem own_blk {w : World} {base e g n : Nat} {xs : List Value} (h : w.ownsRow base e 1 (.slice (some ⟨g, 0, none⟩) n n) n xs) : Blk w g e xs := by
  rcases h.2 with ⟨hv, -⟩ | ⟨g', cap, cur, hv, hb, hh, hn, hm, hs, ht⟩
  · cases hv
  · simp only [Value.slice.injEq, Option.some.injEq, Addr.mk.injEq, and_true, true_and] at hv
    obtain ⟨rfl, rfl⟩ := hv
    unfold Blk
    rw [hh, ← ht, List.take_of_length_le (by simp; omega)]

theorem blk_own {w : World} {base g : Nat} {l : List UInt8} (h : Blk w g 5 (l.map byte)) (hb : base ≤ g) (hm : l.length ≤ maxLen) : OwnB w base (.slice (some ⟨g, 0, none⟩) l.length l.length) l :=
  ⟨by simp, .inr ⟨g, l.length, (l.map byte).toArray, rfl, hb, h, Nat.le_refl _, hm, by simp, by rw [List.take_of_length_le (by simp)]⟩⟩

set_option maxHeartbeats 1000000 in
theorem bytes_some (b off cap : Nat) (bs : List UInt8) (w : World) (hn : bs.length ≤ 1048576) (h0 : 0 < bs.length) (hc : ∀ i, i < bs.length → w.cell? ⟨b, off + i, none⟩ = some (.int .u8 ((bs.getD i 0).toNat : Int))) :
    Calls Try.prog 50 #[.slice (some ⟨b, off, none⟩) bs.length cap] w fun e w' =>
      e = .returned (.slice (some ⟨w.heap.size, 0, none⟩) bs.length bs.length) ∧ OwnB w' w.heap.size (.slice (some ⟨w.heap.size, 0, none⟩) bs.length bs.length) bs ∧ Below w.heap.size w w' := by
  obtain ⟨i0, hi, hz0, hz1, hz2⟩ := info_parts Try.info5
  have hbl := RowAt.lt hc h0
  have HC := fun i hi => (Hid.out (show Hid (w.cell? ⟨b, off + i, none⟩ = some (.int .u8 ((bs.getD i 0).toNat : Int))) from hc i hi))
  have Hc : Hid (∀ i, i < bs.length → w.cell? ⟨b, off + i, none⟩ = some (.int .u8 ((bs.getD i 0).toNat : Int))) := hc
  clear HC hc
  go_enter Try.func50, Try.ntmps50
  go_wp2_with (first
    | (at_make; refine wpList_make_full _ rfl _ _ 22 rfl w.heap.size 5 i0 (.int .u8 0) 1 Try.underlying22 hi hz0 hz1 .i64 .i64 _ _ bs.length rfl rfl rfl rfl (by rw [hz2]; omega) (by unfold maxLen; omega) (Nat.le_refl _) ?_; intro w0 hown0 hgrow0)
    | (refine wpList_copy_own rfl _ _ 22 22 rfl 5 Try.underlying22 (by kernel_rfl) w.heap.size 0 bs.length bs.length ⟨b, off, none⟩ bs.length cap rfl rfl _ 5 (own_blk hown0) (bs.map byte) (by simp) (src_cells (below_of_grown hgrow0) hbl Hc.out) (by rw [made_zero]; simp) (by intro v hv; simp only [List.mem_map] at hv; obtain ⟨x, -, rfl⟩ := hv; rfl) ?_))
  go_ret
  have hb1 := own_blk hown0
  have hrow := Blk.setRow hb1 (bs.map byte)
  have e : List.drop bs.length (madeCells #[Value.int IntKind.u8 0] bs.length).toList = [] := by
    rw [toList_madeCells_one]; simp
  refine ⟨rfl, blk_own ?_ (Nat.le_refl _) (by unfold maxLen; omega), ?_⟩
  · rw [e, List.append_nil]; exact hrow
  · exact below_setRow' (below_of_grown hgrow0) (Nat.le_refl _) _

theorem bytes_any (ao : Option Addr) (cap : Nat) (bs : List UInt8) (w : World) (hn : bs.length ≤ 1048576) (h0 : 0 < bs.length) (hr : RowAt w ao bs) :
    Calls Try.prog 50 #[.slice ao bs.length cap] w fun e w' =>
      e = .returned (.slice (some ⟨w.heap.size, 0, none⟩) bs.length bs.length) ∧ OwnB w' w.heap.size (.slice (some ⟨w.heap.size, 0, none⟩) bs.length bs.length) bs ∧ Below w.heap.size w w' := by
  obtain ⟨b, off, rfl, hc⟩ := hr.at h0
  exact bytes_some b off cap bs w hn h0 hc

/-- l1Hex at the signs of a box. -/
theorem hexS_nat : ∀ n : Nat, n < 256 → 48 ≤ n → n ≤ 57 → (n - 48 : Nat) = hexN n := by decide +kernel
theorem hexS_nat2 : ∀ n : Nat, n < 256 → 65 ≤ n → (n - 55 : Nat) = hexN n := by decide +kernel

set_option maxHeartbeats 400000 in
theorem hexS_any (n : Nat) (w : World) (h : n < 256) (h2 : (48 ≤ n ∧ n ≤ 57) ∨ 65 ≤ n) :
    Calls Try.prog 92 #[.int .u8 n] w fun e w' => e = .returned (.int .u8 (hexN n : Nat)) ∧ w' = w := by
  rcases h2 with ⟨h2, h3⟩ | h2
  · have e := hexS_nat n h h2 h3
    have He : Hid (n - 48 = hexN n) := e
    clear e
    go_enter Try.func92, Try.ntmps92
    go_wp2
    go_ret
    exact ⟨ret_int (by rw [← He.out]; omega), rfl⟩
  · have e := hexS_nat2 n h h2
    have He : Hid (n - 55 = hexN n) := e
    clear e
    go_enter Try.func92, Try.ntmps92
    go_wp2
    go_ret
    exact ⟨ret_int (by rw [← He.out]; omega), rfl⟩
end Go.Proofs.Ythjnalbgnjbdnaa
