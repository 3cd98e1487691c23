/-
  Helpers of the laws: xor, double.
-/
import Derived.Test.YtdelidfigcgglaaCmacTop
import Derived.Test.YtdelidfigcgglaaRetailSpec
import Derived.Test.YtdelidfigcgglaaLawBits
namespace Go.Proofs.Ytdelidfigcgglaa
open Go.RowKit

set_option maxHeartbeats 1000000 in
theorem lawXor_any (ao bo : Option Addr) (cap cb : Nat) (a b : List UInt8) (w : World) (hn : a.length ≤ 1048576) (hab : a.length = b.length) (ha : RowAt w ao a) (hb : RowAt w bo b) :
    Calls Try.prog 17 #[.slice ao a.length cap, .slice bo b.length cb] w fun e w' =>
      e = .returned (.slice (some ⟨w.heap.size, 0, none⟩) a.length a.length) ∧ OwnB w' w.heap.size (.slice (some ⟨w.heap.size, 0, none⟩) a.length a.length) (xorL a b) ∧ Below w.heap.size w w' := by
  obtain ⟨i0, hi, hz0, hz1, hz2⟩ := info_parts Try.info5
  have hml := xorL_length a b hab
  have Hab : Hid (a.length = b.length) := hab
  have Hml : Hid ((xorL a b).length = a.length) := hml
  have hle : a.length ≤ b.length := by omega
  clear hab hml
  go_enter Try.func17, Try.ntmps17
  go_wp2_with (at_make; refine wpList_make_full _ rfl _ _ 22 rfl w.heap.size 5 i0 (.int .u8 0) 1 Try.underlying22 hi hz0 hz1 .i64 .i64 _ _ a.length rfl rfl rfl rfl (by rw [hz2]; omega) (by unfold maxLen; omega) (Nat.le_refl _) ?_; intro w0 hown0 hgrow0)
  have hstart : w0.ownsRow w.heap.size 5 1 (.slice (some ⟨w.heap.size, 0, none⟩) a.length a.length) a.length (part (xorL a b) 0) := by
    rw [part_zero, Hml.out, ← made_zero]; exact hown0
  have hb0 := below_of_grown hgrow0
  clear hown0 hgrow0
  go_loopw [6, 12] (fun _ i wr => ∃ k : Nat, k ≤ a.length ∧ i = .int .i64 k ∧ wr.ownsRow w.heap.size 5 1 (.slice (some ⟨w.heap.size, 0, none⟩) a.length a.length) a.length (part (xorL a b) k) ∧ Below w.heap.size w wr) (fun _ i _ => a.length - (intOf i).toNat)
  case atStart => exact ⟨0, Nat.zero_le _, rfl, hstart, hb0⟩
  case round =>
    obtain ⟨k, hk, rfl, hown, hbel⟩ := hrel
    clear hstart hb0
    by_cases hlt : k < a.length
    · have hlt2 : k < b.length := by omega
      obtain ⟨b1, off1, rfl, hc1⟩ := ha.at hlt
      obtain ⟨b2, off2, rfl, hc2⟩ := hb.at hlt2
      have hcx : wr.cell? ⟨b1, off1 + k, none⟩ = some (.int .u8 (a[k].toNat : Int)) := (hbel.cell (RowAt.lt hc1 hlt)).trans ((hc1 k hlt).trans (by simp [hlt]))
      have hcy : wr.cell? ⟨b2, off2 + k, none⟩ = some (.int .u8 (b[k].toNat : Int)) := (hbel.cell (RowAt.lt hc2 hlt2)).trans ((hc2 k hlt2).trans (by simp [hlt2]))
      have hfz : wr.frozen? ⟨w.heap.size, k, none⟩ = false := hown.frozenAt k
      obtain ⟨u, hu⟩ := own_some hown (by omega : k < a.length * 1)
      have hst := (hown.stored k (byte (a[k] ^^^ b[k]))).1
      have hse := part_set (xorL a b) k (by rw [Hml.out]; exact hlt)
      rw [xorL_get a b k hlt hlt2] at hse
      rw [hse] at hst
      have hb2 := hbel.setCell (p := ⟨w.heap.size, k, none⟩) (Nat.le_refl _) (byte (a[k] ^^^ b[k]))
      have hkI : (k : Int) < (a.length : Int) := by omega
      have hkJ : (k : Int) < (b.length : Int) := by omega
      have HV : Hid (Value.int .u8 (bits BinOp.xor IntKind.u8 (a[k].toNat : Int) (b[k].toNat : Int)) = byte (a[k] ^^^ b[k])) := byte_xor _ _
      have Hst : Hid ((wr.setCell ⟨w.heap.size, k, none⟩ (byte (a[k] ^^^ b[k]))).ownsRow w.heap.size 5 1 (.slice (some ⟨w.heap.size, 0, none⟩) a.length a.length) a.length (part (xorL a b) (k + 1))) := hst
      clear hown hbel hc1 hc2 hse ha hb hst
      go_wp2
      go_region
      go_wp2
      go_roundw
      case rel =>
        rw [HV.out]
        exact ⟨k + 1, by omega, by go_num, Hst.out, hb2.drew⟩
      case measure => simp [intOf]; omega
    · go_wp2
      go_ret
      have hkl : k = (xorL a b).length := by have := Hml.out; omega
      subst hkl
      rw [part_all] at hown
      exact ⟨rfl, by unfold OwnB; have e := Hml.out; rw [e]; exact hown, hbel⟩

set_option maxRecDepth 100000 in
set_option maxHeartbeats 1000000 in
theorem lawDouble_any (v : List UInt8) (ao : Option Addr) (cap : Nat) (w : World) (hv : v.length = 16) (hr : RowAt w ao v) :
    Calls Try.prog 20 #[.slice ao 16 cap] w fun e w' => e = .returned (.slice (some ⟨w.heap.size, 0, none⟩) 16 16) ∧ RowAt w' (some ⟨w.heap.size, 0, none⟩) (dblL v) ∧ Below w.heap.size w w' := by
  obtain ⟨i0, hi, hz0, hz1, hz2⟩ := info_parts Try.info5
  obtain ⟨vb, vo, rfl, hrc⟩ := hr.at (k := 0) (by omega)
  have hvb : vb < w.heap.size := RowAt.lt hrc (k := 0) (by omega)
  have HRC := hide hrc
  clear hrc hr
  go_enter Try.func20, Try.ntmps20
  go_wp2_with (at_make; refine wpList_make_full _ rfl _ _ 22 rfl w.heap.size 5 i0 (.int .u8 0) 1 Try.underlying22 hi hz0 hz1 .i64 .i64 _ _ 16 rfl rfl rfl rfl (by rw [hz2]; omega) (by unfold maxLen; omega) (Nat.le_refl _) ?_; intro w0 hown0 hgrow0)
  have k0 : Blk w0 w.heap.size 5 (dnTo (fun j => byte (shB v j)) (.int .u8 0) 16 16) := by
    rw [dnTo_top]
    have h := own_blk hown0
    rw [made16] at h
    simpa [zeros8, byte] using h
  have b0 := below_of_grown hgrow0
  clear hown0 hgrow0
  go_loopw [4, 5] (fun l i wr => ∃ k : Nat, k ≤ 16 ∧ i = .int .i64 ((k : Int) - 1) ∧ l = .int .u8 (lostN v k : Nat) ∧ Blk wr w.heap.size 5 (dnTo (fun j => byte (shB v j)) (.int .u8 0) 16 k) ∧ Below w.heap.size w wr) (fun _ i _ => (intOf i + 1).toNat)
  case atStart => exact ⟨16, by omega, rfl, rfl, k0, b0⟩
  case round =>
    clear k0 b0
    obtain ⟨k, hk, rfl, rfl, hb2, hbel⟩ := hrel
    have hl1 := lostN_le v k
    obtain ⟨l, hl, HL⟩ : ∃ l, lostN v k = l ∧ Hid (l = lostN v k) := ⟨_, rfl, rfl⟩
    rw [hl] at hl1 ⊢
    clear hl
    by_cases h0 : 0 < k
    · obtain ⟨m, hm, hm16, hmI, Hm⟩ : ∃ m : Nat, (k : Int) - 1 = (m : Int) ∧ m < 16 ∧ (m : Int) < 16 ∧ Hid (k = m + 1) := ⟨k - 1, by omega, by omega, by omega, hid_of' (by omega : k = k - 1 + 1)⟩
      rw [hm]
      have hm0 : (0 : Int) ≤ (m : Int) := by omega
      obtain ⟨x, hx8, Hx⟩ : ∃ x : Nat, x < 256 ∧ Hid (x = (v.getD m 0).toNat) := ⟨_, UInt8.toNat_lt _, rfl⟩
      have hc : wr.cell? ⟨vb, vo + m, none⟩ = some (.int .u8 (x : Int)) := by rw [hbel.cell (p := ⟨vb, vo + m, none⟩) hvb, HRC.out m (by omega), Hx.out]
      obtain ⟨y, hy, Hy⟩ : ∃ y : Nat, bits BinOp.or IntKind.u8 ((x : Int) * 2 % 256) (l : Int) = (y : Int) ∧ Hid (Value.int .u8 (y : Int) = byte (shB v m)) := by
        refine ⟨x * 2 % 256 ||| l, ?_, hid_of' ?_⟩
        · have e : (x : Int) * 2 % 256 = ((x * 2 % 256 : Nat) : Int) := by omega
          rw [e, u8_or_nat _ _ (by omega) (by omega)]
        · show Value.int .u8 _ = Value.int .u8 _
          unfold shB
          have hlt : x * 2 % 256 ||| l < 256 := Nat.or_lt_two_pow (n := 8) (by omega) (by omega)
          rw [UInt8.toNat_ofNat', ← Hx.out, show m + 1 = k from Hm.out.symm, ← HL.out]
          congr 1
          omega
      have hf := hb2.free m
      obtain ⟨u, hu⟩ : ∃ u, wr.cell? ⟨w.heap.size, m, none⟩ = some u := ⟨_, hb2.cell m (by rw [dnTo_length]; exact hm16)⟩
      have hst := hb2.set m (byte (shB v m))
      rw [Hm.out, dnTo_set (fun j => byte (shB v j))] at hst
      have hc2 : (wr.setCell ⟨w.heap.size, m, none⟩ (.int .u8 (y : Int))).cell? ⟨vb, vo + m, none⟩ = some (.int .u8 (x : Int)) := by
        rw [(hbel.setCell (p := ⟨w.heap.size, m, none⟩) (Nat.le_refl _) (.int .u8 (y : Int))).cell (p := ⟨vb, vo + m, none⟩) hvb, HRC.out m (by omega), Hx.out]
      have HX2 : Hid (Value.int .u8 ((x : Int) / 128) = .int .u8 ((lostN v m : Nat) : Int)) := hid_of' (by
        unfold lostN
        rw [if_neg (by omega), ← Hx.out]
        simp)
      clear hm hk h0
      go_wp2
      go_roundw
      case rel =>
        rw [Hy.out, HX2.out]
        exact ⟨m, by omega, by go_num, rfl, hst, hbel.setCell (Nat.le_refl _) _⟩
      case measure => simp [intOf]
    · obtain rfl : k = 0 := by omega
      rw [dnTo_all] at hb2
      have e0 : (List.range 16).map (fun j => byte (shB v j)) = (shL v).map byte := by unfold shL; rw [List.map_map]; rfl
      rw [e0] at hb2
      have hsl := shL_length v
      by_cases hl0 : l = 0
      · have hle : ((l : Int) == 1) = false := by rw [beq_eq_false_iff_ne]; omega
        have HE : Hid (dblL v = shL v) := hid_of' (by
          unfold dblL
          rw [← HL.out, hl0]
          have : (shL v)[15]? = some (shB v 15) := by simp [shL]
          rw [show shB v 15 ^^^ UInt8.ofNat (0 * 135) = shB v 15 from by simp]
          exact set_same _ _ _ this)
        go_wp2
        go_ret
        refine ⟨rfl, ?_, hbel⟩
        rw [HE.out]
        exact rowAt_block hb2
      · have hl1' : l = 1 := by omega
        have hle : ((l : Int) == 1) = true := by rw [beq_iff_eq]; omega
        obtain ⟨y, hy8, Hy⟩ : ∃ y : Nat, y < 256 ∧ Hid (y = (shB v 15).toNat) := ⟨_, UInt8.toNat_lt _, rfl⟩
        have hc : wr.cell? ⟨w.heap.size, 15, none⟩ = some (.int .u8 (y : Int)) := by
          rw [map_cell hb2 15 (by omega), Hy.out]
          simp [shL]
        have hf := hb2.free 15
        have hst := hb2.set 15 (byte (shB v 15 ^^^ UInt8.ofNat (lostN v 0 * 135)))
        rw [← List.map_set] at hst
        have hst' : Blk (wr.setCell ⟨w.heap.size, 15, none⟩ (byte (shB v 15 ^^^ UInt8.ofNat (lostN v 0 * 135)))) w.heap.size 5 ((dblL v).map byte) := hst
        obtain ⟨q, hq, Hq⟩ : ∃ q : Nat, bits BinOp.xor IntKind.u8 (y : Int) 135 = (q : Int) ∧ Hid (Value.int .u8 (q : Int) = byte (shB v 15 ^^^ UInt8.ofNat (lostN v 0 * 135))) := by
          refine ⟨_, u8_xor_nat y 135 hy8 (by omega), hid_of' ?_⟩
          show Value.int .u8 _ = Value.int .u8 _
          rw [← HL.out, hl1', UInt8.toNat_xor, ← Hy.out]
          rfl
        have hbe := hbel.setCell (p := ⟨w.heap.size, 15, none⟩) (Nat.le_refl _) (byte (shB v 15 ^^^ UInt8.ofNat (lostN v 0 * 135)))
        rw [← Hq.out] at hst' hbe
        clear hl0 hl1'
        go_wp2
        go_ret
        exact ⟨rfl, rowAt_block hst', hbe⟩
end Go.Proofs.Ytdelidfigcgglaa
