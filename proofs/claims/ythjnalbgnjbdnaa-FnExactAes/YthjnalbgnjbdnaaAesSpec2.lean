/-
  spec: l1SubTable, l1Unsub, l1Shift, l1Mix.
-/
import Derived.Test.YthjnalbgnjbdnaaAesSpec1
import Derived.Test.YthjnalbgnjbdnaaAesClos
import Derived.Test.YthjnalbgnjbdnaaAesMath2
namespace Go.Proofs.Ythjnalbgnjbdnaa
open Go.RowKit

set_option maxRecDepth 100000 in
set_option maxHeartbeats 1000000 in
theorem subTableS_any (w : World) :
    Calls Try.prog 104 #[] w fun e w' => ∃ v, e = .returned v ∧ OwnB w' w.heap.size v subTab ∧ Below w.heap.size w w' := by
  obtain ⟨i0, hi, hz0, hz1, hz2⟩ := info_parts Try.info5
  have hsl := subTab_length
  go_enter Try.func104, Try.ntmps104
  go_wp2
  go_loopw [1, 2] (fun v i wr => ∃ k : Nat, k ≤ 256 ∧ i = .int .i64 k ∧ OwnB wr w.heap.size v (subTab.take k) ∧ Below w.heap.size w wr) (fun _ i _ => 256 - (intOf i).toNat)
  case atStart => exact ⟨0, by omega, rfl, World.ownsRow_nil _ _ _ _, Below.refl _ _⟩
  case round =>
    obtain ⟨k, hk, rfl, hown, hbel⟩ := hrel
    by_cases hlt : k < 256
    · have hkI : (k : Int) < 256 := by omega
      have hk8 : IntKind.u8.wrap (k : Int) = (k : Int) := by rw [IntKind.wrap_u8]; omega
      have hl : (subTab.take k).length ≤ 256 := by rw [List.length_take]; omega
      have hsz := hbel.size
      obtain ⟨y, Hy⟩ : ∃ y : Nat, Hid (y = (subTab.getD k 0).toNat) := ⟨_, rfl⟩
      have hsub : ∀ w, Calls Try.prog 82 #[.int .u8 k] w fun e w' => e = .returned (.int .u8 (y : Int)) ∧ w' = w := by
        intro w; rw [Hy.out]; exact sub_any k w hlt
      go_wp2_with (first
        | (go_at_call 82; refine (hsub _).mono ?_; rintro e w' ⟨rfl, hw'⟩; subst w')
        | (at_builtin; refine wpList_append_own _ rfl _ _ 22 rfl w.heap.size 5 i0 (.int .u8 0) 1 1 Try.underlying22 hi hz0 hz1 hz2 rfl (by decide) _ _ _ rfl (hown.alloc _) ⟨wr.heap.size, 0, none⟩ 1 1 [.int .u8 (y : Int)] rfl rfl (cell_one_new _ _ _) (by intro u hu; simp at hu; subst hu; rfl) (by unfold maxLen; omega) (by omega) (by simp; omega) ?_; intro v1 w1 hown1 hgrow1 hnil1))
      have R := app_step (x := subTab.getD k 0) hown hbel hown1 hgrow1 (by show Value.int .u8 _ = Value.int .u8 _; rw [Hy.out])
      have e2 : subTab.take k ++ [subTab.getD k 0] = subTab.take (k + 1) := by
        have hkl : k < subTab.length := by omega
        rw [take_snoc subTab k hkl]
        simp [hkl]
      rw [e2] at R
      clear hown1 hgrow1 hown hnil1 e2
      go_wp2
      go_roundw
      case rel => exact ⟨k + 1, by omega, by go_num, R.1, R.2⟩
      case measure => simp [intOf]; omega
    · go_wp2
      go_ret
      rw [List.take_of_length_le (by omega)] at hown
      exact ⟨_, rfl, hown, hbel⟩

set_option maxRecDepth 100000 in
theorem inv_sub : ∀ k : Nat, k < 256 → (invTab.getD (subTab.getD k 0).toNat 0).toNat = k := by decide +kernel
set_option maxRecDepth 100000 in
theorem sub_inv : ∀ k : Nat, k < 256 → (subTab.getD (invTab.getD k 0).toNat 0).toNat = k := by decide +kernel

set_option maxRecDepth 100000 in
set_option maxHeartbeats 1000000 in
theorem unsub_any (b off cap : Nat) (v : Nat) (w : World) (hv : v < 256) (hc : ∀ i, i < 256 → w.cell? ⟨b, off + i, none⟩ = some (.int .u8 ((subTab.getD i 0).toNat : Int))) :
    Calls Try.prog 105 #[.slice (some ⟨b, off, none⟩) 256 cap, .int .u8 v] w fun e w' => e = .returned (.int .u8 ((invTab.getD v 0).toNat : Int)) ∧ w' = w := by
  obtain ⟨q, hq8, Hq⟩ : ∃ q : Nat, q < 256 ∧ Hid (q = (invTab.getD v 0).toNat) := ⟨_, UInt8.toNat_lt _, rfl⟩
  have Hc := hid_of hc
  clear hc
  go_enter Try.func105, Try.ntmps105
  go_wp2
  go_loopw [5, 6, 9] (fun _ _ i wr => ∃ k : Nat, k ≤ q ∧ i = .int .i64 k ∧ Hid (wr = w)) (fun _ _ i _ => 256 - (intOf i).toNat)
  case atStart => exact ⟨0, by omega, rfl, rfl⟩
  case round =>
    obtain ⟨k, hk, rfl, Hwr⟩ := hrel
    have hkI : (k : Int) < 256 := by omega
    have hkN : k < 256 := by omega
    obtain ⟨x, hx8, Hx⟩ : ∃ x : Nat, x < 256 ∧ Hid (x = (subTab.getD k 0).toNat) := ⟨_, UInt8.toNat_lt _, rfl⟩
    have hcell : wr.cell? ⟨b, off + k, none⟩ = some (.int .u8 (x : Int)) := by rw [Hwr.out, Hc.out k hkN, Hx.out]
    have hk8 : IntKind.u8.wrap (k : Int) = (k : Int) := by rw [IntKind.wrap_u8]; omega
    by_cases hxv : x = v
    · have Hkq : Hid (k = (invTab.getD v 0).toNat) := hid_of (by rw [← hxv, Hx.out, inv_sub k hkN])
      subst hxv
      go_wp2
      go_ret
      exact ⟨ret_int (by rw [← Hkq.out]), Hwr.out⟩
    · have hkq : k + 1 ≤ q := by
        rcases Nat.lt_or_ge k q with h | h
        · exact h
        · have e : k = q := by omega
          exfalso
          apply hxv
          rw [Hx.out, e, Hq.out, sub_inv v hv]
      have hxI : ¬ (x : Int) = (v : Int) := by omega
      have hxI2 : ((x : Int) == (v : Int)) = false := by simpa using hxI
      go_wp2
      go_roundw
      case rel => exact ⟨k + 1, hkq, by go_num, Hwr⟩
      case measure => simp [intOf]; omega

theorem row_cell {w wr : World} {b off : Nat} {s : List UInt8} (hc : ∀ i, i < s.length → w.cell? ⟨b, off + i, none⟩ = some (.int .u8 ((s.getD i 0).toNat : Int))) (hbel : Below w.heap.size w wr) (j : Nat) (hj : j < s.length) : wr.cell? ⟨b, off + j, none⟩ = some (.int .u8 ((s.getD j 0).toNat : Int)) :=
  (hbel.cell (RowAt.lt hc hj)).trans (hc j hj)

set_option maxRecDepth 100000 in
set_option maxHeartbeats 1000000 in
theorem shift_any (bt : Nat) (bi : Int) (s : List UInt8) (b off cap : Nat) (w : World) (hb13 : bt = 1 ∨ bt = 3) (hbi : bi = (bt : Int)) (hs : s.length = 16) (hc : ∀ i, i < s.length → w.cell? ⟨b, off + i, none⟩ = some (.int .u8 ((s.getD i 0).toNat : Int))) :
    Calls Try.prog 83 #[.slice (some ⟨b, off, none⟩) 16 cap, .int .i64 bi] w fun e w' => e = .returned (.slice (some ⟨w.heap.size, 0, none⟩) 16 16) ∧ Blk w' w.heap.size 5 ((turnL bt s).map byte) ∧ Below w.heap.size w w' := by
  subst hbi
  obtain ⟨i0, hi, hz0, hz1, hz2⟩ := info_parts Try.info5
  have Hc := hid_of hc
  clear hc
  go_enter Try.func83, Try.ntmps83
  go_wp2_with (at_make; refine wpList_make_full _ rfl _ _ 22 rfl w.heap.size 5 i0 (.int .u8 0) 1 Try.underlying22 hi hz0 hz1 .i64 .i64 _ _ 16 rfl rfl rfl rfl (by rw [hz2]; omega) (by unfold maxLen; omega) (Nat.le_refl _) ?_; intro w0 hown0 hgrow0)
  have hb0 := own_blk hown0
  rw [made_zero, show List.replicate 16 (Value.int .u8 0) = upTo (tuC bt s) (.int .u8 0) 16 0 from (upTo_zero _ _ _).symm] at hb0
  have hbl0 := below_of_grown hgrow0
  clear hown0 hgrow0
  go_loopw [6, 7] (fun i _ wr => ∃ c : Nat, c ≤ 4 ∧ i = .int .i64 c ∧ Blk wr w.heap.size 5 (upTo (tuC bt s) (.int .u8 0) 16 (4 * c)) ∧ Below w.heap.size w wr) (fun i _ _ => 4 - (intOf i).toNat)
  case atStart => exact ⟨0, by omega, rfl, hb0, hbl0⟩
  case round =>
    clear hb0 hbl0
    obtain ⟨c, hc4, rfl, hb, hbel⟩ := hrel
    by_cases hlt : c < 4
    · have hcI : (c : Int) < 4 := by omega
      go_wp2
      go_loopw [7] (fun i wr => ∃ k : Nat, k ≤ 4 ∧ i = .int .i64 k ∧ Blk wr w.heap.size 5 (upTo (tuC bt s) (.int .u8 0) 16 (4 * c + k)) ∧ Below w.heap.size w wr) (fun i _ => 4 - (intOf i).toNat)
      case atStart => exact ⟨0, by omega, rfl, hb, hbel⟩
      case round =>
        clear hb hbel
        obtain ⟨k, hk4, rfl, hb, hbel⟩ := hrel
        by_cases hkl : k < 4
        · obtain ⟨m1, hm1, Hm1⟩ : ∃ m : Nat, IntKind.i64.wrap (4 * (c : Int)) = (m : Int) ∧ Hid (m = 4 * c) := ⟨4 * c, by rw [IntKind.wrap_i64]; omega, rfl⟩
          obtain ⟨a1, ha1, ha16, ha16I, Ha1⟩ : ∃ m : Nat, IntKind.i64.wrap ((m1 : Int) + (k : Int)) = (m : Int) ∧ m < 16 ∧ (m : Int) < 16 ∧ Hid (m = 4 * c + k) := ⟨4 * c + k, by have := Hm1.out; rw [IntKind.wrap_i64]; omega, by omega, by omega, rfl⟩
          obtain ⟨q, hq, hq9, Hq⟩ : ∃ m : Nat, IntKind.i64.wrap ((bt : Int) * (k : Int)) = (m : Int) ∧ m ≤ 9 ∧ Hid (m = bt * k) := by
            have h := Nat.mul_le_mul (show bt ≤ 3 by omega) (show k ≤ 3 by omega)
            have e : (bt : Int) * (k : Int) = ((bt * k : Nat) : Int) := by simp
            exact ⟨bt * k, by rw [e, IntKind.wrap_i64]; omega, h, rfl⟩
          obtain ⟨a2, ha2, Ha2⟩ : ∃ m : Nat, IntKind.i64.wrap ((c : Int) + (q : Int)) = (m : Int) ∧ Hid (m = c + q) := ⟨c + q, by rw [IntKind.wrap_i64]; omega, rfl⟩
          obtain ⟨r, hr, hr4, Hr⟩ : ∃ r : Nat, Int.tmod (a2 : Int) 4 = (r : Int) ∧ r < 4 ∧ Hid (r = a2 % 4) := ⟨a2 % 4, by rw [Int.tmod_eq_emod_of_nonneg (by omega)]; omega, by omega, rfl⟩
          obtain ⟨m3, hm3, Hm3⟩ : ∃ m : Nat, IntKind.i64.wrap (4 * (r : Int)) = (m : Int) ∧ Hid (m = 4 * r) := ⟨4 * r, by rw [IntKind.wrap_i64]; omega, rfl⟩
          obtain ⟨a3, ha3, ha3l, ha3I, Ha3⟩ : ∃ m : Nat, IntKind.i64.wrap ((m3 : Int) + (k : Int)) = (m : Int) ∧ m < 16 ∧ (m : Int) < 16 ∧ Hid (m = 4 * r + k) := ⟨4 * r + k, by have := Hm3.out; rw [IntKind.wrap_i64]; omega, by omega, by omega, rfl⟩
          obtain ⟨y, Hy⟩ : ∃ y : Nat, Hid (y = (s.getD a3 0).toNat) := ⟨_, rfl⟩
          have hcell : wr.cell? ⟨b, off + a3, none⟩ = some (.int .u8 (y : Int)) := by rw [row_cell Hc.out hbel a3 (by omega), Hy.out]
          have hf := hb.free a1
          obtain ⟨u, hu⟩ : ∃ u, wr.cell? ⟨w.heap.size, a1, none⟩ = some u := ⟨_, hb.cell a1 (by rw [upTo_length]; exact ha16)⟩
          have hst := hb.set (4 * c + k) (tuC bt s (4 * c + k))
          rw [upTo_set, ← Ha1.out] at hst
          have HV : Hid (Value.int .u8 (y : Int) = tuC bt s a1) := by
            show Value.int .u8 _ = Value.int .u8 _
            have e1 : (4 * c + k) / 4 = c := by omega
            have e2 : (4 * c + k) % 4 = k := by omega
            have h := turn_at bt (4 * c + k) hb13 (by omega)
            rw [e1, e2] at h
            rw [Hy.out, Ha3.out, Hr.out, Ha2.out, Hq.out, Ha1.out, e2, h]
          have hkI : (k : Int) < 4 := by omega
          go_wp2
          go_roundw
          case rel =>
            rw [HV.out]
            exact ⟨k + 1, by omega, by go_num, by rw [show 4 * c + (k + 1) = a1 + 1 from by rw [Ha1.out]; omega]; exact hst, hbel.setCell (Nat.le_refl _) _⟩
          case measure => simp [intOf]; omega
        · obtain rfl : k = 4 := by omega
          go_wp2
          go_roundw
          case rel => exact ⟨c + 1, by omega, by go_num, by rw [show 4 * (c + 1) = 4 * c + 4 from by omega]; exact hb, hbel⟩
          case measure => simp [intOf]; omega
    · obtain rfl : c = 4 := by omega
      have e : (List.range 16).map (tuC bt s) = (turnL bt s).map byte := by
        unfold turnL tuC
        rw [List.map_map]
        rfl
      rw [show 4 * 4 = 16 from rfl, upTo_all, e] at hb
      go_wp2
      go_ret
      exact ⟨rfl, hb, hbel⟩

/-- The cells of l1Mix's answer in the midst of a sum. -/
def muC (row s : List UInt8) (j : Nat) : Value := byte (mulSum row s (j / 4) (j % 4) 4)
theorem upTo_same (f : Nat → Value) (z : Value) (n k : Nat) (hk : k < n) : (upTo f z n k).set k z = upTo f z n k := by
  apply List.ext_getElem?
  intro i
  rw [List.getElem?_set]
  by_cases hi : k = i
  · subst hi
    simp [upTo, hk]
  · rw [if_neg hi]

set_option maxRecDepth 100000 in
set_option maxHeartbeats 2000000 in
theorem mixS_any (row s : List UInt8) (b off cap b2 off2 cap2 : Nat) (w : World) (hs : s.length = 16) (hrl : row.length = 4) (hc : ∀ i, i < s.length → w.cell? ⟨b, off + i, none⟩ = some (.int .u8 ((s.getD i 0).toNat : Int))) (hc2 : ∀ i, i < row.length → w.cell? ⟨b2, off2 + i, none⟩ = some (.int .u8 ((row.getD i 0).toNat : Int))) :
    Calls Try.prog 84 #[.slice (some ⟨b, off, none⟩) 16 cap, .slice (some ⟨b2, off2, none⟩) 4 cap2] w fun e w' => e = .returned (.slice (some ⟨w.heap.size, 0, none⟩) 16 16) ∧ Blk w' w.heap.size 5 ((mixS row s).map byte) ∧ Below w.heap.size w w' := by
  obtain ⟨i0, hi, hz0, hz1, hz2⟩ := info_parts Try.info5
  have Hc := hid_of hc
  have Hc2 := hid_of hc2
  clear hc hc2
  go_enter Try.func84, Try.ntmps84
  go_wp2_with (at_make; refine wpList_make_full _ rfl _ _ 22 rfl w.heap.size 5 i0 (.int .u8 0) 1 Try.underlying22 hi hz0 hz1 .i64 .i64 _ _ 16 rfl rfl rfl rfl (by rw [hz2]; omega) (by unfold maxLen; omega) (Nat.le_refl _) ?_; intro w0 hown0 hgrow0)
  have hb0 := own_blk hown0
  rw [made_zero, show List.replicate 16 (Value.int .u8 0) = upTo (muC row s) (.int .u8 0) 16 0 from (upTo_zero _ _ _).symm] at hb0
  have hbl0 := below_of_grown hgrow0
  clear hown0 hgrow0
  go_loopw [6, 7, 8] (fun i _ _ wr => ∃ c : Nat, c ≤ 4 ∧ i = .int .i64 c ∧ Blk wr w.heap.size 5 (upTo (muC row s) (.int .u8 0) 16 (4 * c)) ∧ Below w.heap.size w wr) (fun i _ _ _ => 4 - (intOf i).toNat)
  case atStart => exact ⟨0, by omega, rfl, hb0, hbl0⟩
  case round =>
    clear hb0 hbl0
    obtain ⟨c, hc4, rfl, hb, hbel⟩ := hrel
    by_cases hlt : c < 4
    · have hcI : (c : Int) < 4 := by omega
      go_wp2
      go_loopw [7, 8] (fun i _ wr => ∃ k : Nat, k ≤ 4 ∧ i = .int .i64 k ∧ Blk wr w.heap.size 5 (upTo (muC row s) (.int .u8 0) 16 (4 * c + k)) ∧ Below w.heap.size w wr) (fun i _ _ => 4 - (intOf i).toNat)
      case atStart => exact ⟨0, by omega, rfl, hb, hbel⟩
      case round =>
        clear hb hbel
        obtain ⟨i, hi4, rfl, hb, hbel⟩ := hrel
        by_cases hil : i < 4
        · have hiI : (i : Int) < 4 := by omega
          obtain ⟨m1, hm1, Hm1⟩ : ∃ m : Nat, IntKind.i64.wrap (4 * (c : Int)) = (m : Int) ∧ Hid (m = 4 * c) := ⟨4 * c, by rw [IntKind.wrap_i64]; omega, rfl⟩
          obtain ⟨a1, ha1, ha16, ha16I, Ha1⟩ : ∃ m : Nat, IntKind.i64.wrap ((m1 : Int) + (i : Int)) = (m : Int) ∧ m < 16 ∧ (m : Int) < 16 ∧ Hid (m = 4 * c + i) := ⟨4 * c + i, by have := Hm1.out; rw [IntKind.wrap_i64]; omega, by omega, by omega, rfl⟩
          rw [← Ha1.out] at hb
          go_wp2
          go_loopw [8] (fun q wr => ∃ k : Nat, k ≤ 4 ∧ q = .int .i64 k ∧ Blk wr w.heap.size 5 ((upTo (muC row s) (.int .u8 0) 16 a1).set a1 (byte (mulSum row s c i k))) ∧ Below w.heap.size w wr) (fun q _ => 4 - (intOf q).toNat)
          case atStart => exact ⟨0, by omega, rfl, by rw [show byte (mulSum row s c i 0) = .int .u8 0 from rfl, upTo_same _ _ _ _ ha16]; exact hb, hbel⟩
          case round =>
            clear hb hbel
            obtain ⟨k, hk4, rfl, hb, hbel⟩ := hrel
            by_cases hkl : k < 4
            · have hkI : (k : Int) < 4 := by omega
              obtain ⟨a2, ha2, ha2l, ha2I, Ha2⟩ : ∃ m : Nat, IntKind.i64.wrap ((m1 : Int) + (k : Int)) = (m : Int) ∧ m < 16 ∧ (m : Int) < 16 ∧ Hid (m = 4 * c + k) := ⟨4 * c + k, by have := Hm1.out; rw [IntKind.wrap_i64]; omega, by omega, by omega, rfl⟩
              obtain ⟨d, hd, Hd⟩ : ∃ d : Int, IntKind.i64.wrap ((k : Int) - (i : Int)) = d ∧ Hid (d = (k : Int) - (i : Int)) := ⟨(k : Int) - (i : Int), by rw [IntKind.wrap_i64]; omega, rfl⟩
              obtain ⟨e, he, He⟩ : ∃ e : Nat, IntKind.i64.wrap (d + 4) = (e : Int) ∧ Hid (e = k + 4 - i) := ⟨k + 4 - i, by have := Hd.out; rw [IntKind.wrap_i64]; omega, rfl⟩
              obtain ⟨r, hr, hr4, hrI, Hr⟩ : ∃ r : Nat, Int.tmod (e : Int) 4 = (r : Int) ∧ r < 4 ∧ (r : Int) < 4 ∧ Hid (r = (k + 4 - i) % 4) := ⟨e % 4, by rw [Int.tmod_eq_emod_of_nonneg (by omega)]; omega, by omega, by omega, by show e % 4 = _; rw [He.out]⟩
              obtain ⟨x, hx8, Hx⟩ : ∃ y : Nat, y < 256 ∧ Hid (y = (s.getD (4 * c + k) 0).toNat) := ⟨_, UInt8.toNat_lt _, rfl⟩
              obtain ⟨y, hy8, Hy⟩ : ∃ y : Nat, y < 256 ∧ Hid (y = (row.getD ((k + 4 - i) % 4) 0).toNat) := ⟨_, UInt8.toNat_lt _, rfl⟩
              obtain ⟨o, ho8, Ho⟩ : ∃ y : Nat, y < 256 ∧ Hid (y = (mulSum row s c i k).toNat) := ⟨_, UInt8.toNat_lt _, rfl⟩
              have hcs : wr.cell? ⟨b, off + a2, none⟩ = some (.int .u8 (x : Int)) := by rw [row_cell Hc.out hbel a2 (by omega), Hx.out, Ha2.out]
              have hcr : wr.cell? ⟨b2, off2 + r, none⟩ = some (.int .u8 (y : Int)) := by rw [row_cell Hc2.out hbel r (by omega), Hy.out, Hr.out]
              have hco : wr.cell? ⟨w.heap.size, a1, none⟩ = some (.int .u8 (o : Int)) := by
                rw [hb.cell a1 (by rw [List.length_set, upTo_length]; exact ha16), List.getElem_set_self, Ho.out]; rfl
              have hf := hb.free a1
              have hst := hb.set a1 (byte (mulSum row s c i (k + 1)))
              rw [List.set_set] at hst
              have hml := mulN_lt x y hx8
              obtain ⟨z, hz, Hz⟩ : ∃ z : Nat, bits BinOp.xor IntKind.u8 (o : Int) ((mulN x y : Nat) : Int) = (z : Int) ∧ Hid (Value.int .u8 (z : Int) = byte (mulSum row s c i (k + 1))) := by
                refine ⟨_, u8_xor_nat o _ ho8 hml, hid_of ?_⟩
                show Value.int .u8 _ = Value.int .u8 _
                show Value.int .u8 _ = Value.int .u8 (((mulSum row s c i k ^^^ mulB (s.getD (4 * c + k) 0) (row.getD ((k + 4 - i) % 4) 0)).toNat : Nat) : Int)
                rw [UInt8.toNat_xor, mulB_nat, ← Hx.out, ← Hy.out, ← Ho.out]
              clear hb
              go_wp2
              go_region_with (go_at_call 103; refine (mul_any x y _ hx8 hy8).mono ?_; rintro e w' ⟨rfl, rfl⟩)
              all_goals
                go_wp2
                all_goals
                  go_roundw
                  case rel =>
                    rw [Hz.out]
                    exact ⟨k + 1, by omega, by go_num, hst.drew1, (hbel.setCell (Nat.le_refl _) _).drew⟩
                  case measure => simp [intOf]; omega
            · obtain rfl : k = 4 := by omega
              have e : byte (mulSum row s c i 4) = muC row s a1 := by
                unfold muC
                rw [Ha1.out, show (4 * c + i) / 4 = c from by omega, show (4 * c + i) % 4 = i from by omega]
              rw [e, upTo_set] at hb
              clear e
              go_wp2
              go_roundw
              case rel => exact ⟨i + 1, by omega, by go_num, by rw [show 4 * c + (i + 1) = a1 + 1 from by rw [Ha1.out]; omega]; exact hb, hbel⟩
              case measure => simp [intOf]; omega
        · obtain rfl : i = 4 := by omega
          go_wp2
          go_roundw
          case rel => exact ⟨c + 1, by omega, by go_num, by rw [show 4 * (c + 1) = 4 * c + 4 from by omega]; exact hb, hbel⟩
          case measure => simp [intOf]; omega
    · obtain rfl : c = 4 := by omega
      have e : (List.range 16).map (muC row s) = (mixS row s).map byte := by
        unfold mixS muC
        rw [List.map_map]
        rfl
      rw [show 4 * 4 = 16 from rfl, upTo_all, e] at hb
      go_wp2
      go_ret
      exact ⟨rfl, hb, hbel⟩
end Go.Proofs.Ythjnalbgnjbdnaa
