/-
  impl: timesX, subOf, subTable, inverseOf.
-/
import Derived.Test.YthjnalbgnjbdnaaAesMath
namespace Go.Proofs.Ythjnalbgnjbdnaa
open Go.RowKit

set_option maxRecDepth 100000 in
set_option maxHeartbeats 400000 in
theorem timesX_any (n : Nat) (w : World) (hn : n < 256) :
    Calls Try.prog 122 #[.int .u8 n] w fun e w' => e = .returned (.int .u8 (tXN n : Nat)) ∧ w' = w := by
  go_enter Try.func122, Try.ntmps122
  go_wp2
  go_ret
  refine ⟨ret_int ?_, rfl⟩
  revert n
  decide +kernel

theorem timesX_let (n : Nat) (w : World) (hn : n < 256) :
    Calls Try.prog 122 #[.int .u8 n] w fun e w' => ∃ t : Nat, e = .returned (.int .u8 t) ∧ t < 256 ∧ Hid (t = tXN n) ∧ w' = w := by
  refine (timesX_any n w hn).mono ?_
  rintro e w' ⟨rfl, rfl⟩
  exact ⟨_, rfl, tXN_lt n hn, rfl, rfl⟩

set_option maxRecDepth 100000 in
set_option maxHeartbeats 400000 in
theorem rotl8_at (x k : Nat) (ki : Int) (w : World) (hx : x < 256) (hki : ki = (k : Int)) (hk : 1 ≤ k) (hk4 : k ≤ 4) :
    Calls Try.prog 127 #[.int .u8 x, .int .i64 ki] w fun e w' => e = .returned (.int .u8 (turn8 x k : Nat)) ∧ w' = w := by
  obtain ⟨rfl, rfl⟩ | ⟨rfl, rfl⟩ | ⟨rfl, rfl⟩ | ⟨rfl, rfl⟩ : (k = 1 ∧ ki = 1) ∨ (k = 2 ∧ ki = 2) ∨ (k = 3 ∧ ki = 3) ∨ (k = 4 ∧ ki = 4) := by omega
  all_goals
    clear hk hk4 hki
    have h1 : bits BinOp.and IntKind.u64 1 7 = 1 := by decide
    have h2 : bits BinOp.and IntKind.u64 2 7 = 2 := by decide
    have h3 : bits BinOp.and IntKind.u64 3 7 = 3 := by decide
    have h4 : bits BinOp.and IntKind.u64 4 7 = 4 := by decide
    go_enter Try.func127, Try.ntmps127
    go_wp2
    go_ret
    refine ⟨ret_int ?_, rfl⟩
    revert x
    decide +kernel

/-- What subOf has summed behind k turns. -/
def affI (n : Nat) : Nat → Nat
  | 0 => n ^^^ 99
  | k + 1 => affI n k ^^^ turn8 n (k + 1)
theorem turn8_lt (n k : Nat) (hn : n < 256) : turn8 n k < 256 := by
  unfold turn8
  have hd : n / 2 ^ (8 - k) ≤ n := Nat.div_le_self _ _
  exact Nat.or_lt_two_pow (n := 8) (by omega) (by omega)
theorem affI_lt (n k : Nat) (hn : n < 256) : affI n k < 256 := by
  induction k with
  | zero => exact Nat.xor_lt_two_pow (n := 8) hn (by decide)
  | succ k ih => exact Nat.xor_lt_two_pow (n := 8) ih (turn8_lt n _ hn)
set_option maxRecDepth 100000 in
theorem affI_all : ∀ n : Nat, n < 256 → affI n 4 = affN n := by decide +kernel

set_option maxHeartbeats 400000 in
theorem subOf_any (n : Nat) (w : World) (hn : n < 256) :
    Calls Try.prog 123 #[.int .u8 n] w fun e w' => e = .returned (.int .u8 (affN n : Nat)) ∧ w' = w := by
  have h0 : bits BinOp.xor IntKind.u8 (n : Int) 99 = ((affI n 0 : Nat) : Int) := u8_xor_nat n 99 hn (by decide)
  go_enter Try.func123, Try.ntmps123
  go_wp2
  go_loopw [3, 4] (fun s i wr => ∃ k : Nat, k ≤ 4 ∧ i = .int .i64 ((k : Int) + 1) ∧ s = .int .u8 (affI n k : Nat) ∧ wr = w) (fun _ i _ => 5 - (intOf i).toNat)
  case atStart => exact ⟨0, by omega, rfl, rfl, rfl⟩
  case round =>
    clear h0
    obtain ⟨k, hk, rfl, rfl, hwr⟩ := hrel
    have Hwr : Hid (wr = w) := hwr
    clear hwr
    by_cases hlt : k < 4
    · have hkI : (k : Int) + 1 ≤ 4 := by omega
      have hx : bits BinOp.xor IntKind.u8 ((affI n k : Nat) : Int) ((turn8 n (k + 1) : Nat) : Int) = ((affI n (k + 1) : Nat) : Int) := u8_xor_nat _ _ (affI_lt n k hn) (turn8_lt n _ hn)
      go_wp2_with (go_at_call 127; refine (rotl8_at n (k + 1) _ _ hn (by omega) (by omega) (by omega)).mono ?_; rintro e w' ⟨rfl, rfl⟩)
      go_roundw
      case rel => exact ⟨k + 1, by omega, by go_num, rfl, Hwr.out⟩
      case measure => simp [intOf]; omega
    · obtain rfl : k = 4 := by omega
      have h4 : Hid (affI n 4 = affN n) := affI_all n hn
      go_wp2
      go_ret
      exact ⟨ret_int (by rw [h4.out]), Hwr.out⟩

theorem Try.zero103 : (Try.prog.info? 103).map (fun i => (i.zero, i.size)) = some (some (.agg (zerosOf 256 .u8).toArray), 256) := by kernel_rfl

def powC (i : Nat) : Value := byte (powTab.getD i 0)
theorem powC_all : (List.range 256).map powC = powTab.map byte := by
  apply List.ext_getElem?
  intro i
  have hl := powTab_length
  by_cases hi : i < 256
  · rw [List.getElem?_map, List.getElem?_map, List.getElem?_range hi, List.getElem?_eq_getElem (by omega)]
    simp [powC, show i < powTab.length from by omega]
  · rw [List.getElem?_eq_none (by simp; omega), List.getElem?_eq_none (by simp; omega)]
theorem upTo_cell {w : World} {g t : Nat} {f : Nat → Value} {z : Value} {n k : Nat} (h : Blk w g t (upTo f z n k)) (j : Nat) (hj : j < k) (hk : k ≤ n) : w.cell? ⟨g, j, none⟩ = some (f j) := by
  rw [h.cell j (by rw [upTo_length]; omega)]
  simp [upTo, hj]
theorem map_cell {w : World} {g t : Nat} {l : List UInt8} (h : Blk w g t (l.map byte)) (j : Nat) (hj : j < l.length) : w.cell? ⟨g, j, none⟩ = some (.int .u8 ((l.getD j 0).toNat : Int)) := by
  rw [h.cell j (by simpa using hj)]
  simp [byte, hj]
theorem map_agg (l : List UInt8) (j : Nat) (hj : j < l.length) : (l.map byte).toArray[j]? = some (.int .u8 ((l.getD j 0).toNat : Int)) := by
  simp [byte, hj]

set_option maxRecDepth 100000 in
set_option maxHeartbeats 1000000 in
theorem subTable_any (w : World) :
    Calls Try.prog 108 #[] w fun e w' => e = .returned (.agg (subTab.map byte).toArray) ∧ Below w.heap.size w w' := by
  have hz := (zero_of_info Try.zero103).1
  have hz0 : (zerosOf 256 .u8)[0]? = some (.int .u8 0) := rfl
  go_enter Try.func108, Try.ntmps108
  go_wp2
  go_loopw [2] (fun i wr => ∃ k : Nat, 1 ≤ k ∧ k ≤ 256 ∧ i = .int .i64 k ∧ Blk wr (w.heap.size + 1) 103 (upTo powC (.int .u8 0) 256 k) ∧ Blk wr w.heap.size 103 (zerosOf 256 .u8) ∧ Below w.heap.size w wr) (fun i _ => 256 - (intOf i).toNat)
  case atStart =>
    refine ⟨1, by omega, by omega, rfl, ?_, (Blk.new w _ _).alloc _, ((Below.refl _ _).alloc (Nat.le_refl _) _).alloc (by simp) _⟩
    rw [← upTo_set, upTo_zero]
    exact Blk.new2 w _ _ _
  case round =>
    obtain ⟨k, hk1, hk, rfl, hb1, hb0, hbel⟩ := hrel
    by_cases hlt : k < 256
    · have hkI : (k : Int) < 256 := by omega
      obtain ⟨j, hj, hjl, hjI, Hj⟩ : ∃ j : Nat, IntKind.i64.wrap ((k : Int) - 1) = (j : Int) ∧ j < 256 ∧ (j : Int) < 256 ∧ Hid (k = j + 1) := ⟨k - 1, by rw [IntKind.wrap_i64]; omega, by omega, by omega, (by omega : k = k - 1 + 1)⟩
      obtain ⟨x, hx8, Hx⟩ : ∃ x : Nat, x < 256 ∧ Hid (x = (powTab.getD j 0).toNat) := ⟨_, UInt8.toNat_lt _, rfl⟩
      have hc : wr.cell? ⟨w.heap.size + 1, j, none⟩ = some (.int .u8 (x : Int)) := by rw [upTo_cell hb1 j (by have := Hj.out; omega) hk, Hx.out]; rfl
      have hf := hb1.free k
      obtain ⟨u, hu⟩ : ∃ u, wr.cell? ⟨w.heap.size + 1, k, none⟩ = some u := ⟨_, hb1.cell k (by rw [upTo_length]; omega)⟩
      have hst := hb1.set k (powC k)
      rw [upTo_set] at hst
      obtain ⟨y, hy, Hy⟩ : ∃ y : Nat, bits BinOp.xor IntKind.u8 (x : Int) ((tXN x : Nat) : Int) = (y : Int) ∧ Hid (Value.int .u8 (y : Int) = powC k) := by
        refine ⟨_, u8_xor_nat x _ hx8 (tXN_lt x hx8), ?_⟩
        show Value.int .u8 _ = byte _
        unfold byte
        rw [Hj.out, pow_step j (by have := Hj.out; omega), ← Hx.out]
      clear hk hk1
      go_wp2
      go_region_with (go_at_call 122; refine (timesX_any x _ hx8).mono ?_; rintro e w' ⟨rfl, rfl⟩)
      all_goals
        go_wp2
        all_goals
          go_roundw
          case rel =>
            rw [Hy.out]
            exact ⟨k + 1, by omega, by omega, by go_num, hst.drew1, (hb0.other _ _ (by simp)).drew1, (hbel.setCell (by simp) _).drew⟩
          case measure => simp [intOf]; omega
    · obtain rfl : k = 256 := by omega
      rw [upTo_all, powC_all] at hb1
      have h99 : affN 0 = 99 := by decide +kernel
      obtain ⟨G, hG⟩ : ∃ G, G = wr.heap.size := ⟨_, rfl⟩
      have hGl : w.heap.size + 2 ≤ G := by have := hb1.lt; omega
      have hpl : (powTab.map byte).length = 256 := by rw [List.length_map, powTab_length]
      go_wp2_with (first | (go_at_call 123; refine (subOf_any 0 _ (by decide)).mono ?_; rintro e w' ⟨rfl, rfl⟩; rw [h99]) | (refine load_blk rfl 103 _ rfl _ rfl (hb1.alloc _) Try.underlying103 rfl (by rw [hpl]; kernel_rfl) ?_))
      have L : Blk (wr.alloc (.cells ((zerosOf 256 .u8).set 0 (.int .u8 99)).toArray 103)) wr.heap.size 103 ((subUpto 0).map byte) := by
        have h := Blk.new wr 103 ((zerosOf 256 .u8).set 0 (byte 99)).toArray
        show Blk _ _ _ (((List.replicate 256 (0 : UInt8)).set 0 99).map byte)
        rw [List.map_set, List.map_replicate]
        exact h
      have Q1 := hb1.alloc (.cells ((zerosOf 256 .u8).set 0 (.int .u8 99)).toArray 103)
      have Q0 := hb0.alloc (.cells ((zerosOf 256 .u8).set 0 (.int .u8 99)).toArray 103)
      have QB := hbel.alloc hbel.size (.cells ((zerosOf 256 .u8).set 0 (.int .u8 99)).toArray 103)
      rw [← hG] at L ⊢
      clear hb1 hb0 hbel hG
      go_loopw [4, 5, 26] (fun _ _ i wr => ∃ k : Nat, k ≤ 256 ∧ i = .int .i64 k ∧ Blk wr G 103 ((subUpto k).map byte) ∧ Blk wr (w.heap.size + 1) 103 (powTab.map byte) ∧ Blk wr w.heap.size 103 (zerosOf 256 .u8) ∧ Below w.heap.size w wr) (fun _ _ i _ => 256 - (intOf i).toNat)
      case atStart => exact ⟨0, by omega, rfl, L, Q1, Q0, QB⟩
      case round =>
        clear L Q1 Q0 QB
        obtain ⟨k, hk, rfl, hb2, hb1, hb0, hbel⟩ := hrel
        by_cases hlt : k < 256
        · have hpl2 := powTab_length
          obtain ⟨p, hp8, Hp⟩ : ∃ x : Nat, x < 256 ∧ Hid (x = (powTab.getD k 0).toNat) := ⟨_, UInt8.toNat_lt _, rfl⟩
          obtain ⟨q, hq8, Hq⟩ : ∃ x : Nat, x < 256 ∧ Hid (x = (powTab.getD (255 - k) 0).toNat) := ⟨_, UInt8.toNat_lt _, rfl⟩
          obtain ⟨j, hj, hjl, Hj⟩ : ∃ j : Nat, IntKind.i64.wrap (255 - (k : Int)) = (j : Int) ∧ j < 256 ∧ Hid (j = 255 - k) := ⟨255 - k, by rw [IntKind.wrap_i64]; omega, by omega, rfl⟩
          have hix := run_index_agg (P := Try.prog) Try.underlying103 Try.underlying5 rfl (by kernel_rfl) (powTab.map byte).toArray .i64 k hlt (.int .u8 (p : Int)) (by rw [map_agg powTab k (by omega), Hp.out])
          have hc : wr.cell? ⟨w.heap.size + 1, j, none⟩ = some (.int .u8 (q : Int)) := by rw [map_cell hb1 j (by omega), Hq.out, Hj.out]
          have hf := hb2.free p
          have hsl := subUpto_length k
          obtain ⟨u, hu⟩ : ∃ u, wr.cell? ⟨G, p, none⟩ = some u := ⟨_, hb2.cell p (by rw [List.length_map, hsl]; exact hp8)⟩
          have hst := hb2.set p (byte (UInt8.ofNat (affN q)))
          rw [← List.map_set] at hst
          have hst' : Blk (wr.setCell ⟨G, p, none⟩ (byte (UInt8.ofNat (affN q)))) G 103 ((subUpto (k + 1)).map byte) := by
            rw [Hp.out, Hq.out] at hst ⊢
            exact hst
          have HV : Hid (Value.int .u8 ((affN q : Nat) : Int) = byte (UInt8.ofNat (affN q))) := by
            show Value.int .u8 _ = Value.int .u8 _
            have h1 := affI_lt q 4 hq8
            rw [affI_all q hq8] at h1
            congr 1
            rw [UInt8.toNat_ofNat']
            omega
          have hkI : (k : Int) < 256 := by omega
          have hpI : (p : Int) < 256 := by omega
          have hjI : (j : Int) < 256 := by omega
          clear hst hsl hpl2
          go_wp2_with (go_at_call 123; refine (subOf_any q _ hq8).mono ?_; rintro e w' ⟨rfl, rfl⟩)
          go_roundw
          case rel =>
            rw [HV.out]
            exact ⟨k + 1, by omega, by go_num, hst', hb1.other _ _ (by simp; omega), hb0.other _ _ (by simp; omega), hbel.setCell (by simp; omega) _⟩
          case measure => simp [intOf]; omega
        · obtain rfl : k = 256 := by omega
          rw [subUpto_all] at hb2
          have hsl : (subTab.map byte).length = 256 := by rw [List.length_map, subTab_length]
          go_wp2_with (first | (refine load_blk rfl 103 _ rfl _ rfl hb2 Try.underlying103 rfl (by rw [hsl]; kernel_rfl) ?_) | (refine store_blk rfl 103 _ _ rfl _ rfl rfl hb0 (by rw [hsl]; kernel_rfl) (by rw [zerosOf_length, hsl]) (allOne_bytes _) ?_; intro w2 hb3 hg3 hs3))
          exact bodyPost_ret (v := .agg (subTab.map byte).toArray) (results_blk Try.results108 _ _ rfl hb3 Try.underlying103 rfl (by rw [hsl]; kernel_rfl)) rfl ⟨rfl, hbel.grown hg3 hbel.size (by intro k hk; cases hk; exact Nat.le_refl _)⟩

set_option maxRecDepth 100000 in
set_option maxHeartbeats 1000000 in
theorem inverseOf_any (w : World) :
    Calls Try.prog 111 #[.agg (subTab.map byte).toArray] w fun e w' => e = .returned (.agg (invTab.map byte).toArray) ∧ Below w.heap.size w w' := by
  have hz := (zero_of_info Try.zero103).1
  have hsl : (subTab.map byte).length = 256 := by rw [List.length_map, subTab_length]
  go_enter Try.func111, Try.ntmps111
  go_wp2_with (refine load_blk rfl 103 _ rfl _ rfl (((Blk.new w _ _).alloc _).alloc _) Try.underlying103 rfl (by rw [hsl]; kernel_rfl) ?_)
  go_loopw [4, 5, 7] (fun _ _ i wr => ∃ k : Nat, k ≤ 256 ∧ i = .int .i64 k ∧ Blk wr (w.heap.size + 1 + 1) 103 ((invUpto k).map byte) ∧ Blk wr (w.heap.size + 1) 103 (zerosOf 256 .u8) ∧ Below w.heap.size w wr) (fun _ _ i _ => 256 - (intOf i).toNat)
  case atStart =>
    refine ⟨0, by omega, rfl, ?_, (Blk.new2 w _ _ _).alloc _, (((Below.refl _ _).alloc (Nat.le_refl _) _).alloc (by simp) _).alloc (by simp; omega) _⟩
    show Blk _ _ _ ((List.replicate 256 (0 : UInt8)).map byte)
    rw [List.map_replicate]
    exact Blk.newAt _ _ _ _ (by simp)
  case round =>
    obtain ⟨k, hk, rfl, hb2, hb0, hbel⟩ := hrel
    by_cases hlt : k < 256
    · have hsl2 := subTab_length
      obtain ⟨p, hp8, Hp⟩ : ∃ x : Nat, x < 256 ∧ Hid (x = (subTab.getD k 0).toNat) := ⟨_, UInt8.toNat_lt _, rfl⟩
      have hix := run_index_agg (P := Try.prog) Try.underlying103 Try.underlying5 rfl (by kernel_rfl) (subTab.map byte).toArray .i64 k hlt (.int .u8 (p : Int)) (by rw [map_agg subTab k (by omega), Hp.out])
      have hf := hb2.free p
      have hil := invUpto_length k
      obtain ⟨u, hu⟩ : ∃ u, wr.cell? ⟨w.heap.size + 1 + 1, p, none⟩ = some u := ⟨_, hb2.cell p (by rw [List.length_map, hil]; exact hp8)⟩
      have hst := hb2.set p (byte (UInt8.ofNat k))
      rw [← List.map_set] at hst
      have hst' : Blk (wr.setCell ⟨w.heap.size + 1 + 1, p, none⟩ (byte (UInt8.ofNat k))) (w.heap.size + 1 + 1) 103 ((invUpto (k + 1)).map byte) := by
        rw [Hp.out] at hst ⊢
        exact hst
      have HV : Hid (byte (UInt8.ofNat k) = Value.int .u8 (k : Int)) := by
        show Value.int .u8 _ = Value.int .u8 _
        congr 1
        rw [UInt8.toNat_ofNat']
        omega
      have hk8 : IntKind.u8.wrap (k : Int) = (k : Int) := by rw [IntKind.wrap_u8]; omega
      have hkI : (k : Int) < 256 := by omega
      have hpI : (p : Int) < 256 := by omega
      rw [HV.out] at hst'
      clear hst hil hsl2
      go_wp2
      go_roundw
      case rel =>
        exact ⟨k + 1, by omega, by go_num, hst', hb0.other _ _ (by simp), hbel.setCell (by simp; omega) _⟩
      case measure => simp [intOf]; omega
    · obtain rfl : k = 256 := by omega
      rw [invUpto_all] at hb2
      have hil : (invTab.map byte).length = 256 := by rw [List.length_map, invTab_length]
      go_wp2_with (first | (refine load_blk rfl 103 _ rfl _ rfl hb2 Try.underlying103 rfl (by rw [hil]; kernel_rfl) ?_) | (refine store_blk rfl 103 _ _ rfl _ rfl rfl hb0 (by rw [hil]; kernel_rfl) (by rw [zerosOf_length, hil]) (allOne_bytes _) ?_; intro w2 hb3 hg3 hs3))
      exact bodyPost_ret (v := .agg (invTab.map byte).toArray) (results_blk Try.results111 _ _ rfl hb3 Try.underlying103 rfl (by rw [hil]; kernel_rfl)) rfl ⟨rfl, hbel.grown hg3 hbel.size (by intro k hk; cases hk; omega)⟩
end Go.Proofs.Ythjnalbgnjbdnaa
