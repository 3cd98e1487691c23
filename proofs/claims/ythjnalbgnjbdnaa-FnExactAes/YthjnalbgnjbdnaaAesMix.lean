/-
  impl: columnOf, mixTable, unmixTable.
-/
import Derived.Test.YthjnalbgnjbdnaaAesTab
namespace Go.Proofs.Ythjnalbgnjbdnaa
open Go.RowKit

theorem colOf_lt (a b c d : Nat) (ha : a < 256) (hb : b < 256) (hc : c < 256) (hd : d < 256) : colOf a b c d < 4294967296 := by
  unfold colOf; omega

set_option maxRecDepth 100000 in
set_option maxHeartbeats 400000 in
theorem columnOf_any (a b c d : Nat) (w : World) (ha : a < 256) (hb : b < 256) (hc : c < 256) (hd : d < 256) :
    Calls Try.prog 126 #[.int .u8 a, .int .u8 b, .int .u8 c, .int .u8 d] w fun e w' => e = .returned (.int .u32 (colOf a b c d : Nat)) ∧ w' = w := by
  obtain ⟨x1, h1, h1b, H1⟩ : ∃ x : Nat, bits BinOp.or IntKind.u32 ((a : Int) * 16777216) ((b : Int) * 65536) = (x : Int) ∧ x < 4294967296 ∧ Hid (x = a * 16777216 + b * 65536) := by
    refine ⟨a * 16777216 + b * 65536, ?_, by omega, rfl⟩
    have e1 : (a : Int) * 16777216 = ((a * 16777216 : Nat) : Int) := by omega
    have e2 : (b : Int) * 65536 = ((b * 65536 : Nat) : Int) := by omega
    rw [e1, e2, u32_or_nat _ _ (by omega) (by omega), nat_join 24 (a * 16777216) (b * 65536) (by omega) (by omega)]
  obtain ⟨x2, h2, h2b, H2⟩ : ∃ x : Nat, bits BinOp.or IntKind.u32 (x1 : Int) ((c : Int) * 256) = (x : Int) ∧ x < 4294967296 ∧ Hid (x = x1 + c * 256) := by
    have := H1.out
    refine ⟨x1 + c * 256, ?_, by omega, rfl⟩
    have e2 : (c : Int) * 256 = ((c * 256 : Nat) : Int) := by omega
    rw [e2, u32_or_nat _ _ (by omega) (by omega), nat_join 16 x1 (c * 256) (by omega) (by omega)]
  obtain ⟨x3, h3, H3⟩ : ∃ x : Nat, bits BinOp.or IntKind.u32 (x2 : Int) (d : Int) = (x : Int) ∧ Hid (x = colOf a b c d) := by
    have := H1.out
    have := H2.out
    refine ⟨colOf a b c d, ?_, rfl⟩
    rw [u32_or_nat _ _ (by omega) (by omega), nat_join 8 x2 d (by omega) (by omega)]
    unfold colOf
    omega
  go_enter Try.func126, Try.ntmps126
  go_wp2
  go_ret
  exact ⟨ret_int (by rw [H3.out]), rfl⟩

/-- The cells of a table of columns. -/
def tabCells (T : Nat → Nat) : List Value := (List.range 256).map fun i => word32 (T i)
theorem tabCells_length (T : Nat → Nat) : (tabCells T).length = 256 := by simp [tabCells]
theorem allOne_tab (T : Nat → Nat) : (tabCells T).toArray.all (·.oneCell') = true := allOne_map _ (fun _ => rfl) _
theorem tab_cell {w : World} {S t n : Nat} {T : Nat → Nat} (h : Blk w S t (tabCells T)) (hn : n < 256) : w.cell? ⟨S, n, none⟩ = some (.int .u32 (T n : Nat)) := by
  rw [h.cell n (by rw [tabCells_length]; exact hn)]
  simp [tabCells, word32]
theorem Try.zero109 : (Try.prog.info? 109).map (fun i => (i.zero, i.size)) = some (some (.agg (zerosOf 256 .u32).toArray), 256) := by kernel_rfl

theorem mixT_lt : ∀ n : Nat, n < 256 → mixT n < 4294967296 := by
  intro n _
  have h := (subTab.getD n 0).toNat_lt
  exact colOf_lt _ _ _ _ (tXN_lt _ h) h h (Nat.xor_lt_two_pow (n := 8) (tXN_lt _ h) h)
theorem unmixT_lt : ∀ n : Nat, n < 256 → unmixT n < 4294967296 := by
  intro n h
  have h2 := tXN_lt n h
  have h4 := tXN_lt _ h2
  have h8 := tXN_lt _ h4
  have x : ∀ a b : Nat, a < 256 → b < 256 → a ^^^ b < 256 := fun a b ha hb => Nat.xor_lt_two_pow (n := 8) ha hb
  exact colOf_lt _ _ _ _ (x _ _ (x _ _ h8 h4) h2) (x _ _ h8 h) (x _ _ (x _ _ h8 h4) h) (x _ _ (x _ _ h8 h2) h)

set_option maxRecDepth 100000 in
set_option maxHeartbeats 1000000 in
theorem mixTable_any (w : World) :
    Calls Try.prog 113 #[.agg (subTab.map byte).toArray] w fun e w' => e = .returned (.agg (tabCells mixT).toArray) ∧ Below w.heap.size w w' := by
  have hz := (zero_of_info Try.zero109).1
  have hsl : (subTab.map byte).length = 256 := by rw [List.length_map, subTab_length]
  go_enter Try.func113, Try.ntmps113
  go_wp2_with (refine load_blk rfl 103 _ rfl _ rfl (((Blk.new w _ _).alloc _).alloc _) Try.underlying103 rfl (by rw [hsl]; kernel_rfl) ?_)
  go_loopw [4, 5, 6, 8] (fun _ _ _ i wr => ∃ k : Nat, k ≤ 256 ∧ i = .int .i64 k ∧ Blk wr (w.heap.size + 1 + 1) 109 (upTo (fun i => word32 (mixT i)) (.int .u32 0) 256 k) ∧ Blk wr (w.heap.size + 1) 109 (zerosOf 256 .u32) ∧ Below w.heap.size w wr) (fun _ _ _ i _ => 256 - (intOf i).toNat)
  case atStart =>
    refine ⟨0, by omega, rfl, ?_, (Blk.new2 w _ _ _).alloc _, (((Below.refl _ _).alloc (Nat.le_refl _) _).alloc (by simp) _).alloc (by simp; omega) _⟩
    rw [upTo_zero]
    exact Blk.newAt _ _ _ _ (by simp)
  case round =>
    obtain ⟨k, hk, rfl, hb2, hb0, hbel⟩ := hrel
    by_cases hlt : k < 256
    · have hsl2 := subTab_length
      obtain ⟨p, hp8, Hp⟩ : ∃ x : Nat, x < 256 ∧ Hid (x = (subTab.getD k 0).toNat) := ⟨_, UInt8.toNat_lt _, rfl⟩
      have hix := run_index_agg (P := Try.prog) Try.underlying103 Try.underlying5 rfl (by kernel_rfl) (subTab.map byte).toArray .i64 k hlt (.int .u8 (p : Int)) (by rw [map_agg subTab k (by omega), Hp.out])
      have hf := hb2.free k
      obtain ⟨u, hu⟩ : ∃ u, wr.cell? ⟨w.heap.size + 1 + 1, k, none⟩ = some u := ⟨_, hb2.cell k (by rw [upTo_length]; exact hlt)⟩
      have hst := hb2.set k (word32 (mixT k))
      rw [upTo_set (fun i => word32 (mixT i))] at hst
      obtain ⟨t, ht8, Ht⟩ : ∃ t : Nat, t < 256 ∧ Hid (t = tXN p) := ⟨_, tXN_lt p hp8, rfl⟩
      obtain ⟨y, hy, hy8, Hy⟩ : ∃ y : Nat, bits BinOp.xor IntKind.u8 (t : Int) (p : Int) = (y : Int) ∧ y < 256 ∧ Hid (y = t ^^^ p) := ⟨_, u8_xor_nat t p ht8 hp8, Nat.xor_lt_two_pow (n := 8) ht8 hp8, rfl⟩
      have HV : Hid (Value.int .u32 ((colOf t p p y : Nat) : Int) = word32 (mixT k)) := by
        show Value.int .u32 _ = Value.int .u32 _
        rw [Hy.out, Ht.out, Hp.out]
        rfl
      have hkI : (k : Int) < 256 := by omega
      clear hsl2
      go_wp2_with (first
        | (go_at_call 122; refine (timesX_any p _ hp8).mono ?_; rintro e w' ⟨rfl, rfl⟩; rw [← Ht.out])
        | (go_at_call 126; refine (columnOf_any t p p y _ ht8 hp8 hp8 hy8).mono ?_; rintro e w' ⟨rfl, rfl⟩))
      go_roundw
      case rel =>
        rw [HV.out]
        exact ⟨k + 1, by omega, by go_num, hst, hb0.other _ _ (by simp), hbel.setCell (by simp; omega) _⟩
      case measure => simp [intOf]; omega
    · obtain rfl : k = 256 := by omega
      have hb2' : Blk wr (w.heap.size + 1 + 1) 109 (tabCells mixT) := by rw [upTo_all] at hb2; exact hb2
      have hil := tabCells_length mixT
      go_wp2_with (first | (refine load_blk rfl 109 _ rfl _ rfl hb2' Try.underlying109 rfl (by rw [hil]; kernel_rfl) ?_) | (refine store_blk rfl 109 _ _ rfl _ rfl rfl hb0 (by rw [hil]; kernel_rfl) (by rw [zerosOf_length, hil]) (allOne_tab _) ?_; intro w2 hb3 hg3 hs3))
      exact bodyPost_ret (v := .agg (tabCells mixT).toArray) (results_blk Try.results113 _ _ rfl hb3 Try.underlying109 rfl (by rw [hil]; kernel_rfl)) rfl ⟨rfl, hbel.grown hg3 hbel.size (by intro k hk; cases hk; omega)⟩

set_option maxRecDepth 100000 in
set_option maxHeartbeats 1000000 in
theorem unmixTable_any (w : World) :
    Calls Try.prog 114 #[] w fun e w' => e = .returned (.agg (tabCells unmixT).toArray) ∧ Below w.heap.size w w' := by
  have hz := (zero_of_info Try.zero109).1
  go_enter Try.func114, Try.ntmps114
  go_wp2
  go_loopw [2, 3, 4, 5, 6, 7] (fun _ _ _ _ _ i wr => ∃ k : Nat, k ≤ 256 ∧ i = .int .i64 k ∧ Blk wr (w.heap.size + 1) 109 (upTo (fun i => word32 (unmixT i)) (.int .u32 0) 256 k) ∧ Blk wr w.heap.size 109 (zerosOf 256 .u32) ∧ Below w.heap.size w wr) (fun _ _ _ _ _ i _ => 256 - (intOf i).toNat)
  case atStart =>
    refine ⟨0, by omega, rfl, ?_, (Blk.new w _ _).alloc _, ((Below.refl _ _).alloc (Nat.le_refl _) _).alloc (by simp) _⟩
    rw [upTo_zero]
    exact Blk.new2 w _ _ _
  case round =>
    obtain ⟨k, hk, rfl, hb2, hb0, hbel⟩ := hrel
    by_cases hlt : k < 256
    · have hk8 : IntKind.u8.wrap (k : Int) = (k : Int) := by rw [IntKind.wrap_u8]; omega
      have hf := hb2.free k
      obtain ⟨u, hu⟩ : ∃ u, wr.cell? ⟨w.heap.size + 1, k, none⟩ = some u := ⟨_, hb2.cell k (by rw [upTo_length]; exact hlt)⟩
      have hst := hb2.set k (word32 (unmixT k))
      rw [upTo_set (fun i => word32 (unmixT i))] at hst
      obtain ⟨t, ht8, Ht⟩ : ∃ t : Nat, t < 256 ∧ Hid (t = tXN k) := ⟨_, tXN_lt k hlt, rfl⟩
      obtain ⟨f, hf8, Hf⟩ : ∃ f : Nat, f < 256 ∧ Hid (f = tXN t) := ⟨_, tXN_lt t ht8, rfl⟩
      obtain ⟨g, hg8, Hg⟩ : ∃ g : Nat, g < 256 ∧ Hid (g = tXN f) := ⟨_, tXN_lt f hf8, rfl⟩
      have X : ∀ a b : Nat, a < 256 → b < 256 → a ^^^ b < 256 := fun a b ha hb => Nat.xor_lt_two_pow (n := 8) ha hb
      obtain ⟨a1, h1, h18, H1⟩ : ∃ y : Nat, bits BinOp.xor IntKind.u8 (g : Int) (f : Int) = (y : Int) ∧ y < 256 ∧ Hid (y = g ^^^ f) := ⟨_, u8_xor_nat g f hg8 hf8, X _ _ hg8 hf8, rfl⟩
      obtain ⟨a2, h2, h28, H2⟩ : ∃ y : Nat, bits BinOp.xor IntKind.u8 (a1 : Int) (t : Int) = (y : Int) ∧ y < 256 ∧ Hid (y = a1 ^^^ t) := ⟨_, u8_xor_nat _ _ h18 ht8, X _ _ h18 ht8, rfl⟩
      obtain ⟨a3, h3, h38, H3⟩ : ∃ y : Nat, bits BinOp.xor IntKind.u8 (g : Int) (k : Int) = (y : Int) ∧ y < 256 ∧ Hid (y = g ^^^ k) := ⟨_, u8_xor_nat _ _ hg8 hlt, X _ _ hg8 hlt, rfl⟩
      obtain ⟨a4, h4, h48, H4⟩ : ∃ y : Nat, bits BinOp.xor IntKind.u8 (a1 : Int) (k : Int) = (y : Int) ∧ y < 256 ∧ Hid (y = a1 ^^^ k) := ⟨_, u8_xor_nat _ _ h18 hlt, X _ _ h18 hlt, rfl⟩
      obtain ⟨a5, h5, h58, H5⟩ : ∃ y : Nat, bits BinOp.xor IntKind.u8 (g : Int) (t : Int) = (y : Int) ∧ y < 256 ∧ Hid (y = g ^^^ t) := ⟨_, u8_xor_nat _ _ hg8 ht8, X _ _ hg8 ht8, rfl⟩
      obtain ⟨a6, h6, h68, H6⟩ : ∃ y : Nat, bits BinOp.xor IntKind.u8 (a5 : Int) (k : Int) = (y : Int) ∧ y < 256 ∧ Hid (y = a5 ^^^ k) := ⟨_, u8_xor_nat _ _ h58 hlt, X _ _ h58 hlt, rfl⟩
      have HV : Hid (Value.int .u32 ((colOf a2 a3 a4 a6 : Nat) : Int) = word32 (unmixT k)) := by
        show Value.int .u32 _ = Value.int .u32 _
        rw [H6.out, H5.out, H4.out, H3.out, H2.out, H1.out, Hg.out, Hf.out, Ht.out]
        rfl
      have hkI : (k : Int) < 256 := by omega
      clear X
      go_wp2_with fail
      refine (timesX_any k _ hlt).mono ?_
      rintro e w' ⟨rfl, rfl⟩
      rw [← Ht.out]
      go_wp2_with fail
      refine (timesX_any t _ ht8).mono ?_
      rintro e w' ⟨rfl, rfl⟩
      rw [← Hf.out]
      go_wp2_with fail
      refine (timesX_any f _ hf8).mono ?_
      rintro e w' ⟨rfl, rfl⟩
      rw [← Hg.out]
      go_wp2_with fail
      refine (columnOf_any a2 a3 a4 a6 _ h28 h38 h48 h68).mono ?_
      rintro e w' ⟨rfl, rfl⟩
      go_wp2
      go_roundw
      case rel =>
        rw [HV.out]
        exact ⟨k + 1, by omega, by go_num, hst, hb0.other _ _ (by simp), hbel.setCell (by simp) _⟩
      case measure => simp [intOf]; omega
    · obtain rfl : k = 256 := by omega
      have hb2' : Blk wr (w.heap.size + 1) 109 (tabCells unmixT) := by rw [upTo_all] at hb2; exact hb2
      have hil := tabCells_length unmixT
      go_wp2_with (first | (refine load_blk rfl 109 _ rfl _ rfl hb2' Try.underlying109 rfl (by rw [hil]; kernel_rfl) ?_) | (refine store_blk rfl 109 _ _ rfl _ rfl rfl hb0 (by rw [hil]; kernel_rfl) (by rw [zerosOf_length, hil]) (allOne_tab _) ?_; intro w2 hb3 hg3 hs3))
      exact bodyPost_ret (v := .agg (tabCells unmixT).toArray) (results_blk Try.results114 _ _ rfl hb3 Try.underlying109 rfl (by rw [hil]; kernel_rfl)) rfl ⟨rfl, hbel.grown hg3 hbel.size (by intro k hk; cases hk; exact Nat.le_refl _)⟩
end Go.Proofs.Ythjnalbgnjbdnaa
