/-
  spec: l3C0, l3Count.
-/
import Derived.Test.YthjnalbgnjbdnaaTwo
namespace Go.Proofs.Ythjnalbgnjbdnaa
open Go.RowKit

def halfC0 : List UInt8 := [192, 192, 192, 192, 0, 0, 0, 0]

set_option maxRecDepth 100000 in
set_option maxHeartbeats 1000000 in
theorem c0_any (w : World) : Calls Try.prog 67 #[] w fun e w' => ∃ v, e = .returned v ∧ OwnB w' w.heap.size v serialL ∧ Below w.heap.size w w' := by
  obtain ⟨i0, hi, hz0, hz1, hz2⟩ := info_parts Try.info5
  have b1 : Blk (w.alloc (.cells (halfC0.map byte).toArray 5)) w.heap.size 5 (halfC0.map byte) := Blk.new w _ _
  have o1 := (blk_own b1 (Nat.le_refl _) (by decide)).alloc (.cells (halfC0.map byte).toArray 5)
  have b2 : Blk ((w.alloc (.cells (halfC0.map byte).toArray 5)).alloc (.cells (halfC0.map byte).toArray 5)) (w.heap.size + 1) 5 (halfC0.map byte) := Blk.new2 w _ _ _
  have bel : Below w.heap.size w ((w.alloc (.cells (halfC0.map byte).toArray 5)).alloc (.cells (halfC0.map byte).toArray 5)) := (below_new w _).alloc (by simp) _
  have hnews : ∀ j u, (halfC0.map byte)[j]? = some u → ((w.alloc (.cells (halfC0.map byte).toArray 5)).alloc (.cells (halfC0.map byte).toArray 5)).cell? ((⟨w.heap.size + 1, 0, none⟩ : Addr).add j) = some u := by
    intro j u hu
    rw [Addr.add_mid]
    exact blk_whole b2 j u hu
  have hone : ∀ u ∈ halfC0.map byte, u.oneCell' = true := by
    intro u hu
    obtain ⟨x, -, rfl⟩ := List.mem_map.1 hu
    rfl
  go_enter Try.func67, Try.ntmps67
  go_wp2_with (at_builtin; refine wpList_append_own _ rfl _ _ 22 rfl w.heap.size 5 i0 (.int .u8 0) 1 1 Try.underlying22 hi hz0 hz1 hz2 rfl (by decide) _ 8 (halfC0.map byte) rfl o1 ⟨w.heap.size + 1, 0, none⟩ 8 8 (halfC0.map byte) rfl rfl hnews hone (by unfold maxLen; omega) (by omega) bel.size ?_; intro v1 w1 hown1 hgrow1 hnil1)
  go_ret
  exact ⟨_, rfl, hown1, bel.grown hgrow1 bel.size (fun j hj => (o1.lt j hj).1)⟩

/-- The byte without its five low bits. -/
def clr (x : UInt8) : UInt8 := UInt8.ofNat (x.toNat / 32 * 32)
theorem clr_nat : ∀ n : Nat, n < 256 → bits BinOp.and IntKind.u8 (n : Int) 224 = ((n / 32 * 32 : Nat) : Int) ∧ bits BinOp.andNot IntKind.u8 (n : Int) 31 = ((n / 32 * 32 : Nat) : Int) := by decide +kernel
theorem low_nat : ∀ n : Nat, n < 256 → bits BinOp.and IntKind.u8 (n : Int) 31 = ((n % 32 : Nat) : Int) := by decide +kernel
theorem byte_clr (x : UInt8) : byte (clr x) = .int .u8 ((x.toNat / 32 * 32 : Nat) : Int) := by
  unfold byte clr
  rw [UInt8.toNat_ofNat']
  have := x.toNat_lt
  congr 2
  omega
/-- The serial number with the counter set to 0, and the counter. -/
def countR (s : List UInt8) : List UInt8 := s.take 7 ++ [clr (s.getD 7 0), 0, 0]
def countN (s : List UInt8) : Nat := (s.getD 7 0).toNat % 32 * 65536 + (s.getD 8 0).toNat * 256 + (s.getD 9 0).toNat
def serR (s : List UInt8) : List UInt8 := s.take 7 ++ [clr (s.getD 7 0)]
theorem countR_length (s : List UInt8) (h : s.length = 10) : (countR s).length = 10 := by simp [countR, h]
theorem serR_length (s : List UInt8) (h : s.length = 10) : (serR s).length = 8 := by simp [serR, h]
theorem countR_take (s : List UInt8) (h : s.length = 10) : (countR s).take 8 = serR s := by
  unfold countR serR
  rw [List.take_append, List.take_of_length_le (by simp; omega)]
  simp [h]
theorem i64_or_nat (a b : Nat) (ha : a < 4611686018427387904) (hb : b < 4611686018427387904) : bits .or .i64 (a : Int) (b : Int) = ((a ||| b : Nat) : Int) := by
  have hx : a ||| b < 2 ^ 62 := Nat.or_lt_two_pow (by omega) (by omega)
  show IntKind.i64.wrap ((BitVec.ofInt 64 (a : Int) ||| BitVec.ofInt 64 (b : Int)).toNat : Int) = _
  rw [BitVec.toNat_or, ofInt_u64 a (by omega), ofInt_u64 b (by omega), IntKind.wrap_i64]
  omega
theorem wrap_small (n : Nat) (h : n < 4294967296) : IntKind.i64.wrap (n : Int) = (n : Int) := by rw [IntKind.wrap_i64]; omega
theorem or_count (a b c : Nat) (ha : a < 32) (hb : b < 256) (hc : c < 256) : bits BinOp.or IntKind.i64 (bits BinOp.or IntKind.i64 ((a * 65536 : Nat) : Int) ((b * 256 : Nat) : Int)) (c : Int) = ((a * 65536 + b * 256 + c : Nat) : Int) := by
  rw [i64_or_nat _ _ (by omega) (by omega), nat_join 16 (a * 65536) _ (by omega) (by omega), i64_or_nat _ _ (by omega) (by omega), nat_join 8 (a * 65536 + b * 256) _ (by omega) (by omega)]
theorem count_val (s7 s8 s9 : UInt8) : bits BinOp.or IntKind.i64 (bits BinOp.or IntKind.i64 (IntKind.i64.wrap (IntKind.i64.wrap (bits BinOp.and IntKind.u8 (s7.toNat : Int) 31) * 65536)) (IntKind.i64.wrap (IntKind.i64.wrap (s8.toNat : Int) * 256))) (IntKind.i64.wrap (s9.toNat : Int)) = ((s7.toNat % 32 * 65536 + s8.toNat * 256 + s9.toNat : Nat) : Int) := by
  have h7 := s7.toNat_lt
  have h8 := s8.toNat_lt
  have h9 := s9.toNat_lt
  have e1 : ((s7.toNat % 32 : Nat) : Int) * 65536 = ((s7.toNat % 32 * 65536 : Nat) : Int) := by omega
  have e2 : (s8.toNat : Int) * 256 = ((s8.toNat * 256 : Nat) : Int) := by omega
  rw [low_nat _ h7, wrap_small _ (by omega), wrap_small s8.toNat (by omega), wrap_small s9.toNat (by omega), e1, e2, wrap_small _ (by omega), wrap_small _ (by omega), or_count _ _ _ (by omega : s7.toNat % 32 < 32) h8 h9]

set_option maxRecDepth 100000 in
set_option maxHeartbeats 2000000 in
theorem count_lit (s0 s1 s2 s3 s4 s5 s6 s7 s8 s9 : UInt8) (b off cap : Nat) (w : World) (hr : ∀ i, i < 10 → w.cell? ⟨b, off + i, none⟩ = some (.int .u8 (([s0, s1, s2, s3, s4, s5, s6, s7, s8, s9].getD i 0).toNat : Int))) :
    Calls Try.prog 66 #[.slice (some ⟨b, off, none⟩) 10 cap] w fun e w' => e = .returned (.tuple #[.int .i64 ((s7.toNat % 32 * 65536 + s8.toNat * 256 + s9.toNat : Nat) : Int), .slice (some ⟨w.heap.size, 0, none⟩) 10 10]) ∧ Blk w' w.heap.size 5 ([s0, s1, s2, s3, s4, s5, s6, clr s7, 0, 0].map byte) ∧ Below w.heap.size w w' := by
  have c7 := hr 7 (by omega)
  have c8 := hr 8 (by omega)
  have c9 := hr 9 (by omega)
  simp only [List.getD_cons_succ, List.getD_cons_zero] at c7 c8 c9
  have hB := bytes_some b off cap [s0, s1, s2, s3, s4, s5, s6, s7, s8, s9] w.drew (by simp) (by simp) hr
  simp only [List.length_cons, List.length_nil, Nat.zero_add, Nat.reduceAdd] at hB
  have HB : Hid (Calls Try.prog 50 #[.slice (some ⟨b, off, none⟩) 10 cap] w.drew fun e w' => e = .returned (.slice (some ⟨w.heap.size, 0, none⟩) 10 10) ∧ OwnB w' w.heap.size (.slice (some ⟨w.heap.size, 0, none⟩) 10 10) [s0, s1, s2, s3, s4, s5, s6, s7, s8, s9] ∧ Below w.heap.size w.drew w') := hB
  have hval := count_val s7 s8 s9
  obtain ⟨N, hN⟩ : ∃ N : Nat, N = s7.toNat % 32 * 65536 + s8.toNat * 256 + s9.toNat := ⟨_, rfl⟩
  rw [← hN] at hval ⊢
  have HV : Hid (bits BinOp.or IntKind.i64 (bits BinOp.or IntKind.i64 (IntKind.i64.wrap (IntKind.i64.wrap (bits BinOp.and IntKind.u8 (s7.toNat : Int) 31) * 65536)) (IntKind.i64.wrap (IntKind.i64.wrap (s8.toNat : Int) * 256))) (IntKind.i64.wrap (s9.toNat : Int)) = (N : Int)) := hval
  clear hr hB hN hval
  go_enter Try.func66, Try.ntmps66
  go_wp2_with fail
  go_region_held3 (fun x => x.cell? ⟨b, off + 7, none⟩ = some (.int .u8 (s7.toNat : Int)) ∧ x.cell? ⟨b, off + 8, none⟩ = some (.int .u8 (s8.toNat : Int)) ∧ x.cell? ⟨b, off + 9, none⟩ = some (.int .u8 (s9.toNat : Int))) (exact ⟨c7, c8, c9⟩) (fail)
  rw [HV.out]
  clear HV
  go_wp2_with fail
  refine HB.out.mono ?_
  rintro e w1 ⟨rfl, own1, bel1⟩
  have k1 : Blk w1 w.heap.size 5 ([s0, s1, s2, s3, s4, s5, s6, s7, s8, s9].map byte) := own_blk own1
  have d1 : w1.cell? ⟨w.heap.size, 7, none⟩ = some (.int .u8 (s7.toNat : Int)) := k1.cell 7 (by simp)
  have d2 : w1.cell? ⟨w.heap.size, 8, none⟩ = some (.int .u8 (s8.toNat : Int)) := k1.cell 8 (by simp)
  have d3 : w1.cell? ⟨w.heap.size, 9, none⟩ = some (.int .u8 (s9.toNat : Int)) := k1.cell 9 (by simp)
  have f1 := k1.free 7
  have f2 := k1.free 8
  have f3 := k1.free 9
  have k4 := ((k1.set 7 (byte (clr s7))).set 8 (.int .u8 0)).set 9 (.int .u8 0)
  have be := (((below_drew bel1).setCell (p := ⟨w.heap.size, 7, none⟩) (Nat.le_refl _) (byte (clr s7))).setCell (p := ⟨w.heap.size, 8, none⟩) (Nat.le_refl _) (.int .u8 0)).setCell (p := ⟨w.heap.size, 9, none⟩) (Nat.le_refl _) (.int .u8 0)
  have hls : ((([s0, s1, s2, s3, s4, s5, s6, s7, s8, s9].map byte).set 7 (byte (clr s7))).set 8 (.int .u8 0)).set 9 (.int .u8 0) = [s0, s1, s2, s3, s4, s5, s6, clr s7, 0, 0].map byte := rfl
  rw [hls] at k4
  rw [byte_clr] at k4 be
  have hcl := (clr_nat s7.toNat s7.toNat_lt).1
  clear own1 bel1 k1 HB hls
  go_wp2
  go_ret2
  exact ⟨rfl, k4, be⟩

theorem ten (s : List UInt8) (h : s.length = 10) : ∃ s0 s1 s2 s3 s4 s5 s6 s7 s8 s9, s = [s0, s1, s2, s3, s4, s5, s6, s7, s8, s9] := by
  match s, h with
  | [s0, s1, s2, s3, s4, s5, s6, s7, s8, s9], _ => exact ⟨s0, s1, s2, s3, s4, s5, s6, s7, s8, s9, rfl⟩
theorem count_any (s : List UInt8) (ao : Option Addr) (cap : Nat) (w : World) (h : s.length = 10) (hr : RowAt w ao s) :
    Calls Try.prog 66 #[.slice ao 10 cap] w fun e w' => e = .returned (.tuple #[.int .i64 (countN s : Nat), .slice (some ⟨w.heap.size, 0, none⟩) 10 10]) ∧ Blk w' w.heap.size 5 ((countR s).map byte) ∧ Below w.heap.size w w' := by
  obtain ⟨b, off, rfl, hc⟩ := hr.at (k := 0) (by omega)
  obtain ⟨s0, s1, s2, s3, s4, s5, s6, s7, s8, s9, rfl⟩ := ten s h
  exact count_lit s0 s1 s2 s3 s4 s5 s6 s7 s8 s9 b off cap w (fun i hi => hc i hi)
end Go.Proofs.Ythjnalbgnjbdnaa
