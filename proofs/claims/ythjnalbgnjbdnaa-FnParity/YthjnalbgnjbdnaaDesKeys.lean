/-
  impl: the round keys.
-/
import Derived.Test.YthjnalbgnjbdnaaDesRound
namespace Go.Proofs.Ythjnalbgnjbdnaa
open Go.RowKit

def pc1Tab : List UInt8 := [57, 49, 41, 33, 25, 17, 9, 1, 58, 50, 42, 34, 26, 18, 10, 2, 59, 51, 43, 35, 27, 19, 11, 3, 60, 52, 44, 36,
  63, 55, 47, 39, 31, 23, 15, 7, 62, 54, 46, 38, 30, 22, 14, 6, 61, 53, 45, 37, 29, 21, 13, 5, 28, 20, 12, 4]
def pc2Tab : List UInt8 := [14, 17, 11, 24, 1, 5, 3, 28, 15, 6, 21, 10, 23, 19, 12, 4, 26, 8, 16, 7, 27, 20, 13, 2,
  41, 52, 31, 37, 47, 55, 30, 40, 51, 45, 33, 48, 44, 49, 39, 56, 34, 53, 46, 42, 50, 36, 29, 32]
def turnsTab : List Nat := [1, 1, 2, 2, 2, 2, 2, 2, 1, 2, 2, 2, 2, 2, 2, 1]
theorem pc1_cells : (pc1Tab.map byte).length = 56 := rfl
theorem pc2_cells : (pc2Tab.map byte).length = 48 := rfl
theorem pc1_in : ∀ t ∈ pc1Tab, 1 ≤ t.toNat ∧ t.toNat ≤ 64 := by decide
theorem pc2_in : ∀ t ∈ pc2Tab, 1 ≤ t.toNat ∧ t.toNat ≤ 56 := by decide
def turnCells : List Value := turnsTab.map fun (n : Nat) => Value.int .u64 (n : Int)
theorem turnCells_length : turnCells.length = 16 := rfl
theorem turns_in : ∀ k, k < 16 → 1 ≤ turnsTab.getD k 0 ∧ turnsTab.getD k 0 ≤ 2 := by decide
theorem turnCells_get (k : Nat) (h : k < 16) : turnCells.toArray[k]? = some (.int .u64 (turnsTab.getD k 0 : Nat)) := by
  have : k < turnsTab.length := h
  simp [turnCells, this]
theorem allOne_turns : turnCells.toArray.all (·.oneCell') = true := allOne_map _ (fun _ => rfl) _

/-- A half of the key behind k turns. -/
def halfN (h : Nat) : Nat → Nat
  | 0 => h
  | k + 1 => turnN (halfN h k) (turnsTab.getD k 0)
theorem halfN_lt (h k : Nat) (hh : h < 268435456) (hk : k ≤ 16) : halfN h k < 268435456 := by
  induction k with
  | zero => exact hh
  | succ k ih => exact turnN_lt _ _ (ih (by omega)) (turns_in k (by omega)).1 (turns_in k (by omega)).2

def bothN (key : List UInt8) : Nat := takeN (wordN key) 64 pc1Tab
theorem bothN_lt (key : List UInt8) : bothN key < 72057594037927936 := takeN_lt _ _ pc1Tab
def keyN (key : List UInt8) (k : Nat) : Nat := takeN (halfN (bothN key / 268435456) (k + 1) * 268435456 + halfN (bothN key % 268435456) (k + 1)) 56 pc2Tab
theorem keyN_lt (key : List UInt8) (k : Nat) : keyN key k < 281474976710656 := takeN_lt _ _ pc2Tab
def keyCell (key : List UInt8) (k : Nat) : Value := .int .u64 (keyN key k : Nat)
def keyCells (key : List UInt8) : List Value := (List.range 16).map (keyCell key)
theorem keyCells_length (key : List UInt8) : (keyCells key).length = 16 := by simp [keyCells]
/-- The round keys as numbers. -/
def keyNums (key : List UInt8) : List Nat := (List.range 16).map (keyN key)
theorem keyNums_length (key : List UInt8) : (keyNums key).length = 16 := by simp [keyNums]
theorem keyNums_lt (key : List UInt8) : ∀ x ∈ keyNums key, x < 18446744073709551616 := by
  intro x hx
  simp only [keyNums, List.mem_map, List.mem_range] at hx
  obtain ⟨k, -, rfl⟩ := hx
  have := keyN_lt key k
  omega
def word64 (n : Nat) : Value := .int .u64 (n : Int)
theorem keyCells_nums (key : List UInt8) : keyCells key = (keyNums key).map word64 := by
  simp [keyCells, keyNums, keyCell, word64, Function.comp_def]
theorem allOne_keys (key : List UInt8) : (keyCells key).toArray.all (·.oneCell') = true := allOne_map _ (fun _ => rfl) _

theorem Try.zero45 : (Try.prog.info? 45).map (fun i => (i.zero, i.size)) = some (some (.agg (zerosOf 16 .u64).toArray), 16) := by kernel_rfl
theorem Try.zero114 : (Try.prog.info? 114).map (fun i => (i.zero, i.size)) = some (some (.agg (zerosOf 56 .u8).toArray), 56) := by kernel_rfl
theorem Try.zero115 : (Try.prog.info? 115).map (fun i => (i.zero, i.size)) = some (some (.agg (zerosOf 48 .u8).toArray), 48) := by kernel_rfl
theorem Try.zero116 : (Try.prog.info? 116).map (fun i => (i.zero, i.size)) = some (some (.agg (zerosOf 16 .u64).toArray), 16) := by kernel_rfl

theorem eight (bs : List UInt8) (h : bs.length = 8) : ∃ b0 b1 b2 b3 b4 b5 b6 b7, bs = [b0, b1, b2, b3, b4, b5, b6, b7] := by
  match bs, h with
  | [b0, b1, b2, b3, b4, b5, b6, b7], _ => exact ⟨b0, b1, b2, b3, b4, b5, b6, b7, rfl⟩

set_option maxHeartbeats 2000000 in
theorem desKeys_any (key : List UInt8) (w : World) (h8 : key.length = 8) :
    Calls Try.prog 95 #[.agg (key.map byte).toArray] w fun e w' => e = .returned (.agg (keyCells key).toArray) ∧ Below w.heap.size w w' := by
  have hz1 := (zero_of_info Try.zero45).1
  have hz2 := (zero_of_info Try.zero114).1
  have hz3 := (zero_of_info Try.zero115).1
  have hz4 := (zero_of_info Try.zero116).1
  obtain ⟨b0, b1, b2, b3, b4, b5, b6, b7, rfl⟩ := eight key h8
  go_enter Try.func95, Try.ntmps95
  go_wp2_with (first
    | (refine build_to rfl 114 _ rfl (pc1Tab.map byte) (by kernel_rfl) ?_)
    | (refine build_to rfl 115 _ rfl (pc2Tab.map byte) (by kernel_rfl) ?_)
    | (refine build_to rfl 116 _ rfl turnCells (by kernel_rfl) ?_)
    | (refine store_blk rfl 114 _ _ rfl _ rfl rfl (Blk.newAt _ _ _ _ (by simp)) (by kernel_rfl) (by rw [pc1_cells]; exact zerosOf_length _ _) (allOne_bytes _) ?_; intro w2 hb2 hg2 hs2)
    | (refine store_blk rfl 115 _ _ rfl _ rfl rfl (Blk.newAt w2 _ _ _ (by rw [hs2]; simp)) (by kernel_rfl) (by rw [pc2_cells]; exact zerosOf_length _ _) (allOne_bytes _) ?_; intro w3 hb3 hg3 hs3)
    | (refine store_blk rfl 116 _ _ rfl _ rfl rfl (Blk.newAt w3 _ _ _ (by rw [hs3]; simp [hs2])) (by kernel_rfl) (by rw [turnCells_length]; exact zerosOf_length _ _) allOne_turns ?_; intro w4 hb4 hg4 hs4))
  have A : Blk w4 w.heap.size 50 ([b0, b1, b2, b3, b4, b5, b6, b7].map byte) ∧ Blk w4 (w.heap.size + 1) 45 (zerosOf 16 .u64) ∧ Blk w4 (w.heap.size + 1 + 1) 114 (pc1Tab.map byte) ∧ Blk w4 (w.heap.size + 1 + 1 + 1) 115 (pc2Tab.map byte) ∧ Blk w4 (w.heap.size + 1 + 1 + 1 + 1) 116 turnCells ∧ Below w.heap.size w w4 ∧ w4.heap.size = w.heap.size + 1 + 1 + 1 + 1 + 1 := by
    have z2 : w2.heap.size = w.heap.size + 3 := by rw [hs2]; simp
    have z3 : w3.heap.size = w.heap.size + 4 := by rw [hs3]; simp [z2]
    have z4 : w4.heap.size = w.heap.size + 5 := by rw [hs4]; simp [z3]
    have q0 : Blk w2 w.heap.size 50 ([b0, b1, b2, b3, b4, b5, b6, b7].map byte) := Blk.grown (((Blk.new w _ _).alloc _).alloc _) hg2 (by simp; omega)
    have q1 : Blk w2 (w.heap.size + 1) 45 (zerosOf 16 .u64) := Blk.grown ((Blk.new2 w _ _ _).alloc _) hg2 (by simp)
    have b2 : Below w.heap.size w w2 := ((((Below.refl _ _).alloc (Nat.le_refl _) _).alloc (by simp) _).alloc (by simp; omega) _).grown hg2 (by simp; omega) (by intro k hk; cases hk; omega)
    have b3 : Below w.heap.size w w3 := (b2.alloc (by omega) _).grown hg3 (by simp; omega) (by intro k hk; cases hk; omega)
    have b4 : Below w.heap.size w w4 := (b3.alloc (by omega) _).grown hg4 (by simp; omega) (by intro k hk; cases hk; omega)
    have s0 := (q0.alloc _).grown hg3 (by simp <;> omega)
    have s1 := (q1.alloc _).grown hg3 (by simp <;> omega)
    have s2 := (hb2.alloc _).grown hg3 (by simp <;> omega)
    exact ⟨(s0.alloc _).grown hg4 (by simp <;> omega), (s1.alloc _).grown hg4 (by simp <;> omega), (s2.alloc _).grown hg4 (by simp <;> omega), (hb3.alloc _).grown hg4 (by simp <;> omega), hb4, b4, z4⟩
  obtain ⟨k0, k1, k2, k3, k4, bel4, z4⟩ := A
  clear hb2 hb3 hb4 hg2 hg3 hg4 hs2 hs3 hs4 hz2 hz3 hz4
  have c0 := k0.cell 0 (by simp)
  have c1 := k0.cell 1 (by simp)
  have c2 := k0.cell 2 (by simp)
  have c3 := k0.cell 3 (by simp)
  have c4 := k0.cell 4 (by simp)
  have c5 := k0.cell 5 (by simp)
  have c6 := k0.cell 6 (by simp)
  have c7 := k0.cell 7 (by simp)
  simp only [List.map_cons, List.map_nil, List.getElem_cons_zero, List.getElem_cons_succ] at c0 c1 c2 c3 c4 c5 c6 c7
  have hw8 := wordN_lt [b0, b1, b2, b3, b4, b5, b6, b7]
  have rw2 := rowAt_block k2
  go_region_with (first | (go_at_call 72; refine (wordOf_any [b0, b1, b2, b3, b4, b5, b6, b7] _ rfl).mono ?_; rintro e w5 ⟨rfl, bel5⟩) | (go_at_call 116; refine (takeBits_at _ 64 56 64 _ _ pc1Tab _ (by simpa using hw8) rfl (by omega) rfl (by omega) pc1_in (rw2.drew1.below bel5)).mono ?_; rintro e w6 ⟨rfl, rfl⟩))
  have bel5' : Below w4.heap.size w4 w6 := ⟨bel5.os, bel5.tape, bel5.output, bel5.size, bel5.block⟩
  have l5 := bel5'.size
  have j1 := k1.below bel5' (by omega)
  have j3 := k3.below bel5' (by omega)
  have j4 := k4.below bel5' (by omega)
  have bel6 := bel4.trans (bel5'.mono bel4.size)
  obtain ⟨B, hB, hB56, HB⟩ : ∃ B, takeN (wordN [b0, b1, b2, b3, b4, b5, b6, b7]) 64 pc1Tab = B ∧ B < 72057594037927936 ∧ Hid (B = bothN [b0, b1, b2, b3, b4, b5, b6, b7]) := ⟨_, rfl, bothN_lt _, rfl⟩
  obtain ⟨D, hD, hD28, HD⟩ : ∃ D : Nat, bits BinOp.and IntKind.u64 (B : Int) 268435455 = (D : Int) ∧ D < 268435456 ∧ Hid (D = B % 268435456) := by
    have h := u64_and_nat B 268435455 (by omega) (by omega)
    have hm : ∀ y : Nat, y &&& 268435455 = y % 268435456 := fun y => Nat.and_two_pow_sub_one_eq_mod y 28
    rw [hm] at h
    exact ⟨_, h, by omega, rfl⟩
  obtain ⟨C, hC, hC28, HC⟩ : ∃ C : Nat, (B : Int) / 268435456 = (C : Int) ∧ C < 268435456 ∧ Hid (C = B / 268435456) := ⟨B / 268435456, by omega, by omega, rfl⟩
  clear k0 k1 k2 k3 k4 c0 c1 c2 c3 c4 c5 c6 c7 bel5 bel5' bel4 rw2 hw8
  obtain ⟨z5, hz5⟩ : ∃ n, n = w6.heap.size := ⟨_, rfl⟩
  go_wp2_with (refine load_blk rfl 116 _ rfl _ rfl (j4.alloc _) Try.underlying116 rfl (by rw [turnCells_length]; kernel_rfl) ?_)
  have kK : Blk (w6.alloc (.cells (zerosOf 16 .u64).toArray 45)) z5 45 (zerosOf 16 .u64) := Blk.newAt w6 _ _ _ hz5
  have j1' := j1.alloc (.cells (zerosOf 16 .u64).toArray 45)
  have j3' := j3.alloc (.cells (zerosOf 16 .u64).toArray 45)
  have bel7 := bel6.alloc bel6.size (.cells (zerosOf 16 .u64).toArray 45)
  rw [← hz5]
  have hKl : w.heap.size + 5 ≤ z5 := by omega
  have HC' : Hid (C = bothN [b0, b1, b2, b3, b4, b5, b6, b7] / 268435456 ∧ D = bothN [b0, b1, b2, b3, b4, b5, b6, b7] % 268435456) := ⟨by rw [HC.out, HB.out], by rw [HD.out, HB.out]⟩
  clear j1 j3 j4 bel6 hz5 l5 z4 hB hD hC HB HD HC
  go_loopw [7, 8, 10, 11, 26] (fun c d _ _ i wr => ∃ k : Nat, k ≤ 16 ∧ i = .int .i64 k ∧ c = .int .u32 (halfN C k : Nat) ∧ d = .int .u32 (halfN D k : Nat) ∧ Blk wr z5 45 (upTo (keyCell [b0, b1, b2, b3, b4, b5, b6, b7]) (.int .u64 0) 16 k) ∧ Blk wr (w.heap.size + 1) 45 (zerosOf 16 .u64) ∧ Blk wr (w.heap.size + 1 + 1 + 1) 115 (pc2Tab.map byte) ∧ Below w.heap.size w wr) (fun _ _ _ _ i _ => 16 - (intOf i).toNat)
  case atStart => exact ⟨0, Nat.zero_le _, rfl, rfl, rfl, by rw [upTo_zero]; exact kK, j1', j3', bel7⟩
  case round =>
    clear kK j1' j3' bel7
    obtain ⟨k, hk, rfl, rfl, rfl, kK, j1, j3, bel7⟩ := hrel
    by_cases hlt : k < 16
    · have hix := run_index_agg (P := Try.prog) Try.underlying116 Try.underlying37 rfl (by kernel_rfl) turnCells.toArray .i64 k hlt _ (turnCells_get k hlt)
      have ht := turns_in k hlt
      obtain ⟨t, hte, Ht⟩ : ∃ t, turnsTab.getD k 0 = t ∧ Hid (turnsTab.getD k 0 = t) := ⟨_, rfl, rfl⟩
      rw [hte] at hix ht
      clear hte
      have hc1 := halfN_lt C k hC28 hk
      have hd1 := halfN_lt D k hD28 hk
      have hc2 := halfN_lt C (k + 1) hC28 (by omega)
      have hd2 := halfN_lt D (k + 1) hD28 (by omega)
      have HCs : Hid (halfN C (k + 1) = turnN (halfN C k) t) := by rw [← Ht.out]; rfl
      have HDs : Hid (halfN D (k + 1) = turnN (halfN D k) t) := by rw [← Ht.out]; rfl
      rw [HCs.out] at hc2
      rw [HDs.out] at hd2
      obtain ⟨q, hq, hq64, Hq⟩ : ∃ q : Nat, bits BinOp.or IntKind.u64 ((turnN (halfN C k) t : Nat) * 268435456 : Int) ((turnN (halfN D k) t : Nat) : Int) = (q : Int) ∧ q < 18446744073709551616 ∧ Hid (q = turnN (halfN C k) t * 268435456 + turnN (halfN D k) t) := by
        refine ⟨_, ?_, ?_, rfl⟩
        · have e : ((turnN (halfN C k) t : Nat) * 268435456 : Int) = ((turnN (halfN C k) t * 268435456 : Nat) : Int) := by omega
          rw [e, u64_or_nat _ _ (by omega) (by omega), nat_join 28 _ _ (by omega) (by omega)]
        · omega
      have hf := kK.free k
      obtain ⟨u, hu⟩ : ∃ u, wr.cell? ⟨z5, k, none⟩ = some u := ⟨_, kK.cell k (by rw [upTo_length]; exact hlt)⟩
      have hst := kK.set k (keyCell [b0, b1, b2, b3, b4, b5, b6, b7] k)
      rw [upTo_set] at hst
      have rw3 := rowAt_block j3
      go_wp2_with fail
      refine (turn28_any _ _ _ hc1 ht.1 ht.2).mono ?_
      rintro e w' ⟨rfl, rfl⟩
      go_wp2_with fail
      refine (turn28_any _ _ _ hd1 ht.1 ht.2).mono ?_
      rintro e w' ⟨rfl, rfl⟩
      go_wp2_with fail
      refine (takeBits_at q 56 48 56 _ _ pc2Tab _ hq64 rfl (by omega) rfl (by omega) pc2_in rw3).mono ?_
      rintro e w' ⟨rfl, rfl⟩
      go_wp2
      go_roundw
      case rel =>
        have hv : Value.int IntKind.u64 (takeN q 56 pc2Tab : Nat) = keyCell [b0, b1, b2, b3, b4, b5, b6, b7] k := by
          unfold keyCell keyN
          rw [← HC'.out.1, ← HC'.out.2, HCs.out, HDs.out, Hq.out]
        rw [hv]
        exact ⟨k + 1, by omega, by go_num, by rw [HCs.out], by rw [HDs.out], hst, j1.other _ _ (by simp; omega), j3.other _ _ (by simp; omega), bel7.setCell (by simp; omega) _⟩
      case measure => simp [intOf]; omega
    · obtain rfl : k = 16 := by omega
      have kK' : Blk wr z5 45 (keyCells [b0, b1, b2, b3, b4, b5, b6, b7]) := by rw [upTo_all] at kK; exact kK
      go_wp2_with (first | (refine load_blk rfl 45 _ rfl _ rfl kK' Try.underlying45 rfl (by rw [keyCells_length]; kernel_rfl) ?_) | (refine store_blk rfl 45 _ _ rfl _ rfl rfl j1 (by rw [keyCells_length]; kernel_rfl) (by rw [zerosOf_length, keyCells_length]) (allOne_keys _) ?_; intro w8 hb8 hg8 hs8))
      exact bodyPost_ret (v := .agg (keyCells [b0, b1, b2, b3, b4, b5, b6, b7]).toArray) (results_blk Try.results95 _ _ rfl hb8 Try.underlying45 rfl (by rw [keyCells_length]; kernel_rfl)) rfl ⟨rfl, bel7.grown hg8 bel7.size (by intro k hk; cases hk; omega)⟩
end Go.Proofs.Ythjnalbgnjbdnaa
