/-
  impl.xor8.
-/
import Derived.Test.YthjnalbgnjbdnaaXorSum
namespace Go.Proofs.Ythjnalbgnjbdnaa
open Go.RowKit

set_option maxRecDepth 100000 in
set_option maxHeartbeats 1000000 in
theorem xor8_gen (bl : List (List UInt8)) (m g off cap : Nat) (w : World) (hm : bl.length = m) (hm1 : m ≤ 1048576) (hn : ∀ b ∈ bl, b.length = 8) (hr : ∀ k, k < m → w.rangeAt g (off + k * 8) ((bl.getD k []).map byte)) :
    Calls Try.prog 61 #[.slice (some ⟨g, off, none⟩) m cap] w fun e w' => e = .returned (.agg ((sumsL 8 bl m).map byte).toArray) ∧ Below w.heap.size w w' := by
  have hz := (zero_of_info Try.zero50).1
  have hsl : ∀ k, k ≤ m → (sumsL 8 bl k).length = 8 := fun k hk => sumsL_length 8 bl hn k (by omega)
  have hbl : ∀ k, k < m → (bl.getD k []).length = 8 := by
    intro k hk
    have : bl.getD k [] = bl[k] := by simp [show k < bl.length from by omega]
    rw [this]; exact hn _ (List.getElem_mem _)
  go_enter Try.func61, Try.ntmps61
  go_wp2
  go_loopw [5, 6, 7, 10, 15] (fun _ _ _ i _ wr => ∃ k : Nat, k ≤ m ∧ i = .int .i64 k ∧ Blk wr (w.heap.size + 1) 50 ((sumsL 8 bl k).map byte) ∧ Blk wr w.heap.size 50 (zerosOf 8 .u8) ∧ Below w.heap.size w wr) (fun _ _ _ i _ _ => m - (intOf i).toNat)
  case atStart => exact ⟨0, Nat.zero_le _, rfl, by rw [show sumsL 8 bl 0 = zeros8 8 from rfl, ← zeros8_cells]; exact Blk.new2 w _ _ _, (Blk.new w _ _).alloc _, ((Below.refl _ _).alloc (Nat.le_refl _) _).alloc (by simp) _⟩
  case round =>
    obtain ⟨k, hk, rfl, hb1, hb0, hbel⟩ := hrel
    by_cases hlt : k < m
    · have hrk := range_below (hr k hlt) hbel
      have hlen := hbl k hlt
      have hs0 := hsl k hk
      have hs1 : sumsL 8 bl (k + 1) = xorL (sumsL 8 bl k) (bl.getD k []) := rfl
      obtain ⟨X, hX⟩ : ∃ X, X = bl.getD k [] := ⟨_, rfl⟩
      obtain ⟨A, hA⟩ : ∃ A, A = sumsL 8 bl k := ⟨_, rfl⟩
      rw [← hX] at hrk hlen hs1
      rw [← hA] at hs0 hs1 hb1
      have hXl : (X.map byte).length = 8 := by rw [List.length_map, hlen]
      have hkI : (k : Int) < (m : Int) := by omega
      have HS : Hid (sumsL 8 bl (k + 1) = xorL A X) := hs1
      clear hX hA hs1 hsl hbl hr
      go_wp2_with (first
        | (refine wpList_load_mid rfl 50 _ rfl g (off + k * 8) rfl (X.map byte) _ hrk Try.underlying50 rfl (by rw [hXl]; kernel_rfl) ?_)
        | (refine store_blk rfl 50 _ _ rfl _ rfl rfl (Blk.new wr _ _) (by rw [hXl]; kernel_rfl) (by rw [hXl]; exact zerosOf_length _ _) (allOne_bytes _) ?_; intro w3 hb3 hg3 hs3)
        | (refine load_blk rfl 50 _ rfl _ rfl hb3 Try.underlying50 rfl (by rw [hXl]; kernel_rfl) ?_))
      have l1 := hb1.lt
      have q1 := (hb1.alloc (.cells (zerosOf 8 .u8).toArray 50)).grown hg3 (by simp; omega)
      have q0 := (hb0.alloc (.cells (zerosOf 8 .u8).toArray 50)).grown hg3 (by simp; omega)
      have qb := (hbel.alloc hbel.size (.cells (zerosOf 8 .u8).toArray 50)).grown hg3 (by simp; omega) (by intro j hj; cases hj; omega)
      clear hb1 hb0 hbel hb3 hg3 hs3 hrk
      go_loopw [6, 7, 15] (fun _ _ i wr => ∃ j : Nat, j ≤ 8 ∧ i = .int .i64 j ∧ Blk wr (w.heap.size + 1) 50 ((mixL A X j).map byte) ∧ Blk wr w.heap.size 50 (zerosOf 8 .u8) ∧ Below w.heap.size w wr) (fun _ _ i _ => 8 - (intOf i).toNat)
      case atStart => exact ⟨0, Nat.zero_le _, rfl, by rw [mixL_zero]; exact q1, q0, qb⟩
      case round =>
        clear q1 q0 qb
        obtain ⟨j, hj, rfl, hb1, hb0, hbel⟩ := hrel
        by_cases hjl : j < 8
        · have hix := run_index_agg (P := Try.prog) Try.underlying50 Try.underlying5 rfl (by kernel_rfl) (X.map byte).toArray .i64 j hjl (.int .u8 (X[j].toNat : Int)) (by simp [hlen, hjl, byte])
          have hml := mixL_length A X j 8 hs0 hlen hj
          have hat := mixL_at A X j 8 hs0 hlen hjl
          have hc : wr.cell? ⟨w.heap.size + 1, j, none⟩ = some (.int .u8 ((A[j]'(by omega)).toNat : Int)) := by
            rw [hb1.cell j (by rw [List.length_map, hml]; exact hjl), ← List.getElem?_eq_getElem, List.getElem?_map, hat]; rfl
          have hf := hb1.free j
          have hst := hb1.set j (byte ((A[j]'(by omega)) ^^^ X[j]))
          rw [← List.map_set, mixL_set A X j 8 hs0 hlen hjl] at hst
          have HE : Hid (Value.int .u8 (bits BinOp.xor IntKind.u8 ((A[j]'(by omega)).toNat : Int) (X[j].toNat : Int)) = byte ((A[j]'(by omega)) ^^^ X[j])) := byte_xor _ _
          have hjI : (j : Int) < 8 := by omega
          clear hat hml hb1
          go_wp2
          go_roundw
          case rel =>
            rw [HE.out]
            exact ⟨j + 1, by omega, by go_num, hst, hb0.other _ _ (by simp), hbel.setCell (by simp) _⟩
          case measure => simp [intOf]; omega
        · obtain rfl : j = 8 := by omega
          rw [mixL_all A X 8 hs0 hlen, ← HS.out] at hb1
          go_wp2
          go_roundw
          case rel => exact ⟨k + 1, by omega, by go_num, hb1, hb0, hbel⟩
          case measure => simp [intOf]; omega
    · obtain rfl : k = m := by omega
      have hl : ((sumsL 8 bl k).map byte).length = 8 := by rw [List.length_map, hsl k hk]
      go_wp2_with (first | (refine load_blk rfl 50 _ rfl _ rfl hb1 Try.underlying50 rfl (by rw [hl]; kernel_rfl) ?_) | (refine store_blk rfl 50 _ _ rfl _ rfl rfl hb0 (by rw [hl]; kernel_rfl) (by rw [hl]; exact zerosOf_length _ _) (allOne_bytes _) ?_; intro w2 hb2 hg2 hs2))
      exact bodyPost_ret (v := .agg ((sumsL 8 bl k).map byte).toArray) (results_blk Try.results61 _ _ rfl hb2 Try.underlying50 rfl (by rw [hl]; kernel_rfl)) rfl ⟨rfl, hbel.grown hg2 hbel.size (by intro k hk; cases hk; exact Nat.le_refl _)⟩

theorem xor8_two (a b : List UInt8) (g cap t : Nat) (w : World) (ha : a.length = 8) (hb : b.length = 8) (h : Blk w g t (a.map byte ++ b.map byte)) :
    Calls Try.prog 61 #[.slice (some ⟨g, 0, none⟩) 2 cap] w fun e w' => e = .returned (.agg ((xorL a b).map byte).toArray) ∧ Below w.heap.size w w' := by
  have := xor8_gen [a, b] 2 g 0 cap w rfl (by omega) (by simp [ha, hb]) (by
    intro k hk
    match k, hk with
    | 0, _ => exact blk_first h
    | 1, _ => exact blk_second h (by simp [ha]))
  rw [sums_two 8 a b ha] at this
  exact this
end Go.Proofs.Ythjnalbgnjbdnaa
