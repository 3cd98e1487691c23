/-
  impl: newTdea.
-/
import Derived.Test.YthjnalbgnjbdnaaTdeaCells
namespace Go.Proofs.Ythjnalbgnjbdnaa
open Go.RowKit

set_option maxRecDepth 100000 in
set_option maxHeartbeats 2000000 in
theorem newTdea_lit (k0 k1 k2 k3 k4 k5 k6 k7 j0 j1 j2 j3 j4 j5 j6 j7 : UInt8) (w : World) :
    Calls Try.prog 57 #[.agg #[byte k0, byte k1, byte k2, byte k3, byte k4, byte k5, byte k6, byte k7, byte j0, byte j1, byte j2, byte j3, byte j4, byte j5, byte j6, byte j7]] w fun e w' =>
      ∃ S, e = .returned (.agg (tdeaCells [k0, k1, k2, k3, k4, k5, k6, k7] [j0, j1, j2, j3, j4, j5, j6, j7] S).toArray) ∧ w.heap.size ≤ S ∧ Blk w' S 93 mergedCells ∧ Below w.heap.size w w' := by
  have hz := (zero_of_info Try.zero55).1
  obtain ⟨W, hW⟩ : ∃ W, W = (w.alloc (.cells #[byte k0, byte k1, byte k2, byte k3, byte k4, byte k5, byte k6, byte k7, byte j0, byte j1, byte j2, byte j3, byte j4, byte j5, byte j6, byte j7] 57)).alloc (.cells zeroTdea.toArray 55) := ⟨_, rfl⟩
  have K0 : Blk W w.heap.size 57 ([k0, k1, k2, k3, k4, k5, k6, k7, j0, j1, j2, j3, j4, j5, j6, j7].map byte) := by rw [hW]; exact (Blk.new w _ _).alloc _
  have K1 : Blk W (w.heap.size + 1) 55 zeroTdea := by rw [hW]; exact Blk.new2 w _ _ _
  have bW : Below w.heap.size w W := by rw [hW]; exact ((Below.refl _ _).alloc (Nat.le_refl _) _).alloc (by simp) _
  have sW : W.heap.size = w.heap.size + 1 + 1 := by rw [hW]; simp
  subst hW
  have har := fun n c (wx : World) => run_arrayAt (P := Try.prog) (w := wx) 50 5 8 (some ⟨w.heap.size, n, none⟩) 8 c Try.underlying50 (Nat.le_refl _)
  go_enter Try.func57, Try.ntmps57
  go_wp2_with fail
  refine (newRound_any _).mono ?_
  rintro e w1 ⟨S, rfl, hS1, hS2, bel1⟩
  have A0 := K0.below bel1 K0.lt
  have A1 := K1.below bel1 K1.lt
  have b1 := bW.trans (bel1.mono bW.size)
  have hS0 : w.heap.size + 1 + 1 ≤ S := by omega
  have hA := cipherCells_length [k0, k1, k2, k3, k4, k5, k6, k7] S
  have hB := cipherCells_length [j0, j1, j2, j3, j4, j5, j6, j7] S
  have hf1 := fold_half [k0, k1, k2, k3, k4, k5, k6, k7] S
  have hf2 := fold_tdea [k0, k1, k2, k3, k4, k5, k6, k7] [j0, j1, j2, j3, j4, j5, j6, j7] S
  have hh := halfCells_length [k0, k1, k2, k3, k4, k5, k6, k7] S
  have lA := A0.lt
  have lA1 := A1.lt
  obtain ⟨c0, c1, c2, c3, c4, c5, c6, c7, c8, c9, c10, c11, c12, c13, c14, c15⟩ := sixteen A0
  have hne : ¬ w.heap.size = w.heap.size + 1 := (by omega)
  have htl := tdeaCells_length [k0, k1, k2, k3, k4, k5, k6, k7] [j0, j1, j2, j3, j4, j5, j6, j7] S
  clear K0 K1 bW sW bel1 hS1 hz
  go_wp2_with fail
  go_region_held3 (fun w' => w'.cell? ⟨w.heap.size, 0, none⟩ = some (byte k0) ∧ w'.cell? ⟨w.heap.size, 1, none⟩ = some (byte k1) ∧ w'.cell? ⟨w.heap.size, 2, none⟩ = some (byte k2) ∧ w'.cell? ⟨w.heap.size, 3, none⟩ = some (byte k3) ∧ w'.cell? ⟨w.heap.size, 4, none⟩ = some (byte k4) ∧ w'.cell? ⟨w.heap.size, 5, none⟩ = some (byte k5) ∧ w'.cell? ⟨w.heap.size, 6, none⟩ = some (byte k6) ∧ w'.cell? ⟨w.heap.size, 7, none⟩ = some (byte k7) ∧ w'.cell? ⟨w.heap.size, 8, none⟩ = some (byte j0) ∧ w'.cell? ⟨w.heap.size, 9, none⟩ = some (byte j1) ∧ w'.cell? ⟨w.heap.size, 10, none⟩ = some (byte j2) ∧ w'.cell? ⟨w.heap.size, 11, none⟩ = some (byte j3) ∧ w'.cell? ⟨w.heap.size, 12, none⟩ = some (byte j4) ∧ w'.cell? ⟨w.heap.size, 13, none⟩ = some (byte j5) ∧ w'.cell? ⟨w.heap.size, 14, none⟩ = some (byte j6) ∧ w'.cell? ⟨w.heap.size, 15, none⟩ = some (byte j7)) (first | exact sixteen C0 | exact sixteen B0 | exact sixteen (Blk.setRow_other C0 hne) | go_keep)
    (first
    | (go_at_call 52; refine (newDes_any [k0, k1, k2, k3, k4, k5, k6, k7] S _ rfl).mono ?_; rintro e w2 ⟨rfl, bel2⟩; have B0 : Blk w2 w.heap.size 57 ([k0, k1, k2, k3, k4, k5, k6, k7, j0, j1, j2, j3, j4, j5, j6, j7].map byte) := (by first | exact A0.below bel2 lA | exact (Blk.drew1 A0).below bel2 lA); have B1 : Blk w2 (w.heap.size + 1) 55 zeroTdea := (by first | exact A1.below bel2 lA1 | exact (Blk.drew1 A1).below bel2 lA1); have b2 : Below w.heap.size w w2 := (by first | exact b1.trans (bel2.mono b1.size) | exact b1.trans ((below_drew bel2).mono b1.size)); have B2 : Blk w2 S 93 mergedCells := (by first | exact hS2.below bel2 hS2.lt | exact (Blk.drew1 hS2).below bel2 hS2.lt); obtain ⟨p0, p1, p2, p3, p4, p5, p6, p7, p8, p9, p10, p11, p12, p13, p14, p15⟩ := sixteen B0)
    | (go_at_call 52; refine (newDes_any [j0, j1, j2, j3, j4, j5, j6, j7] S _ rfl).mono ?_; rintro e w3 ⟨rfl, bel3⟩; have C0 : Blk w3 w.heap.size 57 ([k0, k1, k2, k3, k4, k5, k6, k7, j0, j1, j2, j3, j4, j5, j6, j7].map byte) := B0.below bel3 B0.lt; have C1 : Blk w3 (w.heap.size + 1) 55 zeroTdea := B1.below bel3 B1.lt; have b3 : Below w.heap.size w w3 := b2.trans (bel3.mono b2.size); have C2 : Blk w3 S 93 mergedCells := B2.below bel3 B2.lt; obtain ⟨q0, q1, q2, q3, q4, q5, q6, q7, q8, q9, q10, q11, q12, q13, q14, q15⟩ := sixteen C0; have hst := store_tdea [k0, k1, k2, k3, k4, k5, k6, k7] [j0, j1, j2, j3, j4, j5, j6, j7] S C1))
  all_goals
    go_wp2_with fail
    exact bodyPost_ret (v := .agg (tdeaCells [k0, k1, k2, k3, k4, k5, k6, k7] [j0, j1, j2, j3, j4, j5, j6, j7] S).toArray) (results_blk Try.results57 _ _ rfl (Blk.setRow C1 _) Try.underlying55 rfl (by rw [tdeaCells_length]; kernel_rfl)) rfl ⟨S, rfl, by omega, Blk.setRow_other C2 (by omega), below_setRow' b3 (by omega) _⟩

theorem newTdea_any (key : List UInt8) (w : World) (h : key.length = 16) :
    Calls Try.prog 57 #[.agg (key.map byte).toArray] w fun e w' =>
      ∃ S, e = .returned (.agg (tdeaCells (key.take 8) (key.drop 8) S).toArray) ∧ w.heap.size ≤ S ∧ Blk w' S 93 mergedCells ∧ Below w.heap.size w w' := by
  match key, h with
  | [k0, k1, k2, k3, k4, k5, k6, k7, j0, j1, j2, j3, j4, j5, j6, j7], _ => exact newTdea_lit k0 k1 k2 k3 k4 k5 k6 k7 j0 j1 j2 j3 j4 j5 j6 j7 w
end Go.Proofs.Ythjnalbgnjbdnaa
