/-
  impl.setBit.
-/
import Derived.Test.YtacgbajcdngokaaGreatDoorIsoLaw
namespace Go.Proofs.YtacgbajcdngokaaGreatDoor
open Go.RowKit

/-- A row with its k-th bit set. -/
def setL (l : List UInt8) (k : Nat) : List UInt8 := l.set (k / 8) (UInt8.ofNat ((l.getD (k / 8) 0).toNat ||| 2 ^ (7 - k % 8)))
theorem setL_length (l : List UInt8) (k : Nat) : (setL l k).length = l.length := by unfold setL; simp
set_option maxRecDepth 100000 in
set_option maxHeartbeats 2000000 in
theorem setBit_any (l : List UInt8) (b cap t k : Nat) (w : World) (hn : l.length ≤ 1048576) (hk : k < 8 * l.length) (kB : Blk w b t (l.map byte)) :
    Calls Tryz.prog 16 #[.slice (some ⟨b, 0, none⟩) l.length cap, .int .i64 ((k + 1 : Nat) : Int)] w fun e w' => e = .returned (.tuple #[]) ∧ Blk w' b t ((setL l k).map byte) ∧ w.grownBy w' (some b) ∧ w'.heap.size = w.heap.size := by
  obtain ⟨n, hnl⟩ : ∃ n, n = l.length := ⟨_, rfl⟩
  obtain ⟨j, hj⟩ : ∃ j, j = k / 8 := ⟨_, rfl⟩
  obtain ⟨r, hr8⟩ : ∃ r, r = k % 8 := ⟨_, rfl⟩
  obtain ⟨x, hx⟩ : ∃ x, x = (l.getD j 0).toNat := ⟨_, rfl⟩
  have hx8 : x < 256 := by rw [hx]; exact UInt8.toNat_lt _
  obtain ⟨s, hs⟩ : ∃ s, s = 2 ^ (7 - r) := ⟨_, rfl⟩
  have hs8 : s < 256 := by rw [hs]; exact Nat.lt_of_lt_of_le (Nat.pow_lt_pow_right (by omega) (show 7 - r < 8 by omega)) (Nat.le_refl _)
  obtain ⟨y, hy⟩ : ∃ y, y = x ||| s := ⟨_, rfl⟩
  have hor : bits BinOp.or IntKind.u8 (x : Int) (s : Int) = (y : Int) := by rw [hy]; exact u8_or_nat x s hx8 hs8
  obtain ⟨m, hm⟩ : ∃ m, m = k + 1 := ⟨_, rfl⟩
  have hwm : IntKind.i64.wrap ((m : Int) - 1) = (k : Int) := by rw [IntKind.wrap_i64]; omega
  have hq : (k : Int) / 8 = (j : Int) := by omega
  have hqt : (k : Int).tdiv 8 = (j : Int) := by rw [Int.tdiv_eq_ediv_of_nonneg (Int.natCast_nonneg _)]; exact hq
  have hwj : IntKind.i64.wrap (j : Int) = (j : Int) := by rw [IntKind.wrap_i64]; omega
  have hm8 : (k : Int) % 8 = (r : Int) := by omega
  have hmt : (k : Int).tmod 8 = (r : Int) := by rw [Int.tmod_eq_emod_of_nonneg (Int.natCast_nonneg _)]; exact hm8
  have hjn : j < n := by omega
  have hjI : (j : Int) < (n : Int) := by omega
  have hr7 : r < 8 := by omega
  have hsh : (128 : Int) / 2 ^ r = (s : Int) := by
    rw [hs]
    clear hs hs8 hy hor hmt hm8 hr8
    have : r = 0 ∨ r = 1 ∨ r = 2 ∨ r = 3 ∨ r = 4 ∨ r = 5 ∨ r = 6 ∨ r = 7 := by omega
    rcases this with rfl | rfl | rfl | rfl | rfl | rfl | rfl | rfl <;> rfl
  have cW : w.cell? ⟨b, j, none⟩ = some (.int .u8 (x : Int)) := by
    rw [kB.cell j (by rw [List.length_map]; omega)]
    have hjl : j < l.length := by omega
    rw [List.getElem_map, hx, List.getD_eq_getElem?_getD, List.getElem?_eq_getElem hjl]
    rfl
  have fW := kB.free j
  have HFIN : Hid ((l.map byte).set j (.int .u8 (y : Int)) = (setL l k).map byte) := by
    show _ = _
    unfold setL
    rw [List.map_set, ← hj, ← hx, ← hr8, ← hs, ← hy]
    congr 1
    unfold byte
    rw [UInt8.toNat_ofNat']
    have hyb : y < 256 := by rw [hy]; exact Nat.or_lt_two_pow (n := 8) hx8 hs8
    rw [Nat.mod_eq_of_lt hyb]
  rw [← hnl, ← hm]
  clear hnl hj hr8 hx hs hy hm
  go_enter Tryz.func16, Tryz.ntmps16
  go_upto_region 0 with fail
  obtain ⟨V, hV⟩ : ∃ V, V = World.drew w := ⟨_, rfl⟩
  have kV : Blk V b t (l.map byte) := by rw [hV]; exact kB.drew1
  have cV : V.cell? ⟨b, j, none⟩ = some (.int .u8 (x : Int)) := by rw [hV]; exact cW
  have fV : V.frozen? ⟨b, j, none⟩ = false := by rw [hV]; exact fW
  have gV : w.grownBy V (some b) := by rw [hV]; exact grown_drewT (grown_of_below (Below.refl _ _) _)
  have sV : V.heap.size = w.heap.size := by rw [hV]; rfl
  have keep : Hid (∀ {P : Prop}, P → True) := fun _ => trivial
  refine wp_region_held_drew (S := fun _ => True) (by kernel_rfl) trivial (fun hHeld => ?_)
  rw [← hV]
  clear hV
  refine wpAnyH_take (i := 0) (v := (.slice (some ⟨b, 0, none⟩) n cap)) rfl (by kernel_rfl) (by kernel_rfl) (by kernel_rfl) (fun _ _ _ h => h) (Or.inl ⟨by rfl, ?_⟩) hHeld ?_
  · intro _ _; go_simp
  dsimp only [Act.put, List.getElem_toArray, List.getElem_cons_zero, List.getElem_cons_succ]
  simp only [List.setIfInBounds_toArray, List.set_cons_succ, List.set_cons_zero]
  refine wpAnyH_take (i := 1) (v := (.int .i64 (m : Int))) rfl (by kernel_rfl) (by kernel_rfl) (by kernel_rfl) (fun _ _ _ h => h) (Or.inl ⟨by rfl, ?_⟩) hHeld ?_
  · intro _ _; go_simp
  dsimp only [Act.put, List.getElem_toArray, List.getElem_cons_zero, List.getElem_cons_succ]
  simp only [List.setIfInBounds_toArray, List.set_cons_succ, List.set_cons_zero]
  refine wpAnyH_take (i := 2) (v := (.int .i64 (k : Int))) rfl (by kernel_rfl) (by kernel_rfl) (by kernel_rfl) (fun _ _ _ h => h) (Or.inl ⟨by rfl, ?_⟩) hHeld ?_
  · intro _ _; go_simp
  dsimp only [Act.put, List.getElem_toArray, List.getElem_cons_zero, List.getElem_cons_succ]
  simp only [List.setIfInBounds_toArray, List.set_cons_succ, List.set_cons_zero]
  refine wpAnyH_take (i := 3) (v := (.int .i64 (j : Int))) rfl (by kernel_rfl) (by kernel_rfl) (by kernel_rfl) (fun _ _ _ h => h) (Or.inl ⟨by rfl, ?_⟩) hHeld ?_
  · intro _ _; go_simp
  dsimp only [Act.put, List.getElem_toArray, List.getElem_cons_zero, List.getElem_cons_succ]
  simp only [List.setIfInBounds_toArray, List.set_cons_succ, List.set_cons_zero]
  refine wpAnyH_take (i := 4) (v := (.pointer (some ⟨b, j, none⟩))) rfl (by kernel_rfl) (by kernel_rfl) (by kernel_rfl) (fun _ _ _ h => h) (Or.inl ⟨by rfl, ?_⟩) hHeld ?_
  · intro _ _; go_simp
  dsimp only [Act.put, List.getElem_toArray, List.getElem_cons_zero, List.getElem_cons_succ]
  simp only [List.setIfInBounds_toArray, List.set_cons_succ, List.set_cons_zero]
  refine wpAnyH_take (i := 6) (v := (.int .i64 (m : Int))) rfl (by kernel_rfl) (by kernel_rfl) (by kernel_rfl) (fun _ _ _ h => h) (Or.inl ⟨by rfl, ?_⟩) hHeld ?_
  · intro _ _; go_simp
  dsimp only [Act.put, List.getElem_toArray, List.getElem_cons_zero, List.getElem_cons_succ]
  simp only [List.setIfInBounds_toArray, List.set_cons_succ, List.set_cons_zero]
  refine wpAnyH_take (i := 7) (v := (.int .i64 (k : Int))) rfl (by kernel_rfl) (by kernel_rfl) (by kernel_rfl) (fun _ _ _ h => h) (Or.inl ⟨by rfl, ?_⟩) hHeld ?_
  · intro _ _; go_simp
  dsimp only [Act.put, List.getElem_toArray, List.getElem_cons_zero, List.getElem_cons_succ]
  simp only [List.setIfInBounds_toArray, List.set_cons_succ, List.set_cons_zero]
  refine wpAnyH_take (i := 8) (v := (.int .i64 (r : Int))) rfl (by kernel_rfl) (by kernel_rfl) (by kernel_rfl) (fun _ _ _ h => h) (Or.inl ⟨by rfl, ?_⟩) hHeld ?_
  · intro _ _; go_simp
  dsimp only [Act.put, List.getElem_toArray, List.getElem_cons_zero, List.getElem_cons_succ]
  simp only [List.setIfInBounds_toArray, List.set_cons_succ, List.set_cons_zero]
  refine wpAnyH_take (i := 9) (v := (.int .u8 (s : Int))) rfl (by kernel_rfl) (by kernel_rfl) (by kernel_rfl) (fun _ _ _ h => h) (Or.inl ⟨by rfl, ?_⟩) hHeld ?_
  · intro _ _; go_simp
  dsimp only [Act.put, List.getElem_toArray, List.getElem_cons_zero, List.getElem_cons_succ]
  simp only [List.setIfInBounds_toArray, List.set_cons_succ, List.set_cons_zero]
  refine wpAnyH_ready (rs := [5]) (by kernel_rfl) (by simp) ?_
  refine AllReadyH.cons rfl (fun K hK => ?_) (AllReadyH.nil)
  go_simp
  refine hK.out _ _ (keep.out cV) (fun hHeld => ?_)
  clear hK K
  try dsimp only [Act.put]
  refine wpAnyH_take (i := 10) (v := (.int .u8 (y : Int))) rfl (by kernel_rfl) (by kernel_rfl) (by kernel_rfl) (fun _ _ _ h => h) (Or.inl ⟨by rfl, ?_⟩) hHeld ?_
  · intro _ _; go_simp
  dsimp only [Act.put, List.getElem_toArray, List.getElem_cons_zero, List.getElem_cons_succ]
  simp only [List.setIfInBounds_toArray, List.set_cons_succ, List.set_cons_zero]
  refine wpAnyH_take (i := 11) (v := (.pointer (some ⟨b, j, none⟩))) rfl (by kernel_rfl) (by kernel_rfl) (by kernel_rfl) (fun _ _ _ h => h) (Or.inl ⟨by rfl, ?_⟩) hHeld ?_
  · intro _ _; go_simp
  dsimp only [Act.put, List.getElem_toArray, List.getElem_cons_zero, List.getElem_cons_succ]
  simp only [List.setIfInBounds_toArray, List.set_cons_succ, List.set_cons_zero]
  refine wpAnyH_ready (rs := [12]) (by kernel_rfl) (by simp) ?_
  refine AllReadyH.cons rfl (fun K hK => ?_) (AllReadyH.nil)
  go_simp
  refine hK.out _ _ (keep.out cV) (fun hHeld => ?_)
  clear hK K
  try dsimp only [Act.put]
  refine wpAnyH_done (by kernel_rfl) ?_ _
  have kF := kV.set j (.int .u8 (y : Int))
  rw [show (l.map byte).set j (.int .u8 (y : Int)) = _ from HFIN] at kF
  refine bodyPost_end (results_none rfl _ _ _) rfl ⟨rfl, kF, grown_trans gV (grown_setCellT V ⟨b, j, none⟩ (.int .u8 (y : Int))), ?_⟩
  rw [← sV]
  simp
end Go.Proofs.YtacgbajcdngokaaGreatDoor
