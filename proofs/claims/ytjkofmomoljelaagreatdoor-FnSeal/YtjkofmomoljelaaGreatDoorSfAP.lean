import Derived.Test.YtjkofmomoljelaaGreatDoorSfAM
import Derived.Test.YtjkofmomoljelaaGreatDoorSfAA
namespace Go.Proofs.YtjkofmomoljelaaGreatDoor
open Go.RowKit
set_option maxHeartbeats 1000000 in
theorem same_row (A : List UInt8) (a1 a2 : Option Addr) (n c1 c2 : Nat) (w : World) (hn : A.length = n) (r1 : RowAt w a1 A) (r2 : RowAt w a2 A) :
    Calls Tryz.prog 41 #[.slice a1 n c1, .slice a2 n c2] w fun e w' => e = .returned (.bool true) ∧ w' = w := by
  have e1 := conv_anyI A a1 n c1 w hn r1
  have e2 := conv_anyI A a2 n c2 w hn r2
  obtain ⟨S, hS⟩ : ∃ S : ByteArray, S = ⟨A.toArray⟩ := ⟨_, rfl⟩
  rw [← hS] at e1 e2
  clear hS r1 r2 hn
  go_enter Tryz.func41, Tryz.ntmps41
  go_wp2
  go_ret
  exact ⟨by simp, rfl⟩
set_option maxRecDepth 100000 in
set_option maxHeartbeats 4000000 in
theorem sameMsg_any (s : ByteArray) (L : List (Int × List UInt8)) (hL : L.length ≤ 1048576) (v1 v2 : Value) (w : World) (F1 : Fr w v1 L) (F2 : Fr w v2 L) :
    Calls Tryz.prog 12 #[.agg #[.string s, v1], .agg #[.string s, v2]] w fun e w' => e = .returned (.bool true) ∧ Below w.heap.size w w' := by
  obtain ⟨x1, c1, rfl⟩ := F1.sh
  obtain ⟨x2, c2, rfl⟩ := F2.sh
  obtain ⟨n, hn⟩ : ∃ n, n = L.length := ⟨_, rfl⟩
  have HNL := hideT hn
  rw [← hn] at F1 F2 hL ⊢
  obtain ⟨W0, hW0⟩ : ∃ y, y = w.alloc (Obj.cells #[.string s, .slice x1 n c1] 30) := ⟨_, rfl⟩
  obtain ⟨b1, hb1⟩ : ∃ q, q = w.heap.size := ⟨_, rfl⟩
  have k1 : Blk W0 b1 30 [.string s, .slice x1 n c1] := by rw [hW0, hb1]; exact Blk.new _ _ _
  have bW0 : Below w.heap.size w W0 := by rw [hW0]; exact below_newT _ _
  obtain ⟨W, hW⟩ : ∃ y, y = W0.alloc (Obj.cells #[.string s, .slice x2 n c2] 30) := ⟨_, rfl⟩
  obtain ⟨b2, hb2⟩ : ∃ q, q = b1 + 1 := ⟨_, rfl⟩
  have h0s : W0.heap.size = b2 := by rw [hW0, hb2, hb1]; simp
  have k2 : Blk W b2 30 [.string s, .slice x2 n c2] := by rw [hW, ← h0s]; exact Blk.new _ _ _
  have bW1 : Below W0.heap.size W0 W := by rw [hW]; exact below_newT _ _
  have bW := bW0.trans (bW1.mono bW0.size)
  have k1' := k1.below bW1 k1.lt
  have q0 : W.cell? ⟨b1, 0, none⟩ = some (.string s) := k1'.cell 0 (by simp)
  have q1 : W.cell? ⟨b1, 1, none⟩ = some (.slice x1 n c1) := k1'.cell 1 (by simp)
  have q2 : W.cell? ⟨b2, 0, none⟩ = some (.string s) := k2.cell 0 (by simp)
  have q3 : W.cell? ⟨b2, 1, none⟩ = some (.slice x2 n c2) := k2.cell 1 (by simp)
  have HF1 := hideT (F1.below bW)
  have HF2 := hideT (F2.below bW)
  have HBW := hideT bW
  have HW0 := hideT hW0
  have HB1 := hideT hb1
  have HW := hideT hW
  have HB2 := hideT hb2
  have hss : (s != s) = false := ne_selfB s
  clear hn h0s hW0 hb1 hW hb2 F1 F2 bW bW0 bW1 k1 k1' k2
  go_enter Tryz.func12, Tryz.ntmps12
  go_upto_region 1 with fail
  rw [← show W0 = _ from HW0, ← show b1 = _ from HB1, ← show W = _ from HW, ← show b2 = _ from HB2]
  clear HW0 HB1 HW HB2
  go_wp2_with fail
  go_loopw [5, 23] (fun _ i wr => ∃ k : Nat, k ≤ n ∧ i = .int .i64 (k : Int) ∧ Below W.heap.size W wr) (fun _ i _ => n - (intOf i).toNat)
  case atStart => exact ⟨0, Nat.zero_le _, rfl, Below.refl _ _⟩
  case round =>
    obtain ⟨k, hk, rfl, hbx⟩ := hrel
    have HBX := hideT hbx
    by_cases hlt : k < n
    · have hltI : (k : Int) < (n : Int) := by omega
      obtain ⟨g1, o1, c1', a1, e1, hv1, p1, p2, r1⟩ := (HF1.out.below hbx).at_ k (by rw [← HNL.out]; exact hlt)
      obtain ⟨g2, o2, c2', a2, e2, hv2, p3, p4, r2⟩ := (HF2.out.below hbx).at_ k (by rw [← HNL.out]; exact hlt)
      simp only [Value.slice.injEq] at hv1 hv2
      obtain ⟨rfl, -, rfl⟩ := hv1
      obtain ⟨rfl, -, rfl⟩ := hv2
      have m1 := World.block_lt_of_cell? W _ q1
      have m2 := World.block_lt_of_cell? W _ q3
      have q5 := (hbx.cell (p := ⟨b1, 1, none⟩) m1).trans q1
      have q6 := (hbx.cell (p := ⟨b2, 1, none⟩) m2).trans q3
      obtain ⟨no, hno⟩ : ∃ m, m = (L.getD k (0, [])).1 := ⟨_, rfl⟩
      obtain ⟨d, hd⟩ : ∃ m, m = (L.getD k (0, [])).2 := ⟨_, rfl⟩
      rw [← hno] at p1 p3
      rw [← hd] at p2 p4 r1 r2
      have HEF := hideT (fun (wx : World) (h1 : RowAt wx a1 d) (h2 : RowAt wx a2 d) => same_row d a1 a2 d.length e1 e2 wx rfl h1 h2)
      obtain ⟨l, hl⟩ : ∃ l, l = d.length := ⟨_, rfl⟩
      rw [← hl] at HEF p2 p4
      have hno2 : (no != no) = false := by simp
      clear hno hd hl hbx q0 q1 q2 q3 hss
      go_upto_region 6 with fail
      obtain ⟨V, hV⟩ : ∃ V, V = World.drew wr := ⟨_, rfl⟩
      have b_0 : Below wr.heap.size wr V := by rw [hV]; exact (Below.refl _ _).drew
      have l1 := World.block_lt_of_cell? wr _ p1
      have l2 := World.block_lt_of_cell? wr _ p3
      have l3 := World.block_lt_of_cell? wr _ q5
      have l4 := World.block_lt_of_cell? wr _ q6
      have keep : Hid (∀ {x}, Below wr.heap.size wr x → x.cell? ⟨b1, 1, none⟩ = some (.slice (some ⟨g1, o1, none⟩) n c1) ∧ x.cell? ⟨b2, 1, none⟩ = some (.slice (some ⟨g2, o2, none⟩) n c2) ∧ x.cell? ⟨g1, o1 + k * 2, none⟩ = some (.int .i64 no) ∧ x.cell? ⟨g1, o1 + k * 2 + 1, none⟩ = some (.slice a1 l e1) ∧ x.cell? ⟨g2, o2 + k * 2, none⟩ = some (.int .i64 no) ∧ x.cell? ⟨g2, o2 + k * 2 + 1, none⟩ = some (.slice a2 l e2)) := fun h => ⟨(h.cell (p := ⟨b1, 1, none⟩) l3).trans q5, (h.cell (p := ⟨b2, 1, none⟩) l4).trans q6, (h.cell (p := ⟨g1, o1 + k * 2, none⟩) l1).trans p1, (h.cell (p := ⟨g1, o1 + k * 2 + 1, none⟩) l1).trans p2, (h.cell (p := ⟨g2, o2 + k * 2, none⟩) l2).trans p3, (h.cell (p := ⟨g2, o2 + k * 2 + 1, none⟩) l2).trans p4⟩
      refine wp_region_held_drew (S := fun x => x.cell? ⟨b1, 1, none⟩ = some (.slice (some ⟨g1, o1, none⟩) n c1) ∧ x.cell? ⟨b2, 1, none⟩ = some (.slice (some ⟨g2, o2, none⟩) n c2) ∧ x.cell? ⟨g1, o1 + k * 2, none⟩ = some (.int .i64 no) ∧ x.cell? ⟨g1, o1 + k * 2 + 1, none⟩ = some (.slice a1 l e1) ∧ x.cell? ⟨g2, o2 + k * 2, none⟩ = some (.int .i64 no) ∧ x.cell? ⟨g2, o2 + k * 2 + 1, none⟩ = some (.slice a2 l e2)) (by kernel_rfl) (by rw [← hV]; exact keep.out b_0) (fun hHeld => ?_)
      rw [← hV] at hHeld ⊢
      clear hV p1 p2 p3 p4 q5 q6
      refine wpAnyH_take (i := 0) (v := (.pointer (some ⟨b1, 1, none⟩))) rfl (by kernel_rfl) (by kernel_rfl) (by kernel_rfl) (fun _ _ _ h => h) (Or.inl ⟨by rfl, ?_⟩) hHeld ?_
      · intro _ _; go_simp
      dsimp only [Act.put, List.getElem_toArray, List.getElem_cons_zero, List.getElem_cons_succ]
      simp only [List.setIfInBounds_toArray, List.set_cons_succ, List.set_cons_zero]
      refine wpAnyH_take (i := 1) (v := (.slice (some ⟨g1, o1, none⟩) n c1)) rfl (by kernel_rfl) (by kernel_rfl) (by kernel_rfl) (fun _ _ _ h => h) (Or.inl ⟨by rfl, fun w1 h => by have hc0 := h.1; go_simp⟩) hHeld ?_
      dsimp only [Act.put, List.getElem_toArray, List.getElem_cons_zero, List.getElem_cons_succ]
      simp only [List.setIfInBounds_toArray, List.set_cons_succ, List.set_cons_zero]
      refine wpAnyH_take (i := 2) (v := (.int .i64 (k : Int))) rfl (by kernel_rfl) (by kernel_rfl) (by kernel_rfl) (fun _ _ _ h => h) (Or.inl ⟨by rfl, ?_⟩) hHeld ?_
      · intro _ _; go_simp
      dsimp only [Act.put, List.getElem_toArray, List.getElem_cons_zero, List.getElem_cons_succ]
      simp only [List.setIfInBounds_toArray, List.set_cons_succ, List.set_cons_zero]
      refine wpAnyH_take (i := 3) (v := (.pointer (some ⟨g1, o1 + k * 2, none⟩))) rfl (by kernel_rfl) (by kernel_rfl) (by kernel_rfl) (fun _ _ _ h => h) (Or.inl ⟨by rfl, ?_⟩) hHeld ?_
      · intro _ _; go_simp
      dsimp only [Act.put, List.getElem_toArray, List.getElem_cons_zero, List.getElem_cons_succ]
      simp only [List.setIfInBounds_toArray, List.set_cons_succ, List.set_cons_zero]
      refine wpAnyH_take (i := 4) (v := (.pointer (some ⟨g1, o1 + k * 2, none⟩))) rfl (by kernel_rfl) (by kernel_rfl) (by kernel_rfl) (fun _ _ _ h => h) (Or.inl ⟨by rfl, ?_⟩) hHeld ?_
      · intro _ _; go_simp
      dsimp only [Act.put, List.getElem_toArray, List.getElem_cons_zero, List.getElem_cons_succ]
      simp only [List.setIfInBounds_toArray, List.set_cons_succ, List.set_cons_zero]
      refine wpAnyH_take (i := 5) (v := (.int .i64 no)) rfl (by kernel_rfl) (by kernel_rfl) (by kernel_rfl) (fun _ _ _ h => h) (Or.inl ⟨by rfl, fun w1 h => by have hc0 := h.2.2.1; go_simp⟩) hHeld ?_
      dsimp only [Act.put, List.getElem_toArray, List.getElem_cons_zero, List.getElem_cons_succ]
      simp only [List.setIfInBounds_toArray, List.set_cons_succ, List.set_cons_zero]
      refine wpAnyH_take (i := 6) (v := (.pointer (some ⟨b2, 1, none⟩))) rfl (by kernel_rfl) (by kernel_rfl) (by kernel_rfl) (fun _ _ _ h => h) (Or.inl ⟨by rfl, ?_⟩) hHeld ?_
      · intro _ _; go_simp
      dsimp only [Act.put, List.getElem_toArray, List.getElem_cons_zero, List.getElem_cons_succ]
      simp only [List.setIfInBounds_toArray, List.set_cons_succ, List.set_cons_zero]
      refine wpAnyH_take (i := 7) (v := (.slice (some ⟨g2, o2, none⟩) n c2)) rfl (by kernel_rfl) (by kernel_rfl) (by kernel_rfl) (fun _ _ _ h => h) (Or.inl ⟨by rfl, fun w1 h => by have hc0 := h.2.1; go_simp⟩) hHeld ?_
      dsimp only [Act.put, List.getElem_toArray, List.getElem_cons_zero, List.getElem_cons_succ]
      simp only [List.setIfInBounds_toArray, List.set_cons_succ, List.set_cons_zero]
      refine wpAnyH_take (i := 8) (v := (.int .i64 (k : Int))) rfl (by kernel_rfl) (by kernel_rfl) (by kernel_rfl) (fun _ _ _ h => h) (Or.inl ⟨by rfl, ?_⟩) hHeld ?_
      · intro _ _; go_simp
      dsimp only [Act.put, List.getElem_toArray, List.getElem_cons_zero, List.getElem_cons_succ]
      simp only [List.setIfInBounds_toArray, List.set_cons_succ, List.set_cons_zero]
      refine wpAnyH_take (i := 9) (v := (.pointer (some ⟨g2, o2 + k * 2, none⟩))) rfl (by kernel_rfl) (by kernel_rfl) (by kernel_rfl) (fun _ _ _ h => h) (Or.inl ⟨by rfl, ?_⟩) hHeld ?_
      · intro _ _; go_simp
      dsimp only [Act.put, List.getElem_toArray, List.getElem_cons_zero, List.getElem_cons_succ]
      simp only [List.setIfInBounds_toArray, List.set_cons_succ, List.set_cons_zero]
      refine wpAnyH_take (i := 10) (v := (.pointer (some ⟨g2, o2 + k * 2, none⟩))) rfl (by kernel_rfl) (by kernel_rfl) (by kernel_rfl) (fun _ _ _ h => h) (Or.inl ⟨by rfl, ?_⟩) hHeld ?_
      · intro _ _; go_simp
      dsimp only [Act.put, List.getElem_toArray, List.getElem_cons_zero, List.getElem_cons_succ]
      simp only [List.setIfInBounds_toArray, List.set_cons_succ, List.set_cons_zero]
      refine wpAnyH_take (i := 11) (v := (.int .i64 no)) rfl (by kernel_rfl) (by kernel_rfl) (by kernel_rfl) (fun _ _ _ h => h) (Or.inl ⟨by rfl, fun w1 h => by have hc0 := h.2.2.2.2.1; go_simp⟩) hHeld ?_
      dsimp only [Act.put, List.getElem_toArray, List.getElem_cons_zero, List.getElem_cons_succ]
      simp only [List.setIfInBounds_toArray, List.set_cons_succ, List.set_cons_zero]
      refine wpAnyH_take (i := 12) (v := (.bool false)) rfl (by kernel_rfl) (by kernel_rfl) (by kernel_rfl) (fun _ _ _ h => h) (Or.inl ⟨by rfl, ?_⟩) hHeld ?_
      · intro _ _; go_simp
      dsimp only [Act.put, List.getElem_toArray, List.getElem_cons_zero, List.getElem_cons_succ]
      simp only [List.setIfInBounds_toArray, List.set_cons_succ, List.set_cons_zero]
      refine wpAnyH_take (i := 13) (v := (.bool false)) rfl (by kernel_rfl) (by kernel_rfl) (by kernel_rfl) (fun _ _ _ h => h) (Or.inl ⟨by rfl, ?_⟩) hHeld ?_
      · intro _ _; go_simp
      dsimp only [Act.put, List.getElem_toArray, List.getElem_cons_zero, List.getElem_cons_succ]
      simp only [List.setIfInBounds_toArray, List.set_cons_succ, List.set_cons_zero]
      refine wpAnyH_take (i := 14) (v := (.pointer (some ⟨b1, 1, none⟩))) rfl (by kernel_rfl) (by kernel_rfl) (by kernel_rfl) (fun _ _ _ h => h) (Or.inl ⟨by rfl, ?_⟩) hHeld ?_
      · intro _ _; go_simp
      dsimp only [Act.put, List.getElem_toArray, List.getElem_cons_zero, List.getElem_cons_succ]
      simp only [List.setIfInBounds_toArray, List.set_cons_succ, List.set_cons_zero]
      refine wpAnyH_take (i := 15) (v := (.slice (some ⟨g1, o1, none⟩) n c1)) rfl (by kernel_rfl) (by kernel_rfl) (by kernel_rfl) (fun _ _ _ h => h) (Or.inl ⟨by rfl, fun w1 h => by have hc0 := h.1; go_simp⟩) hHeld ?_
      dsimp only [Act.put, List.getElem_toArray, List.getElem_cons_zero, List.getElem_cons_succ]
      simp only [List.setIfInBounds_toArray, List.set_cons_succ, List.set_cons_zero]
      refine wpAnyH_take (i := 16) (v := (.int .i64 (k : Int))) rfl (by kernel_rfl) (by kernel_rfl) (by kernel_rfl) (fun _ _ _ h => h) (Or.inl ⟨by rfl, ?_⟩) hHeld ?_
      · intro _ _; go_simp
      dsimp only [Act.put, List.getElem_toArray, List.getElem_cons_zero, List.getElem_cons_succ]
      simp only [List.setIfInBounds_toArray, List.set_cons_succ, List.set_cons_zero]
      refine wpAnyH_take (i := 17) (v := (.pointer (some ⟨g1, o1 + k * 2, none⟩))) rfl (by kernel_rfl) (by kernel_rfl) (by kernel_rfl) (fun _ _ _ h => h) (Or.inl ⟨by rfl, ?_⟩) hHeld ?_
      · intro _ _; go_simp
      dsimp only [Act.put, List.getElem_toArray, List.getElem_cons_zero, List.getElem_cons_succ]
      simp only [List.setIfInBounds_toArray, List.set_cons_succ, List.set_cons_zero]
      refine wpAnyH_take (i := 18) (v := (.pointer (some ⟨g1, o1 + k * 2 + 1, none⟩))) rfl (by kernel_rfl) (by kernel_rfl) (by kernel_rfl) (fun _ _ _ h => h) (Or.inl ⟨by rfl, ?_⟩) hHeld ?_
      · intro _ _; go_simp
      dsimp only [Act.put, List.getElem_toArray, List.getElem_cons_zero, List.getElem_cons_succ]
      simp only [List.setIfInBounds_toArray, List.set_cons_succ, List.set_cons_zero]
      refine wpAnyH_take (i := 19) (v := (.slice a1 l e1)) rfl (by kernel_rfl) (by kernel_rfl) (by kernel_rfl) (fun _ _ _ h => h) (Or.inl ⟨by rfl, fun w1 h => by have hc0 := h.2.2.2.1; go_simp⟩) hHeld ?_
      dsimp only [Act.put, List.getElem_toArray, List.getElem_cons_zero, List.getElem_cons_succ]
      simp only [List.setIfInBounds_toArray, List.set_cons_succ, List.set_cons_zero]
      refine wpAnyH_take (i := 20) (v := (.pointer (some ⟨b2, 1, none⟩))) rfl (by kernel_rfl) (by kernel_rfl) (by kernel_rfl) (fun _ _ _ h => h) (Or.inl ⟨by rfl, ?_⟩) hHeld ?_
      · intro _ _; go_simp
      dsimp only [Act.put, List.getElem_toArray, List.getElem_cons_zero, List.getElem_cons_succ]
      simp only [List.setIfInBounds_toArray, List.set_cons_succ, List.set_cons_zero]
      refine wpAnyH_take (i := 21) (v := (.slice (some ⟨g2, o2, none⟩) n c2)) rfl (by kernel_rfl) (by kernel_rfl) (by kernel_rfl) (fun _ _ _ h => h) (Or.inl ⟨by rfl, fun w1 h => by have hc0 := h.2.1; go_simp⟩) hHeld ?_
      dsimp only [Act.put, List.getElem_toArray, List.getElem_cons_zero, List.getElem_cons_succ]
      simp only [List.setIfInBounds_toArray, List.set_cons_succ, List.set_cons_zero]
      refine wpAnyH_take (i := 22) (v := (.int .i64 (k : Int))) rfl (by kernel_rfl) (by kernel_rfl) (by kernel_rfl) (fun _ _ _ h => h) (Or.inl ⟨by rfl, ?_⟩) hHeld ?_
      · intro _ _; go_simp
      dsimp only [Act.put, List.getElem_toArray, List.getElem_cons_zero, List.getElem_cons_succ]
      simp only [List.setIfInBounds_toArray, List.set_cons_succ, List.set_cons_zero]
      refine wpAnyH_take (i := 23) (v := (.pointer (some ⟨g2, o2 + k * 2, none⟩))) rfl (by kernel_rfl) (by kernel_rfl) (by kernel_rfl) (fun _ _ _ h => h) (Or.inl ⟨by rfl, ?_⟩) hHeld ?_
      · intro _ _; go_simp
      dsimp only [Act.put, List.getElem_toArray, List.getElem_cons_zero, List.getElem_cons_succ]
      simp only [List.setIfInBounds_toArray, List.set_cons_succ, List.set_cons_zero]
      refine wpAnyH_take (i := 24) (v := (.pointer (some ⟨g2, o2 + k * 2 + 1, none⟩))) rfl (by kernel_rfl) (by kernel_rfl) (by kernel_rfl) (fun _ _ _ h => h) (Or.inl ⟨by rfl, ?_⟩) hHeld ?_
      · intro _ _; go_simp
      dsimp only [Act.put, List.getElem_toArray, List.getElem_cons_zero, List.getElem_cons_succ]
      simp only [List.setIfInBounds_toArray, List.set_cons_succ, List.set_cons_zero]
      refine wpAnyH_take (i := 25) (v := (.slice a2 l e2)) rfl (by kernel_rfl) (by kernel_rfl) (by kernel_rfl) (fun _ _ _ h => h) (Or.inl ⟨by rfl, fun w1 h => by have hc0 := h.2.2.2.2.2; go_simp⟩) hHeld ?_
      dsimp only [Act.put, List.getElem_toArray, List.getElem_cons_zero, List.getElem_cons_succ]
      simp only [List.setIfInBounds_toArray, List.set_cons_succ, List.set_cons_zero]
      refine wpAnyH_ready (rs := [26]) (by kernel_rfl) (by simp) ?_
      refine AllReadyH.cons rfl (fun K hK => ?_) (AllReadyH.nil)
      go_simp
      refine (HEF.out _ (r1.below b_0) (r2.below b_0)).mono ?_
      rintro e w_1 ⟨rfl, hw_1⟩
      subst w_1
      go_wp2_with fail
      refine hK.out _ _ (keep.out b_0) (fun hHeld => ?_)
      clear hK K
      try dsimp only [Act.put]
      refine wpAnyH_take (i := 27) (v := (.bool false)) rfl (by kernel_rfl) (by kernel_rfl) (by kernel_rfl) (fun _ _ _ h => h) (Or.inl ⟨by rfl, ?_⟩) hHeld ?_
      · intro _ _; go_simp
      dsimp only [Act.put, List.getElem_toArray, List.getElem_cons_zero, List.getElem_cons_succ]
      simp only [List.setIfInBounds_toArray, List.set_cons_succ, List.set_cons_zero]
      refine wpAnyH_take (i := 28) (v := (.bool false)) rfl (by kernel_rfl) (by kernel_rfl) (by kernel_rfl) (fun _ _ _ h => h) (Or.inl ⟨by rfl, ?_⟩) hHeld ?_
      · intro _ _; go_simp
      dsimp only [Act.put, List.getElem_toArray, List.getElem_cons_zero, List.getElem_cons_succ]
      simp only [List.setIfInBounds_toArray, List.set_cons_succ, List.set_cons_zero]
      refine wpAnyH_done (by kernel_rfl) ?_ _
      clear hHeld
      have bx := HBX.out.trans (b_0.mono HBX.out.size)
      go_wp2_with fail
      go_roundw
      case rel => exact ⟨k + 1, by omega, by go_num, bx⟩
      case measure => simp [intOf]; omega
    · have hltI : ¬ (k : Int) < (n : Int) := by omega
      have hbx2 := HBW.out.trans (hbx.mono HBW.out.size)
      clear q0 q1 q2 q3
      go_wp2_with fail
      go_ret
      exact ⟨rfl, hbx2⟩
end Go.Proofs.YtjkofmomoljelaaGreatDoor
