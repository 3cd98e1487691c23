/-
  laws.eqField, eqFieldS, eqMsg, eqDecoded.
-/
import Derived.Test.YtacgbajcdngokaaDoorIsoDecS
namespace Go.Proofs.YtacgbajcdngokaaDoor
open Go.RowKit

theorem fldCells_at (L : List (Nat × List UInt8)) : ∀ (vs : List Value), vs.length = L.length → ∀ i, i < L.length → (fldCells L vs)[i * 2]? = some (.int .i64 ((L.getD i (0, [])).1 : Nat)) ∧ (fldCells L vs)[i * 2 + 1]? = some (vs.getD i undef) := by
  induction L with
  | nil => intro vs _ i h; simp at h
  | cons p r ih =>
    intro vs h i hi
    cases vs with
    | nil => simp at h
    | cons v t =>
      cases i with
      | zero => exact ⟨rfl, rfl⟩
      | succ i =>
        have := ih t (by simpa using h) i (by simpa using hi)
        rw [show (i + 1) * 2 = i * 2 + 1 + 1 from by omega]
        exact this
theorem Fs.at {w : World} {lo : Nat} {v : Value} {L : List (Nat × List UInt8)} {vs : List Value} (h : Fs w lo v L vs) {i : Nat} (hi : i < L.length) :
    ∃ g c ai ci, v = .slice (some ⟨g, 0, none⟩) L.length c ∧ w.cell? ⟨g, i * 2, none⟩ = some (.int .i64 ((L.getD i (0, [])).1 : Nat)) ∧ w.cell? ⟨g, i * 2 + 1, none⟩ = some (.slice ai (L.getD i (0, [])).2.length ci) ∧ RowAt w ai (L.getD i (0, [])).2 ∧ vs.getD i undef = .slice ai (L.getD i (0, [])).2.length ci ∧ lo ≤ g ∧ (∀ j, w.frozen? ⟨g, j, none⟩ = false) := by
  have row := h.row
  obtain ⟨c1, c2⟩ := fldCells_at L vs h.len i hi
  obtain ⟨ai, ci, e, r, -, -, -⟩ := (h.own i hi).shape
  rcases row.2 with ⟨hv, hz⟩ | ⟨g, c, cur, hv, hg, hrest⟩
  · omega
  · subst hv
    refine ⟨g, c, ai, ci, rfl, ?_, ?_, r, e, hg, fun j => row.frozenAt j⟩
    · rw [row.cellAt (i * 2) (by omega), c1]
    · rw [row.cellAt (i * 2 + 1) (by omega), c2, e]
theorem Fs.shape {w : World} {lo : Nat} {v : Value} {L : List (Nat × List UInt8)} {vs : List Value} (h : Fs w lo v L vs) : ∃ a c, v = .slice a L.length c := ownR_shape h.row
theorem below_drewN (w : World) (m : Nat) : Below w.heap.size w (w.drewN m) := ⟨rfl, rfl, rfl, Nat.le_refl _, fun _ _ => rfl⟩
set_option maxRecDepth 100000 in
set_option maxHeartbeats 1000000 in
theorem eqField_any (no : Nat) (d : List UInt8) (a1 a2 : Option Addr) (c1 c2 : Nat) (w : World) (hd : d.length ≤ 1048576) (r1 : RowAt w a1 d) (r2 : RowAt w a2 d) :
    Calls Tryd.prog 54 #[.agg #[.int .i64 (no : Int), .slice a1 d.length c1], .agg #[.int .i64 (no : Int), .slice a2 d.length c2]] w fun e w' => e = .returned (.bool true) ∧ Below w.heap.size w w' := by
  have HE := hideT (fun (wx : World) (h1 : RowAt wx a1 d) (h2 : RowAt wx a2 d) => eqByteS_any a1 a2 c1 c2 d wx hd h1 h2)
  obtain ⟨l, hl⟩ : ∃ l, l = d.length := ⟨_, rfl⟩
  rw [← hl] at HE ⊢
  clear hl
  obtain ⟨W, hW⟩ : ∃ x, x = (w.alloc (Obj.cells #[.int .i64 (no : Int), .slice a1 l c1] 47)).alloc (Obj.cells #[.int .i64 (no : Int), .slice a2 l c2] 47) := ⟨_, rfl⟩
  have bW : Below w.heap.size w W := by rw [hW]; exact ((Below.refl _ _).alloc (Nat.le_refl _) _).alloc (by simp) _
  have q1 := r1.below bW
  have q2 := r2.below bW
  have HW := hideT hW
  clear hW r1 r2
  go_enter Tryd.func54, Tryd.ntmps54
  go_wp2_with (go_at_call 9; rw [← show W = _ from HW]; refine (HE.out _ q1 q2).mono ?_; rintro e w2 ⟨rfl, m, hw2⟩)
  go_ret
  exact ⟨rfl, bW.trans ((below_drewN W m).mono bW.size)⟩
set_option maxRecDepth 100000 in
set_option maxHeartbeats 2000000 in
theorem eqFieldS_any (L : List (Nat × List UInt8)) (hsz : ∀ p ∈ L, p.2.length ≤ 1048576) (hL : L.length ≤ 1048576) (v1 v2 : Value) (lo1 lo2 : Nat) (vs1 vs2 : List Value) (w : World) (F1 : Fs w lo1 v1 L vs1) (F2 : Fs w lo2 v2 L vs2) :
    Calls Tryd.prog 33 #[v1, v2] w fun e w' => e = .returned (.bool true) ∧ Below w.heap.size w w' := by
  obtain ⟨x1, c1, rfl⟩ := F1.shape
  obtain ⟨x2, c2, rfl⟩ := F2.shape
  obtain ⟨n, hn⟩ : ∃ n, n = L.length := ⟨_, rfl⟩
  have HN := hideT hn
  rw [← hn] at F1 F2 hL ⊢
  have HSZ := hideT hsz
  clear hn hsz
  go_enter Tryd.func33, Tryd.ntmps33
  go_wp2_with fail
  go_loopw [5] (fun i wr => ∃ k : Nat, k ≤ n ∧ i = .int .i64 (k : Int) ∧ Below w.heap.size w wr) (fun i _ => n - (intOf i).toNat)
  case atStart => exact ⟨0, Nat.zero_le _, rfl, Below.refl _ _⟩
  case round =>
    obtain ⟨k, hk, rfl, hbx⟩ := hrel
    by_cases hlt : k < n
    · have hltI : (k : Int) < (n : Int) := by omega
      obtain ⟨g1, c1', a1, e1, hv1, p1, p2, r1, -⟩ := (F1.below hbx).at (i := k) (by rw [← HN.out]; exact hlt)
      obtain ⟨g2, c2', a2, e2, hv2, p3, p4, r2, -⟩ := (F2.below hbx).at (i := k) (by rw [← HN.out]; exact hlt)
      simp only [Value.slice.injEq] at hv1 hv2
      obtain ⟨rfl, -, rfl⟩ := hv1
      obtain ⟨rfl, -, rfl⟩ := hv2
      have hdl : (L.getD k (0, [])).2.length ≤ 1048576 := by
        have hkl : k < L.length := by rw [← HN.out]; exact hlt
        rw [List.getD_eq_getElem?_getD, List.getElem?_eq_getElem hkl]
        exact HSZ.out _ (List.getElem_mem hkl)
      obtain ⟨no, hno⟩ : ∃ m, m = (L.getD k (0, [])).1 := ⟨_, rfl⟩
      obtain ⟨d, hd⟩ : ∃ m, m = (L.getD k (0, [])).2 := ⟨_, rfl⟩
      rw [← hno] at p1 p3
      rw [← hd] at p2 p4 r1 r2 hdl
      have HEF := hideT (fun (wx : World) (h1 : RowAt wx a1 d) (h2 : RowAt wx a2 d) => eqField_any no d a1 a2 e1 e2 wx hdl h1 h2)
      obtain ⟨l, hl⟩ : ∃ l, l = d.length := ⟨_, rfl⟩
      rw [← hl] at HEF p2 p4
      clear hno hd hl
      go_upto_region 6 with fail
      obtain ⟨V, hV⟩ : ∃ V, V = World.drew wr := ⟨_, rfl⟩
      have b_0 : Below wr.heap.size wr V := by rw [hV]; exact (Below.refl _ _).drew
      have l1 := World.block_lt_of_cell? wr _ p1
      have l2 := World.block_lt_of_cell? wr _ p3
      have keep : Hid (∀ {x}, Below wr.heap.size wr x → x.cell? ⟨g1, k * 2, none⟩ = some (.int .i64 (no : Int)) ∧ x.cell? ⟨g1, k * 2 + 1, none⟩ = some (.slice a1 l e1) ∧ x.cell? ⟨g2, k * 2, none⟩ = some (.int .i64 (no : Int)) ∧ x.cell? ⟨g2, k * 2 + 1, none⟩ = some (.slice a2 l e2)) := fun h => ⟨(h.cell (p := ⟨g1, k * 2, none⟩) l1).trans p1, (h.cell (p := ⟨g1, k * 2 + 1, none⟩) l1).trans p2, (h.cell (p := ⟨g2, k * 2, none⟩) l2).trans p3, (h.cell (p := ⟨g2, k * 2 + 1, none⟩) l2).trans p4⟩
      refine wp_region_held_drew (S := fun x => x.cell? ⟨g1, k * 2, none⟩ = some (.int .i64 (no : Int)) ∧ x.cell? ⟨g1, k * 2 + 1, none⟩ = some (.slice a1 l e1) ∧ x.cell? ⟨g2, k * 2, none⟩ = some (.int .i64 (no : Int)) ∧ x.cell? ⟨g2, k * 2 + 1, none⟩ = some (.slice a2 l e2)) (by kernel_rfl) (by rw [← hV]; exact keep.out b_0) (fun hHeld => ?_)
      rw [← hV] at hHeld ⊢
      clear hV p1 p2 p3 p4
      refine wpAnyH_take (i := 0) (v := (.slice (some ⟨g1, 0, none⟩) n c1)) rfl (by kernel_rfl) (by kernel_rfl) (by kernel_rfl) (fun _ _ _ h => h) (Or.inl ⟨by rfl, ?_⟩) hHeld ?_
      · intro _ _; go_simp
      dsimp only [Act.put, List.getElem_toArray, List.getElem_cons_zero, List.getElem_cons_succ]
      simp only [List.setIfInBounds_toArray, List.set_cons_succ, List.set_cons_zero]
      refine wpAnyH_take (i := 1) (v := (.int .i64 (k : Int))) rfl (by kernel_rfl) (by kernel_rfl) (by kernel_rfl) (fun _ _ _ h => h) (Or.inl ⟨by rfl, ?_⟩) hHeld ?_
      · intro _ _; go_simp
      dsimp only [Act.put, List.getElem_toArray, List.getElem_cons_zero, List.getElem_cons_succ]
      simp only [List.setIfInBounds_toArray, List.set_cons_succ, List.set_cons_zero]
      refine wpAnyH_take (i := 2) (v := (.pointer (some ⟨g1, k * 2, none⟩))) rfl (by kernel_rfl) (by kernel_rfl) (by kernel_rfl) (fun _ _ _ h => h) (Or.inl ⟨by rfl, ?_⟩) hHeld ?_
      · intro _ _; go_simp
      dsimp only [Act.put, List.getElem_toArray, List.getElem_cons_zero, List.getElem_cons_succ]
      simp only [List.setIfInBounds_toArray, List.set_cons_succ, List.set_cons_zero]
      refine wpAnyH_take (i := 3) (v := (.agg #[.int .i64 (no : Int), .slice a1 l e1])) rfl (by kernel_rfl) (by kernel_rfl) (by kernel_rfl) (fun _ _ _ h => h) (Or.inl ⟨by rfl, fun w1 h => by have hc0 := h.1; have hc1 := h.2.1; go_simp⟩) hHeld ?_
      dsimp only [Act.put, List.getElem_toArray, List.getElem_cons_zero, List.getElem_cons_succ]
      simp only [List.setIfInBounds_toArray, List.set_cons_succ, List.set_cons_zero]
      refine wpAnyH_take (i := 4) (v := (.slice (some ⟨g2, 0, none⟩) n c2)) rfl (by kernel_rfl) (by kernel_rfl) (by kernel_rfl) (fun _ _ _ h => h) (Or.inl ⟨by rfl, ?_⟩) hHeld ?_
      · intro _ _; go_simp
      dsimp only [Act.put, List.getElem_toArray, List.getElem_cons_zero, List.getElem_cons_succ]
      simp only [List.setIfInBounds_toArray, List.set_cons_succ, List.set_cons_zero]
      refine wpAnyH_take (i := 5) (v := (.int .i64 (k : Int))) rfl (by kernel_rfl) (by kernel_rfl) (by kernel_rfl) (fun _ _ _ h => h) (Or.inl ⟨by rfl, ?_⟩) hHeld ?_
      · intro _ _; go_simp
      dsimp only [Act.put, List.getElem_toArray, List.getElem_cons_zero, List.getElem_cons_succ]
      simp only [List.setIfInBounds_toArray, List.set_cons_succ, List.set_cons_zero]
      refine wpAnyH_take (i := 6) (v := (.pointer (some ⟨g2, k * 2, none⟩))) rfl (by kernel_rfl) (by kernel_rfl) (by kernel_rfl) (fun _ _ _ h => h) (Or.inl ⟨by rfl, ?_⟩) hHeld ?_
      · intro _ _; go_simp
      dsimp only [Act.put, List.getElem_toArray, List.getElem_cons_zero, List.getElem_cons_succ]
      simp only [List.setIfInBounds_toArray, List.set_cons_succ, List.set_cons_zero]
      refine wpAnyH_take (i := 7) (v := (.agg #[.int .i64 (no : Int), .slice a2 l e2])) rfl (by kernel_rfl) (by kernel_rfl) (by kernel_rfl) (fun _ _ _ h => h) (Or.inl ⟨by rfl, fun w1 h => by have hc0 := h.2.2.1; have hc1 := h.2.2.2; go_simp⟩) hHeld ?_
      dsimp only [Act.put, List.getElem_toArray, List.getElem_cons_zero, List.getElem_cons_succ]
      simp only [List.setIfInBounds_toArray, List.set_cons_succ, List.set_cons_zero]
      refine wpAnyH_ready (rs := [8]) (by kernel_rfl) (by simp) ?_
      refine AllReadyH.cons rfl (fun K hK => ?_) (AllReadyH.nil)
      go_simp
      refine (HEF.out _ (r1.below b_0) (r2.below b_0)).mono ?_
      rintro e w_1 ⟨rfl, bel_1⟩
      have b_1 := b_0.trans (bel_1.mono (by have := b_0.size; omega))
      go_wp2_with fail
      refine hK.out _ _ (keep.out b_1) (fun hHeld => ?_)
      clear hK K
      try dsimp only [Act.put]
      refine wpAnyH_take (i := 9) (v := (.bool false)) rfl (by kernel_rfl) (by kernel_rfl) (by kernel_rfl) (fun _ _ _ h => h) (Or.inl ⟨by rfl, ?_⟩) hHeld ?_
      · intro _ _; go_simp
      dsimp only [Act.put, List.getElem_toArray, List.getElem_cons_zero, List.getElem_cons_succ]
      simp only [List.setIfInBounds_toArray, List.set_cons_succ, List.set_cons_zero]
      refine wpAnyH_done (by kernel_rfl) ?_ _
      clear hHeld
      have bx := hbx.trans (b_1.mono hbx.size)
      go_wp2_with fail
      go_roundw
      case rel => exact ⟨k + 1, by omega, by go_num, bx⟩
      case measure => simp [intOf]; omega
    · have hltI : ¬ (k : Int) < (n : Int) := by omega
      go_wp2_with fail
      go_ret
      exact ⟨rfl, hbx⟩
theorem beq_bytesI (a b : ByteArray) : (a == b) = decide (a = b) := by
  rw [Bool.eq_iff_iff, decide_eq_true_eq]
  cases a with | mk x => cases b with | mk y =>
  show ByteArray.beq ⟨x⟩ ⟨y⟩ = true ↔ _
  simp [ByteArray.beq]
theorem ne_selfB (s : ByteArray) : (s != s) = false := by
  have h : (s == s) = true := by rw [beq_bytesI]; exact decide_eq_true rfl
  unfold bne; rw [h]; rfl
set_option maxRecDepth 100000 in
set_option maxHeartbeats 1000000 in
theorem eqMsg_any (s : ByteArray) (L : List (Nat × List UInt8)) (hsz : ∀ p ∈ L, p.2.length ≤ 1048576) (hL : L.length ≤ 1048576) (v1 v2 : Value) (lo1 lo2 : Nat) (vs1 vs2 : List Value) (w : World) (F1 : Fs w lo1 v1 L vs1) (F2 : Fs w lo2 v2 L vs2) :
    Calls Tryd.prog 10 #[.agg #[.string s, v1], .agg #[.string s, v2]] w fun e w' => e = .returned (.bool true) ∧ Below w.heap.size w w' := by
  have hss := ne_selfB s
  obtain ⟨W, hW⟩ : ∃ x, x = (w.alloc (Obj.cells #[.string s, v1] 30)).alloc (Obj.cells #[.string s, v2] 30) := ⟨_, rfl⟩
  have bW : Below w.heap.size w W := by rw [hW]; exact ((Below.refl _ _).alloc (Nat.le_refl _) _).alloc (by simp) _
  have HE := hideT (eqFieldS_any L hsz hL v1 v2 lo1 lo2 vs1 vs2 W (F1.below bW) (F2.below bW))
  have HW := hideT hW
  clear hW F1 F2
  go_enter Tryd.func10, Tryd.ntmps10
  go_wp2_with (go_at_call 33; rw [← show W = _ from HW]; refine HE.out.mono ?_; rintro e w2 ⟨rfl, b2⟩)
  go_ret
  exact ⟨rfl, bW.trans (b2.mono bW.size)⟩
set_option maxRecDepth 100000 in
set_option maxHeartbeats 2000000 in
theorem eqDecoded_any (c p m : Int) (s : ByteArray) (L : List (Nat × List UInt8)) (hsz : ∀ p ∈ L, p.2.length ≤ 1048576) (hL : L.length ≤ 1048576) (v1 v2 : Value) (lo1 lo2 : Nat) (w : World) (F1 : FsX w lo1 v1 L) (F2 : FsX w lo2 v2 L) :
    Calls Tryd.prog 17 #[.agg #[.int .i64 c, .int .i64 p, .string s, v1, .int .i64 m], .agg #[.int .i64 c, .int .i64 p, .string s, v2, .int .i64 m]] w fun e w' => e = .returned (.bool true) ∧ Below w.heap.size w w' := by
  obtain ⟨vs1, F1⟩ := F1
  obtain ⟨vs2, F2⟩ := F2
  obtain ⟨W, hW⟩ : ∃ x, x = (w.alloc (Obj.cells #[.int .i64 c, .int .i64 p, .string s, v1, .int .i64 m] 38)).alloc (Obj.cells #[.int .i64 c, .int .i64 p, .string s, v2, .int .i64 m] 38) := ⟨_, rfl⟩
  have k1 : Blk W w.heap.size 38 [.int .i64 c, .int .i64 p, .string s, v1, .int .i64 m] := by rw [hW]; exact (Blk.new w _ _).below (below_newT _ _) (by simp)
  have k2 : Blk W (w.heap.size + 1) 38 [.int .i64 c, .int .i64 p, .string s, v2, .int .i64 m] := by rw [hW]; have h := Blk.new (w.alloc (Obj.cells #[.int .i64 c, .int .i64 p, .string s, v1, .int .i64 m] 38)) 38 #[.int .i64 c, .int .i64 p, .string s, v2, .int .i64 m]; simpa using h
  have bW : Below w.heap.size w W := by rw [hW]; exact ((Below.refl _ _).alloc (Nat.le_refl _) _).alloc (by simp) _
  have HE := hideT (eqMsg_any s L hsz hL v1 v2 lo1 lo2 vs1 vs2 W (F1.below bW) (F2.below bW))
  have HW := hideT hW
  clear hW F1 F2
  go_enter Tryd.func17, Tryd.ntmps17
  go_upto_region 1 with fail
  rw [← show W = _ from HW]
  clear HW
  have q0 := k1.cell 0 (by simp)
  have q1 := k1.cell 1 (by simp)
  have q2 := k1.cell 2 (by simp)
  have q3 := k1.cell 3 (by simp)
  have t0 := k2.cell 0 (by simp)
  have t1 := k2.cell 1 (by simp)
  have t2 := k2.cell 2 (by simp)
  have t3 := k2.cell 3 (by simp)
  go_wp2_with fail
  refine HE.out.mono ?_
  rintro e w2 ⟨rfl, b2⟩
  have q4 := (k1.below b2 k1.lt).cell 4 (by simp)
  have t4 := (k2.below b2 k2.lt).cell 4 (by simp)
  go_wp2_with fail
  go_ret
  exact ⟨rfl, bW.trans (b2.mono bW.size)⟩
end Go.Proofs.YtacgbajcdngokaaDoor
