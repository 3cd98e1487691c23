import Derived.Test.YtjkofmomoljelaaGreatDoorSfZ
import Derived.Laws.CopyOwn
namespace Go.Proofs.YtjkofmomoljelaaGreatDoor
open Go.RowKit
theorem Fs.keep {w w' : World} {lo g : Nat} {v : Value} {L : List (Nat × List UInt8)} {vs : List Value} (h : Fs w lo v L vs) (hg : w.grownBy w' (some g)) (hgl : g < lo) : Fs w' lo v L vs := by
  refine ⟨h.len, World.ownsRow.kept h.row hg ?_, fun i hi => (h.own i hi).grown hg ?_, h.sep, h.ap⟩
  · cases hb : v.ownBlock with
    | none => exact .inl rfl
    | some k => exact .inr (fun e => by cases e; have := (h.row.lt _ hb).1; omega)
  · cases hb : (vs.getD i undef).ownBlock with
    | none => exact .inl rfl
    | some k => exact .inr (fun e => by cases e; have := (own_lt (h.own i hi) _ hb).1; omega)
end Go.Proofs.YtjkofmomoljelaaGreatDoor
namespace Go.Proofs.YtjkofmomoljelaaGreatDoor
open Go.RowKit
theorem fldCells_at (L : List (Nat × List UInt8)) : ∀ (vs : List Value), vs.length = L.length → ∀ i, i < L.length → (fldCells L vs)[i * 2]? = some (.int .i64 ((L.getD i (0, [])).1 : Nat)) ∧ (fldCells L vs)[i * 2 + 1]? = some (vs.getD i undef) := by
  induction L with
  | nil => intro vs _ i h; simp at h
  | cons p r ih =>
    intro vs h i hi
    cases vs with
    | nil => simp at h
    | cons v t =>
      cases i with
      | zero => exact ⟨rfl, rfl⟩
      | succ i =>
        have := ih t (by simpa using h) i (by simpa using hi)
        rw [show (i + 1) * 2 = i * 2 + 1 + 1 from by omega]
        exact this
theorem Fs.at {w : World} {lo : Nat} {v : Value} {L : List (Nat × List UInt8)} {vs : List Value} (h : Fs w lo v L vs) {i : Nat} (hi : i < L.length) :
    ∃ g c ai ci, v = .slice (some ⟨g, 0, none⟩) L.length c ∧ w.cell? ⟨g, i * 2, none⟩ = some (.int .i64 ((L.getD i (0, [])).1 : Nat)) ∧ w.cell? ⟨g, i * 2 + 1, none⟩ = some (.slice ai (L.getD i (0, [])).2.length ci) ∧ RowAt w ai (L.getD i (0, [])).2 ∧ vs.getD i undef = .slice ai (L.getD i (0, [])).2.length ci ∧ lo ≤ g ∧ (∀ j, w.frozen? ⟨g, j, none⟩ = false) := by
  have row := h.row
  obtain ⟨c1, c2⟩ := fldCells_at L vs h.len i hi
  obtain ⟨ai, ci, e, r, -, -, -⟩ := (h.own i hi).shape
  rcases row.2 with ⟨hv, hz⟩ | ⟨g, c, cur, hv, hg, hrest⟩
  · omega
  · subst hv
    refine ⟨g, c, ai, ci, rfl, ?_, ?_, r, e, hg, fun j => row.frozenAt j⟩
    · rw [row.cellAt (i * 2) (by omega), c1]
    · rw [row.cellAt (i * 2 + 1) (by omega), c2, e]
theorem Fs.shape {w : World} {lo : Nat} {v : Value} {L : List (Nat × List UInt8)} {vs : List Value} (h : Fs w lo v L vs) : ∃ a c, v = .slice a L.length c := ownR_shape h.row
theorem below_drewN (w : World) (m : Nat) : Below w.heap.size w (w.drewN m) := ⟨rfl, rfl, rfl, Nat.le_refl _, fun _ _ => rfl⟩
set_option maxRecDepth 100000 in
set_option maxHeartbeats 1000000 in
theorem eqField_any (no : Nat) (d : List UInt8) (a1 a2 : Option Addr) (c1 c2 : Nat) (w : World) (hd : d.length ≤ 1048576) (r1 : RowAt w a1 d) (r2 : RowAt w a2 d) :
    Calls Tryz.prog 90 #[.agg #[.int .i64 (no : Int), .slice a1 d.length c1], .agg #[.int .i64 (no : Int), .slice a2 d.length c2]] w fun e w' => e = .returned (.bool true) ∧ Below w.heap.size w w' := by
  have HE := hideT (fun (wx : World) (h1 : RowAt wx a1 d) (h2 : RowAt wx a2 d) => eqByteS_any a1 a2 c1 c2 d wx hd h1 h2)
  obtain ⟨l, hl⟩ : ∃ l, l = d.length := ⟨_, rfl⟩
  rw [← hl] at HE ⊢
  clear hl
  obtain ⟨W, hW⟩ : ∃ x, x = (w.alloc (Obj.cells #[.int .i64 (no : Int), .slice a1 l c1] 37)).alloc (Obj.cells #[.int .i64 (no : Int), .slice a2 l c2] 37) := ⟨_, rfl⟩
  have bW : Below w.heap.size w W := by rw [hW]; exact ((Below.refl _ _).alloc (Nat.le_refl _) _).alloc (by simp) _
  have q1 := r1.below bW
  have q2 := r2.below bW
  have HW := hideT hW
  clear hW r1 r2
  go_enter Tryz.func90, Tryz.ntmps90
  go_wp2_with (go_at_call 16; rw [← show W = _ from HW]; refine (HE.out _ q1 q2).mono ?_; rintro e w2 ⟨rfl, m, hw2⟩)
  go_ret
  exact ⟨rfl, bW.trans ((below_drewN W m).mono bW.size)⟩
set_option maxRecDepth 100000 in
set_option maxHeartbeats 2000000 in
theorem eqFieldS_any (L : List (Nat × List UInt8)) (hsz : ∀ p ∈ L, p.2.length ≤ 1048576) (hL : L.length ≤ 1048576) (v1 v2 : Value) (lo1 lo2 : Nat) (vs1 vs2 : List Value) (w : World) (F1 : Fs w lo1 v1 L vs1) (F2 : Fs w lo2 v2 L vs2) :
    Calls Tryz.prog 49 #[v1, v2] w fun e w' => e = .returned (.bool true) ∧ Below w.heap.size w w' := by
  obtain ⟨x1, c1, rfl⟩ := F1.shape
  obtain ⟨x2, c2, rfl⟩ := F2.shape
  obtain ⟨n, hn⟩ : ∃ n, n = L.length := ⟨_, rfl⟩
  have HN := hideT hn
  rw [← hn] at F1 F2 hL ⊢
  have HSZ := hideT hsz
  clear hn hsz
  go_enter Tryz.func49, Tryz.ntmps49
  go_wp2_with fail
  go_loopw [5] (fun i wr => ∃ k : Nat, k ≤ n ∧ i = .int .i64 (k : Int) ∧ Below w.heap.size w wr) (fun i _ => n - (intOf i).toNat)
  case atStart => exact ⟨0, Nat.zero_le _, rfl, Below.refl _ _⟩
  case round =>
    obtain ⟨k, hk, rfl, hbx⟩ := hrel
    by_cases hlt : k < n
    · have hltI : (k : Int) < (n : Int) := by omega
      obtain ⟨g1, c1', a1, e1, hv1, p1, p2, r1, -⟩ := (F1.below hbx).at (i := k) (by rw [← HN.out]; exact hlt)
      obtain ⟨g2, c2', a2, e2, hv2, p3, p4, r2, -⟩ := (F2.below hbx).at (i := k) (by rw [← HN.out]; exact hlt)
      simp only [Value.slice.injEq] at hv1 hv2
      obtain ⟨rfl, -, rfl⟩ := hv1
      obtain ⟨rfl, -, rfl⟩ := hv2
      have hdl : (L.getD k (0, [])).2.length ≤ 1048576 := by
        have hkl : k < L.length := by rw [← HN.out]; exact hlt
        rw [List.getD_eq_getElem?_getD, List.getElem?_eq_getElem hkl]
        exact HSZ.out _ (List.getElem_mem hkl)
      obtain ⟨no, hno⟩ : ∃ m, m = (L.getD k (0, [])).1 := ⟨_, rfl⟩
      obtain ⟨d, hd⟩ : ∃ m, m = (L.getD k (0, [])).2 := ⟨_, rfl⟩
      rw [← hno] at p1 p3
      rw [← hd] at p2 p4 r1 r2 hdl
      have HEF := hideT (fun (wx : World) (h1 : RowAt wx a1 d) (h2 : RowAt wx a2 d) => eqField_any no d a1 a2 e1 e2 wx hdl h1 h2)
      obtain ⟨l, hl⟩ : ∃ l, l = d.length := ⟨_, rfl⟩
      rw [← hl] at HEF p2 p4
      clear hno hd hl
      go_upto_region 6 with fail
      obtain ⟨V, hV⟩ : ∃ V, V = World.drew wr := ⟨_, rfl⟩
      have b_0 : Below wr.heap.size wr V := by rw [hV]; exact (Below.refl _ _).drew
      have l1 := World.block_lt_of_cell? wr _ p1
      have l2 := World.block_lt_of_cell? wr _ p3
      have keep : Hid (∀ {x}, Below wr.heap.size wr x → x.cell? ⟨g1, k * 2, none⟩ = some (.int .i64 (no : Int)) ∧ x.cell? ⟨g1, k * 2 + 1, none⟩ = some (.slice a1 l e1) ∧ x.cell? ⟨g2, k * 2, none⟩ = some (.int .i64 (no : Int)) ∧ x.cell? ⟨g2, k * 2 + 1, none⟩ = some (.slice a2 l e2)) := fun h => ⟨(h.cell (p := ⟨g1, k * 2, none⟩) l1).trans p1, (h.cell (p := ⟨g1, k * 2 + 1, none⟩) l1).trans p2, (h.cell (p := ⟨g2, k * 2, none⟩) l2).trans p3, (h.cell (p := ⟨g2, k * 2 + 1, none⟩) l2).trans p4⟩
      refine wp_region_held_drew (S := fun x => x.cell? ⟨g1, k * 2, none⟩ = some (.int .i64 (no : Int)) ∧ x.cell? ⟨g1, k * 2 + 1, none⟩ = some (.slice a1 l e1) ∧ x.cell? ⟨g2, k * 2, none⟩ = some (.int .i64 (no : Int)) ∧ x.cell? ⟨g2, k * 2 + 1, none⟩ = some (.slice a2 l e2)) (by kernel_rfl) (by rw [← hV]; exact keep.out b_0) (fun hHeld => ?_)
      rw [← hV] at hHeld ⊢
      clear hV p1 p2 p3 p4
      refine wpAnyH_take (i := 0) (v := (.slice (some ⟨g1, 0, none⟩) n c1)) rfl (by kernel_rfl) (by kernel_rfl) (by kernel_rfl) (fun _ _ _ h => h) (Or.inl ⟨by rfl, ?_⟩) hHeld ?_
      · intro _ _; go_simp
      dsimp only [Act.put, List.getElem_toArray, List.getElem_cons_zero, List.getElem_cons_succ]
      simp only [List.setIfInBounds_toArray, List.set_cons_succ, List.set_cons_zero]
      refine wpAnyH_take (i := 1) (v := (.int .i64 (k : Int))) rfl (by kernel_rfl) (by kernel_rfl) (by kernel_rfl) (fun _ _ _ h => h) (Or.inl ⟨by rfl, ?_⟩) hHeld ?_
      · intro _ _; go_simp
      dsimp only [Act.put, List.getElem_toArray, List.getElem_cons_zero, List.getElem_cons_succ]
      simp only [List.setIfInBounds_toArray, List.set_cons_succ, List.set_cons_zero]
      refine wpAnyH_take (i := 2) (v := (.pointer (some ⟨g1, k * 2, none⟩))) rfl (by kernel_rfl) (by kernel_rfl) (by kernel_rfl) (fun _ _ _ h => h) (Or.inl ⟨by rfl, ?_⟩) hHeld ?_
      · intro _ _; go_simp
      dsimp only [Act.put, List.getElem_toArray, List.getElem_cons_zero, List.getElem_cons_succ]
      simp only [List.setIfInBounds_toArray, List.set_cons_succ, List.set_cons_zero]
      refine wpAnyH_take (i := 3) (v := (.agg #[.int .i64 (no : Int), .slice a1 l e1])) rfl (by kernel_rfl) (by kernel_rfl) (by kernel_rfl) (fun _ _ _ h => h) (Or.inl ⟨by rfl, fun w1 h => by have hc0 := h.1; have hc1 := h.2.1; go_simp⟩) hHeld ?_
      dsimp only [Act.put, List.getElem_toArray, List.getElem_cons_zero, List.getElem_cons_succ]
      simp only [List.setIfInBounds_toArray, List.set_cons_succ, List.set_cons_zero]
      refine wpAnyH_take (i := 4) (v := (.slice (some ⟨g2, 0, none⟩) n c2)) rfl (by kernel_rfl) (by kernel_rfl) (by kernel_rfl) (fun _ _ _ h => h) (Or.inl ⟨by rfl, ?_⟩) hHeld ?_
      · intro _ _; go_simp
      dsimp only [Act.put, List.getElem_toArray, List.getElem_cons_zero, List.getElem_cons_succ]
      simp only [List.setIfInBounds_toArray, List.set_cons_succ, List.set_cons_zero]
      refine wpAnyH_take (i := 5) (v := (.int .i64 (k : Int))) rfl (by kernel_rfl) (by kernel_rfl) (by kernel_rfl) (fun _ _ _ h => h) (Or.inl ⟨by rfl, ?_⟩) hHeld ?_
      · intro _ _; go_simp
      dsimp only [Act.put, List.getElem_toArray, List.getElem_cons_zero, List.getElem_cons_succ]
      simp only [List.setIfInBounds_toArray, List.set_cons_succ, List.set_cons_zero]
      refine wpAnyH_take (i := 6) (v := (.pointer (some ⟨g2, k * 2, none⟩))) rfl (by kernel_rfl) (by kernel_rfl) (by kernel_rfl) (fun _ _ _ h => h) (Or.inl ⟨by rfl, ?_⟩) hHeld ?_
      · intro _ _; go_simp
      dsimp only [Act.put, List.getElem_toArray, List.getElem_cons_zero, List.getElem_cons_succ]
      simp only [List.setIfInBounds_toArray, List.set_cons_succ, List.set_cons_zero]
      refine wpAnyH_take (i := 7) (v := (.agg #[.int .i64 (no : Int), .slice a2 l e2])) rfl (by kernel_rfl) (by kernel_rfl) (by kernel_rfl) (fun _ _ _ h => h) (Or.inl ⟨by rfl, fun w1 h => by have hc0 := h.2.2.1; have hc1 := h.2.2.2; go_simp⟩) hHeld ?_
      dsimp only [Act.put, List.getElem_toArray, List.getElem_cons_zero, List.getElem_cons_succ]
      simp only [List.setIfInBounds_toArray, List.set_cons_succ, List.set_cons_zero]
      refine wpAnyH_ready (rs := [8]) (by kernel_rfl) (by simp) ?_
      refine AllReadyH.cons rfl (fun K hK => ?_) (AllReadyH.nil)
      go_simp
      refine (HEF.out _ (r1.below b_0) (r2.below b_0)).mono ?_
      rintro e w_1 ⟨rfl, bel_1⟩
      have b_1 := b_0.trans (bel_1.mono (by have := b_0.size; omega))
      go_wp2_with fail
      refine hK.out _ _ (keep.out b_1) (fun hHeld => ?_)
      clear hK K
      try dsimp only [Act.put]
      refine wpAnyH_take (i := 9) (v := (.bool false)) rfl (by kernel_rfl) (by kernel_rfl) (by kernel_rfl) (fun _ _ _ h => h) (Or.inl ⟨by rfl, ?_⟩) hHeld ?_
      · intro _ _; go_simp
      dsimp only [Act.put, List.getElem_toArray, List.getElem_cons_zero, List.getElem_cons_succ]
      simp only [List.setIfInBounds_toArray, List.set_cons_succ, List.set_cons_zero]
      refine wpAnyH_done (by kernel_rfl) ?_ _
      clear hHeld
      have bx := hbx.trans (b_1.mono hbx.size)
      go_wp2_with fail
      go_roundw
      case rel => exact ⟨k + 1, by omega, by go_num, bx⟩
      case measure => simp [intOf]; omega
    · have hltI : ¬ (k : Int) < (n : Int) := by omega
      go_wp2_with fail
      go_ret
      exact ⟨rfl, hbx⟩
theorem beq_bytesI (a b : ByteArray) : (a == b) = decide (a = b) := by
  rw [Bool.eq_iff_iff, decide_eq_true_eq]
  cases a with | mk x => cases b with | mk y =>
  show ByteArray.beq ⟨x⟩ ⟨y⟩ = true ↔ _
  simp [ByteArray.beq]
theorem ne_selfB (s : ByteArray) : (s != s) = false := by
  have h : (s == s) = true := by rw [beq_bytesI]; exact decide_eq_true rfl
  unfold bne; rw [h]; rfl
set_option maxRecDepth 100000 in
set_option maxHeartbeats 1000000 in
theorem eqMsg_any (s : ByteArray) (L : List (Nat × List UInt8)) (hsz : ∀ p ∈ L, p.2.length ≤ 1048576) (hL : L.length ≤ 1048576) (v1 v2 : Value) (lo1 lo2 : Nat) (vs1 vs2 : List Value) (w : World) (F1 : Fs w lo1 v1 L vs1) (F2 : Fs w lo2 v2 L vs2) :
    Calls Tryz.prog 20 #[.agg #[.string s, v1], .agg #[.string s, v2]] w fun e w' => e = .returned (.bool true) ∧ Below w.heap.size w w' := by
  have hss := ne_selfB s
  obtain ⟨W, hW⟩ : ∃ x, x = (w.alloc (Obj.cells #[.string s, v1] 30)).alloc (Obj.cells #[.string s, v2] 30) := ⟨_, rfl⟩
  have bW : Below w.heap.size w W := by rw [hW]; exact ((Below.refl _ _).alloc (Nat.le_refl _) _).alloc (by simp) _
  have HE := hideT (eqFieldS_any L hsz hL v1 v2 lo1 lo2 vs1 vs2 W (F1.below bW) (F2.below bW))
  have HW := hideT hW
  clear hW F1 F2
  go_enter Tryz.func20, Tryz.ntmps20
  go_wp2_with (go_at_call 49; rw [← show W = _ from HW]; refine HE.out.mono ?_; rintro e w2 ⟨rfl, b2⟩)
  go_ret
  exact ⟨rfl, bW.trans (b2.mono bW.size)⟩
end Go.Proofs.YtjkofmomoljelaaGreatDoor
namespace Go.Proofs.YtjkofmomoljelaaGreatDoor
open Go.RowKit
/-- What the marks make of a row of fields, and the next mark. -/
def markF : List (Nat × List UInt8) → Nat → List (Nat × List UInt8)
  | [], _ => []
  | p :: r, k => (k, marks (k + 1) p.2.length) :: markF r (k + 1 + p.2.length)
def markN : List (Nat × List UInt8) → Nat → Nat
  | [], k => k
  | p :: r, k => markN r (k + 1 + p.2.length)
theorem markF_length (L : List (Nat × List UInt8)) : ∀ k, (markF L k).length = L.length := by
  induction L with
  | nil => intro k; rfl
  | cons p r ih => intro k; show (markF r _).length + 1 = r.length + 1; rw [ih]
theorem markF_snoc (L : List (Nat × List UInt8)) (p : Nat × List UInt8) : ∀ k, markF (L ++ [p]) k = markF L k ++ [(markN L k, marks (markN L k + 1) p.2.length)] := by
  induction L with
  | nil => intro k; rfl
  | cons q r ih => intro k; show _ :: markF (r ++ [p]) _ = _; rw [ih]; rfl
theorem markN_snoc (L : List (Nat × List UInt8)) (p : Nat × List UInt8) : ∀ k, markN (L ++ [p]) k = markN L k + 1 + p.2.length := by
  induction L with
  | nil => intro k; rfl
  | cons q r ih => intro k; show markN (r ++ [p]) _ = _; rw [ih]; rfl
theorem markN_le (L : List (Nat × List UInt8)) (hsz : ∀ p ∈ L, p.2.length ≤ 4096) : ∀ k, markN L k ≤ k + L.length * 4097 := by
  induction L with
  | nil => intro k; show k ≤ _; omega
  | cons q r ih =>
    intro k
    have h1 := ih (fun p hp => hsz p (List.mem_cons_of_mem _ hp)) (k + 1 + q.2.length)
    have h2 := hsz q List.mem_cons_self
    show markN r _ ≤ _
    rw [List.length_cons]
    omega
/-- The fields with the first i marked. -/
def mkAt (L : List (Nat × List UInt8)) (k i : Nat) : List (Nat × List UInt8) := markF (L.take i) k ++ L.drop i
theorem mkAt_length (L : List (Nat × List UInt8)) (k i : Nat) : (mkAt L k i).length = L.length := by
  unfold mkAt; rw [List.length_append, markF_length, List.length_take, List.length_drop]; omega
theorem mkAt_zero (L : List (Nat × List UInt8)) (k : Nat) : mkAt L k 0 = L := rfl
theorem mkAt_all (L : List (Nat × List UInt8)) (k : Nat) : mkAt L k L.length = markF L k := by unfold mkAt; simp
theorem mkAt_get (L : List (Nat × List UInt8)) (k i : Nat) (hi : i < L.length) : (mkAt L k i).getD i (0, []) = L.getD i (0, []) := by
  unfold mkAt
  rw [List.getD_eq_getElem?_getD, List.getElem?_append_right (by rw [markF_length, List.length_take]; omega), markF_length, List.length_take, show i - min i L.length = 0 from by omega, List.getElem?_drop, Nat.add_zero, ← List.getD_eq_getElem?_getD]
theorem mkAt_step (L : List (Nat × List UInt8)) (k i : Nat) (hi : i < L.length) : (mkAt L k i).set i (markN (L.take i) k, marks (markN (L.take i) k + 1) (L.getD i (0, [])).2.length) = mkAt L k (i + 1) ∧ markN (L.take (i + 1)) k = markN (L.take i) k + 1 + (L.getD i (0, [])).2.length := by
  have e : L.take (i + 1) = L.take i ++ [L.getD i (0, [])] := by rw [List.take_succ_eq_append_getElem hi, List.getD_eq_getElem?_getD, List.getElem?_eq_getElem hi]; rfl
  have hl : (markF (L.take i) k).length = i := by rw [markF_length, List.length_take]; omega
  refine ⟨?_, by rw [e, markN_snoc]⟩
  unfold mkAt
  rw [e, markF_snoc, List.drop_eq_getElem_cons hi, List.set_append_right _ _ (by omega), hl, Nat.sub_self, List.set_cons_zero, List.append_assoc]
  rfl
theorem fldCells_set (L : List (Nat × List UInt8)) : ∀ (vs : List Value), vs.length = L.length → ∀ i, i < L.length → ∀ p : Nat × List UInt8, fldCells (L.set i p) vs = (fldCells L vs).set (i * 2) (.int .i64 (p.1 : Int)) := by
  induction L with
  | nil => intro vs _ i h; simp at h
  | cons q r ih =>
    intro vs h i hi p
    cases vs with
    | nil => simp at h
    | cons v t =>
      cases i with
      | zero => rfl
      | succ i =>
        have := ih t (by simpa using h) i (by simpa using hi) p
        rw [show (i + 1) * 2 = i * 2 + 1 + 1 from by omega]
        show Value.int .i64 (q.1 : Int) :: v :: fldCells (r.set i p) t = _
        rw [this]
        rfl
theorem getD_set_self {α : Type} (l : List α) (i : Nat) (x d : α) (h : i < l.length) : (l.set i x).getD i d = x := by simp [List.getD_eq_getElem?_getD, h]
theorem getD_set_ne {α : Type} (l : List α) (i j : Nat) (x d : α) (h : i ≠ j) : (l.set i x).getD j d = l.getD j d := by simp [List.getD_eq_getElem?_getD, List.getElem?_set_ne h]
/-- The number of one field is written. -/
theorem Fs.putNo {w : World} {lo g n c : Nat} {L : List (Nat × List UInt8)} {vs : List Value} (h : Fs w lo (.slice (some ⟨g, 0, none⟩) n c) L vs) (i k : Nat) (hi : i < L.length) :
    Fs (w.setCell ⟨g, i * 2, none⟩ (.int .i64 (k : Int))) lo (.slice (some ⟨g, 0, none⟩) n c) (L.set i (k, (L.getD i (0, [])).2)) vs := by
  have hob : (Value.slice (some ⟨g, 0, none⟩) n c).ownBlock = some g := rfl
  obtain ⟨x, y, e⟩ := h.shape
  have en : n = L.length := by simp only [Value.slice.injEq] at e; exact e.2.1
  refine ⟨by rw [List.length_set]; exact h.len, ?_, ?_, fun a b hab hb => ?_, fun a ha => ?_⟩
  · rw [List.length_set, fldCells_set L vs h.len i hi]
    have row := h.row
    subst en
    exact (row.stored (i * 2) _).1
  · intro j hj
    rw [List.length_set] at hj
    have e2 : ((L.set i (k, (L.getD i (0, [])).2)).getD j (0, [])).2 = (L.getD j (0, [])).2 := by
      by_cases hij : i = j
      · subst hij; rw [getD_set_self _ _ _ _ hi]
      · rw [getD_set_ne _ _ _ _ _ hij]
    rw [e2]
    obtain ⟨t, q⟩ := h.own j hj
    refine ⟨t, ownsRow_setCell_other q ?_ _⟩
    intro ex
    exact h.ap j hj g ex hob
  · rw [List.length_set] at hb; exact h.sep a b hab hb
  · rw [List.length_set] at ha; exact h.ap a ha
/-- The bytes of one field are written. -/
theorem Fs.putData {w w' : World} {lo : Nat} {v : Value} {L : List (Nat × List UInt8)} {vs : List Value} (h : Fs w lo v L vs) (i : Nat) (hi : i < L.length) (d : List UInt8) (hown : Own w' lo (vs.getD i undef) d) (hg : w.grownBy w' (vs.getD i undef).ownBlock) :
    Fs w' lo v (L.set i ((L.getD i (0, [])).1, d)) vs := by
  refine ⟨by rw [List.length_set]; exact h.len, ?_, ?_, fun a b hab hb => ?_, fun a ha => ?_⟩
  · have e : fldCells (L.set i ((L.getD i (0, [])).1, d)) vs = fldCells L vs := by
      rw [fldCells_set L vs h.len i hi]
      have c := (fldCells_at L vs h.len i hi).1
      obtain ⟨hlt, hc⟩ := List.getElem?_eq_some_iff.1 c
      rw [← hc, List.set_getElem_self]
    rw [List.length_set, e]
    refine World.ownsRow.kept h.row hg ?_
    cases hb : v.ownBlock with
    | none => exact .inl rfl
    | some k => exact .inr (fun e => h.ap i hi k e.symm hb)
  · intro j hj
    rw [List.length_set] at hj
    by_cases hij : i = j
    · subst hij; rw [getD_set_self _ _ _ _ hi]; exact hown
    · rw [getD_set_ne _ _ _ _ _ hij]
      refine (h.own j hj).grown hg ?_
      cases hb : (vs.getD j undef).ownBlock with
      | none => exact .inl rfl
      | some k =>
        refine .inr (fun e => ?_)
        rcases Nat.lt_or_gt_of_ne hij with hlt | hlt
        · exact h.sep i j hlt hj k e.symm hb
        · exact h.sep j i hlt hi k hb e.symm
  · rw [List.length_set] at hb; exact h.sep a b hab hb
  · rw [List.length_set] at ha; exact h.ap a ha
/-- The blocks from hi on are as they were. -/
def Keeps (hi : Nat) (w w' : World) : Prop := ∀ g, hi ≤ g → g < w.heap.size → w'.heap[g]? = w.heap[g]?
theorem Keeps.refl (hi : Nat) (w : World) : Keeps hi w w := fun _ _ _ => rfl
theorem Keeps.blk {hi : Nat} {w w' : World} (h : Keeps hi w w') {g t : Nat} {cs : List Value} (hb : Blk w g t cs) (hg : hi ≤ g) : Blk w' g t cs := (h g hg hb.lt).trans hb
theorem Keeps.step {hi : Nat} {w a b : World} {r : Option Nat} (h : Keeps hi w a) (hs : w.heap.size ≤ a.heap.size) (hg : a.grownBy b r) (hr : ∀ g, r = some g → g < hi) : Keeps hi w b :=
  fun g h1 h2 => (hg.block g (Nat.lt_of_lt_of_le h2 hs) (fun e => by first | exact absurd (hr g e) (by omega) | exact absurd (hr g e.symm) (by omega))).trans (h g h1 h2)
structure Under (v : Value) (vs : List Value) (n hi : Nat) : Prop where
  v : ∀ g, v.ownBlock = some g → g < hi
  vs : ∀ i, i < n → ∀ g, (vs.getD i undef).ownBlock = some g → g < hi
theorem Fs.under {w : World} {lo : Nat} {v : Value} {L : List (Nat × List UInt8)} {vs : List Value} (h : Fs w lo v L vs) : Under v vs L.length w.heap.size :=
  ⟨fun g hg => (h.row.lt g hg).2, fun i hi g hg => (own_lt (h.own i hi) g hg).2⟩
set_option maxRecDepth 100000 in
set_option maxHeartbeats 2000000 in
theorem markFieldS_any (L : List (Nat × List UInt8)) (hsz : ∀ p ∈ L, p.2.length ≤ 4096) (hL : L.length ≤ 200) (k : Nat) (hk : k ≤ 10) (v : Value) (lo : Nat) (vs : List Value) (w : World) (F : Fs w lo v L vs) (hlo : lo ≤ w.heap.size) (hi : Nat) (U : Under v vs L.length hi) :
    Calls Tryz.prog 50 #[v, .int .i64 (k : Int)] w fun e w' => e = .returned (.int .i64 (markN L k : Nat)) ∧ Fs w' lo v (markF L k) vs ∧ Below lo w w' ∧ Keeps hi w w' := by
  obtain ⟨x1, c1, rfl⟩ := F.shape
  obtain ⟨n, hn⟩ : ∃ n, n = L.length := ⟨_, rfl⟩
  have HN := hideT hn
  have HALL := hideT (mkAt_all L k)
  have HAN : Hid (markN (L.take n) k = markN L k) := by rw [hn, List.take_of_length_le (Nat.le_refl _)]; exact (rfl : markN L k = markN L k)
  rw [← hn] at F hL HALL U ⊢
  have HU := hideT U
  clear U
  have HSZ := hideT hsz
  clear hn hsz
  go_enter Tryz.func50, Tryz.ntmps50
  go_wp2_with fail
  go_loopw [1, 5] (fun kv i wr => ∃ j : Nat, j ≤ n ∧ i = .int .i64 (j : Int) ∧ kv = .int .i64 (markN (L.take j) k : Nat) ∧ Fs wr lo (.slice x1 n c1) (mkAt L k j) vs ∧ Below lo w wr ∧ Hid (Keeps hi w wr)) (fun _ i _ => n - (intOf i).toNat)
  case atStart => exact ⟨0, Nat.zero_le _, rfl, rfl, F, Below.refl _ _, Keeps.refl _ _⟩
  case round =>
    obtain ⟨j, hj, rfl, rfl, FR, hbx, HKP⟩ := hrel
    by_cases hlt : j < n
    · have hltI : (j : Int) < (n : Int) := by omega
      have hjL : j < L.length := by rw [← HN.out]; exact hlt
      have hjm : j < (mkAt L k j).length := by rw [mkAt_length]; exact hjL
      obtain ⟨g, c, ai, ci, hv, p1, p2, r1, hvi, hlg, hfz⟩ := FR.at hjm
      simp only [Value.slice.injEq] at hv
      obtain ⟨rfl, -, rfl⟩ := hv
      have hge := mkAt_get L k j hjL
      rw [hge] at p1 p2 r1 hvi
      have hdl : (L.getD j (0, [])).2.length ≤ 4096 := by
        rw [List.getD_eq_getElem?_getD, List.getElem?_eq_getElem hjL]
        exact HSZ.out _ (List.getElem_mem hjL)
      have hmb := markN_le (L.take j) (fun p hp => HSZ.out p (List.mem_of_mem_take hp)) k
      rw [List.length_take] at hmb
      obtain ⟨hst1, hst2⟩ := mkAt_step L k j hjL
      have HF1 := FR.putNo j (markN (L.take j) k) hjm
      rw [hge] at HF1
      obtain ⟨km, hkm⟩ : ∃ m, m = markN (L.take j) k := ⟨_, rfl⟩
      obtain ⟨d, hd⟩ : ∃ m, m = (L.getD j (0, [])).2 := ⟨_, rfl⟩
      rw [← hkm] at hmb hst1 hst2 HF1 ⊢
      rw [← hd] at p2 r1 hvi hdl hst1 hst2 HF1
      have hkb : km ≤ 1000000 := by
        have : min j L.length ≤ 200 := by have := HN.out; omega
        have := Nat.mul_le_mul_right 4097 this
        omega
      have hwk : IntKind.i64.wrap ((km : Int) + 1) = ((km + 1 : Nat) : Int) := by rw [IntKind.wrap_i64]; omega
      obtain ⟨W, hW⟩ : ∃ y, y = wr.setCell ⟨g, j * 2, none⟩ (.int .i64 (km : Int)) := ⟨_, rfl⟩
      rw [← hW] at HF1
      have hgb := World.block_lt_of_cell? wr _ p1
      have p2W : W.cell? ⟨g, j * 2 + 1, none⟩ = some (.slice ai d.length ci) := by
        obtain ⟨g2, c2, a2, e2, hv2, -, q, -, hvi2, -⟩ := HF1.at (i := j) (by rw [List.length_set]; exact hjm)
        simp only [Value.slice.injEq, Option.some.injEq, Addr.mk.injEq] at hv2
        rw [getD_set_self _ _ _ _ hjm] at q hvi2
        rw [hv2.1.1, q, ← hvi, hvi2]
      have ownW := HF1.own j (by rw [List.length_set]; exact hjm)
      rw [getD_set_self _ _ _ _ hjm, hvi] at ownW
      have HMB := hideT (markByteS_any lo ai ci d (km + 1) W (by omega) (by omega) ownW)
      have bW : Below lo w W := by rw [hW]; exact hbx.grown (grown_setCellT wr ⟨g, j * 2, none⟩ _) (by have := hbx.size; omega) (fun q hq => by cases hq; exact hlg)
      have HKW : Hid (Keeps hi w W) := by rw [hW]; exact HKP.out.step hbx.size (grown_setCellT wr ⟨g, j * 2, none⟩ _) (fun q hq => by cases hq; exact HU.out.v _ rfl)
      have HVI := hideT hvi
      obtain ⟨l, hl⟩ : ∃ l, l = d.length := ⟨_, rfl⟩
      obtain ⟨k1, hk1⟩ : ∃ m, m = km + 1 := ⟨_, rfl⟩
      rw [← hk1] at hwk HMB
      rw [← hl] at HMB p2W p2
      obtain ⟨k2, hk2⟩ : ∃ m, m = k1 + l := ⟨_, rfl⟩
      rw [← hk2] at HMB
      have HK2 := hideT hk2
      clear hk2
      have HW := hideT hW
      have f1 := hfz (j * 2)
      have hol := own_lt ownW
      have HST := hideT (And.intro hst1 hst2)
      have HK1 := hideT (And.intro hk1 hl)
      clear hst1 hst2 hkm hd hl hk1 hW hge hvi r1 FR hfz p2 ownW
      go_upto_region 5 with fail
      rw [← show W = _ from HW]
      clear HW p1 f1
      go_wp2_with fail
      refine HMB.out.mono ?_
      rintro e w2 ⟨rfl, own2, g2⟩
      have b2 := bW.grown g2 (by have := bW.size; omega) (fun q hq => by rw [HK1.out.2] at hq; exact (hol q hq).1)
      have HK2P : Hid (Keeps hi w w2) := HKW.out.step bW.size g2 (fun q hq => HU.out.vs j hlt q (by rw [HVI.out, ← HK1.out.2]; exact hq))
      have FS2 := HF1.putData j (by rw [List.length_set]; exact hjm) (marks k1 l) (by rw [HVI.out, ← HK1.out.2]; exact own2) (by rw [HVI.out, ← HK1.out.2]; exact g2)
      rw [getD_set_self _ _ _ _ hjm, List.set_set] at FS2
      have FS3 : Fs w2 lo (.slice (some ⟨g, 0, none⟩) n c1) (mkAt L k (j + 1)) vs := by
        rw [← HST.out.1, ← HK1.out.1, ← HK1.out.2]
        exact FS2
      clear FS2 HF1 own2 g2 HMB p2W
      go_wp2_with fail
      go_roundw
      case rel => exact ⟨j + 1, by omega, by go_num, by rw [HST.out.2, ← HK1.out.1, ← HK1.out.2, ← HK2.out], FS3, b2, HK2P⟩
      case measure => simp [intOf]; omega
    · have hltI : ¬ (j : Int) < (n : Int) := by omega
      obtain rfl : j = n := by omega
      rw [HALL.out] at FR
      rw [HAN.out]
      go_wp2_with fail
      go_ret
      exact ⟨rfl, FR, hbx, HKP.out⟩
end Go.Proofs.YtjkofmomoljelaaGreatDoor
