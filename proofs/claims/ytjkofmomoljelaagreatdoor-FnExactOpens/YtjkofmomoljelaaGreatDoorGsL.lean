/-
  Texts laid together: IsoLaw, OpensI, LawOpens.
-/
import Derived.Test.YtjkofmomoljelaaGreatDoorIsoDecS
import Derived.Test.YtjkofmomoljelaaGreatDoorMacI
import Derived.Test.YtjkofmomoljelaaGreatDoorGrA
/-
  laws.eqField, eqFieldS, eqMsg, eqDecoded.
-/
namespace Go.Proofs.YtjkofmomoljelaaGreatDoor
open Go.RowKit

theorem fldCells_at (L : List (Nat × List UInt8)) : ∀ (vs : List Value), vs.length = L.length → ∀ i, i < L.length → (fldCells L vs)[i * 2]? = some (.int .i64 ((L.getD i (0, [])).1 : Nat)) ∧ (fldCells L vs)[i * 2 + 1]? = some (vs.getD i undef) := by
  induction L with
  | nil => intro vs _ i h; simp at h
  | cons p r ih =>
    intro vs h i hi
    cases vs with
    | nil => simp at h
    | cons v t =>
      cases i with
      | zero => exact ⟨rfl, rfl⟩
      | succ i =>
        have := ih t (by simpa using h) i (by simpa using hi)
        rw [show (i + 1) * 2 = i * 2 + 1 + 1 from by omega]
        exact this
theorem Fs.at {w : World} {lo : Nat} {v : Value} {L : List (Nat × List UInt8)} {vs : List Value} (h : Fs w lo v L vs) {i : Nat} (hi : i < L.length) :
    ∃ g c ai ci, v = .slice (some ⟨g, 0, none⟩) L.length c ∧ w.cell? ⟨g, i * 2, none⟩ = some (.int .i64 ((L.getD i (0, [])).1 : Nat)) ∧ w.cell? ⟨g, i * 2 + 1, none⟩ = some (.slice ai (L.getD i (0, [])).2.length ci) ∧ RowAt w ai (L.getD i (0, [])).2 ∧ vs.getD i undef = .slice ai (L.getD i (0, [])).2.length ci ∧ lo ≤ g ∧ (∀ j, w.frozen? ⟨g, j, none⟩ = false) := by
  have row := h.row
  obtain ⟨c1, c2⟩ := fldCells_at L vs h.len i hi
  obtain ⟨ai, ci, e, r, -, -, -⟩ := (h.own i hi).shape
  rcases row.2 with ⟨hv, hz⟩ | ⟨g, c, cur, hv, hg, hrest⟩
  · omega
  · subst hv
    refine ⟨g, c, ai, ci, rfl, ?_, ?_, r, e, hg, fun j => row.frozenAt j⟩
    · rw [row.cellAt (i * 2) (by omega), c1]
    · rw [row.cellAt (i * 2 + 1) (by omega), c2, e]
theorem Fs.shape {w : World} {lo : Nat} {v : Value} {L : List (Nat × List UInt8)} {vs : List Value} (h : Fs w lo v L vs) : ∃ a c, v = .slice a L.length c := ownR_shape h.row
theorem below_drewN (w : World) (m : Nat) : Below w.heap.size w (w.drewN m) := ⟨rfl, rfl, rfl, Nat.le_refl _, fun _ _ => rfl⟩
set_option maxRecDepth 100000 in
set_option maxHeartbeats 1000000 in
theorem eqField_any (no : Nat) (d : List UInt8) (a1 a2 : Option Addr) (c1 c2 : Nat) (w : World) (hd : d.length ≤ 1048576) (r1 : RowAt w a1 d) (r2 : RowAt w a2 d) :
    Calls Tryz.prog 90 #[.agg #[.int .i64 (no : Int), .slice a1 d.length c1], .agg #[.int .i64 (no : Int), .slice a2 d.length c2]] w fun e w' => e = .returned (.bool true) ∧ Below w.heap.size w w' := by
  have HE := hideT (fun (wx : World) (h1 : RowAt wx a1 d) (h2 : RowAt wx a2 d) => eqByteS_any a1 a2 c1 c2 d wx hd h1 h2)
  obtain ⟨l, hl⟩ : ∃ l, l = d.length := ⟨_, rfl⟩
  rw [← hl] at HE ⊢
  clear hl
  obtain ⟨W, hW⟩ : ∃ x, x = (w.alloc (Obj.cells #[.int .i64 (no : Int), .slice a1 l c1] 37)).alloc (Obj.cells #[.int .i64 (no : Int), .slice a2 l c2] 37) := ⟨_, rfl⟩
  have bW : Below w.heap.size w W := by rw [hW]; exact ((Below.refl _ _).alloc (Nat.le_refl _) _).alloc (by simp) _
  have q1 := r1.below bW
  have q2 := r2.below bW
  have HW := hideT hW
  clear hW r1 r2
  go_enter Tryz.func90, Tryz.ntmps90
  go_wp2_with (go_at_call 16; rw [← show W = _ from HW]; refine (HE.out _ q1 q2).mono ?_; rintro e w2 ⟨rfl, m, hw2⟩)
  go_ret
  exact ⟨rfl, bW.trans ((below_drewN W m).mono bW.size)⟩
set_option maxRecDepth 100000 in
set_option maxHeartbeats 2000000 in
theorem eqFieldS_any (L : List (Nat × List UInt8)) (hsz : ∀ p ∈ L, p.2.length ≤ 1048576) (hL : L.length ≤ 1048576) (v1 v2 : Value) (lo1 lo2 : Nat) (vs1 vs2 : List Value) (w : World) (F1 : Fs w lo1 v1 L vs1) (F2 : Fs w lo2 v2 L vs2) :
    Calls Tryz.prog 49 #[v1, v2] w fun e w' => e = .returned (.bool true) ∧ Below w.heap.size w w' := by
  obtain ⟨x1, c1, rfl⟩ := F1.shape
  obtain ⟨x2, c2, rfl⟩ := F2.shape
  obtain ⟨n, hn⟩ : ∃ n, n = L.length := ⟨_, rfl⟩
  have HN := hideT hn
  rw [← hn] at F1 F2 hL ⊢
  have HSZ := hideT hsz
  clear hn hsz
  go_enter Tryz.func49, Tryz.ntmps49
  go_wp2_with fail
  go_loopw [5] (fun i wr => ∃ k : Nat, k ≤ n ∧ i = .int .i64 (k : Int) ∧ Below w.heap.size w wr) (fun i _ => n - (intOf i).toNat)
  case atStart => exact ⟨0, Nat.zero_le _, rfl, Below.refl _ _⟩
  case round =>
    obtain ⟨k, hk, rfl, hbx⟩ := hrel
    by_cases hlt : k < n
    · have hltI : (k : Int) < (n : Int) := by omega
      obtain ⟨g1, c1', a1, e1, hv1, p1, p2, r1, -⟩ := (F1.below hbx).at (i := k) (by rw [← HN.out]; exact hlt)
      obtain ⟨g2, c2', a2, e2, hv2, p3, p4, r2, -⟩ := (F2.below hbx).at (i := k) (by rw [← HN.out]; exact hlt)
      simp only [Value.slice.injEq] at hv1 hv2
      obtain ⟨rfl, -, rfl⟩ := hv1
      obtain ⟨rfl, -, rfl⟩ := hv2
      have hdl : (L.getD k (0, [])).2.length ≤ 1048576 := by
        have hkl : k < L.length := by rw [← HN.out]; exact hlt
        rw [List.getD_eq_getElem?_getD, List.getElem?_eq_getElem hkl]
        exact HSZ.out _ (List.getElem_mem hkl)
      obtain ⟨no, hno⟩ : ∃ m, m = (L.getD k (0, [])).1 := ⟨_, rfl⟩
      obtain ⟨d, hd⟩ : ∃ m, m = (L.getD k (0, [])).2 := ⟨_, rfl⟩
      rw [← hno] at p1 p3
      rw [← hd] at p2 p4 r1 r2 hdl
      have HEF := hideT (fun (wx : World) (h1 : RowAt wx a1 d) (h2 : RowAt wx a2 d) => eqField_any no d a1 a2 e1 e2 wx hdl h1 h2)
      obtain ⟨l, hl⟩ : ∃ l, l = d.length := ⟨_, rfl⟩
      rw [← hl] at HEF p2 p4
      clear hno hd hl
      go_upto_region 6 with fail
      obtain ⟨V, hV⟩ : ∃ V, V = World.drew wr := ⟨_, rfl⟩
      have b_0 : Below wr.heap.size wr V := by rw [hV]; exact (Below.refl _ _).drew
      have l1 := World.block_lt_of_cell? wr _ p1
      have l2 := World.block_lt_of_cell? wr _ p3
      have keep : Hid (∀ {x}, Below wr.heap.size wr x → x.cell? ⟨g1, k * 2, none⟩ = some (.int .i64 (no : Int)) ∧ x.cell? ⟨g1, k * 2 + 1, none⟩ = some (.slice a1 l e1) ∧ x.cell? ⟨g2, k * 2, none⟩ = some (.int .i64 (no : Int)) ∧ x.cell? ⟨g2, k * 2 + 1, none⟩ = some (.slice a2 l e2)) := fun h => ⟨(h.cell (p := ⟨g1, k * 2, none⟩) l1).trans p1, (h.cell (p := ⟨g1, k * 2 + 1, none⟩) l1).trans p2, (h.cell (p := ⟨g2, k * 2, none⟩) l2).trans p3, (h.cell (p := ⟨g2, k * 2 + 1, none⟩) l2).trans p4⟩
      refine wp_region_held_drew (S := fun x => x.cell? ⟨g1, k * 2, none⟩ = some (.int .i64 (no : Int)) ∧ x.cell? ⟨g1, k * 2 + 1, none⟩ = some (.slice a1 l e1) ∧ x.cell? ⟨g2, k * 2, none⟩ = some (.int .i64 (no : Int)) ∧ x.cell? ⟨g2, k * 2 + 1, none⟩ = some (.slice a2 l e2)) (by kernel_rfl) (by rw [← hV]; exact keep.out b_0) (fun hHeld => ?_)
      rw [← hV] at hHeld ⊢
      clear hV p1 p2 p3 p4
      refine wpAnyH_take (i := 0) (v := (.slice (some ⟨g1, 0, none⟩) n c1)) rfl (by kernel_rfl) (by kernel_rfl) (by kernel_rfl) (fun _ _ _ h => h) (Or.inl ⟨by rfl, ?_⟩) hHeld ?_
      · intro _ _; go_simp
      dsimp only [Act.put, List.getElem_toArray, List.getElem_cons_zero, List.getElem_cons_succ]
      simp only [List.setIfInBounds_toArray, List.set_cons_succ, List.set_cons_zero]
      refine wpAnyH_take (i := 1) (v := (.int .i64 (k : Int))) rfl (by kernel_rfl) (by kernel_rfl) (by kernel_rfl) (fun _ _ _ h => h) (Or.inl ⟨by rfl, ?_⟩) hHeld ?_
      · intro _ _; go_simp
      dsimp only [Act.put, List.getElem_toArray, List.getElem_cons_zero, List.getElem_cons_succ]
      simp only [List.setIfInBounds_toArray, List.set_cons_succ, List.set_cons_zero]
      refine wpAnyH_take (i := 2) (v := (.pointer (some ⟨g1, k * 2, none⟩))) rfl (by kernel_rfl) (by kernel_rfl) (by kernel_rfl) (fun _ _ _ h => h) (Or.inl ⟨by rfl, ?_⟩) hHeld ?_
      · intro _ _; go_simp
      dsimp only [Act.put, List.getElem_toArray, List.getElem_cons_zero, List.getElem_cons_succ]
      simp only [List.setIfInBounds_toArray, List.set_cons_succ, List.set_cons_zero]
      refine wpAnyH_take (i := 3) (v := (.agg #[.int .i64 (no : Int), .slice a1 l e1])) rfl (by kernel_rfl) (by kernel_rfl) (by kernel_rfl) (fun _ _ _ h => h) (Or.inl ⟨by rfl, fun w1 h => by have hc0 := h.1; have hc1 := h.2.1; go_simp⟩) hHeld ?_
      dsimp only [Act.put, List.getElem_toArray, List.getElem_cons_zero, List.getElem_cons_succ]
      simp only [List.setIfInBounds_toArray, List.set_cons_succ, List.set_cons_zero]
      refine wpAnyH_take (i := 4) (v := (.slice (some ⟨g2, 0, none⟩) n c2)) rfl (by kernel_rfl) (by kernel_rfl) (by kernel_rfl) (fun _ _ _ h => h) (Or.inl ⟨by rfl, ?_⟩) hHeld ?_
      · intro _ _; go_simp
      dsimp only [Act.put, List.getElem_toArray, List.getElem_cons_zero, List.getElem_cons_succ]
      simp only [List.setIfInBounds_toArray, List.set_cons_succ, List.set_cons_zero]
      refine wpAnyH_take (i := 5) (v := (.int .i64 (k : Int))) rfl (by kernel_rfl) (by kernel_rfl) (by kernel_rfl) (fun _ _ _ h => h) (Or.inl ⟨by rfl, ?_⟩) hHeld ?_
      · intro _ _; go_simp
      dsimp only [Act.put, List.getElem_toArray, List.getElem_cons_zero, List.getElem_cons_succ]
      simp only [List.setIfInBounds_toArray, List.set_cons_succ, List.set_cons_zero]
      refine wpAnyH_take (i := 6) (v := (.pointer (some ⟨g2, k * 2, none⟩))) rfl (by kernel_rfl) (by kernel_rfl) (by kernel_rfl) (fun _ _ _ h => h) (Or.inl ⟨by rfl, ?_⟩) hHeld ?_
      · intro _ _; go_simp
      dsimp only [Act.put, List.getElem_toArray, List.getElem_cons_zero, List.getElem_cons_succ]
      simp only [List.setIfInBounds_toArray, List.set_cons_succ, List.set_cons_zero]
      refine wpAnyH_take (i := 7) (v := (.agg #[.int .i64 (no : Int), .slice a2 l e2])) rfl (by kernel_rfl) (by kernel_rfl) (by kernel_rfl) (fun _ _ _ h => h) (Or.inl ⟨by rfl, fun w1 h => by have hc0 := h.2.2.1; have hc1 := h.2.2.2; go_simp⟩) hHeld ?_
      dsimp only [Act.put, List.getElem_toArray, List.getElem_cons_zero, List.getElem_cons_succ]
      simp only [List.setIfInBounds_toArray, List.set_cons_succ, List.set_cons_zero]
      refine wpAnyH_ready (rs := [8]) (by kernel_rfl) (by simp) ?_
      refine AllReadyH.cons rfl (fun K hK => ?_) (AllReadyH.nil)
      go_simp
      refine (HEF.out _ (r1.below b_0) (r2.below b_0)).mono ?_
      rintro e w_1 ⟨rfl, bel_1⟩
      have b_1 := b_0.trans (bel_1.mono (by have := b_0.size; omega))
      go_wp2_with fail
      refine hK.out _ _ (keep.out b_1) (fun hHeld => ?_)
      clear hK K
      try dsimp only [Act.put]
      refine wpAnyH_take (i := 9) (v := (.bool false)) rfl (by kernel_rfl) (by kernel_rfl) (by kernel_rfl) (fun _ _ _ h => h) (Or.inl ⟨by rfl, ?_⟩) hHeld ?_
      · intro _ _; go_simp
      dsimp only [Act.put, List.getElem_toArray, List.getElem_cons_zero, List.getElem_cons_succ]
      simp only [List.setIfInBounds_toArray, List.set_cons_succ, List.set_cons_zero]
      refine wpAnyH_done (by kernel_rfl) ?_ _
      clear hHeld
      have bx := hbx.trans (b_1.mono hbx.size)
      go_wp2_with fail
      go_roundw
      case rel => exact ⟨k + 1, by omega, by go_num, bx⟩
      case measure => simp [intOf]; omega
    · have hltI : ¬ (k : Int) < (n : Int) := by omega
      go_wp2_with fail
      go_ret
      exact ⟨rfl, hbx⟩
theorem beq_bytesI (a b : ByteArray) : (a == b) = decide (a = b) := by
  rw [Bool.eq_iff_iff, decide_eq_true_eq]
  cases a with | mk x => cases b with | mk y =>
  show ByteArray.beq ⟨x⟩ ⟨y⟩ = true ↔ _
  simp [ByteArray.beq]
theorem ne_selfB (s : ByteArray) : (s != s) = false := by
  have h : (s == s) = true := by rw [beq_bytesI]; exact decide_eq_true rfl
  unfold bne; rw [h]; rfl
set_option maxRecDepth 100000 in
set_option maxHeartbeats 1000000 in
theorem eqMsg_any (s : ByteArray) (L : List (Nat × List UInt8)) (hsz : ∀ p ∈ L, p.2.length ≤ 1048576) (hL : L.length ≤ 1048576) (v1 v2 : Value) (lo1 lo2 : Nat) (vs1 vs2 : List Value) (w : World) (F1 : Fs w lo1 v1 L vs1) (F2 : Fs w lo2 v2 L vs2) :
    Calls Tryz.prog 20 #[.agg #[.string s, v1], .agg #[.string s, v2]] w fun e w' => e = .returned (.bool true) ∧ Below w.heap.size w w' := by
  have hss := ne_selfB s
  obtain ⟨W, hW⟩ : ∃ x, x = (w.alloc (Obj.cells #[.string s, v1] 30)).alloc (Obj.cells #[.string s, v2] 30) := ⟨_, rfl⟩
  have bW : Below w.heap.size w W := by rw [hW]; exact ((Below.refl _ _).alloc (Nat.le_refl _) _).alloc (by simp) _
  have HE := hideT (eqFieldS_any L hsz hL v1 v2 lo1 lo2 vs1 vs2 W (F1.below bW) (F2.below bW))
  have HW := hideT hW
  clear hW F1 F2
  go_enter Tryz.func20, Tryz.ntmps20
  go_wp2_with (go_at_call 49; rw [← show W = _ from HW]; refine HE.out.mono ?_; rintro e w2 ⟨rfl, b2⟩)
  go_ret
  exact ⟨rfl, bW.trans (b2.mono bW.size)⟩
end Go.Proofs.YtjkofmomoljelaaGreatDoor

/-
  impl.Opens, spec.Opens.
-/
namespace Go.Proofs.YtjkofmomoljelaaGreatDoor
open Go.RowKit

theorem dC_zero {data : List UInt8} (h : dC data = 0) : data.length ≤ 4096 ∧ tyC data = 0 ∧ mapC data = 0 ∧ (∀ j, j < (mapN data).length → fc data (mapN data) (mapE data) j = 0) := by
  unfold dC at h
  by_cases h1 : 4096 < data.length
  · rw [if_pos h1] at h; omega
  rw [if_neg h1] at h
  by_cases h2 : tyC data ≠ 0
  · rw [if_pos h2] at h; exact absurd h h2
  rw [if_neg h2] at h
  by_cases h3 : mapC data ≠ 0
  · rw [if_pos h3] at h; exact absurd h h3
  rw [if_neg h3] at h
  refine ⟨by omega, by omega, by omega, fun j hj => ?_⟩
  by_cases h4 : fc data (mapN data) (mapE data) j = 0
  · exact h4
  · exfalso
    cases hb : bad data (mapN data) (mapE data) with
    | none =>
      unfold bad at hb
      rw [List.find?_eq_none] at hb
      have := hb j (List.mem_range.2 hj)
      simp at this
      exact h4 this
    | some i =>
      rw [hb] at h
      unfold bad at hb
      have := List.find?_some hb
      simp at this
      exact this h
theorem mapE_le {data : List UInt8} (hm0 : mapC data = 0) : mapE data ≤ data.length := by
  have hme : ¬ data.length < mapEnd data := by
    intro h
    revert hm0
    unfold mapC
    rw [if_pos h]
    omega
  unfold mapE
  rw [if_pos hm0]
  omega
theorem decAt_le {data : List UInt8} {nos : List Nat} {a0 : Nat} (h0 : a0 ≤ data.length) (hf : ∀ j, j < nos.length → fc data nos a0 j = 0) : ∀ i, i ≤ nos.length → decAt data nos a0 i ≤ data.length
  | 0, _ => h0
  | i + 1, hi => by
    have h1 := decAt_le h0 hf i (by omega)
    have h2 := fldE_le (nos.getD i 0) (data.drop (decAt data nos a0 i)) (hf i (by omega))
    rw [List.length_drop] at h2
    show decAt data nos a0 i + fldE _ _ ≤ _
    omega
theorem dA_le {data : List UInt8} (h : dC data = 0) : dA data ≤ data.length := by
  obtain ⟨-, -, hm, hf⟩ := dC_zero h
  unfold dA
  rw [if_pos h]
  cases hk : (mapN data).length with
  | zero => exact Nat.zero_le _
  | succ k =>
    show macP _ _ ≤ _
    have h1 := decAt_le (mapE_le hm) hf k (by omega)
    unfold macP
    split <;> omega
def opB (master key data : List UInt8) : Bool := decide (dC data = 0) && (decide (dA data ≠ 0) && decide (chkC master key (data.take (dA data)) (data.drop (dA data)) = 0))
set_option maxRecDepth 100000 in
set_option maxHeartbeats 4000000 in
theorem opens_any (master key data : List UInt8) (am ak ad : Option Addr) (cm ck cd : Nat) (x0 x1 : Addr) (w : World) (hs : Sents w x0 x1) (hck : key.length ≤ ck) (hcd : data.length ≤ cd) (hn : data.length ≤ 1048576) (rm : RowAt w am master) (rk : RowAt w ak key) (rd : RowAt w ad data) :
    Calls Tryz.prog 10 #[.slice am master.length cm, .slice ak key.length ck, .slice ad data.length cd] w fun e w' => e = .returned (.bool (opB master key data)) ∧ Below w.heap.size w w' := by
  have HD := hideT (decode_any data ad cd w hn hcd rd)
  have HAL := hideT (fun h => dA_le (data := data) h)
  have HOP : Hid (opB master key data = (decide (dC data = 0) && (decide (dA data ≠ 0) && decide (chkC master key (data.take (dA data)) (data.drop (dA data)) = 0)))) := rfl
  have HCH := hideT (fun (a4 a5 : Option Addr) (c4 c5 : Nat) (wx : World) h2 h3 (hb : Below w.heap.size w wx) r3 r4 => checkMac_any master key (data.take (dA data)) (data.drop (dA data)) am ak a4 a5 cm ck c4 c5 x0 x1 wx hck h2 h3 (hs.below hb) (rm.below hb) (rk.below hb) r3 r4)
  obtain ⟨A, hA⟩ : ∃ q, q = dA data := ⟨_, rfl⟩
  obtain ⟨Cn, hC⟩ : ∃ q, q = dC data := ⟨_, rfl⟩
  obtain ⟨P, hP⟩ : ∃ q : Int, q = (dP data : Nat) := ⟨_, rfl⟩
  obtain ⟨M, hM⟩ : ∃ q, q = dM data := ⟨_, rfl⟩
  rw [← hA, ← hC, ← hP, ← hM] at HD
  rw [← hA, ← hC] at HOP HAL
  rw [← hA] at HCH
  obtain ⟨n1, hn1⟩ : ∃ n, n = master.length := ⟨_, rfl⟩
  obtain ⟨n2, hn2⟩ : ∃ n, n = key.length := ⟨_, rfl⟩
  obtain ⟨n3, hn3⟩ : ∃ n, n = data.length := ⟨_, rfl⟩
  have HN3 := hideT hn3
  have HRD := hideT rd
  rw [← hn1, ← hn2, ← hn3]
  rw [← hn1, ← hn2] at HCH
  rw [← hn3] at HD HAL hcd hn
  clear hA hC hP hM hn1 hn2 hn3 rm rk hck hs rd
  go_enter Tryz.func10, Tryz.ntmps10
  go_wp2_with fail
  refine HD.out.mono ?_
  rintro e w1 ⟨v, rfl, ⟨vs, FX⟩, b1⟩
  obtain ⟨av, cv, rfl⟩ := FX.shape
  obtain ⟨nv, hnv⟩ : ∃ q, q = (dL data).length := ⟨_, rfl⟩
  rw [← hnv]
  obtain ⟨X1, hX1⟩ : ∃ y, y = w1.alloc (Obj.cells #[.int .i64 (Cn : Int), .int .i64 P, .string M, .slice av nv cv, .int .i64 (A : Int)] 34) := ⟨_, rfl⟩
  obtain ⟨gR, hgR⟩ : ∃ q, q = w1.heap.size := ⟨_, rfl⟩
  have kR : Blk X1 gR 34 [.int .i64 (Cn : Int), .int .i64 P, .string M, .slice av nv cv, .int .i64 (A : Int)] := by rw [hX1, hgR]; exact Blk.new _ _ _
  have bX : Below w.heap.size w X1 := by rw [hX1]; exact b1.trans ((below_newT _ _).mono b1.size)
  have HX1 := hideT hX1
  have HGR := hideT hgR
  clear hX1 hgR b1 FX hnv HD
  go_upto_region 2 with fail
  rw [← show X1 = _ from HX1, ← show gR = _ from HGR]
  clear HX1 HGR
  have d0 := kR.cell 0 (by simp)
  have d4 := kR.cell 4 (by simp)
  by_cases hC0 : Cn = 0
  · subst hC0
    rw [decide_eq_true rfl, Bool.true_and] at HOP
    by_cases hA0 : A = 0
    · subst hA0
      rw [decide_eq_false (by omega), Bool.false_and] at HOP
      clear HCH HAL
      go_wp2_with fail
      go_ret
      exact ⟨by rw [HOP.out]; rfl, bX⟩
    · rw [decide_eq_true hA0, Bool.true_and] at HOP
      have hAn := HAL.out rfl
      have hAI : ¬ (A : Int) = 0 := by omega
      have hAb : ((A : Int) == 0) = false := by rw [beq_eq_false_iff_ne]; exact hAI
      obtain ⟨b, o, rfl, -⟩ := HRD.out.at (k := 0) (by rw [← HN3.out]; omega)
      obtain ⟨oA, hoA⟩ : ∃ oA, (cd = A ∧ oA = o) ∨ (¬ cd = A ∧ oA = o + A) := by
        by_cases h : cd = A
        · exact ⟨o, .inl ⟨h, rfl⟩⟩
        · exact ⟨o + A, .inr ⟨h, rfl⟩⟩
      have HOA := hideT hoA
      have hlt : (data.take A).length = A := by rw [List.length_take, ← HN3.out]; omega
      have hld : (data.drop A).length = n3 - A := by rw [List.length_drop, ← HN3.out]
      have HCM : Hid (∀ wx, Below w.heap.size w wx → Calls Tryz.prog 36 #[.slice am n1 cm, .slice ak n2 ck, .slice (some ⟨b, o, none⟩) A cd, .slice (some ⟨b, oA, none⟩) (n3 - A) (cd - A)] wx fun e w' => e = .returned (.int .i64 (chkC master key (data.take A) (data.drop A))) ∧ Below wx.heap.size wx w') := by
        intro wx hb
        have r := HRD.out.below hb
        have h := HCH.out (some ⟨b, o, none⟩) (some ⟨b, oA, none⟩) cd (cd - A) wx (by rw [hlt]; omega) (by rw [hlt]; omega) hb (RowAt.take r A) (by
          rcases hoA with ⟨h1, rfl⟩ | ⟨-, rfl⟩
          · exact .inl (List.length_eq_zero_iff.1 (by omega))
          · exact RowAt.drop r A)
        rw [hlt, hld] at h
        exact h
      obtain ⟨K, hK⟩ : ∃ q, q = chkC master key (data.take A) (data.drop A) := ⟨_, rfl⟩
      rw [← hK] at HCM HOP
      have hAc : (A : Int) ≤ (cd : Int) := by omega
      have hAn2 : (A : Int) ≤ (n3 : Int) := by omega
      have hn3c : (n3 : Int) ≤ (cd : Int) := by omega
      clear hK hoA hlt hld HCH HAL
      by_cases hK0 : K = 0
      · subst hK0
        rw [decide_eq_true rfl] at HOP
        go_upto_region 4 with fail
        clear d0 d4
        obtain ⟨V, hV⟩ : ∃ V, V = World.drew X1 := ⟨_, rfl⟩
        have b_0 : Below V.heap.size V V := Below.refl _ _
        have bV : Below X1.heap.size X1 V := by rw [hV]; exact (Below.refl _ _).drew
        have belV := bX.trans (bV.mono bX.size)
        have kV := kR.below bV kR.lt
        have keep : Hid (∀ {y}, Below V.heap.size V y → Blk y gR 34 [.int .i64 0, .int .i64 P, .string M, .slice av nv cv, .int .i64 (A : Int)]) := fun h => kV.below h kV.lt
        refine wp_region_held_drew (S := fun y => Blk y gR 34 [.int .i64 0, .int .i64 P, .string M, .slice av nv cv, .int .i64 (A : Int)]) (by kernel_rfl) (by rw [← hV]; exact kV) (fun hHeld => ?_)
        rw [← hV] at hHeld ⊢
        clear hV bV kR bX
        refine wpAnyH_take (i := 0) (v := (.slice am n1 cm)) rfl (by kernel_rfl) (by kernel_rfl) (by kernel_rfl) (fun _ _ _ h => h) (Or.inl ⟨by rfl, ?_⟩) hHeld ?_
        · intro _ _; go_simp
        dsimp only [Act.put, List.getElem_toArray, List.getElem_cons_zero, List.getElem_cons_succ]
        simp only [List.setIfInBounds_toArray, List.set_cons_succ, List.set_cons_zero]
        refine wpAnyH_take (i := 1) (v := (.slice ak n2 ck)) rfl (by kernel_rfl) (by kernel_rfl) (by kernel_rfl) (fun _ _ _ h => h) (Or.inl ⟨by rfl, ?_⟩) hHeld ?_
        · intro _ _; go_simp
        dsimp only [Act.put, List.getElem_toArray, List.getElem_cons_zero, List.getElem_cons_succ]
        simp only [List.setIfInBounds_toArray, List.set_cons_succ, List.set_cons_zero]
        refine wpAnyH_take (i := 2) (v := (.slice (some ⟨b, o, none⟩) n3 cd)) rfl (by kernel_rfl) (by kernel_rfl) (by kernel_rfl) (fun _ _ _ h => h) (Or.inl ⟨by rfl, ?_⟩) hHeld ?_
        · intro _ _; go_simp
        dsimp only [Act.put, List.getElem_toArray, List.getElem_cons_zero, List.getElem_cons_succ]
        simp only [List.setIfInBounds_toArray, List.set_cons_succ, List.set_cons_zero]
        refine wpAnyH_take (i := 3) (v := (.pointer (some ⟨gR, 4, none⟩))) rfl (by kernel_rfl) (by kernel_rfl) (by kernel_rfl) (fun _ _ _ h => h) (Or.inl ⟨by rfl, ?_⟩) hHeld ?_
        · intro _ _; go_simp
        dsimp only [Act.put, List.getElem_toArray, List.getElem_cons_zero, List.getElem_cons_succ]
        simp only [List.setIfInBounds_toArray, List.set_cons_succ, List.set_cons_zero]
        refine wpAnyH_take (i := 4) (v := (.int .i64 (A : Int))) rfl (by kernel_rfl) (by kernel_rfl) (by kernel_rfl) (fun _ _ _ h => h) (Or.inl ⟨by rfl, fun w1 h => by have hc : w1.cell? ⟨gR, 4, none⟩ = some (.int .i64 (A : Int)) := h.cell 4 (by simp); go_simp⟩) hHeld ?_
        dsimp only [Act.put, List.getElem_toArray, List.getElem_cons_zero, List.getElem_cons_succ]
        simp only [List.setIfInBounds_toArray, List.set_cons_succ, List.set_cons_zero]
        refine wpAnyH_take (i := 5) (v := (.slice (some ⟨b, o, none⟩) A cd)) rfl (by kernel_rfl) (by kernel_rfl) (by kernel_rfl) (fun _ _ _ h => h) (Or.inl ⟨by rfl, ?_⟩) hHeld ?_
        · intro _ _; go_simp
        dsimp only [Act.put, List.getElem_toArray, List.getElem_cons_zero, List.getElem_cons_succ]
        simp only [List.setIfInBounds_toArray, List.set_cons_succ, List.set_cons_zero]
        refine wpAnyH_take (i := 6) (v := (.slice (some ⟨b, o, none⟩) n3 cd)) rfl (by kernel_rfl) (by kernel_rfl) (by kernel_rfl) (fun _ _ _ h => h) (Or.inl ⟨by rfl, ?_⟩) hHeld ?_
        · intro _ _; go_simp
        dsimp only [Act.put, List.getElem_toArray, List.getElem_cons_zero, List.getElem_cons_succ]
        simp only [List.setIfInBounds_toArray, List.set_cons_succ, List.set_cons_zero]
        refine wpAnyH_take (i := 7) (v := (.pointer (some ⟨gR, 4, none⟩))) rfl (by kernel_rfl) (by kernel_rfl) (by kernel_rfl) (fun _ _ _ h => h) (Or.inl ⟨by rfl, ?_⟩) hHeld ?_
        · intro _ _; go_simp
        dsimp only [Act.put, List.getElem_toArray, List.getElem_cons_zero, List.getElem_cons_succ]
        simp only [List.setIfInBounds_toArray, List.set_cons_succ, List.set_cons_zero]
        refine wpAnyH_take (i := 8) (v := (.int .i64 (A : Int))) rfl (by kernel_rfl) (by kernel_rfl) (by kernel_rfl) (fun _ _ _ h => h) (Or.inl ⟨by rfl, fun w1 h => by have hc : w1.cell? ⟨gR, 4, none⟩ = some (.int .i64 (A : Int)) := h.cell 4 (by simp); go_simp⟩) hHeld ?_
        dsimp only [Act.put, List.getElem_toArray, List.getElem_cons_zero, List.getElem_cons_succ]
        simp only [List.setIfInBounds_toArray, List.set_cons_succ, List.set_cons_zero]
        refine wpAnyH_take (i := 9) (v := (.slice (some ⟨b, oA, none⟩) (n3 - A) (cd - A))) rfl (by kernel_rfl) (by kernel_rfl) (by kernel_rfl) (fun _ _ _ h => h) (Or.inl ⟨by rfl, fun w1 _ => by rcases HOA.out with ⟨hx, hy⟩ | ⟨hx, hy⟩ <;> (rw [hy]; go_simp)⟩) hHeld ?_
        dsimp only [Act.put, List.getElem_toArray, List.getElem_cons_zero, List.getElem_cons_succ]
        simp only [List.setIfInBounds_toArray, List.set_cons_succ, List.set_cons_zero]
        refine wpAnyH_ready (rs := [10]) (by kernel_rfl) (by simp) ?_
        refine AllReadyH.cons rfl (fun K hK => ?_) (AllReadyH.nil)
        go_simp
        refine (HCM.out _ belV).mono ?_
        rintro e w_1 ⟨rfl, b_1⟩
        go_wp2_with fail
        refine hK.out _ _ (keep.out b_1) (fun hHeld => ?_)
        clear hK K
        try dsimp only [Act.put]
        refine wpAnyH_take (i := 11) (v := (.bool true)) rfl (by kernel_rfl) (by kernel_rfl) (by kernel_rfl) (fun _ _ _ h => h) (Or.inl ⟨by rfl, ?_⟩) hHeld ?_
        · intro _ _; go_simp
        dsimp only [Act.put, List.getElem_toArray, List.getElem_cons_zero, List.getElem_cons_succ]
        simp only [List.setIfInBounds_toArray, List.set_cons_succ, List.set_cons_zero]
        refine wpAnyH_ready (rs := [12]) (by kernel_rfl) (by simp) ?_
        refine AllReadyH.cons rfl (fun K hK => ?_) (AllReadyH.nil)
        go_simp
        refine hK.out _ _ (keep.out b_1) (fun hHeld => ?_)
        clear hK K
        try dsimp only [Act.put]
        refine wpAnyH_done (by kernel_rfl) ?_ _
        have bZ := b_1
        clear hHeld
        go_wp2_with fail
        go_ret
        exact ⟨by rw [HOP.out]; rfl, belV.trans (bZ.mono belV.size)⟩
      · rw [decide_eq_false hK0] at HOP
        have hKb : (K == 0) = false := by rw [beq_eq_false_iff_ne]; exact hK0
        go_upto_region 4 with fail
        clear d0 d4
        obtain ⟨V, hV⟩ : ∃ V, V = World.drew X1 := ⟨_, rfl⟩
        have b_0 : Below V.heap.size V V := Below.refl _ _
        have bV : Below X1.heap.size X1 V := by rw [hV]; exact (Below.refl _ _).drew
        have belV := bX.trans (bV.mono bX.size)
        have kV := kR.below bV kR.lt
        have keep : Hid (∀ {y}, Below V.heap.size V y → Blk y gR 34 [.int .i64 0, .int .i64 P, .string M, .slice av nv cv, .int .i64 (A : Int)]) := fun h => kV.below h kV.lt
        refine wp_region_held_drew (S := fun y => Blk y gR 34 [.int .i64 0, .int .i64 P, .string M, .slice av nv cv, .int .i64 (A : Int)]) (by kernel_rfl) (by rw [← hV]; exact kV) (fun hHeld => ?_)
        rw [← hV] at hHeld ⊢
        clear hV bV kR bX
        refine wpAnyH_take (i := 0) (v := (.slice am n1 cm)) rfl (by kernel_rfl) (by kernel_rfl) (by kernel_rfl) (fun _ _ _ h => h) (Or.inl ⟨by rfl, ?_⟩) hHeld ?_
        · intro _ _; go_simp
        dsimp only [Act.put, List.getElem_toArray, List.getElem_cons_zero, List.getElem_cons_succ]
        simp only [List.setIfInBounds_toArray, List.set_cons_succ, List.set_cons_zero]
        refine wpAnyH_take (i := 1) (v := (.slice ak n2 ck)) rfl (by kernel_rfl) (by kernel_rfl) (by kernel_rfl) (fun _ _ _ h => h) (Or.inl ⟨by rfl, ?_⟩) hHeld ?_
        · intro _ _; go_simp
        dsimp only [Act.put, List.getElem_toArray, List.getElem_cons_zero, List.getElem_cons_succ]
        simp only [List.setIfInBounds_toArray, List.set_cons_succ, List.set_cons_zero]
        refine wpAnyH_take (i := 2) (v := (.slice (some ⟨b, o, none⟩) n3 cd)) rfl (by kernel_rfl) (by kernel_rfl) (by kernel_rfl) (fun _ _ _ h => h) (Or.inl ⟨by rfl, ?_⟩) hHeld ?_
        · intro _ _; go_simp
        dsimp only [Act.put, List.getElem_toArray, List.getElem_cons_zero, List.getElem_cons_succ]
        simp only [List.setIfInBounds_toArray, List.set_cons_succ, List.set_cons_zero]
        refine wpAnyH_take (i := 3) (v := (.pointer (some ⟨gR, 4, none⟩))) rfl (by kernel_rfl) (by kernel_rfl) (by kernel_rfl) (fun _ _ _ h => h) (Or.inl ⟨by rfl, ?_⟩) hHeld ?_
        · intro _ _; go_simp
        dsimp only [Act.put, List.getElem_toArray, List.getElem_cons_zero, List.getElem_cons_succ]
        simp only [List.setIfInBounds_toArray, List.set_cons_succ, List.set_cons_zero]
        refine wpAnyH_take (i := 4) (v := (.int .i64 (A : Int))) rfl (by kernel_rfl) (by kernel_rfl) (by kernel_rfl) (fun _ _ _ h => h) (Or.inl ⟨by rfl, fun w1 h => by have hc : w1.cell? ⟨gR, 4, none⟩ = some (.int .i64 (A : Int)) := h.cell 4 (by simp); go_simp⟩) hHeld ?_
        dsimp only [Act.put, List.getElem_toArray, List.getElem_cons_zero, List.getElem_cons_succ]
        simp only [List.setIfInBounds_toArray, List.set_cons_succ, List.set_cons_zero]
        refine wpAnyH_take (i := 5) (v := (.slice (some ⟨b, o, none⟩) A cd)) rfl (by kernel_rfl) (by kernel_rfl) (by kernel_rfl) (fun _ _ _ h => h) (Or.inl ⟨by rfl, ?_⟩) hHeld ?_
        · intro _ _; go_simp
        dsimp only [Act.put, List.getElem_toArray, List.getElem_cons_zero, List.getElem_cons_succ]
        simp only [List.setIfInBounds_toArray, List.set_cons_succ, List.set_cons_zero]
        refine wpAnyH_take (i := 6) (v := (.slice (some ⟨b, o, none⟩) n3 cd)) rfl (by kernel_rfl) (by kernel_rfl) (by kernel_rfl) (fun _ _ _ h => h) (Or.inl ⟨by rfl, ?_⟩) hHeld ?_
        · intro _ _; go_simp
        dsimp only [Act.put, List.getElem_toArray, List.getElem_cons_zero, List.getElem_cons_succ]
        simp only [List.setIfInBounds_toArray, List.set_cons_succ, List.set_cons_zero]
        refine wpAnyH_take (i := 7) (v := (.pointer (some ⟨gR, 4, none⟩))) rfl (by kernel_rfl) (by kernel_rfl) (by kernel_rfl) (fun _ _ _ h => h) (Or.inl ⟨by rfl, ?_⟩) hHeld ?_
        · intro _ _; go_simp
        dsimp only [Act.put, List.getElem_toArray, List.getElem_cons_zero, List.getElem_cons_succ]
        simp only [List.setIfInBounds_toArray, List.set_cons_succ, List.set_cons_zero]
        refine wpAnyH_take (i := 8) (v := (.int .i64 (A : Int))) rfl (by kernel_rfl) (by kernel_rfl) (by kernel_rfl) (fun _ _ _ h => h) (Or.inl ⟨by rfl, fun w1 h => by have hc : w1.cell? ⟨gR, 4, none⟩ = some (.int .i64 (A : Int)) := h.cell 4 (by simp); go_simp⟩) hHeld ?_
        dsimp only [Act.put, List.getElem_toArray, List.getElem_cons_zero, List.getElem_cons_succ]
        simp only [List.setIfInBounds_toArray, List.set_cons_succ, List.set_cons_zero]
        refine wpAnyH_take (i := 9) (v := (.slice (some ⟨b, oA, none⟩) (n3 - A) (cd - A))) rfl (by kernel_rfl) (by kernel_rfl) (by kernel_rfl) (fun _ _ _ h => h) (Or.inl ⟨by rfl, fun w1 _ => by rcases HOA.out with ⟨hx, hy⟩ | ⟨hx, hy⟩ <;> (rw [hy]; go_simp)⟩) hHeld ?_
        dsimp only [Act.put, List.getElem_toArray, List.getElem_cons_zero, List.getElem_cons_succ]
        simp only [List.setIfInBounds_toArray, List.set_cons_succ, List.set_cons_zero]
        refine wpAnyH_ready (rs := [10]) (by kernel_rfl) (by simp) ?_
        refine AllReadyH.cons rfl (fun K hK => ?_) (AllReadyH.nil)
        go_simp
        refine (HCM.out _ belV).mono ?_
        rintro e w_1 ⟨rfl, b_1⟩
        go_wp2_with fail
        refine hK.out _ _ (keep.out b_1) (fun hHeld => ?_)
        clear hK K
        try dsimp only [Act.put]
        refine wpAnyH_take (i := 11) (v := (.bool false)) rfl (by kernel_rfl) (by kernel_rfl) (by kernel_rfl) (fun _ _ _ h => h) (Or.inl ⟨by rfl, ?_⟩) hHeld ?_
        · intro _ _; go_simp
        dsimp only [Act.put, List.getElem_toArray, List.getElem_cons_zero, List.getElem_cons_succ]
        simp only [List.setIfInBounds_toArray, List.set_cons_succ, List.set_cons_zero]
        refine wpAnyH_ready (rs := [12]) (by kernel_rfl) (by simp) ?_
        refine AllReadyH.cons rfl (fun K hK => ?_) (AllReadyH.nil)
        go_simp
        refine hK.out _ _ (keep.out b_1) (fun hHeld => ?_)
        clear hK K
        try dsimp only [Act.put]
        refine wpAnyH_done (by kernel_rfl) ?_ _
        have bZ := b_1
        clear hHeld
        go_wp2_with fail
        go_ret
        exact ⟨by rw [HOP.out]; rfl, belV.trans (bZ.mono belV.size)⟩
  · rw [decide_eq_false hC0, Bool.false_and] at HOP
    have hCb : ((Cn : Int) == 0) = false := by rw [beq_eq_false_iff_ne]; omega
    have hCI : ¬ (Cn : Int) = 0 := by omega
    clear HCH HAL
    go_wp2_with fail
    go_ret
    exact ⟨by rw [HOP.out]; rfl, bX⟩
set_option maxRecDepth 100000 in
set_option maxHeartbeats 4000000 in
theorem opensS_any (master key data : List UInt8) (am ak ad : Option Addr) (cm ck cd : Nat) (w : World) (hm : master.length ≤ 1048576) (hck : key.length ≤ ck) (hcd : data.length ≤ cd) (hn : data.length ≤ 1048576) (rm : RowAt w am master) (rk : RowAt w ak key) (rd : RowAt w ad data) :
    Calls Tryz.prog 14 #[.slice am master.length cm, .slice ak key.length ck, .slice ad data.length cd] w fun e w' => e = .returned (.bool (opB master key data)) ∧ Below w.heap.size w w' := by
  have HD := hideT (decodeS_any data ad cd w hn hcd rd)
  have HAL := hideT (fun h => dA_le (data := data) h)
  have HOP : Hid (opB master key data = (decide (dC data = 0) && (decide (dA data ≠ 0) && decide (chkC master key (data.take (dA data)) (data.drop (dA data)) = 0)))) := rfl
  have HCH := hideT (fun (a4 a5 : Option Addr) (c4 c5 : Nat) (wx : World) h2 h3 (hb : Below w.heap.size w wx) r3 r4 => checkMacS_any master key (data.take (dA data)) (data.drop (dA data)) am ak a4 a5 cm ck c4 c5 wx hm hck h2 h3 (rm.below hb) (rk.below hb) r3 r4)
  obtain ⟨A, hA⟩ : ∃ q, q = dA data := ⟨_, rfl⟩
  obtain ⟨Cn, hC⟩ : ∃ q, q = dC data := ⟨_, rfl⟩
  obtain ⟨P, hP⟩ : ∃ q : Int, q = (dP data : Nat) := ⟨_, rfl⟩
  obtain ⟨M, hM⟩ : ∃ q, q = dM data := ⟨_, rfl⟩
  rw [← hA, ← hC, ← hP, ← hM] at HD
  rw [← hA, ← hC] at HOP HAL
  rw [← hA] at HCH
  obtain ⟨n1, hn1⟩ : ∃ n, n = master.length := ⟨_, rfl⟩
  obtain ⟨n2, hn2⟩ : ∃ n, n = key.length := ⟨_, rfl⟩
  obtain ⟨n3, hn3⟩ : ∃ n, n = data.length := ⟨_, rfl⟩
  have HN3 := hideT hn3
  have HRD := hideT rd
  rw [← hn1, ← hn2, ← hn3]
  rw [← hn1, ← hn2] at HCH
  rw [← hn3] at HD HAL hcd hn
  clear hA hC hP hM hn1 hn2 hn3 rm rk hck rd
  go_enter Tryz.func14, Tryz.ntmps14
  go_wp2_with fail
  refine HD.out.mono ?_
  rintro e w1 ⟨v, rfl, ⟨vs, FX⟩, b1⟩
  obtain ⟨av, cv, rfl⟩ := FX.shape
  obtain ⟨nv, hnv⟩ : ∃ q, q = (dL data).length := ⟨_, rfl⟩
  rw [← hnv]
  obtain ⟨X1, hX1⟩ : ∃ y, y = w1.alloc (Obj.cells #[.int .i64 (Cn : Int), .int .i64 P, .string M, .slice av nv cv, .int .i64 (A : Int)] 34) := ⟨_, rfl⟩
  obtain ⟨gR, hgR⟩ : ∃ q, q = w1.heap.size := ⟨_, rfl⟩
  have kR : Blk X1 gR 34 [.int .i64 (Cn : Int), .int .i64 P, .string M, .slice av nv cv, .int .i64 (A : Int)] := by rw [hX1, hgR]; exact Blk.new _ _ _
  have bX : Below w.heap.size w X1 := by rw [hX1]; exact b1.trans ((below_newT _ _).mono b1.size)
  have HX1 := hideT hX1
  have HGR := hideT hgR
  clear hX1 hgR b1 FX hnv HD
  go_upto_region 2 with fail
  rw [← show X1 = _ from HX1, ← show gR = _ from HGR]
  clear HX1 HGR
  have d0 := kR.cell 0 (by simp)
  have d4 := kR.cell 4 (by simp)
  by_cases hC0 : Cn = 0
  · subst hC0
    rw [decide_eq_true rfl, Bool.true_and] at HOP
    by_cases hA0 : A = 0
    · subst hA0
      rw [decide_eq_false (by omega), Bool.false_and] at HOP
      clear HCH HAL
      go_wp2_with fail
      go_ret
      exact ⟨by rw [HOP.out]; rfl, bX⟩
    · rw [decide_eq_true hA0, Bool.true_and] at HOP
      have hAn := HAL.out rfl
      have hAI : ¬ (A : Int) = 0 := by omega
      have hAb : ((A : Int) == 0) = false := by rw [beq_eq_false_iff_ne]; exact hAI
      obtain ⟨b, o, rfl, -⟩ := HRD.out.at (k := 0) (by rw [← HN3.out]; omega)
      obtain ⟨oA, hoA⟩ : ∃ oA, (cd = A ∧ oA = o) ∨ (¬ cd = A ∧ oA = o + A) := by
        by_cases h : cd = A
        · exact ⟨o, .inl ⟨h, rfl⟩⟩
        · exact ⟨o + A, .inr ⟨h, rfl⟩⟩
      have HOA := hideT hoA
      have hlt : (data.take A).length = A := by rw [List.length_take, ← HN3.out]; omega
      have hld : (data.drop A).length = n3 - A := by rw [List.length_drop, ← HN3.out]
      have HCM : Hid (∀ wx, Below w.heap.size w wx → Calls Tryz.prog 43 #[.slice am n1 cm, .slice ak n2 ck, .slice (some ⟨b, o, none⟩) A cd, .slice (some ⟨b, oA, none⟩) (n3 - A) (cd - A)] wx fun e w' => e = .returned (.int .i64 (chkC master key (data.take A) (data.drop A))) ∧ Below wx.heap.size wx w') := by
        intro wx hb
        have r := HRD.out.below hb
        have h := HCH.out (some ⟨b, o, none⟩) (some ⟨b, oA, none⟩) cd (cd - A) wx (by rw [hlt]; omega) (by rw [hlt]; omega) hb (RowAt.take r A) (by
          rcases hoA with ⟨h1, rfl⟩ | ⟨-, rfl⟩
          · exact .inl (List.length_eq_zero_iff.1 (by omega))
          · exact RowAt.drop r A)
        rw [hlt, hld] at h
        exact h
      obtain ⟨K, hK⟩ : ∃ q, q = chkC master key (data.take A) (data.drop A) := ⟨_, rfl⟩
      rw [← hK] at HCM HOP
      have hAc : (A : Int) ≤ (cd : Int) := by omega
      have hAn2 : (A : Int) ≤ (n3 : Int) := by omega
      have hn3c : (n3 : Int) ≤ (cd : Int) := by omega
      clear hK hoA hlt hld HCH HAL
      by_cases hK0 : K = 0
      · subst hK0
        rw [decide_eq_true rfl] at HOP
        go_upto_region 4 with fail
        clear d0 d4
        obtain ⟨V, hV⟩ : ∃ V, V = World.drew X1 := ⟨_, rfl⟩
        have b_0 : Below V.heap.size V V := Below.refl _ _
        have bV : Below X1.heap.size X1 V := by rw [hV]; exact (Below.refl _ _).drew
        have belV := bX.trans (bV.mono bX.size)
        have kV := kR.below bV kR.lt
        have keep : Hid (∀ {y}, Below V.heap.size V y → Blk y gR 34 [.int .i64 0, .int .i64 P, .string M, .slice av nv cv, .int .i64 (A : Int)]) := fun h => kV.below h kV.lt
        refine wp_region_held_drew (S := fun y => Blk y gR 34 [.int .i64 0, .int .i64 P, .string M, .slice av nv cv, .int .i64 (A : Int)]) (by kernel_rfl) (by rw [← hV]; exact kV) (fun hHeld => ?_)
        rw [← hV] at hHeld ⊢
        clear hV bV kR bX
        refine wpAnyH_take (i := 0) (v := (.slice am n1 cm)) rfl (by kernel_rfl) (by kernel_rfl) (by kernel_rfl) (fun _ _ _ h => h) (Or.inl ⟨by rfl, ?_⟩) hHeld ?_
        · intro _ _; go_simp
        dsimp only [Act.put, List.getElem_toArray, List.getElem_cons_zero, List.getElem_cons_succ]
        simp only [List.setIfInBounds_toArray, List.set_cons_succ, List.set_cons_zero]
        refine wpAnyH_take (i := 1) (v := (.slice ak n2 ck)) rfl (by kernel_rfl) (by kernel_rfl) (by kernel_rfl) (fun _ _ _ h => h) (Or.inl ⟨by rfl, ?_⟩) hHeld ?_
        · intro _ _; go_simp
        dsimp only [Act.put, List.getElem_toArray, List.getElem_cons_zero, List.getElem_cons_succ]
        simp only [List.setIfInBounds_toArray, List.set_cons_succ, List.set_cons_zero]
        refine wpAnyH_take (i := 2) (v := (.slice (some ⟨b, o, none⟩) n3 cd)) rfl (by kernel_rfl) (by kernel_rfl) (by kernel_rfl) (fun _ _ _ h => h) (Or.inl ⟨by rfl, ?_⟩) hHeld ?_
        · intro _ _; go_simp
        dsimp only [Act.put, List.getElem_toArray, List.getElem_cons_zero, List.getElem_cons_succ]
        simp only [List.setIfInBounds_toArray, List.set_cons_succ, List.set_cons_zero]
        refine wpAnyH_take (i := 3) (v := (.pointer (some ⟨gR, 4, none⟩))) rfl (by kernel_rfl) (by kernel_rfl) (by kernel_rfl) (fun _ _ _ h => h) (Or.inl ⟨by rfl, ?_⟩) hHeld ?_
        · intro _ _; go_simp
        dsimp only [Act.put, List.getElem_toArray, List.getElem_cons_zero, List.getElem_cons_succ]
        simp only [List.setIfInBounds_toArray, List.set_cons_succ, List.set_cons_zero]
        refine wpAnyH_take (i := 4) (v := (.int .i64 (A : Int))) rfl (by kernel_rfl) (by kernel_rfl) (by kernel_rfl) (fun _ _ _ h => h) (Or.inl ⟨by rfl, fun w1 h => by have hc : w1.cell? ⟨gR, 4, none⟩ = some (.int .i64 (A : Int)) := h.cell 4 (by simp); go_simp⟩) hHeld ?_
        dsimp only [Act.put, List.getElem_toArray, List.getElem_cons_zero, List.getElem_cons_succ]
        simp only [List.setIfInBounds_toArray, List.set_cons_succ, List.set_cons_zero]
        refine wpAnyH_take (i := 5) (v := (.slice (some ⟨b, o, none⟩) A cd)) rfl (by kernel_rfl) (by kernel_rfl) (by kernel_rfl) (fun _ _ _ h => h) (Or.inl ⟨by rfl, ?_⟩) hHeld ?_
        · intro _ _; go_simp
        dsimp only [Act.put, List.getElem_toArray, List.getElem_cons_zero, List.getElem_cons_succ]
        simp only [List.setIfInBounds_toArray, List.set_cons_succ, List.set_cons_zero]
        refine wpAnyH_take (i := 6) (v := (.slice (some ⟨b, o, none⟩) n3 cd)) rfl (by kernel_rfl) (by kernel_rfl) (by kernel_rfl) (fun _ _ _ h => h) (Or.inl ⟨by rfl, ?_⟩) hHeld ?_
        · intro _ _; go_simp
        dsimp only [Act.put, List.getElem_toArray, List.getElem_cons_zero, List.getElem_cons_succ]
        simp only [List.setIfInBounds_toArray, List.set_cons_succ, List.set_cons_zero]
        refine wpAnyH_take (i := 7) (v := (.pointer (some ⟨gR, 4, none⟩))) rfl (by kernel_rfl) (by kernel_rfl) (by kernel_rfl) (fun _ _ _ h => h) (Or.inl ⟨by rfl, ?_⟩) hHeld ?_
        · intro _ _; go_simp
        dsimp only [Act.put, List.getElem_toArray, List.getElem_cons_zero, List.getElem_cons_succ]
        simp only [List.setIfInBounds_toArray, List.set_cons_succ, List.set_cons_zero]
        refine wpAnyH_take (i := 8) (v := (.int .i64 (A : Int))) rfl (by kernel_rfl) (by kernel_rfl) (by kernel_rfl) (fun _ _ _ h => h) (Or.inl ⟨by rfl, fun w1 h => by have hc : w1.cell? ⟨gR, 4, none⟩ = some (.int .i64 (A : Int)) := h.cell 4 (by simp); go_simp⟩) hHeld ?_
        dsimp only [Act.put, List.getElem_toArray, List.getElem_cons_zero, List.getElem_cons_succ]
        simp only [List.setIfInBounds_toArray, List.set_cons_succ, List.set_cons_zero]
        refine wpAnyH_take (i := 9) (v := (.slice (some ⟨b, oA, none⟩) (n3 - A) (cd - A))) rfl (by kernel_rfl) (by kernel_rfl) (by kernel_rfl) (fun _ _ _ h => h) (Or.inl ⟨by rfl, fun w1 _ => by rcases HOA.out with ⟨hx, hy⟩ | ⟨hx, hy⟩ <;> (rw [hy]; go_simp)⟩) hHeld ?_
        dsimp only [Act.put, List.getElem_toArray, List.getElem_cons_zero, List.getElem_cons_succ]
        simp only [List.setIfInBounds_toArray, List.set_cons_succ, List.set_cons_zero]
        refine wpAnyH_ready (rs := [10]) (by kernel_rfl) (by simp) ?_
        refine AllReadyH.cons rfl (fun K hK => ?_) (AllReadyH.nil)
        go_simp
        refine (HCM.out _ belV).mono ?_
        rintro e w_1 ⟨rfl, b_1⟩
        go_wp2_with fail
        refine hK.out _ _ (keep.out b_1) (fun hHeld => ?_)
        clear hK K
        try dsimp only [Act.put]
        refine wpAnyH_take (i := 11) (v := (.bool true)) rfl (by kernel_rfl) (by kernel_rfl) (by kernel_rfl) (fun _ _ _ h => h) (Or.inl ⟨by rfl, ?_⟩) hHeld ?_
        · intro _ _; go_simp
        dsimp only [Act.put, List.getElem_toArray, List.getElem_cons_zero, List.getElem_cons_succ]
        simp only [List.setIfInBounds_toArray, List.set_cons_succ, List.set_cons_zero]
        refine wpAnyH_ready (rs := [12]) (by kernel_rfl) (by simp) ?_
        refine AllReadyH.cons rfl (fun K hK => ?_) (AllReadyH.nil)
        go_simp
        refine hK.out _ _ (keep.out b_1) (fun hHeld => ?_)
        clear hK K
        try dsimp only [Act.put]
        refine wpAnyH_done (by kernel_rfl) ?_ _
        have bZ := b_1
        clear hHeld
        go_wp2_with fail
        go_ret
        exact ⟨by rw [HOP.out]; rfl, belV.trans (bZ.mono belV.size)⟩
      · rw [decide_eq_false hK0] at HOP
        have hKb : (K == 0) = false := by rw [beq_eq_false_iff_ne]; exact hK0
        go_upto_region 4 with fail
        clear d0 d4
        obtain ⟨V, hV⟩ : ∃ V, V = World.drew X1 := ⟨_, rfl⟩
        have b_0 : Below V.heap.size V V := Below.refl _ _
        have bV : Below X1.heap.size X1 V := by rw [hV]; exact (Below.refl _ _).drew
        have belV := bX.trans (bV.mono bX.size)
        have kV := kR.below bV kR.lt
        have keep : Hid (∀ {y}, Below V.heap.size V y → Blk y gR 34 [.int .i64 0, .int .i64 P, .string M, .slice av nv cv, .int .i64 (A : Int)]) := fun h => kV.below h kV.lt
        refine wp_region_held_drew (S := fun y => Blk y gR 34 [.int .i64 0, .int .i64 P, .string M, .slice av nv cv, .int .i64 (A : Int)]) (by kernel_rfl) (by rw [← hV]; exact kV) (fun hHeld => ?_)
        rw [← hV] at hHeld ⊢
        clear hV bV kR bX
        refine wpAnyH_take (i := 0) (v := (.slice am n1 cm)) rfl (by kernel_rfl) (by kernel_rfl) (by kernel_rfl) (fun _ _ _ h => h) (Or.inl ⟨by rfl, ?_⟩) hHeld ?_
        · intro _ _; go_simp
        dsimp only [Act.put, List.getElem_toArray, List.getElem_cons_zero, List.getElem_cons_succ]
        simp only [List.setIfInBounds_toArray, List.set_cons_succ, List.set_cons_zero]
        refine wpAnyH_take (i := 1) (v := (.slice ak n2 ck)) rfl (by kernel_rfl) (by kernel_rfl) (by kernel_rfl) (fun _ _ _ h => h) (Or.inl ⟨by rfl, ?_⟩) hHeld ?_
        · intro _ _; go_simp
        dsimp only [Act.put, List.getElem_toArray, List.getElem_cons_zero, List.getElem_cons_succ]
        simp only [List.setIfInBounds_toArray, List.set_cons_succ, List.set_cons_zero]
        refine wpAnyH_take (i := 2) (v := (.slice (some ⟨b, o, none⟩) n3 cd)) rfl (by kernel_rfl) (by kernel_rfl) (by kernel_rfl) (fun _ _ _ h => h) (Or.inl ⟨by rfl, ?_⟩) hHeld ?_
        · intro _ _; go_simp
        dsimp only [Act.put, List.getElem_toArray, List.getElem_cons_zero, List.getElem_cons_succ]
        simp only [List.setIfInBounds_toArray, List.set_cons_succ, List.set_cons_zero]
        refine wpAnyH_take (i := 3) (v := (.pointer (some ⟨gR, 4, none⟩))) rfl (by kernel_rfl) (by kernel_rfl) (by kernel_rfl) (fun _ _ _ h => h) (Or.inl ⟨by rfl, ?_⟩) hHeld ?_
        · intro _ _; go_simp
        dsimp only [Act.put, List.getElem_toArray, List.getElem_cons_zero, List.getElem_cons_succ]
        simp only [List.setIfInBounds_toArray, List.set_cons_succ, List.set_cons_zero]
        refine wpAnyH_take (i := 4) (v := (.int .i64 (A : Int))) rfl (by kernel_rfl) (by kernel_rfl) (by kernel_rfl) (fun _ _ _ h => h) (Or.inl ⟨by rfl, fun w1 h => by have hc : w1.cell? ⟨gR, 4, none⟩ = some (.int .i64 (A : Int)) := h.cell 4 (by simp); go_simp⟩) hHeld ?_
        dsimp only [Act.put, List.getElem_toArray, List.getElem_cons_zero, List.getElem_cons_succ]
        simp only [List.setIfInBounds_toArray, List.set_cons_succ, List.set_cons_zero]
        refine wpAnyH_take (i := 5) (v := (.slice (some ⟨b, o, none⟩) A cd)) rfl (by kernel_rfl) (by kernel_rfl) (by kernel_rfl) (fun _ _ _ h => h) (Or.inl ⟨by rfl, ?_⟩) hHeld ?_
        · intro _ _; go_simp
        dsimp only [Act.put, List.getElem_toArray, List.getElem_cons_zero, List.getElem_cons_succ]
        simp only [List.setIfInBounds_toArray, List.set_cons_succ, List.set_cons_zero]
        refine wpAnyH_take (i := 6) (v := (.slice (some ⟨b, o, none⟩) n3 cd)) rfl (by kernel_rfl) (by kernel_rfl) (by kernel_rfl) (fun _ _ _ h => h) (Or.inl ⟨by rfl, ?_⟩) hHeld ?_
        · intro _ _; go_simp
        dsimp only [Act.put, List.getElem_toArray, List.getElem_cons_zero, List.getElem_cons_succ]
        simp only [List.setIfInBounds_toArray, List.set_cons_succ, List.set_cons_zero]
        refine wpAnyH_take (i := 7) (v := (.pointer (some ⟨gR, 4, none⟩))) rfl (by kernel_rfl) (by kernel_rfl) (by kernel_rfl) (fun _ _ _ h => h) (Or.inl ⟨by rfl, ?_⟩) hHeld ?_
        · intro _ _; go_simp
        dsimp only [Act.put, List.getElem_toArray, List.getElem_cons_zero, List.getElem_cons_succ]
        simp only [List.setIfInBounds_toArray, List.set_cons_succ, List.set_cons_zero]
        refine wpAnyH_take (i := 8) (v := (.int .i64 (A : Int))) rfl (by kernel_rfl) (by kernel_rfl) (by kernel_rfl) (fun _ _ _ h => h) (Or.inl ⟨by rfl, fun w1 h => by have hc : w1.cell? ⟨gR, 4, none⟩ = some (.int .i64 (A : Int)) := h.cell 4 (by simp); go_simp⟩) hHeld ?_
        dsimp only [Act.put, List.getElem_toArray, List.getElem_cons_zero, List.getElem_cons_succ]
        simp only [List.setIfInBounds_toArray, List.set_cons_succ, List.set_cons_zero]
        refine wpAnyH_take (i := 9) (v := (.slice (some ⟨b, oA, none⟩) (n3 - A) (cd - A))) rfl (by kernel_rfl) (by kernel_rfl) (by kernel_rfl) (fun _ _ _ h => h) (Or.inl ⟨by rfl, fun w1 _ => by rcases HOA.out with ⟨hx, hy⟩ | ⟨hx, hy⟩ <;> (rw [hy]; go_simp)⟩) hHeld ?_
        dsimp only [Act.put, List.getElem_toArray, List.getElem_cons_zero, List.getElem_cons_succ]
        simp only [List.setIfInBounds_toArray, List.set_cons_succ, List.set_cons_zero]
        refine wpAnyH_ready (rs := [10]) (by kernel_rfl) (by simp) ?_
        refine AllReadyH.cons rfl (fun K hK => ?_) (AllReadyH.nil)
        go_simp
        refine (HCM.out _ belV).mono ?_
        rintro e w_1 ⟨rfl, b_1⟩
        go_wp2_with fail
        refine hK.out _ _ (keep.out b_1) (fun hHeld => ?_)
        clear hK K
        try dsimp only [Act.put]
        refine wpAnyH_take (i := 11) (v := (.bool false)) rfl (by kernel_rfl) (by kernel_rfl) (by kernel_rfl) (fun _ _ _ h => h) (Or.inl ⟨by rfl, ?_⟩) hHeld ?_
        · intro _ _; go_simp
        dsimp only [Act.put, List.getElem_toArray, List.getElem_cons_zero, List.getElem_cons_succ]
        simp only [List.setIfInBounds_toArray, List.set_cons_succ, List.set_cons_zero]
        refine wpAnyH_ready (rs := [12]) (by kernel_rfl) (by simp) ?_
        refine AllReadyH.cons rfl (fun K hK => ?_) (AllReadyH.nil)
        go_simp
        refine hK.out _ _ (keep.out b_1) (fun hHeld => ?_)
        clear hK K
        try dsimp only [Act.put]
        refine wpAnyH_done (by kernel_rfl) ?_ _
        have bZ := b_1
        clear hHeld
        go_wp2_with fail
        go_ret
        exact ⟨by rw [HOP.out]; rfl, belV.trans (bZ.mono belV.size)⟩
  · rw [decide_eq_false hC0, Bool.false_and] at HOP
    have hCb : ((Cn : Int) == 0) = false := by rw [beq_eq_false_iff_ne]; omega
    have hCI : ¬ (Cn : Int) = 0 := by omega
    clear HCH HAL
    go_wp2_with fail
    go_ret
    exact ⟨by rw [HOP.out]; rfl, bX⟩
end Go.Proofs.YtjkofmomoljelaaGreatDoor

/-
  laws.FnExactOpens: the walk out of the contracts.
-/
namespace Go.Proofs.YtjkofmomoljelaaGreatDoor
open Go.RowKit

set_option maxRecDepth 100000 in
set_option maxHeartbeats 4000000 in
theorem lawOpens_main (master key data : List UInt8) (amaster akey adata : Option Addr) (cmaster ckey cdata : Nat) (x0 x1 : Addr) (w : World) (hnmaster : master.length ≤ 1048576) (hnkey : key.length ≤ 1048576) (hndata : data.length ≤ 1048576) (hs : Sents w x0 x1) (rmaster : RowAt w amaster master) (rkey : RowAt w akey key) (rdata : RowAt w adata data) :
    Calls Tryz.prog 4 #[.slice amaster master.length cmaster, .slice akey key.length ckey, .slice adata data.length cdata] w fun e w' => e = .returned (.bool true) ∧ Below w.heap.size w w' := by
  have HS := hide (fun (a1 a2 a3 : Option Addr) (c1 c2 c3 : Nat) (wx : World) (h2 : key.length ≤ c2) (h3 : data.length ≤ c3) (r1 : RowAt wx a1 master) (r2 : RowAt wx a2 key) (r3 : RowAt wx a3 data) => opensS_any master key data a1 a2 a3 c1 c2 c3 wx hnmaster h2 h3 hndata r1 r2 r3)
  have HI := hide (fun (a1 a2 a3 : Option Addr) (c1 c2 c3 : Nat) (wx : World) (h2 : key.length ≤ c2) (h3 : data.length ≤ c3) (hs : Sents wx x0 x1) (r1 : RowAt wx a1 master) (r2 : RowAt wx a2 key) (r3 : RowAt wx a3 data) => opens_any master key data a1 a2 a3 c1 c2 c3 x0 x1 wx hs h2 h3 hndata r1 r2 r3)
  obtain ⟨C, hC⟩ : ∃ C, C = opB master key data := ⟨_, rfl⟩
  rw [← hC] at HS HI
  clear hC
  have HTmaster := hide (fun (wx : World) (h : RowAt wx amaster master) => toByteS_any amaster cmaster master wx hnmaster h)
  have HRmaster := hide rmaster
  have hn'master : ¬ ((1048576 : Int) < (master.length : Int)) := by omega
  have HTkey := hide (fun (wx : World) (h : RowAt wx akey key) => toByteS_any akey ckey key wx hnkey h)
  have HRkey := hide rkey
  have hn'key : ¬ ((1048576 : Int) < (key.length : Int)) := by omega
  have HTdata := hide (fun (wx : World) (h : RowAt wx adata data) => toByteS_any adata cdata data wx hndata h)
  have HRdata := hide rdata
  have hn'data : ¬ ((1048576 : Int) < (data.length : Int)) := by omega
  clear rmaster rkey rdata
  go_enter Tryz.func4, Tryz.ntmps4
  have bz : Below w.heap.size w w := Below.refl _ _
  go_wp2_with fail
  refine (HTmaster.out w (HRmaster.out.below bz)).mono ?_
  rintro e v1 ⟨rfl, own1, bel1⟩
  obtain ⟨_, _, hv1, row1, -, -⟩ := own1.shape
  cases hv1
  clear own1
  have bz_1 := bz.trans (bel1.mono bz.size)
  have sn_1 := hs.below bel1
  clear bz hs bel1
  go_wp2_with fail
  refine (HTkey.out v1 (HRkey.out.below bz_1)).mono ?_
  rintro e v2 ⟨rfl, own2, bel2⟩
  obtain ⟨_, _, hv2, row2, -, -⟩ := own2.shape
  cases hv2
  clear own2
  have bz_2 := bz_1.trans (bel2.mono bz_1.size)
  have sn_2 := sn_1.below bel2
  have qmaster_2 := row1.below bel2
  clear bz_1 sn_1 row1 bel2
  go_wp2_with fail
  refine (HTdata.out v2 (HRdata.out.below bz_2)).mono ?_
  rintro e v3 ⟨rfl, own3, bel3⟩
  obtain ⟨_, _, hv3, row3, -, -⟩ := own3.shape
  cases hv3
  clear own3
  have bz_3 := bz_2.trans (bel3.mono bz_2.size)
  have sn_3 := sn_2.below bel3
  have qmaster_3 := qmaster_2.below bel3
  have qkey_3 := row2.below bel3
  clear bz_2 sn_2 qmaster_2 row2 bel3
  go_wp2_with fail
  refine (HS.out (some ⟨w.heap.size, 0, none⟩) (some ⟨v1.heap.size, 0, none⟩) (some ⟨v2.heap.size, 0, none⟩) _ _ _ v3 (Nat.le_refl _) (Nat.le_refl _) qmaster_3 qkey_3 row3).mono ?_
  rintro e v4 ⟨rfl, bel4⟩
  have bz_4 := bz_3.trans (bel4.mono bz_3.size)
  have sn_4 := sn_3.below bel4
  have qmaster_4 := qmaster_3.below bel4
  have qkey_4 := qkey_3.below bel4
  have qdata_4 := row3.below bel4
  clear bz_3 sn_3 qmaster_3 qkey_3 row3 bel4
  clear qmaster_4
  clear qkey_4
  clear qdata_4
  go_wp2_with fail
  refine (HTmaster.out v4 (HRmaster.out.below bz_4)).mono ?_
  rintro e v5 ⟨rfl, own5, bel5⟩
  obtain ⟨_, _, hv5, row5, -, -⟩ := own5.shape
  cases hv5
  clear own5
  have bz_5 := bz_4.trans (bel5.mono bz_4.size)
  have sn_5 := sn_4.below bel5
  clear bz_4 sn_4 bel5
  go_wp2_with fail
  refine (HTkey.out v5 (HRkey.out.below bz_5)).mono ?_
  rintro e v6 ⟨rfl, own6, bel6⟩
  obtain ⟨_, _, hv6, row6, -, -⟩ := own6.shape
  cases hv6
  clear own6
  have bz_6 := bz_5.trans (bel6.mono bz_5.size)
  have sn_6 := sn_5.below bel6
  have qmaster_6 := row5.below bel6
  clear bz_5 sn_5 row5 bel6
  go_wp2_with fail
  refine (HTdata.out v6 (HRdata.out.below bz_6)).mono ?_
  rintro e v7 ⟨rfl, own7, bel7⟩
  obtain ⟨_, _, hv7, row7, -, -⟩ := own7.shape
  cases hv7
  clear own7
  have bz_7 := bz_6.trans (bel7.mono bz_6.size)
  have sn_7 := sn_6.below bel7
  have qmaster_7 := qmaster_6.below bel7
  have qkey_7 := row6.below bel7
  clear bz_6 sn_6 qmaster_6 row6 bel7
  go_wp2_with fail
  refine (HI.out (some ⟨v4.heap.size, 0, none⟩) (some ⟨v5.heap.size, 0, none⟩) (some ⟨v6.heap.size, 0, none⟩) _ _ _ v7 (Nat.le_refl _) (Nat.le_refl _) sn_7 qmaster_7 qkey_7 row7).mono ?_
  rintro e v8 ⟨rfl, bel8⟩
  have bz_8 := bz_7.trans (bel8.mono bz_7.size)
  have sn_8 := sn_7.below bel8
  have qmaster_8 := qmaster_7.below bel8
  have qkey_8 := qkey_7.below bel8
  have qdata_8 := row7.below bel8
  clear bz_7 sn_7 qmaster_7 qkey_7 row7 bel8
  clear sn_8
  go_wp2_with fail
  refine (HTmaster.out v8 (HRmaster.out.below bz_8)).mono ?_
  rintro e v9 ⟨rfl, own9, bel9⟩
  obtain ⟨_, _, hv9, row9, -, -⟩ := own9.shape
  cases hv9
  clear own9
  have bz_9 := bz_8.trans (bel9.mono bz_8.size)
  have qmaster_9 := qmaster_8.below bel9
  have qkey_9 := qkey_8.below bel9
  have qdata_9 := qdata_8.below bel9
  clear bz_8 qmaster_8 qkey_8 qdata_8 bel9
  go_wp2_with fail
  refine (eqByteS_any _ _ _ _ master v9 hnmaster qmaster_9 row9).mono ?_
  rintro e v9d ⟨rfl, m9, rfl⟩
  clear row9
  have bz_10 := Go.below_drewN bz_9 m9
  have qmaster_10 : RowAt (v9.drewN m9) _ _ := qmaster_9
  have qkey_10 : RowAt (v9.drewN m9) _ _ := qkey_9
  have qdata_10 : RowAt (v9.drewN m9) _ _ := qdata_9
  clear bz_9 qmaster_9 qkey_9 qdata_9
  go_wp2_with fail
  refine (HTkey.out (v9.drewN m9) (HRkey.out.below bz_10)).mono ?_
  rintro e v10 ⟨rfl, own10, bel10⟩
  obtain ⟨_, _, hv10, row10, -, -⟩ := own10.shape
  cases hv10
  clear own10
  have bz_11 := bz_10.trans (bel10.mono bz_10.size)
  have qmaster_11 := qmaster_10.below bel10
  have qkey_11 := qkey_10.below bel10
  have qdata_11 := qdata_10.below bel10
  clear bz_10 qmaster_10 qkey_10 qdata_10 bel10
  go_wp2_with fail
  refine (eqByteS_any _ _ _ _ key v10 hnkey qkey_11 row10).mono ?_
  rintro e v10d ⟨rfl, m10, rfl⟩
  clear row10
  have bz_12 := Go.below_drewN bz_11 m10
  have qmaster_12 : RowAt (v10.drewN m10) _ _ := qmaster_11
  have qkey_12 : RowAt (v10.drewN m10) _ _ := qkey_11
  have qdata_12 : RowAt (v10.drewN m10) _ _ := qdata_11
  clear bz_11 qmaster_11 qkey_11 qdata_11
  go_wp2_with fail
  refine (HTdata.out (v10.drewN m10) (HRdata.out.below bz_12)).mono ?_
  rintro e v11 ⟨rfl, own11, bel11⟩
  obtain ⟨_, _, hv11, row11, -, -⟩ := own11.shape
  cases hv11
  clear own11
  have bz_13 := bz_12.trans (bel11.mono bz_12.size)
  have qmaster_13 := qmaster_12.below bel11
  have qkey_13 := qkey_12.below bel11
  have qdata_13 := qdata_12.below bel11
  clear bz_12 qmaster_12 qkey_12 qdata_12 bel11
  go_wp2_with fail
  refine (eqByteS_any _ _ _ _ data v11 hndata qdata_13 row11).mono ?_
  rintro e v11d ⟨rfl, m11, rfl⟩
  clear row11
  have bz_14 := Go.below_drewN bz_13 m11
  have qmaster_14 : RowAt (v11.drewN m11) _ _ := qmaster_13
  have qkey_14 : RowAt (v11.drewN m11) _ _ := qkey_13
  have qdata_14 : RowAt (v11.drewN m11) _ _ := qdata_13
  clear bz_13 qmaster_13 qkey_13 qdata_13
  go_wp2_with fail
  go_ret
  exact ⟨rfl, bz_14⟩
set_option maxHeartbeats 1000000 in
theorem lawOpens (master key data : List UInt8) (amaster akey adata : Option Addr) (cmaster ckey cdata : Nat) (x0 x1 : Addr) (w : World) (h1 : master.length ≤ maxLen) (h2 : key.length ≤ maxLen) (h3 : data.length ≤ maxLen) (hs : Sents w x0 x1) (rmaster : RowAt w amaster master) (rkey : RowAt w akey key) (rdata : RowAt w adata data) :
    Calls Tryz.prog 4 #[.slice amaster master.length cmaster, .slice akey key.length ckey, .slice adata data.length cdata] w fun e w' => e = .returned (.bool true) ∧ Below w.heap.size w w' := by
  unfold maxLen at h1 h2 h3
  by_cases q1 : master.length ≤ 1048576
  · by_cases q2 : key.length ≤ 1048576
    · by_cases q3 : data.length ≤ 1048576
      · exact lawOpens_main master key data amaster akey adata cmaster ckey cdata x0 x1 w q1 q2 q3 hs rmaster rkey rdata
      · clear hs rmaster rkey rdata
        go_enter Tryz.func4, Tryz.ntmps4
        go_wp2_with fail
        go_ret
        exact ⟨rfl, Below.refl _ _⟩
    · clear hs rmaster rkey rdata
      go_enter Tryz.func4, Tryz.ntmps4
      go_wp2_with fail
      go_ret
      exact ⟨rfl, Below.refl _ _⟩
  · clear hs rmaster rkey rdata
    go_enter Tryz.func4, Tryz.ntmps4
    go_wp2_with fail
    go_ret
    exact ⟨rfl, Below.refl _ _⟩
end Go.Proofs.YtjkofmomoljelaaGreatDoor
