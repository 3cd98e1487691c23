/-
  laws.markFieldS, markMsg, markDecoded, heldFieldS, heldMsg, heldDecoded.
-/
import Derived.Test.YtacgbajcdngokaaDoorIsoLaw
namespace Go.Proofs.YtacgbajcdngokaaDoor
open Go.RowKit

/-- What the marks make of a row of fields, and the next mark. -/
def markF : List (Nat × List UInt8) → Nat → List (Nat × List UInt8)
  | [], _ => []
  | p :: r, k => (k, marks (k + 1) p.2.length) :: markF r (k + 1 + p.2.length)
def markN : List (Nat × List UInt8) → Nat → Nat
  | [], k => k
  | p :: r, k => markN r (k + 1 + p.2.length)
theorem markF_length (L : List (Nat × List UInt8)) : ∀ k, (markF L k).length = L.length := by
  induction L with
  | nil => intro k; rfl
  | cons p r ih => intro k; show (markF r _).length + 1 = r.length + 1; rw [ih]
theorem markF_snoc (L : List (Nat × List UInt8)) (p : Nat × List UInt8) : ∀ k, markF (L ++ [p]) k = markF L k ++ [(markN L k, marks (markN L k + 1) p.2.length)] := by
  induction L with
  | nil => intro k; rfl
  | cons q r ih => intro k; show _ :: markF (r ++ [p]) _ = _; rw [ih]; rfl
theorem markN_snoc (L : List (Nat × List UInt8)) (p : Nat × List UInt8) : ∀ k, markN (L ++ [p]) k = markN L k + 1 + p.2.length := by
  induction L with
  | nil => intro k; rfl
  | cons q r ih => intro k; show markN (r ++ [p]) _ = _; rw [ih]; rfl
theorem markF_append (A B : List (Nat × List UInt8)) : ∀ k, markF (A ++ B) k = markF A k ++ markF B (markN A k) := by
  induction A with
  | nil => intro k; rfl
  | cons q r ih => intro k; show _ :: markF (r ++ B) _ = _; rw [ih]; rfl
theorem markN_le (L : List (Nat × List UInt8)) (hsz : ∀ p ∈ L, p.2.length ≤ 4096) : ∀ k, markN L k ≤ k + L.length * 4097 := by
  induction L with
  | nil => intro k; show k ≤ _; omega
  | cons q r ih =>
    intro k
    have h1 := ih (fun p hp => hsz p (List.mem_cons_of_mem _ hp)) (k + 1 + q.2.length)
    have h2 := hsz q List.mem_cons_self
    show markN r _ ≤ _
    rw [List.length_cons]
    omega
/-- The fields with the first i marked. -/
def mkAt (L : List (Nat × List UInt8)) (k i : Nat) : List (Nat × List UInt8) := markF (L.take i) k ++ L.drop i
theorem mkAt_length (L : List (Nat × List UInt8)) (k i : Nat) : (mkAt L k i).length = L.length := by
  unfold mkAt; rw [List.length_append, markF_length, List.length_take, List.length_drop]; omega
theorem mkAt_zero (L : List (Nat × List UInt8)) (k : Nat) : mkAt L k 0 = L := rfl
theorem mkAt_all (L : List (Nat × List UInt8)) (k : Nat) : mkAt L k L.length = markF L k := by unfold mkAt; simp
theorem mkAt_get (L : List (Nat × List UInt8)) (k i : Nat) (hi : i < L.length) : (mkAt L k i).getD i (0, []) = L.getD i (0, []) := by
  unfold mkAt
  rw [List.getD_eq_getElem?_getD, List.getElem?_append_right (by rw [markF_length, List.length_take]; omega), markF_length, List.length_take, show i - min i L.length = 0 from by omega, List.getElem?_drop, Nat.add_zero, ← List.getD_eq_getElem?_getD]
theorem mkAt_step (L : List (Nat × List UInt8)) (k i : Nat) (hi : i < L.length) : (mkAt L k i).set i (markN (L.take i) k, marks (markN (L.take i) k + 1) (L.getD i (0, [])).2.length) = mkAt L k (i + 1) ∧ markN (L.take (i + 1)) k = markN (L.take i) k + 1 + (L.getD i (0, [])).2.length := by
  have e : L.take (i + 1) = L.take i ++ [L.getD i (0, [])] := by rw [List.take_succ_eq_append_getElem hi, List.getD_eq_getElem?_getD, List.getElem?_eq_getElem hi]; rfl
  have hl : (markF (L.take i) k).length = i := by rw [markF_length, List.length_take]; omega
  refine ⟨?_, by rw [e, markN_snoc]⟩
  unfold mkAt
  rw [e, markF_snoc, List.drop_eq_getElem_cons hi, List.set_append_right _ _ (by omega), hl, Nat.sub_self, List.set_cons_zero, List.append_assoc]
  rfl
theorem fldCells_set (L : List (Nat × List UInt8)) : ∀ (vs : List Value), vs.length = L.length → ∀ i, i < L.length → ∀ p : Nat × List UInt8, fldCells (L.set i p) vs = (fldCells L vs).set (i * 2) (.int .i64 (p.1 : Int)) := by
  induction L with
  | nil => intro vs _ i h; simp at h
  | cons q r ih =>
    intro vs h i hi p
    cases vs with
    | nil => simp at h
    | cons v t =>
      cases i with
      | zero => rfl
      | succ i =>
        have := ih t (by simpa using h) i (by simpa using hi) p
        rw [show (i + 1) * 2 = i * 2 + 1 + 1 from by omega]
        show Value.int .i64 (q.1 : Int) :: v :: fldCells (r.set i p) t = _
        rw [this]
        rfl
theorem getD_set_self {α : Type} (l : List α) (i : Nat) (x d : α) (h : i < l.length) : (l.set i x).getD i d = x := by simp [List.getD_eq_getElem?_getD, h]
theorem getD_set_ne {α : Type} (l : List α) (i j : Nat) (x d : α) (h : i ≠ j) : (l.set i x).getD j d = l.getD j d := by simp [List.getD_eq_getElem?_getD, List.getElem?_set_ne h]
/-- The number of one field is written. -/
theorem Fs.putNo {w : World} {lo g n c : Nat} {L : List (Nat × List UInt8)} {vs : List Value} (h : Fs w lo (.slice (some ⟨g, 0, none⟩) n c) L vs) (i k : Nat) (hi : i < L.length) :
    Fs (w.setCell ⟨g, i * 2, none⟩ (.int .i64 (k : Int))) lo (.slice (some ⟨g, 0, none⟩) n c) (L.set i (k, (L.getD i (0, [])).2)) vs := by
  have hob : (Value.slice (some ⟨g, 0, none⟩) n c).ownBlock = some g := rfl
  obtain ⟨x, y, e⟩ := h.shape
  have en : n = L.length := by simp only [Value.slice.injEq] at e; exact e.2.1
  refine ⟨by rw [List.length_set]; exact h.len, ?_, ?_, fun a b hab hb => ?_, fun a ha => ?_⟩
  · rw [List.length_set, fldCells_set L vs h.len i hi]
    have row := h.row
    subst en
    exact (row.stored (i * 2) _).1
  · intro j hj
    rw [List.length_set] at hj
    have e2 : ((L.set i (k, (L.getD i (0, [])).2)).getD j (0, [])).2 = (L.getD j (0, [])).2 := by
      by_cases hij : i = j
      · subst hij; rw [getD_set_self _ _ _ _ hi]
      · rw [getD_set_ne _ _ _ _ _ hij]
    rw [e2]
    obtain ⟨t, q⟩ := h.own j hj
    refine ⟨t, ownsRow_setCell_other q ?_ _⟩
    intro ex
    exact h.ap j hj g ex hob
  · rw [List.length_set] at hb; exact h.sep a b hab hb
  · rw [List.length_set] at ha; exact h.ap a ha
/-- The bytes of one field are written. -/
theorem Fs.putData {w w' : World} {lo : Nat} {v : Value} {L : List (Nat × List UInt8)} {vs : List Value} (h : Fs w lo v L vs) (i : Nat) (hi : i < L.length) (d : List UInt8) (hown : Own w' lo (vs.getD i undef) d) (hg : w.grownBy w' (vs.getD i undef).ownBlock) :
    Fs w' lo v (L.set i ((L.getD i (0, [])).1, d)) vs := by
  refine ⟨by rw [List.length_set]; exact h.len, ?_, ?_, fun a b hab hb => ?_, fun a ha => ?_⟩
  · have e : fldCells (L.set i ((L.getD i (0, [])).1, d)) vs = fldCells L vs := by
      rw [fldCells_set L vs h.len i hi]
      have c := (fldCells_at L vs h.len i hi).1
      obtain ⟨hlt, hc⟩ := List.getElem?_eq_some_iff.1 c
      rw [← hc, List.set_getElem_self]
    rw [List.length_set, e]
    refine World.ownsRow.kept h.row hg ?_
    cases hb : v.ownBlock with
    | none => exact .inl rfl
    | some k => exact .inr (fun e => h.ap i hi k e.symm hb)
  · intro j hj
    rw [List.length_set] at hj
    by_cases hij : i = j
    · subst hij; rw [getD_set_self _ _ _ _ hi]; exact hown
    · rw [getD_set_ne _ _ _ _ _ hij]
      refine (h.own j hj).grown hg ?_
      cases hb : (vs.getD j undef).ownBlock with
      | none => exact .inl rfl
      | some k =>
        refine .inr (fun e => ?_)
        rcases Nat.lt_or_gt_of_ne hij with hlt | hlt
        · exact h.sep i j hlt hj k e.symm hb
        · exact h.sep j i hlt hi k hb e.symm
  · rw [List.length_set] at hb; exact h.sep a b hab hb
  · rw [List.length_set] at ha; exact h.ap a ha
/-- The blocks from hi on are as they were. -/
def Keeps (hi : Nat) (w w' : World) : Prop := ∀ g, hi ≤ g → g < w.heap.size → w'.heap[g]? = w.heap[g]?
theorem Keeps.refl (hi : Nat) (w : World) : Keeps hi w w := fun _ _ _ => rfl
theorem Keeps.blk {hi : Nat} {w w' : World} (h : Keeps hi w w') {g t : Nat} {cs : List Value} (hb : Blk w g t cs) (hg : hi ≤ g) : Blk w' g t cs := (h g hg hb.lt).trans hb
theorem Keeps.step {hi : Nat} {w a b : World} {r : Option Nat} (h : Keeps hi w a) (hs : w.heap.size ≤ a.heap.size) (hg : a.grownBy b r) (hr : ∀ g, r = some g → g < hi) : Keeps hi w b :=
  fun g h1 h2 => (hg.block g (Nat.lt_of_lt_of_le h2 hs) (fun e => by first | exact absurd (hr g e) (by omega) | exact absurd (hr g e.symm) (by omega))).trans (h g h1 h2)
structure Under (v : Value) (vs : List Value) (n hi : Nat) : Prop where
  v : ∀ g, v.ownBlock = some g → g < hi
  vs : ∀ i, i < n → ∀ g, (vs.getD i undef).ownBlock = some g → g < hi
theorem Fs.under {w : World} {lo : Nat} {v : Value} {L : List (Nat × List UInt8)} {vs : List Value} (h : Fs w lo v L vs) : Under v vs L.length w.heap.size :=
  ⟨fun g hg => (h.row.lt g hg).2, fun i hi g hg => (own_lt (h.own i hi) g hg).2⟩
set_option maxRecDepth 100000 in
set_option maxHeartbeats 2000000 in
theorem markFieldS_any (L : List (Nat × List UInt8)) (hsz : ∀ p ∈ L, p.2.length ≤ 4096) (hL : L.length ≤ 200) (k : Nat) (hk : k ≤ 10) (v : Value) (lo : Nat) (vs : List Value) (w : World) (F : Fs w lo v L vs) (hlo : lo ≤ w.heap.size) (hi : Nat) (U : Under v vs L.length hi) :
    Calls Tryd.prog 34 #[v, .int .i64 (k : Int)] w fun e w' => e = .returned (.int .i64 (markN L k : Nat)) ∧ Fs w' lo v (markF L k) vs ∧ Below lo w w' ∧ Keeps hi w w' := by
  obtain ⟨x1, c1, rfl⟩ := F.shape
  obtain ⟨n, hn⟩ : ∃ n, n = L.length := ⟨_, rfl⟩
  have HN := hideT hn
  have HALL := hideT (mkAt_all L k)
  have HAN : Hid (markN (L.take n) k = markN L k) := by rw [hn, List.take_of_length_le (Nat.le_refl _)]; exact (rfl : markN L k = markN L k)
  rw [← hn] at F hL HALL U ⊢
  have HU := hideT U
  clear U
  have HSZ := hideT hsz
  clear hn hsz
  go_enter Tryd.func34, Tryd.ntmps34
  go_wp2_with fail
  go_loopw [1, 5] (fun kv i wr => ∃ j : Nat, j ≤ n ∧ i = .int .i64 (j : Int) ∧ kv = .int .i64 (markN (L.take j) k : Nat) ∧ Fs wr lo (.slice x1 n c1) (mkAt L k j) vs ∧ Below lo w wr ∧ Hid (Keeps hi w wr)) (fun _ i _ => n - (intOf i).toNat)
  case atStart => exact ⟨0, Nat.zero_le _, rfl, rfl, F, Below.refl _ _, Keeps.refl _ _⟩
  case round =>
    obtain ⟨j, hj, rfl, rfl, FR, hbx, HKP⟩ := hrel
    by_cases hlt : j < n
    · have hltI : (j : Int) < (n : Int) := by omega
      have hjL : j < L.length := by rw [← HN.out]; exact hlt
      have hjm : j < (mkAt L k j).length := by rw [mkAt_length]; exact hjL
      obtain ⟨g, c, ai, ci, hv, p1, p2, r1, hvi, hlg, hfz⟩ := FR.at hjm
      simp only [Value.slice.injEq] at hv
      obtain ⟨rfl, -, rfl⟩ := hv
      have hge := mkAt_get L k j hjL
      rw [hge] at p1 p2 r1 hvi
      have hdl : (L.getD j (0, [])).2.length ≤ 4096 := by
        rw [List.getD_eq_getElem?_getD, List.getElem?_eq_getElem hjL]
        exact HSZ.out _ (List.getElem_mem hjL)
      have hmb := markN_le (L.take j) (fun p hp => HSZ.out p (List.mem_of_mem_take hp)) k
      rw [List.length_take] at hmb
      obtain ⟨hst1, hst2⟩ := mkAt_step L k j hjL
      have HF1 := FR.putNo j (markN (L.take j) k) hjm
      rw [hge] at HF1
      obtain ⟨km, hkm⟩ : ∃ m, m = markN (L.take j) k := ⟨_, rfl⟩
      obtain ⟨d, hd⟩ : ∃ m, m = (L.getD j (0, [])).2 := ⟨_, rfl⟩
      rw [← hkm] at hmb hst1 hst2 HF1 ⊢
      rw [← hd] at p2 r1 hvi hdl hst1 hst2 HF1
      have hkb : km ≤ 1000000 := by
        have : min j L.length ≤ 200 := by have := HN.out; omega
        have := Nat.mul_le_mul_right 4097 this
        omega
      have hwk : IntKind.i64.wrap ((km : Int) + 1) = ((km + 1 : Nat) : Int) := by rw [IntKind.wrap_i64]; omega
      obtain ⟨W, hW⟩ : ∃ y, y = wr.setCell ⟨g, j * 2, none⟩ (.int .i64 (km : Int)) := ⟨_, rfl⟩
      rw [← hW] at HF1
      have hgb := World.block_lt_of_cell? wr _ p1
      have p2W : W.cell? ⟨g, j * 2 + 1, none⟩ = some (.slice ai d.length ci) := by
        obtain ⟨g2, c2, a2, e2, hv2, -, q, -, hvi2, -⟩ := HF1.at (i := j) (by rw [List.length_set]; exact hjm)
        simp only [Value.slice.injEq, Option.some.injEq, Addr.mk.injEq] at hv2
        rw [getD_set_self _ _ _ _ hjm] at q hvi2
        rw [hv2.1.1, q, ← hvi, hvi2]
      have ownW := HF1.own j (by rw [List.length_set]; exact hjm)
      rw [getD_set_self _ _ _ _ hjm, hvi] at ownW
      have HMB := hideT (markByteS_any lo ai ci d (km + 1) W (by omega) (by omega) ownW)
      have bW : Below lo w W := by rw [hW]; exact hbx.grown (grown_setCellT wr ⟨g, j * 2, none⟩ _) (by have := hbx.size; omega) (fun q hq => by cases hq; exact hlg)
      have HKW : Hid (Keeps hi w W) := by rw [hW]; exact HKP.out.step hbx.size (grown_setCellT wr ⟨g, j * 2, none⟩ _) (fun q hq => by cases hq; exact HU.out.v _ rfl)
      have HVI := hideT hvi
      obtain ⟨l, hl⟩ : ∃ l, l = d.length := ⟨_, rfl⟩
      obtain ⟨k1, hk1⟩ : ∃ m, m = km + 1 := ⟨_, rfl⟩
      rw [← hk1] at hwk HMB
      rw [← hl] at HMB p2W p2
      obtain ⟨k2, hk2⟩ : ∃ m, m = k1 + l := ⟨_, rfl⟩
      rw [← hk2] at HMB
      have HK2 := hideT hk2
      clear hk2
      have HW := hideT hW
      have f1 := hfz (j * 2)
      have hol := own_lt ownW
      have HST := hideT (And.intro hst1 hst2)
      have HK1 := hideT (And.intro hk1 hl)
      clear hst1 hst2 hkm hd hl hk1 hW hge hvi r1 FR hfz p2 ownW
      go_upto_region 5 with fail
      rw [← show W = _ from HW]
      clear HW p1 f1
      go_wp2_with fail
      refine HMB.out.mono ?_
      rintro e w2 ⟨rfl, own2, g2⟩
      have b2 := bW.grown g2 (by have := bW.size; omega) (fun q hq => by rw [HK1.out.2] at hq; exact (hol q hq).1)
      have HK2P : Hid (Keeps hi w w2) := HKW.out.step bW.size g2 (fun q hq => HU.out.vs j hlt q (by rw [HVI.out, ← HK1.out.2]; exact hq))
      have FS2 := HF1.putData j (by rw [List.length_set]; exact hjm) (marks k1 l) (by rw [HVI.out, ← HK1.out.2]; exact own2) (by rw [HVI.out, ← HK1.out.2]; exact g2)
      rw [getD_set_self _ _ _ _ hjm, List.set_set] at FS2
      have FS3 : Fs w2 lo (.slice (some ⟨g, 0, none⟩) n c1) (mkAt L k (j + 1)) vs := by
        rw [← HST.out.1, ← HK1.out.1, ← HK1.out.2]
        exact FS2
      clear FS2 HF1 own2 g2 HMB p2W
      go_wp2_with fail
      go_roundw
      case rel => exact ⟨j + 1, by omega, by go_num, by rw [HST.out.2, ← HK1.out.1, ← HK1.out.2, ← HK2.out], FS3, b2, HK2P⟩
      case measure => simp [intOf]; omega
    · have hltI : ¬ (j : Int) < (n : Int) := by omega
      obtain rfl : j = n := by omega
      rw [HALL.out] at FR
      rw [HAN.out]
      go_wp2_with fail
      go_ret
      exact ⟨rfl, FR, hbx, HKP.out⟩
set_option maxRecDepth 100000 in
set_option maxHeartbeats 2000000 in
theorem heldFieldS_any (L : List (Nat × List UInt8)) (hsz : ∀ p ∈ L, p.2.length ≤ 4096) (hL : L.length ≤ 200) (k : Nat) (hk : k ≤ 10) (v : Value) (lo : Nat) (vs : List Value) (w : World) (F : Fs w lo v (markF L k) vs) :
    Calls Tryd.prog 60 #[v, .int .i64 (k : Int)] w fun e w' => e = .returned (.int .i64 (markN L k : Nat)) ∧ w' = w := by
  obtain ⟨x1, c1, rfl⟩ := F.shape
  have hml := markF_length L k
  rw [hml] at F ⊢
  obtain ⟨n, hn⟩ : ∃ n, n = L.length := ⟨_, rfl⟩
  have HN := hideT hn
  have HAN : Hid (markN (L.take n) k = markN L k) := by rw [hn, List.take_of_length_le (Nat.le_refl _)]; exact (rfl : markN L k = markN L k)
  rw [← hn] at F hL ⊢
  have HSZ := hideT hsz
  clear hn hsz
  go_enter Tryd.func60, Tryd.ntmps60
  go_wp2_with fail
  go_loopw [1, 5] (fun kv i wr => ∃ j : Nat, j ≤ n ∧ i = .int .i64 (j : Int) ∧ kv = .int .i64 (markN (L.take j) k : Nat) ∧ wr = w) (fun _ i _ => n - (intOf i).toNat)
  case atStart => exact ⟨0, Nat.zero_le _, rfl, rfl, rfl⟩
  case round =>
    obtain ⟨j, hj, rfl, rfl, hwr⟩ := hrel
    have hwr2 := hwr.symm
    subst hwr2
    by_cases hlt : j < n
    · have hltI : (j : Int) < (n : Int) := by omega
      have hjL : j < L.length := by rw [← HN.out]; exact hlt
      have hjm : j < (markF L k).length := by rw [hml]; exact hjL
      obtain ⟨g, c, ai, ci, hv, p1, p2, r1, -⟩ := F.at hjm
      simp only [Value.slice.injEq] at hv
      obtain ⟨rfl, -, rfl⟩ := hv
      have hge : (markF L k).getD j (0, []) = (markN (L.take j) k, marks (markN (L.take j) k + 1) (L.getD j (0, [])).2.length) := by
        have h1 := (mkAt_step L k j hjL).1
        have h2 : (mkAt L k (j + 1)).getD j (0, []) = (markF L k).getD j (0, []) := by
          unfold mkAt
          have e : markF L k = markF (L.take (j + 1)) k ++ markF (L.drop (j + 1)) (markN (L.take (j + 1)) k) := by
            have h := markF_append (L.take (j + 1)) (L.drop (j + 1)) k
            rw [List.take_append_drop] at h
            exact h
          rw [e, List.getD_eq_getElem?_getD, List.getD_eq_getElem?_getD, List.getElem?_append_left (by rw [markF_length, List.length_take]; omega), List.getElem?_append_left (by rw [markF_length, List.length_take]; omega)]
        rw [← h2, ← h1, getD_set_self _ _ _ _ (by rw [mkAt_length]; exact hjL)]
      rw [hge] at p1 p2 r1
      have hst2 := (mkAt_step L k j hjL).2
      have hdl : (L.getD j (0, [])).2.length ≤ 4096 := by
        rw [List.getD_eq_getElem?_getD, List.getElem?_eq_getElem hjL]
        exact HSZ.out _ (List.getElem_mem hjL)
      have hmb := markN_le (L.take j) (fun p hp => HSZ.out p (List.mem_of_mem_take hp)) k
      rw [List.length_take] at hmb
      obtain ⟨km, hkm⟩ : ∃ m, m = markN (L.take j) k := ⟨_, rfl⟩
      obtain ⟨l, hl⟩ : ∃ l, l = (L.getD j (0, [])).2.length := ⟨_, rfl⟩
      rw [← hkm] at hmb hst2 p1 p2 r1 ⊢
      rw [← hl] at hdl hst2 p2 r1
      simp only [marks_length] at p2
      have p1' : w.cell? ⟨g, j * 2, none⟩ = some (.int .i64 (km : Int)) := p1
      have r1' : RowAt w ai (marks (km + 1) l) := r1
      have hkb : km ≤ 1000000 := by
        have : min j L.length ≤ 200 := by have := HN.out; omega
        have := Nat.mul_le_mul_right 4097 this
        omega
      have hwk : IntKind.i64.wrap ((km : Int) + 1) = ((km + 1 : Nat) : Int) := by rw [IntKind.wrap_i64]; omega
      have HHB := hideT (heldByteS_any ai ci l (km + 1) w (by omega) (by omega) r1')
      obtain ⟨k1, hk1⟩ : ∃ m, m = km + 1 := ⟨_, rfl⟩
      rw [← hk1] at hwk HHB
      have HST := hideT hst2
      have HK1 := hideT hk1
      clear hst2 hkm hl hk1 hge p1 r1 r1'
      obtain ⟨k2, hk2⟩ : ∃ m, m = k1 + l := ⟨_, rfl⟩
      rw [← hk2] at HHB
      have hk2n : ¬ (k2 : Int) < 0 := by omega
      have HK2 := hideT hk2
      clear hk2
      go_wp2_with fail
      refine HHB.out.mono ?_
      rintro e w2 ⟨rfl, hw2⟩
      have hw3 := hw2.symm
      subst hw3
      go_wp2_with fail
      go_roundw
      case rel => exact ⟨j + 1, by omega, by go_num, by rw [HST.out, ← HK1.out, ← HK2.out], by trivial⟩
      case measure => simp [intOf]; omega
    · have hltI : ¬ (j : Int) < (n : Int) := by omega
      obtain rfl : j = n := by omega
      rw [HAN.out]
      go_wp2_with fail
      go_ret
      exact ⟨rfl, rfl⟩
end Go.Proofs.YtacgbajcdngokaaDoor
