/-
  A drawn message is right: its type are four digits, its numbers ascend, its fields fit.
-/
import Derived.Test.YtacgbajcdngokaaGreatDoorIsoDrawN
import Derived.Test.YtacgbajcdngokaaGreatDoorIsoBack2
namespace Go.Proofs.YtacgbajcdngokaaGreatDoor
open Go.RowKit

theorem okDig_fText (c : Nat) : okDig (fText c) = true := by
  unfold okDig fText
  have h : (UInt8.ofNat (48 + c % 10)).toNat = 48 + c % 10 := by rw [UInt8.toNat_ofNat']; omega
  rw [h]
  exact decide_eq_true (by omega)
theorem okTxt_fTxt (c : Nat) : okTxt (fTxt c) = true := by
  unfold okTxt fTxt
  have h : (UInt8.ofNat (32 + c % 95)).toNat = 32 + c % 95 := by rw [UInt8.toNat_ofNat']; omega
  rw [h]
  exact decide_eq_true (by omega)
theorem fit_pl (f : Nat → UInt8) (ok : UInt8 → Bool) (hf : ∀ c, ok (f c) = true) (l m n : Nat) (code : List UInt8) (i : Nat) (h1 : l ≤ n) (h2 : n ≤ m) : fitsN l m ok (plL f code i n) = true := by
  unfold fitsN
  rw [plL_length, plL_all f ok hf]
  simp [h1, h2]
theorem fit_data (code : List UInt8) (i no : Nat) (h : no ∈ tabNos) : fitsN (kpL no) (kpM no) (kpOk no) (dataL code i no) = true := by
  have H3 : ∀ n, fitsN n n okDig (plL fText code i n) = true := fun n => fit_pl _ _ okDig_fText _ _ _ _ _ (Nat.le_refl _) (Nat.le_refl _)
  have H2 : ∀ n, fitsN n n okTxt (plL fTxt code i n) = true := fun n => fit_pl _ _ okTxt_fTxt _ _ _ _ _ (Nat.le_refl _) (Nat.le_refl _)
  have H1 : ∀ n, fitsN n n okAny (plL fSome code i n) = true := fun n => fit_pl _ _ (fun _ => rfl) _ _ _ _ _ (Nat.le_refl _) (Nat.le_refl _)
  simp only [tabNos, List.mem_cons, List.not_mem_nil, or_false] at h
  rcases h with rfl | rfl | rfl | rfl | rfl | rfl | rfl | rfl | rfl | rfl | rfl | rfl | rfl | rfl
  · exact (fit_pl fText okDig okDig_fText 13 19 (13 + nv code i % 7) code (ni code i) (by omega) (by omega) : _)
  · exact H3 6
  · exact H3 12
  · exact H3 10
  · exact H3 6
  · exact H2 12
  · exact H2 2
  · exact H2 8
  · show fitsN 0 200 okAny (if nv code i = 255 then List.replicate 200 0 else plL fSome code (ni code i) (nv code i % 12)) = true
    split
    · unfold fitsN
      rw [List.length_replicate, show ∀ l : List UInt8, l.all okAny = true from fun l => List.all_eq_true.2 (fun _ _ => rfl)]
      rfl
    · exact fit_pl fSome okAny (fun _ => rfl) 0 200 _ _ _ (by omega) (by omega)
  · exact H1 8
  · exact H1 10
  · exact H1 8
  · exact H3 3
  · exact H1 8
theorem bef_snoc (L : List (Int × List UInt8)) (p : Int × List UInt8) (j : Nat) (h : j ≤ L.length) : bef (L ++ [p]) j = bef L j := by
  cases j with
  | zero => rfl
  | succ j => show ((L ++ [p]).getD j (0, [])).1 = (L.getD j (0, [])).1; rw [getD_left _ _ _ _ (by omega)]
theorem okL_snoc {L : List (Int × List UInt8)} {p : Int × List UInt8} (h : okL L = true) (hp : okF (bef L L.length) p = true) : okL (L ++ [p]) = true := by
  refine okL_yes _ (fun j hj => ?_)
  rw [List.length_append] at hj
  have hj2 : j < L.length + 1 := hj
  rw [bef_snoc _ _ _ (by omega)]
  by_cases hc : j < L.length
  · rw [getD_left _ _ _ _ hc]
    unfold okL at h
    rw [List.all_eq_true] at h
    exact h j (List.mem_range.2 hc)
  · have e : j = L.length := by omega
    rw [getD_last _ _ _ _ e, e]
    exact hp
theorem tab_asc : ∀ j, j < 14 → ∀ k, k < 14 → j < k → tabNos.getD j 0 < tabNos.getD k 0 := by decide
theorem tab_pos : ∀ k, k < 14 → 0 < tabNos.getD k 0 := by decide
theorem tab_kpM : ∀ n ∈ tabNos, kpM n ≤ 200 := by decide
theorem msgF_good (code : List UInt8) (i : Nat) : ∀ k, k ≤ 14 → okL (msgF code i k) = true ∧ (∀ j, k ≤ j → j < 14 → bef (msgF code i k) (msgF code i k).length < ((tabNos.getD j 0 : Nat) : Int)) ∧ ∀ p ∈ msgF code i k, p.2.length ≤ 200
  | 0, _ => ⟨rfl, fun j _ h => by have := tab_pos j h; show (0 : Int) < _; omega, fun p h => by cases h⟩
  | k + 1, hk => by
    obtain ⟨h1, h2, h3⟩ := msgF_good code i k (by omega)
    have hm := tab_get k (by omega)
    have hf := fit_data code (msgI code i k) _ hm
    by_cases hb : msgB code i k = true
    · have e : msgF code i (k + 1) = msgF code i k ++ [(((tabNos.getD k 0 : Nat) : Int), dataL code (msgI code i k) (tabNos.getD k 0))] := by show (if _ then _ else _) = _; rw [if_pos hb]
      rw [e]
      have hlt := h2 k (Nat.le_refl _) (by omega)
      refine ⟨okL_snoc h1 ?_, fun j hj hj2 => ?_, fun p hp => ?_⟩
      · unfold okF fitZ inZ
        rw [Bool.and_eq_true]
        refine ⟨decide_eq_true hlt, ?_⟩
        show (decide ((0 : Int) ≤ ((tabNos.getD k 0 : Nat) : Int)) && decide (((tabNos.getD k 0 : Nat) : Int).toNat ∈ tabNos) && fitsN (kpL (((tabNos.getD k 0 : Nat) : Int)).toNat) (kpM (((tabNos.getD k 0 : Nat) : Int)).toNat) (kpOk (((tabNos.getD k 0 : Nat) : Int)).toNat) _) = true
        rw [Int.toNat_natCast, hf, decide_eq_true hm, decide_eq_true (by omega)]
        rfl
      · rw [List.length_append]
        show (((msgF code i k ++ [_]).getD (msgF code i k).length (0, [])).1 : Int) < _
        rw [getD_last _ _ _ _ rfl]
        have := tab_asc k (by omega) j hj2 (by omega)
        show ((tabNos.getD k 0 : Nat) : Int) < _
        omega
      · rcases List.mem_append.1 hp with h | h
        · exact h3 p h
        · cases List.mem_singleton.1 h
          unfold fitsN at hf
          rw [Bool.and_eq_true, decide_eq_true_eq] at hf
          exact Nat.le_trans hf.1.2 (tab_kpM _ hm)
    · have e : msgF code i (k + 1) = msgF code i k := by show (if _ then _ else _) = _; rw [if_neg hb]
      rw [e]
      exact ⟨h1, fun j hj hj2 => h2 j (by omega) hj2, h3⟩
theorem msgS_good (code : List UInt8) (i : Nat) : (decide ((msgS code i).size = 4) && digs (msgS code i)) = true := by
  have key : ∀ d, d < 5 → (decide ((mtis.getD d ByteArray.empty).size = 4) && digs (mtis.getD d ByteArray.empty)) = true := by
    intro d h
    have : d = 0 ∨ d = 1 ∨ d = 2 ∨ d = 3 ∨ d = 4 := by omega
    rcases this with rfl | rfl | rfl | rfl | rfl <;> rfl
  exact key _ (Nat.mod_lt _ (by decide))
theorem cast_back {L : List (Int × List UInt8)} (h : okL L = true) : ((List.range L.length).map (fun j => (noL L j, (L.getD j (0, [])).2))).map (fun (p : Nat × List UInt8) => ((p.1 : Int), p.2)) = L := by
  apply List.ext_getElem
  · simp
  · intro j h1 h2
    have hj : j < L.length := h2
    have hr := noL_rng h hj
    have he : ((noL L j : Nat) : Int) = (L.getD j (0, [])).1 := by
      unfold noL at hr ⊢
      omega
    simp only [List.getElem_map, List.getElem_range]
    rw [he]
    rw [List.getD_eq_getElem?_getD, List.getElem?_eq_getElem hj]
    rfl
/-- The drawn message, encoded, is decoded to itself. -/
theorem msg_back (code : List UInt8) (i : Nat) : dC (encL (msgS code i) (msgF code i 14)) = 0 ∧ dM (encL (msgS code i) (msgF code i 14)) = msgS code i ∧ dLI (encL (msgS code i) (msgF code i 14)) = msgF code i 14 ∧ 12 ≤ (encL (msgS code i) (msgF code i 14)).length ∧ (encL (msgS code i) (msgF code i 14)).length ≤ 4096 := by
  obtain ⟨h1, -, -⟩ := msgF_good code i 14 (Nat.le_refl _)
  obtain ⟨e1, e2, e3, -, e5⟩ := enc_back _ _ (msgS_good code i) h1
  refine ⟨e1, e2, ?_, ?_, (dC_zero e1).1⟩
  · unfold dLI
    rw [e3]
    exact cast_back h1
  · rw [e5]
    have := (maps_nonempty (msgF code i 14)).1
    omega
/-- Where the MAC is: nowhere, or in the last 8 bytes. -/
theorem mac_at (data : List UInt8) (h : dC data = 0) : dA data = 0 ∨ dA data + 8 = data.length := by
  obtain ⟨-, -, -, hfc, hde⟩ := dC_zero h
  unfold dA
  rw [if_pos h]
  unfold dE at hde
  generalize mapN data = N at *
  generalize mapE data = E at *
  cases hN : N.length with
  | zero => exact .inl rfl
  | succ i =>
    show macP (N.getD i 0) (decAt data N E i) = 0 ∨ macP (N.getD i 0) (decAt data N E i) + 8 = _
    have h1 := hfc i (by omega)
    rw [hN] at hde
    have hde2 : ¬ decAt data N E i + fldE (N.getD i 0) (data.drop (decAt data N E i)) < data.length := hde
    obtain ⟨-, -, h3, -, -, h6⟩ := fc_zero (show fldC (N.getD i 0) (data.drop (decAt data N E i)) = 0 from h1)
    rw [h6] at hde2
    rw [List.length_drop] at h3
    generalize N.getD i 0 = no at *
    unfold macP
    split
    · rename_i hno
      have e1 : kpD no = 0 := by rcases hno with rfl | rfl <;> rfl
      have e2 : ∀ s, kpS no s = 8 := by intro s; rcases hno with rfl | rfl <;> rfl
      rw [e1, e2] at h3 hde2
      right
      omega
    · exact .inl rfl
end Go.Proofs.YtacgbajcdngokaaGreatDoor
