/-
  What a message that decodes is the encoding of.
-/
import Derived.Test.YtacgbajcdngokaaGreatDoorIsoBack
namespace Go.Proofs.YtacgbajcdngokaaGreatDoor
open Go.RowKit

theorem dC_zero {data : List UInt8} (h : dC data = 0) : data.length ≤ 4096 ∧ tyC data = 0 ∧ mapC data = 0 ∧ (∀ j, j < (mapN data).length → fc data (mapN data) (mapE data) j = 0) ∧ ¬ dE data < data.length := by
  unfold dC at h
  by_cases h1 : 4096 < data.length
  · rw [if_pos h1] at h; omega
  rw [if_neg h1] at h
  by_cases h2 : tyC data ≠ 0
  · rw [if_pos h2] at h; exact absurd h h2
  rw [if_neg h2] at h
  by_cases h3 : mapC data ≠ 0
  · rw [if_pos h3] at h; exact absurd h h3
  rw [if_neg h3] at h
  cases hb : bad data (mapN data) (mapE data) with
  | none =>
    rw [hb] at h
    refine ⟨by omega, by omega, by omega, fun j hj => ?_, fun hlt => ?_⟩
    · unfold bad at hb
      rw [List.find?_eq_none] at hb
      have := hb j (List.mem_range.2 hj)
      simpa using this
    · have h5 : (if dE data < data.length then 5 else 0) = 0 := h
      rw [if_pos hlt] at h5
      omega
  | some i =>
    exfalso
    rw [hb] at h
    unfold bad at hb
    have := List.find?_some hb
    simp at this
    exact this h
theorem mapC_zero {data : List UInt8} (h : mapC data = 0) : mapEnd data ≤ data.length ∧ inTab (nosOf data) = true ∧ (12 < mapEnd data → 64 < lastN (nosOf data)) := by
  unfold mapC at h
  by_cases h1 : data.length < mapEnd data
  · rw [if_pos h1] at h; omega
  rw [if_neg h1] at h
  by_cases h2 : inTab (nosOf data) = false
  · rw [if_pos h2] at h; omega
  rw [if_neg h2] at h
  by_cases h3 : 12 < mapEnd data ∧ lastN (nosOf data) ≤ 64
  · rw [if_pos h3] at h; omega
  exact ⟨by omega, by simpa using h2, fun h4 => by omega⟩
theorem fc_zero {no : Nat} {rest : List UInt8} (h : fldC no rest = 0) : kpD no ≤ rest.length ∧ kpB no (rest.take (kpD no)) = true ∧ kpD no + kpS no (rest.take (kpD no)) ≤ rest.length ∧ fitsN (kpL no) (kpM no) (kpOk no) (fldD no rest) = true ∧ fldD no rest = (rest.drop (kpD no)).take (kpS no (rest.take (kpD no))) ∧ fldE no rest = kpD no + kpS no (rest.take (kpD no)) := by
  have hD : fldD no rest = (rest.drop (kpD no)).take (kpS no (rest.take (kpD no))) := by unfold fldD fD; rw [if_pos (show fC _ _ _ _ _ _ _ = 0 from h)]
  have hE : fldE no rest = kpD no + kpS no (rest.take (kpD no)) := by unfold fldE fE; rw [if_pos (show fC _ _ _ _ _ _ _ = 0 from h)]
  unfold fldC fC at h
  by_cases h1 : rest.length < kpD no
  · rw [if_pos h1] at h; omega
  rw [if_neg h1] at h
  by_cases h2 : kpB no (rest.take (kpD no)) = false
  · rw [if_pos h2] at h; omega
  rw [if_neg h2] at h
  by_cases h3 : rest.length < kpD no + kpS no (rest.take (kpD no))
  · rw [if_pos h3] at h; omega
  rw [if_neg h3] at h
  by_cases h4 : fitsN (kpL no) (kpM no) (kpOk no) ((rest.drop (kpD no)).take (kpS no (rest.take (kpD no)))) = true
  · exact ⟨by omega, by simpa using h2, by omega, by rw [hD]; exact h4, hD, hE⟩
  · rw [if_neg h4] at h; omega
theorem numL_snocB (l : List UInt8) (b : UInt8) : numL (l ++ [b]) = numL l * 10 + (b.toNat - 48) := by unfold numL; rw [List.foldl_append]; rfl
theorem padL_back : ∀ (k : Nat) (ds : List UInt8), ds.length = k → ds.all dig = true → padL k (numL ds) = ds
  | 0, ds, h, _ => by
    obtain rfl : ds = [] := List.length_eq_zero_iff.1 h
    rfl
  | k + 1, ds, h, hd => by
    obtain ⟨l, b, rfl⟩ : ∃ l b, ds = l ++ [b] := ⟨ds.dropLast, ds.getLast (by intro e; rw [e] at h; simp at h), (List.dropLast_concat_getLast _).symm⟩
    have hl : l.length = k := by simpa using h
    rw [List.all_append, Bool.and_eq_true] at hd
    have hb : dig b = true := by simpa using hd.2
    unfold dig at hb
    rw [Bool.and_eq_true, decide_eq_true_eq, decide_eq_true_eq] at hb
    rw [numL_snocB]
    unfold padL
    have e1 : (numL l * 10 + (b.toNat - 48)) / 10 = numL l := by omega
    have e2 : 48 + (numL l * 10 + (b.toNat - 48)) % 10 = b.toNat := by omega
    rw [e1, e2, padL_back k l hl hd.1, UInt8.ofNat_toNat]
/-- A field that was read, written again. -/
theorem fld_fwd (no : Nat) (hm : no ∈ tabNos) (rest : List UInt8) (h : fldC no rest = 0) : padL (kpD no) (fldD no rest).length ++ fldD no rest = rest.take (fldE no rest) := by
  obtain ⟨h1, h2, h3, h4, h5, h6⟩ := fc_zero h
  have hlen : (fldD no rest).length = kpS no (rest.take (kpD no)) := by rw [h5, List.length_take, List.length_drop]; omega
  rw [h6, hlen, h5]
  rw [show rest.take (kpD no + kpS no (rest.take (kpD no))) = rest.take (kpD no) ++ (rest.drop (kpD no)).take (kpS no (rest.take (kpD no))) from by rw [List.take_add]]
  congr 1
  rcases kp_two no hm with hk | ⟨hk, -⟩
  · unfold kpS kpB at *
    rw [if_pos hk] at h2 ⊢
    unfold sdN at h2
    rw [Bool.and_eq_true] at h2
    unfold szN
    rw [if_pos h2.1]
    exact padL_back _ _ (by rw [List.length_take]; omega) h2.1
  · rw [hk]; rfl
theorem byte_ext (a b : UInt8) (h : ∀ i, i < 8 → a.toNat.testBit i = b.toNat.testBit i) : a = b := by
  apply UInt8.toNat_inj.1
  apply Nat.eq_of_testBit_eq
  intro i
  by_cases hi : i < 8
  · exact h i hi
  · have ha : a.toNat < 2 ^ i := Nat.lt_of_lt_of_le (UInt8.toNat_lt a) (Nat.pow_le_pow_right (by omega) (by omega))
    have hb : b.toNat < 2 ^ i := Nat.lt_of_lt_of_le (UInt8.toNat_lt b) (Nat.pow_le_pow_right (by omega) (by omega))
    rw [Nat.testBit_lt_two_pow ha, Nat.testBit_lt_two_pow hb]
theorem bits_ext (a b : List UInt8) (hl : a.length = b.length) (h : ∀ k, k < 8 * a.length → bitL a k = bitL b k) : a = b := by
  apply List.ext_getElem hl
  intro i h1 h2
  apply byte_ext
  intro j hj
  have hk := h (i * 8 + (7 - j)) (by omega)
  unfold bitL at hk
  rw [show (i * 8 + (7 - j)) / 8 = i from by omega, show 7 - (i * 8 + (7 - j)) % 8 = j from by omega] at hk
  rw [List.getD_eq_getElem?_getD, List.getElem?_eq_getElem h1, List.getD_eq_getElem?_getD, List.getElem?_eq_getElem h2] at hk
  exact hk
/-- The fields that were read, with their numbers as Encode takes them. -/
def dLI (data : List UInt8) : List (Int × List UInt8) := (dL data).map (fun (p : Nat × List UInt8) => ((p.1 : Int), p.2))
theorem mapEnd_two (data : List UInt8) : mapEnd data = 12 ∨ mapEnd data = 20 := by unfold mapEnd; split <;> omega
theorem dec_back (data : List UInt8) (h : dC data = 0) : (decide ((dM data).size = 4) && digs (dM data)) = true ∧ okL (dLI data) = true ∧ encL (dM data) (dLI data) = data := by
  obtain ⟨h4, hty, hmc, hfc, hde⟩ := dC_zero h
  obtain ⟨he, htab, hlast⟩ := mapC_zero hmc
  have hN : mapN data = nosOf data := by unfold mapN; rw [if_pos hmc]
  have hE : mapE data = mapEnd data := by unfold mapE; rw [if_pos hmc]
  have h2 := mapEnd_two data
  rw [hN, hE] at hfc
  obtain ⟨NL, hNL⟩ : ∃ q, q = nosOf data := ⟨_, rfl⟩
  obtain ⟨E, hEe⟩ : ∃ q, q = mapEnd data := ⟨_, rfl⟩
  obtain ⟨M, hM⟩ : ∃ q, q = (data.drop 4).take (E - 4) := ⟨_, rfl⟩
  rw [← hNL] at hfc htab hlast
  rw [← hEe] at hfc he hlast h2
  have hMl : M.length = E - 4 := by rw [hM, List.length_take, List.length_drop]; omega
  have hNLe : NL = nosTo M (8 * (E - 4) + 1) := by rw [hNL, hM, hEe]; rfl
  -- the fields
  have hL : dLI data = (List.range NL.length).map (fun j => ((NL.getD j 0 : Int), fldD (NL.getD j 0) (data.drop (decAt data NL E j)))) := by
    unfold dLI dL
    rw [if_pos h, hN, hE, ← hNL, ← hEe]
    unfold decF
    rw [List.map_map]
    rfl
  obtain ⟨L, hLe⟩ : ∃ q, q = dLI data := ⟨_, rfl⟩
  rw [← hLe] at hL ⊢
  have hLl : L.length = NL.length := by rw [hL]; simp
  have hg : ∀ j, j < NL.length → L.getD j (0, []) = ((NL.getD j 0 : Int), fldD (NL.getD j 0) (data.drop (decAt data NL E j))) := by
    intro j hj
    rw [hL]
    simp [List.getD_eq_getElem?_getD, hj]
  have hno : ∀ j, j < NL.length → noL L j = NL.getD j 0 := by
    intro j hj
    unfold noL
    rw [hg j hj]
    rfl
  have hsort : NL.Pairwise (· < ·) := by rw [hNLe]; exact List.Pairwise.filter _ List.pairwise_lt_range
  have hmem : ∀ x, x ∈ NL ↔ x < 8 * (E - 4) + 1 ∧ 2 ≤ x ∧ bitL M (x - 1) = true := by
    intro x
    rw [hNLe]
    unfold nosTo
    rw [List.mem_filter, List.mem_range, Bool.and_eq_true, decide_eq_true_eq]
  have hgm : ∀ j, j < NL.length → NL.getD j 0 ∈ NL := by
    intro j hj
    rw [List.getD_eq_getElem?_getD, List.getElem?_eq_getElem hj]
    exact List.getElem_mem hj
  have hin : ∀ j, j < NL.length → NL.getD j 0 ∈ tabNos := by
    intro j hj
    unfold inTab at htab
    rw [List.all_eq_true] at htab
    simpa using htab _ (hgm j hj)
  have hinc : ∀ j, j + 1 < NL.length → NL.getD j 0 < NL.getD (j + 1) 0 := by
    intro j hj
    have := List.pairwise_iff_getElem.1 hsort j (j + 1) (by omega) hj (by omega)
    rw [List.getD_eq_getElem?_getD, List.getElem?_eq_getElem (by omega), List.getD_eq_getElem?_getD, List.getElem?_eq_getElem hj]
    exact this
  have hok : okL L = true := by
    refine okL_yes L (fun i hi => ?_)
    rw [hLl] at hi
    have hf := (fc_zero (hfc i hi)).2.2.2.1
    have ht := hin i hi
    have hr := tab_le _ ht
    have hb : bef L i < (NL.getD i 0 : Int) := by
      cases i with
      | zero => show (0 : Int) < _; omega
      | succ j =>
        show (L.getD j (0, [])).1 < _
        rw [hg j (by omega)]
        have := hinc j hi
        show ((NL.getD j 0 : Nat) : Int) < _
        omega
    unfold okF fitZ inZ
    rw [hg i hi]
    show (decide (bef L i < ((NL.getD i 0 : Nat) : Int)) && (decide (0 ≤ ((NL.getD i 0 : Nat) : Int)) && decide (((NL.getD i 0 : Nat) : Int).toNat ∈ tabNos) && fitsN (kpL ((NL.getD i 0 : Nat) : Int).toNat) (kpM ((NL.getD i 0 : Nat) : Int).toNat) (kpOk ((NL.getD i 0 : Nat) : Int).toNat) _)) = true
    rw [Int.toNat_natCast, decide_eq_true hb, decide_eq_true (by omega), decide_eq_true ht]
    exact hf
  have htk : (data.take 4).length = 4 := by rw [List.length_take]; omega
  have hdm : dM data = ⟨(data.take 4).toArray⟩ := by unfold dM; rw [if_pos h]
  have hdg : (data.take 4).all dig = true := by
    unfold tyC at hty
    rw [if_neg (by omega)] at hty
    by_cases hd : (data.take 4).all dig = true
    · exact hd
    · rw [if_neg hd] at hty; omega
  have hs : (decide ((dM data).size = 4) && digs (dM data)) = true := by
    rw [hdm, digs_of, hdg, Bool.and_true, decide_eq_true_eq]
    show (data.take 4).toArray.size = 4
    rw [List.size_toArray]
    exact htk
  refine ⟨hs, hok, ?_⟩
  rw [encL_good _ _ hs hok]
  -- the maps
  have hbef : 64 < bef L L.length ↔ E = 20 := by
    rw [hLl]
    by_cases h0 : NL.length = 0
    · rw [h0]
      have hn : NL = [] := List.length_eq_zero_iff.1 h0
      constructor
      · intro hx; exact absurd hx (show ¬ (64 : Int) < 0 by decide)
      · intro hx
        have := hlast (by omega)
        rw [hn] at this
        exact absurd this (by decide)
    · obtain ⟨m, hm⟩ : ∃ m, NL.length = m + 1 := ⟨NL.length - 1, by omega⟩
      have hb : bef L (m + 1) = (NL.getD m 0 : Int) := by show (L.getD m (0, [])).1 = _; rw [hg m (by omega)]
      have hl : lastN NL = NL.getD m 0 := by
        unfold lastN
        rw [List.getLastD_eq_getLast?, List.getLast?_eq_getElem?, List.getD_eq_getElem?_getD, hm]
        rfl
      rw [hm, hb]
      have hx := (hmem _).1 (hgm m (by omega))
      constructor
      · intro hy; omega
      · intro hy
        have := hlast (by omega)
        rw [hl] at this
        omega
  have hmaps : mapsE L = M := by
    have hml := mapsE_len L
    have hlen : (mapsE L).length = M.length := by
      rw [hml, hMl]
      by_cases h64 : 64 < bef L L.length
      · rw [if_pos h64]; have := hbef.1 h64; omega
      · rw [if_neg h64]
        have : ¬ E = 20 := fun e => h64 (hbef.2 e)
        omega
    refine bits_ext _ _ hlen (fun k hk => ?_)
    rw [Bool.eq_iff_iff, bit_maps hok k hk]
    by_cases hk0 : k = 0
    · subst hk0
      have h1 : bitL M 0 = true ↔ E = 20 := by
        rw [hM, bit_take _ _ _ (by omega), hEe]
        unfold mapEnd
        constructor
        · intro hb; rw [if_pos hb]
        · intro hb
          by_cases hx : bitL (data.drop 4) 0 = true
          · exact hx
          · rw [if_neg hx] at hb; omega
      rw [h1, ← hbef]
      constructor
      · rintro (⟨-, e⟩ | ⟨j, hj, e⟩)
        · exact e
        · have := noL_rng hok hj
          omega
      · intro e; exact .inl ⟨rfl, e⟩
    · have h1 := hmem (k + 1)
      rw [Nat.add_sub_cancel] at h1
      constructor
      · rintro (⟨e, -⟩ | ⟨j, hj, e⟩)
        · exact absurd e hk0
        · rw [hLl] at hj
          rw [hno j hj] at e
          have h3 := (hmem _).1 (hgm j hj)
          rw [e] at h3
          exact h3.2.2
      · intro hb
        have h3 := h1.2 ⟨by omega, by omega, hb⟩
        obtain ⟨j, hj, ej⟩ := List.getElem_of_mem h3
        refine .inr ⟨j, by omega, ?_⟩
        rw [hno j hj, List.getD_eq_getElem?_getD, List.getElem?_eq_getElem hj]
        show NL[j] - 1 = k
        rw [ej]
        omega
  -- the fields, written
  have hat : ∀ i, i ≤ NL.length → decAt data NL E i ≤ data.length ∧ data.take (decAt data NL E i) = data.take E ++ restE L i := by
    intro i
    induction i with
    | zero => intro _; exact ⟨he, by show data.take E = data.take E ++ []; rw [List.append_nil]⟩
    | succ i ih =>
      intro hi
      obtain ⟨i1, i2⟩ := ih (by omega)
      have hf := hfc i (by omega)
      have hz := fc_zero (show fldC (NL.getD i 0) (data.drop (decAt data NL E i)) = 0 from hf)
      have hw := fld_fwd _ (hin i (by omega)) _ hf
      have hle : fldE (NL.getD i 0) (data.drop (decAt data NL E i)) ≤ (data.drop (decAt data NL E i)).length := by rw [hz.2.2.2.2.2]; exact hz.2.2.1
      rw [List.length_drop] at hle
      have es : decAt data NL E (i + 1) = decAt data NL E i + fldE (NL.getD i 0) (data.drop (decAt data NL E i)) := rfl
      refine ⟨by rw [es]; omega, ?_⟩
      rw [es, List.take_add, i2, ← hw]
      show _ = data.take E ++ (restE L i ++ (padL (kpD (noL L i)) (L.getD i (0, [])).2.length ++ (L.getD i (0, [])).2))
      rw [hno i (by omega), hg i (by omega), List.append_assoc]
  obtain ⟨a1, a2⟩ := hat NL.length (Nat.le_refl _)
  have hdE : dE data = decAt data NL E NL.length := by unfold dE; rw [hN, hE, ← hNL, ← hEe]
  rw [hdE] at hde
  have hall : decAt data NL E NL.length = data.length := by omega
  rw [hall, List.take_length] at a2
  rw [hmaps, hdm, hLl]
  show data.take 4 ++ M ++ restE L NL.length = data
  have hE4 : data.take E = data.take 4 ++ M := by
    rw [hM, ← List.take_add]
    congr 1
    omega
  rw [← hE4]
  exact a2.symm
end Go.Proofs.YtacgbajcdngokaaGreatDoor
