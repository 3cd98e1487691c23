import Derived.Test.YtjkofmomoljelaaGreatDoorSfAM
import Derived.Test.YtjkofmomoljelaaGreatDoorSfAH
import Derived.Test.YtjkofmomoljelaaGreatDoorSfAI
import Derived.Test.YtjkofmomoljelaaGreatDoorSfR
import Derived.Test.YtjkofmomoljelaaGreatDoorSfA
import Derived.Laws.BytesString
import Derived.Laws.BytesArg
namespace Go.Proofs.YtjkofmomoljelaaGreatDoor
open Go.RowKit
theorem okDig_fText (c : Nat) : okDig (fText c) = true := by
  unfold okDig fText
  have h : (UInt8.ofNat (48 + c % 10)).toNat = 48 + c % 10 := by rw [UInt8.toNat_ofNat']; omega
  rw [h]
  exact decide_eq_true (by omega)
theorem okTxt_fTxt (c : Nat) : okTxt (fTxt c) = true := by
  unfold okTxt fTxt
  have h : (UInt8.ofNat (32 + c % 95)).toNat = 32 + c % 95 := by rw [UInt8.toNat_ofNat']; omega
  rw [h]
  exact decide_eq_true (by omega)
theorem fit_pl (f : Nat → UInt8) (ok : UInt8 → Bool) (hf : ∀ c, ok (f c) = true) (l m n : Nat) (code : List UInt8) (i : Nat) (h1 : l ≤ n) (h2 : n ≤ m) : fitsN l m ok (plL f code i n) = true := by
  unfold fitsN
  rw [plL_length, plL_all f ok hf]
  simp [h1, h2]
theorem fit_data (code : List UInt8) (i no : Nat) (h : no ∈ tabNos) : fitsN (kpL no) (kpM no) (kpOk no) (dataL code i no) = true := by
  have H3 : ∀ n, fitsN n n okDig (plL fText code i n) = true := fun n => fit_pl _ _ okDig_fText _ _ _ _ _ (Nat.le_refl _) (Nat.le_refl _)
  have H2 : ∀ n, fitsN n n okTxt (plL fTxt code i n) = true := fun n => fit_pl _ _ okTxt_fTxt _ _ _ _ _ (Nat.le_refl _) (Nat.le_refl _)
  have H1 : ∀ n, fitsN n n okAny (plL fSome code i n) = true := fun n => fit_pl _ _ (fun _ => rfl) _ _ _ _ _ (Nat.le_refl _) (Nat.le_refl _)
  simp only [tabNos, List.mem_cons, List.not_mem_nil, or_false] at h
  rcases h with rfl | rfl | rfl | rfl | rfl | rfl | rfl | rfl | rfl | rfl | rfl | rfl | rfl | rfl
  · exact (fit_pl fText okDig okDig_fText 13 19 (13 + nv code i % 7) code (ni code i) (by omega) (by omega) : _)
  · exact H3 6
  · exact H3 12
  · exact H3 10
  · exact H3 6
  · exact H2 12
  · exact H2 2
  · exact H2 8
  · show fitsN 0 200 okAny (if nv code i = 255 then List.replicate 200 0 else plL fSome code (ni code i) (nv code i % 12)) = true
    split
    · unfold fitsN
      rw [List.length_replicate, show ∀ l : List UInt8, l.all okAny = true from fun l => List.all_eq_true.2 (fun _ _ => rfl)]
      rfl
    · exact fit_pl fSome okAny (fun _ => rfl) 0 200 _ _ _ (by omega) (by omega)
  · exact H1 8
  · exact H1 10
  · exact H1 8
  · exact H3 3
  · exact H1 8
theorem bef_snoc (L : List (Int × List UInt8)) (p : Int × List UInt8) (j : Nat) (h : j ≤ L.length) : bef (L ++ [p]) j = bef L j := by
  cases j with
  | zero => rfl
  | succ j => show ((L ++ [p]).getD j (0, [])).1 = (L.getD j (0, [])).1; rw [getD_left _ _ _ _ (by omega)]
theorem okL_snoc {L : List (Int × List UInt8)} {p : Int × List UInt8} (h : okL L = true) (hp : okF (bef L L.length) p = true) : okL (L ++ [p]) = true := by
  refine okL_yes _ (fun j hj => ?_)
  rw [List.length_append] at hj
  have hj2 : j < L.length + 1 := hj
  rw [bef_snoc _ _ _ (by omega)]
  by_cases hc : j < L.length
  · rw [getD_left _ _ _ _ hc]
    unfold okL at h
    rw [List.all_eq_true] at h
    exact h j (List.mem_range.2 hc)
  · have e : j = L.length := by omega
    rw [getD_last _ _ _ _ e, e]
    exact hp
theorem tab_asc : ∀ j, j < 14 → ∀ k, k < 14 → j < k → tabNos.getD j 0 < tabNos.getD k 0 := by decide
theorem tab_pos : ∀ k, k < 14 → 0 < tabNos.getD k 0 := by decide
theorem tab_kpM : ∀ n ∈ tabNos, kpM n ≤ 200 := by decide
theorem msgF_good (code : List UInt8) (i : Nat) : ∀ k, k ≤ 14 → okL (msgF code i k) = true ∧ (∀ j, k ≤ j → j < 14 → bef (msgF code i k) (msgF code i k).length < ((tabNos.getD j 0 : Nat) : Int)) ∧ ∀ p ∈ msgF code i k, p.2.length ≤ 200
  | 0, _ => ⟨rfl, fun j _ h => by have := tab_pos j h; show (0 : Int) < _; omega, fun p h => by cases h⟩
  | k + 1, hk => by
    obtain ⟨h1, h2, h3⟩ := msgF_good code i k (by omega)
    have hm := tab_get k (by omega)
    have hf := fit_data code (msgI code i k) _ hm
    by_cases hb : msgB code i k = true
    · have e : msgF code i (k + 1) = msgF code i k ++ [(((tabNos.getD k 0 : Nat) : Int), dataL code (msgI code i k) (tabNos.getD k 0))] := by show (if _ then _ else _) = _; rw [if_pos hb]
      rw [e]
      have hlt := h2 k (Nat.le_refl _) (by omega)
      refine ⟨okL_snoc h1 ?_, fun j hj hj2 => ?_, fun p hp => ?_⟩
      · unfold okF fitZ inZ
        rw [Bool.and_eq_true]
        refine ⟨decide_eq_true hlt, ?_⟩
        show (decide ((0 : Int) ≤ ((tabNos.getD k 0 : Nat) : Int)) && decide (((tabNos.getD k 0 : Nat) : Int).toNat ∈ tabNos) && fitsN (kpL (((tabNos.getD k 0 : Nat) : Int)).toNat) (kpM (((tabNos.getD k 0 : Nat) : Int)).toNat) (kpOk (((tabNos.getD k 0 : Nat) : Int)).toNat) _) = true
        rw [Int.toNat_natCast, hf, decide_eq_true hm, decide_eq_true (by omega)]
        rfl
      · rw [List.length_append]
        show (((msgF code i k ++ [_]).getD (msgF code i k).length (0, [])).1 : Int) < _
        rw [getD_last _ _ _ _ rfl]
        have := tab_asc k (by omega) j hj2 (by omega)
        show ((tabNos.getD k 0 : Nat) : Int) < _
        omega
      · rcases List.mem_append.1 hp with h | h
        · exact h3 p h
        · cases List.mem_singleton.1 h
          unfold fitsN at hf
          rw [Bool.and_eq_true, decide_eq_true_eq] at hf
          exact Nat.le_trans hf.1.2 (tab_kpM _ hm)
    · have e : msgF code i (k + 1) = msgF code i k := by show (if _ then _ else _) = _; rw [if_neg hb]
      rw [e]
      exact ⟨h1, fun j hj hj2 => h2 j (by omega) hj2, h3⟩
theorem msgS_good (code : List UInt8) (i : Nat) : (decide ((msgS code i).size = 4) && digs (msgS code i)) = true := by
  have key : ∀ d, d < 5 → (decide ((mtis.getD d ByteArray.empty).size = 4) && digs (mtis.getD d ByteArray.empty)) = true := by
    intro d h
    have : d = 0 ∨ d = 1 ∨ d = 2 ∨ d = 3 ∨ d = 4 := by omega
    rcases this with rfl | rfl | rfl | rfl | rfl <;> rfl
  exact key _ (Nat.mod_lt _ (by decide))
theorem cast_back {L : List (Int × List UInt8)} (h : okL L = true) : ((List.range L.length).map (fun j => (noL L j, (L.getD j (0, [])).2))).map (fun (p : Nat × List UInt8) => ((p.1 : Int), p.2)) = L := by
  apply List.ext_getElem
  · simp
  · intro j h1 h2
    have hj : j < L.length := h2
    have hr := noL_rng h hj
    have he : ((noL L j : Nat) : Int) = (L.getD j (0, [])).1 := by
      unfold noL at hr ⊢
      omega
    simp only [List.getElem_map, List.getElem_range]
    rw [he]
    rw [List.getD_eq_getElem?_getD, List.getElem?_eq_getElem hj]
    rfl
end Go.Proofs.YtjkofmomoljelaaGreatDoor
namespace Go.Proofs.YtjkofmomoljelaaGreatDoor
open Go.RowKit
theorem bef_end (K : List (Int × List UInt8)) (p : Int × List UInt8) : bef (K ++ [p]) (K.length + 1) = p.1 := by
  show ((K ++ [p]).getD K.length (0, [])).1 = _
  rw [getD_last _ _ _ _ rfl]
theorem len_snoc (K : List (Int × List UInt8)) (p : Int × List UInt8) : (K ++ [p]).length = K.length + 1 := by rw [List.length_append]; rfl
theorem getD_snoc1 (K : List (Int × List UInt8)) (no : Int) (a b : List UInt8) (i : Nat) (h : i ≤ K.length) : ((K ++ [(no, a)]).getD i (0, [])).1 = ((K ++ [(no, b)]).getD i (0, [])).1 := by
  by_cases hc : i < K.length
  · rw [getD_left _ _ _ _ hc, getD_left _ _ _ _ hc]
  · rw [getD_last _ _ _ _ (by omega), getD_last _ _ _ _ (by omega)]
theorem bitsE_same (K : List (Int × List UInt8)) (no : Int) (a b : List UInt8) : ∀ i, i ≤ K.length + 1 → bitsE (K ++ [(no, a)]) i = bitsE (K ++ [(no, b)]) i
  | 0, _ => by
    show (if 64 < bef (K ++ [(no, a)]) (K ++ [(no, a)]).length then _ else _) = (if 64 < bef (K ++ [(no, b)]) (K ++ [(no, b)]).length then _ else _)
    rw [len_snoc, len_snoc, bef_end, bef_end]
  | i + 1, h => by
    show (bitsE (K ++ [(no, a)]) i).set _ 1 = (bitsE (K ++ [(no, b)]) i).set _ 1
    rw [bitsE_same K no a b i (by omega), getD_snoc1 K no a b i (by omega)]
theorem restE_left (K : List (Int × List UInt8)) (p : Int × List UInt8) : ∀ i, i ≤ K.length → restE (K ++ [p]) i = restE K i
  | 0, _ => rfl
  | i + 1, h => by
    show restE (K ++ [p]) i ++ _ = restE K i ++ _
    rw [restE_left K p i (by omega), getD_left _ _ _ _ (by omega)]
theorem restE_snoc (K : List (Int × List UInt8)) (no : Int) (m : List UInt8) (h : no = 64 ∨ no = 128) : restE (K ++ [(no, m)]) (K.length + 1) = restE K K.length ++ m := by
  show restE (K ++ [(no, m)]) K.length ++ (padL (kpD ((K ++ [(no, m)]).getD K.length (0, [])).1.toNat) ((K ++ [(no, m)]).getD K.length (0, [])).2.length ++ ((K ++ [(no, m)]).getD K.length (0, [])).2) = _
  rw [restE_left _ _ _ (Nat.le_refl _), getD_last _ _ _ _ rfl]
  have e : padL (kpD no.toNat) m.length = [] := by rcases h with rfl | rfl <;> rfl
  show _ ++ (padL (kpD no.toNat) m.length ++ m) = _
  rw [e]
  rfl
/-- What lies ahead of the MAC. -/
def aheadK (s : ByteArray) (K : List (Int × List UInt8)) (no : Int) : List UInt8 := s.data.toList ++ unbitsL (bitsE (K ++ [(no, zeroM)]) (K.length + 1)) ++ restE K K.length
theorem enc_mac (s : ByteArray) (K : List (Int × List UInt8)) (no : Int) (m : List UInt8) (h : no = 64 ∨ no = 128) (h1 : (decide (s.size = 4) && digs s) = true) (hok : okL (K ++ [(no, m)]) = true) : encLI s (K ++ [(no, m)]) = aheadK s K no ++ m := by
  have hl := okL_len hok
  unfold encLI okE aheadK
  rw [if_pos (by rw [h1, hok, decide_eq_true (by omega)]; rfl), len_snoc, restE_snoc K no m h, bitsE_same K no m zeroM _ (Nat.le_refl _), List.append_assoc, List.append_assoc, List.append_assoc]
theorem okL_mac {K : List (Int × List UInt8)} {no : Int} (hno : no = 64 ∨ no = 128) (hK : okL K = true) (hb : bef K K.length < no) (m : List UInt8) (hm : m.length = 8) : okL (K ++ [(no, m)]) = true := by
  refine okL_snoc hK ?_
  unfold okF fitZ inZ
  have hf : ∀ n : Nat, n = 64 ∨ n = 128 → fitsN (kpL n) (kpM n) (kpOk n) m = true := by
    intro n hn
    have e : kpL n = 8 ∧ kpM n = 8 ∧ kpOk n = okAny := by rcases hn with rfl | rfl <;> exact ⟨rfl, rfl, rfl⟩
    rw [e.1, e.2.1, e.2.2]
    unfold fitsN
    rw [hm, show ∀ l : List UInt8, l.all okAny = true from fun l => List.all_eq_true.2 (fun _ _ => rfl)]
    rfl
  rw [Bool.and_eq_true]
  refine ⟨decide_eq_true hb, ?_⟩
  show (decide (0 ≤ no) && decide (no.toNat ∈ tabNos) && fitsN (kpL no.toNat) (kpM no.toNat) (kpOk no.toNat) m) = true
  rw [hf no.toNat (by omega)]
  rcases hno with rfl | rfl <;> rfl
theorem tab_le128 : ∀ n ∈ tabNos, n ≤ 128 := by decide
theorem bef_mem (K : List (Int × List UInt8)) (h : K ≠ []) : ∃ p ∈ K, bef K K.length = p.1 := by
  cases hl : K.length with
  | zero => exact absurd (List.length_eq_zero_iff.1 hl) h
  | succ n =>
    refine ⟨K[n], List.getElem_mem _, ?_⟩
    show (K.getD n (0, [])).1 = _
    rw [List.getD_eq_getElem?_getD, List.getElem?_eq_getElem (by omega)]
    rfl
/-- The number of the MAC is above all that is kept. -/
theorem seal_above (L : List (Int × List UInt8)) (hK : okL (keepF L) = true) : bef (keepF L) (keepF L).length < sealNo L := by
  by_cases h : keepF L = []
  · unfold sealNo
    rw [h]
    decide
  · obtain ⟨p, hp, e⟩ := bef_mem _ h
    rw [e]
    have hnm : macNo p.1 = false := by
      have := (List.mem_filter.1 hp).2
      simpa using this
    obtain ⟨j, hj, he⟩ := List.getElem_of_mem hp
    have hat := okL_at hK j hj
    rw [List.getD_eq_getElem?_getD, List.getElem?_eq_getElem hj, Option.getD_some, he] at hat
    have h128 := tab_le128 _ hat.2.2.1
    have h0 := hat.2.1
    unfold macNo at hnm
    rw [Bool.or_eq_false_iff, decide_eq_false_iff_not, decide_eq_false_iff_not] at hnm
    unfold sealNo
    by_cases ha : (keepF L).any (fun p => above64 p.1) = true
    · rw [if_pos ha]; omega
    · rw [if_neg ha]
      have : above64 p.1 = false := by
        rw [Bool.not_eq_true, List.any_eq_false] at ha
        have := ha p hp
        simpa using this
      unfold above64 at this
      rw [decide_eq_false_iff_not] at this
      omega
theorem sealNo_two (L : List (Int × List UInt8)) : sealNo L = 64 ∨ sealNo L = 128 := by unfold sealNo; split <;> simp
/-- A drawn message's fields without its MACs. -/
theorem keep_good (code : List UInt8) (i : Nat) : ∀ k, k ≤ 14 → okL (keepF (msgF code i k)) = true ∧ ∀ j, k ≤ j → j < 14 → bef (keepF (msgF code i k)) (keepF (msgF code i k)).length < ((tabNos.getD j 0 : Nat) : Int)
  | 0, _ => ⟨rfl, fun j _ h => by have := tab_pos j h; show (0 : Int) < _; omega⟩
  | k + 1, hk => by
    obtain ⟨h1, h2⟩ := keep_good code i k (by omega)
    have hm := tab_get k (by omega)
    have hf := fit_data code (msgI code i k) _ hm
    by_cases hb : msgB code i k = true
    · have e : msgF code i (k + 1) = msgF code i k ++ [(((tabNos.getD k 0 : Nat) : Int), dataL code (msgI code i k) (tabNos.getD k 0))] := by show (if _ then _ else _) = _; rw [if_pos hb]
      rw [e]
      have hlt := h2 k (Nat.le_refl _) (by omega)
      by_cases hmac : macNo ((tabNos.getD k 0 : Nat) : Int) = true
      · have e2 : keepF (msgF code i k ++ [(((tabNos.getD k 0 : Nat) : Int), dataL code (msgI code i k) (tabNos.getD k 0))]) = keepF (msgF code i k) := by
          unfold keepF
          rw [List.filter_append, List.filter_cons_of_neg (by show ¬ (!macNo ((tabNos.getD k 0 : Nat) : Int)) = true; rw [hmac]; decide), List.filter_nil, List.append_nil]
        rw [e2]
        exact ⟨h1, fun j hj hj2 => h2 j (by omega) hj2⟩
      · have e2 : keepF (msgF code i k ++ [(((tabNos.getD k 0 : Nat) : Int), dataL code (msgI code i k) (tabNos.getD k 0))]) = keepF (msgF code i k) ++ [(((tabNos.getD k 0 : Nat) : Int), dataL code (msgI code i k) (tabNos.getD k 0))] := by
          unfold keepF
          rw [List.filter_append, List.filter_cons_of_pos (by show (!macNo ((tabNos.getD k 0 : Nat) : Int)) = true; rw [Bool.not_eq_true _ |>.mp hmac]; rfl), List.filter_nil]
        rw [e2]
        refine ⟨okL_snoc h1 ?_, fun j hj hj2 => ?_⟩
        · unfold okF fitZ inZ
          rw [Bool.and_eq_true]
          refine ⟨decide_eq_true hlt, ?_⟩
          show (decide ((0 : Int) ≤ ((tabNos.getD k 0 : Nat) : Int)) && decide (((tabNos.getD k 0 : Nat) : Int).toNat ∈ tabNos) && fitsN (kpL (((tabNos.getD k 0 : Nat) : Int)).toNat) (kpM (((tabNos.getD k 0 : Nat) : Int)).toNat) (kpOk (((tabNos.getD k 0 : Nat) : Int)).toNat) _) = true
          rw [Int.toNat_natCast, hf, decide_eq_true hm, decide_eq_true (by omega)]
          rfl
        · rw [len_snoc, bef_end]
          have := tab_asc k (by omega) j hj2 (by omega)
          show ((tabNos.getD k 0 : Nat) : Int) < _
          omega
    · have e : msgF code i (k + 1) = msgF code i k := by show (if _ then _ else _) = _; rw [if_neg hb]
      rw [e]
      exact ⟨h1, fun j hj hj2 => h2 j (by omega) hj2⟩
theorem dA_mac (s : ByteArray) (K : List (Int × List UInt8)) (no : Int) (m : List UInt8) (hm : m.length = 8) (h : no = 64 ∨ no = 128) (h1 : (decide (s.size = 4) && digs s) = true) (hok : okL (K ++ [(no, m)]) = true) : dA (aheadK s K no ++ m) = (aheadK s K no).length := by
  have hs := h1
  rw [Bool.and_eq_true, decide_eq_true_eq] at hs
  have hS : s.data.toList.length = 4 := by rw [Array.length_toList]; exact hs.1
  obtain ⟨e1, -⟩ := enc_back s _ h1 hok
  have he := enc_mac s K no m h h1 hok
  have hg := encL_good s _ h1 hok
  rw [he] at e1 hg
  have hlen := congrArg List.length hg
  rw [List.length_append, List.length_append, List.length_append, hS, len_snoc, restE_snoc K no m h, List.length_append, hm] at hlen
  obtain ⟨-, mN, mE⟩ := map_enc hok s.data.toList hS
  have hd := dec_enc hok s.data.toList hS K.length (by rw [len_snoc]; omega)
  rw [← hg] at mN mE hd
  have hnl : (nosL (K ++ [(no, m)])).length = K.length + 1 := by rw [nosL_length, len_snoc]
  unfold dA
  rw [if_pos e1, mN, mE, hnl]
  show macP ((nosL (K ++ [(no, m)])).getD K.length 0) (decAt (aheadK s K no ++ m) (nosL (K ++ [(no, m)])) (4 + (mapsE (K ++ [(no, m)])).length) K.length) = _
  rw [hd.1, nosL_getD _ _ (by rw [len_snoc]; omega), restE_left _ _ _ (Nat.le_refl _)]
  have hn : noL (K ++ [(no, m)]) K.length = 64 ∨ noL (K ++ [(no, m)]) K.length = 128 := by
    unfold noL
    rw [getD_last _ _ _ _ rfl]
    rcases h with rfl | rfl
    · exact .inl rfl
    · exact .inr rfl
  unfold macP
  rw [if_pos hn]
  omega
/-- Which MACs open a message. -/
theorem op_mac (master key : List UInt8) (s : ByteArray) (K : List (Int × List UInt8)) (no : Int) (m : List UInt8) (hm : m.length = 8) (h : no = 64 ∨ no = 128) (h1 : (decide (s.size = 4) && digs s) = true) (hok : okL (K ++ [(no, m)]) = true) (hc : macC master key (aheadK s K no) = 0) : opB master key (aheadK s K no ++ m) = decide (macL master key (aheadK s K no) = m) := by
  have hA := dA_mac s K no m hm h h1 hok
  obtain ⟨e1, -, -, -, e5⟩ := enc_back s _ h1 hok
  rw [enc_mac s K no m h h1 hok] at e1 e5
  have hne : (aheadK s K no).length ≠ 0 := by
    have hg := (maps_nonempty (K ++ [(no, m)])).1
    rw [List.length_append, hm, len_snoc, restE_snoc K no m h, List.length_append, hm] at e5
    omega
  unfold opB chkC
  rw [e1, hA, List.take_left, List.drop_left, hc, decide_eq_true hne]
  by_cases hq : macL master key (aheadK s K no) = m
  · rw [if_neg (by simp [hq]), decide_eq_true hq]; rfl
  · rw [if_pos ⟨rfl, hq⟩, decide_eq_false hq]; rfl
/-- What a message with any MAC decodes to. -/
theorem dec_mac (s : ByteArray) (K : List (Int × List UInt8)) (no : Int) (m : List UInt8) (h : no = 64 ∨ no = 128) (h1 : (decide (s.size = 4) && digs s) = true) (hok : okL (K ++ [(no, m)]) = true) : dC (aheadK s K no ++ m) = 0 ∧ dM (aheadK s K no ++ m) = s ∧ dLI (aheadK s K no ++ m) = K ++ [(no, m)] ∧ (aheadK s K no ++ m).length ≤ 4096 := by
  obtain ⟨e1, e2, e3, -, -⟩ := enc_back s _ h1 hok
  rw [enc_mac s K no m h h1 hok] at e1 e2 e3
  refine ⟨e1, e2, ?_, (dC_zeroB e1).1⟩
  unfold dLI
  rw [e3]
  exact cast_back hok
/-- What Seal makes of a message. -/
theorem seal_is (master key : List UInt8) (s : ByteArray) (L : List (Int × List UInt8)) (h1 : (decide (s.size = 4) && digs s) = true) (hok : okL (sealF L) = true) (hc : macC master key (aheadK s (keepF L) (sealNo L)) = 0) : sealL master key s L = aheadK s (keepF L) (sealNo L) ++ macL master key (aheadK s (keepF L) (sealNo L)) := by
  have he : encLI s (sealF L) = aheadK s (keepF L) (sealNo L) ++ zeroM := enc_mac s (keepF L) (sealNo L) zeroM (sealNo_two L) h1 hok
  have ha : aheadL s L = aheadK s (keepF L) (sealNo L) := by
    unfold aheadL
    rw [he, List.length_append, show zeroM.length = 8 from rfl, Nat.add_sub_cancel, List.take_left]
  unfold sealL
  rw [ha, he, if_neg (by intro e; have := congrArg List.length e; rw [List.length_append] at this; simp [zeroM] at this), if_pos hc]
theorem set_mac (A m : List UInt8) (hm : m.length = 8) (j : Nat) (hj : j < 8) (y : UInt8) : (A ++ m).set ((A ++ m).length - 1 - j) y = A ++ m.set (7 - j) y := by
  rw [List.length_append, hm, List.set_append, if_neg (by omega), show A.length + 8 - 1 - j - A.length = 7 - j from by omega]
theorem set_ne (m : List UInt8) (j : Nat) (hj : j < m.length) (y : UInt8) (h : m.getD j 0 ≠ y) : m ≠ m.set j y := by
  intro e
  have h2 : (m.set j y).getD j 0 = y := by rw [List.getD_eq_getElem?_getD, List.getElem?_set_self hj]; rfl
  rw [← e] at h2
  exact h h2
end Go.Proofs.YtjkofmomoljelaaGreatDoor
namespace Go.Proofs.YtjkofmomoljelaaGreatDoor
open Go.RowKit
theorem set_same {α : Type} (l : List α) (k : Nat) (v : α) (h : l[k]? = some v) : l.set k v = l := by
  induction l generalizing k with
  | nil => simp at h
  | cons a l ih =>
    cases k with
    | zero => simp at h; rw [List.set_cons_zero, h]
    | succ k => rw [List.set_cons_succ, ih k (by simpa using h)]
/-- n bytes of b from at on, 0 behind its end. -/
def cutL (b : List UInt8) (start n : Nat) : List UInt8 := (List.range n).map fun i => b.getD (start + i) 0
theorem cutL_length (b : List UInt8) (start n : Nat) : (cutL b start n).length = n := by simp [cutL]
theorem cutL_get (b : List UInt8) (start n i : Nat) (h : i < n) : (cutL b start n)[i]'(by rw [cutL_length]; exact h) = b.getD (start + i) 0 := by simp [cutL]
set_option maxRecDepth 100000 in
set_option maxHeartbeats 1000000 in
theorem cutLaw_any (b : List UInt8) (start n : Nat) (ao : Option Addr) (cap : Nat) (w : World) (hb : b.length ≤ 1048576) (hs : start ≤ 1024) (hn : n ≤ 1024) (hr : RowAt w ao b) :
    Calls Tryz.prog 6 #[.slice ao b.length cap, .int .i64 (start : Int), .int .i64 (n : Int)] w fun e w' => e = .returned (.slice (some ⟨w.heap.size, 0, none⟩) n n) ∧ OwnB w' w.heap.size (.slice (some ⟨w.heap.size, 0, none⟩) n n) (cutL b start n) ∧ Below w.heap.size w w' := by
  obtain ⟨i0, hi, hz0, hz1, hz2⟩ := info_parts Tryz.info5
  have hcl := cutL_length b start n
  obtain ⟨m, hm⟩ : ∃ m, m = b.length := ⟨_, rfl⟩
  have HM := hide hm
  rw [← hm] at hb ⊢
  clear hm
  go_enter Tryz.func6, Tryz.ntmps6
  go_wp2_with (at_make; refine wpList_make_full _ rfl _ _ 22 rfl w.heap.size 5 i0 (.int .u8 0) 1 Tryz.underlying22 hi hz0 hz1 .i64 .i64 _ _ n rfl rfl rfl rfl (by rw [hz2]; omega) (by unfold maxLen; omega) (Nat.le_refl _) ?_; intro w0 hown0 hgrow0)
  have k0 : Blk w0 w.heap.size 5 (part (cutL b start n) 0) := by rw [part_zero, hcl, ← made_zero]; exact own_blk hown0
  have b0 := below_of_grown hgrow0
  clear hown0 hgrow0
  go_loopw [8, 13] (fun _ i wr => ∃ k : Nat, k ≤ n ∧ i = .int .i64 k ∧ Blk wr w.heap.size 5 (part (cutL b start n) k) ∧ Below w.heap.size w wr) (fun _ i _ => n - (intOf i).toNat)
  case atStart => exact ⟨0, Nat.zero_le _, rfl, k0, b0⟩
  case round =>
    clear k0 b0
    obtain ⟨k, hk, rfl, kb, hbel⟩ := hrel
    by_cases hlt : k < n
    · have hkI : (k : Int) < (n : Int) := by omega
      have hpl := part_length (cutL b start n) k (by omega)
      have hset := part_set (cutL b start n) k (by omega)
      rw [cutL_get b start n k hlt] at hset
      obtain ⟨u, hu⟩ : ∃ u, wr.cell? ⟨w.heap.size, k, none⟩ = some u := ⟨_, kb.cell k (by omega)⟩
      have hf := kb.free k
      by_cases hin : start + k < m
      · obtain ⟨g, off, rfl, hc⟩ := hr.at (k := start + k) (by have := HM.out; omega)
        have hcx : wr.cell? ⟨g, off + (start + k), none⟩ = some (.int .u8 ((b.getD (start + k) 0).toNat : Int)) := (hbel.cell (RowAt.lt hc (k := start + k) (by have := HM.out; omega))).trans (hc _ (by have := HM.out; omega))
        have hst := kb.set k (byte (b.getD (start + k) 0))
        rw [hset] at hst
        obtain ⟨x, hx⟩ : ∃ x, x = b.getD (start + k) 0 := ⟨_, rfl⟩
        rw [← hx] at hcx hst
        obtain ⟨q, hq⟩ : ∃ q, q = start + k := ⟨_, rfl⟩
        rw [← hq] at hcx hin
        have hwq : IntKind.i64.wrap ((start : Int) + (k : Int)) = (q : Int) := by rw [IntKind.wrap_i64]; omega
        have hqI : (q : Int) < (m : Int) := by omega
        have hbe := hbel.setCell (p := ⟨w.heap.size, k, none⟩) (Nat.le_refl _) (byte x)
        clear hx hq hset hpl kb hc
        go_wp2
        go_roundw
        case rel => exact ⟨k + 1, by omega, by go_num, hst, hbe⟩
        case measure => simp [intOf]; omega
      · have hz : b.getD (start + k) 0 = 0 := by
          rw [List.getD_eq_getElem?_getD, List.getElem?_eq_none (by have := HM.out; omega)]; rfl
        have hsame : part (cutL b start n) (k + 1) = part (cutL b start n) k := by
          rw [← hset, hz]
          have e : (part (cutL b start n) k)[k]? = some (byte 0) := by
            unfold part
            have hl : ((cutL b start n).take k).length = k := by rw [List.length_take]; omega
            rw [List.getElem?_append_right (by rw [List.length_map, hl]; exact Nat.le_refl _), List.length_map, hl, Nat.sub_self]
            rw [List.getElem?_replicate, if_pos (by omega)]; rfl
          exact set_same _ _ _ e
        rw [← hsame] at kb
        obtain ⟨q, hq⟩ : ∃ q, q = start + k := ⟨_, rfl⟩
        rw [← hq] at hin
        have hwq : IntKind.i64.wrap ((start : Int) + (k : Int)) = (q : Int) := by rw [IntKind.wrap_i64]; omega
        have hqI : ¬ ((q : Int) < (m : Int)) := by omega
        clear hq hset hpl hsame hz
        go_wp2
        go_roundw
        case rel => exact ⟨k + 1, by omega, by go_num, kb, hbel⟩
        case measure => simp [intOf]; omega
    · obtain rfl : k = n := by omega
      go_wp2
      go_ret
      have e := part_all (cutL b start k)
      rw [hcl] at e
      rw [e] at kb
      have := blk_own kb (Nat.le_refl _) (by rw [hcl]; unfold maxLen; omega)
      rw [hcl] at this
      exact ⟨rfl, this, hbel⟩
def pickN (b : List UInt8) (i : Nat) : Nat := if b.length = 0 then 0 else (b.getD (i % b.length) 0).toNat
theorem pickN_lt (b : List UInt8) (i : Nat) : pickN b i < 256 := by
  unfold pickN
  split
  · omega
  · exact UInt8.toNat_lt _
set_option maxHeartbeats 1000000 in
theorem pickLaw_any (b : List UInt8) (i : Nat) (ao : Option Addr) (cap : Nat) (w : World) (hb : b.length ≤ 1048576) (hi : i ≤ 1024) (hr : RowAt w ao b) :
    Calls Tryz.prog 13 #[.slice ao b.length cap, .int .i64 (i : Int)] w fun e w' => e = .returned (.int .i64 (pickN b i : Nat)) ∧ w' = w := by
  unfold pickN
  by_cases h0 : b.length = 0
  · rw [if_pos h0, h0]
    go_enter Tryz.func13, Tryz.ntmps13
    go_wp2
    go_ret
    exact ⟨rfl, rfl⟩
  · rw [if_neg h0]
    obtain ⟨m, hm⟩ : ∃ m, m = b.length := ⟨_, rfl⟩
    obtain ⟨q, hq⟩ : ∃ q, q = i % b.length := ⟨_, rfl⟩
    have hq1 : q < b.length := by rw [hq]; exact Nat.mod_lt _ (by omega)
    obtain ⟨g, off, rfl, hc⟩ := hr.at (k := q) hq1
    have hcq := hc q hq1
    have hqm : Int.tmod (i : Int) (m : Int) = (q : Int) := by rw [Int.tmod_eq_emod_of_nonneg (by omega), hq, hm]; exact (Int.natCast_emod i b.length).symm
    have hqe : (i : Int) % (m : Int) = (q : Int) := by rw [hq, hm]; exact (Int.natCast_emod i b.length).symm
    rw [← hq]
    obtain ⟨x, hx⟩ : ∃ x : Nat, x = (b.getD q 0).toNat := ⟨_, rfl⟩
    have hxl : x < 256 := by rw [hx]; exact UInt8.toNat_lt _
    rw [← hx] at hcq ⊢
    rw [← hm] at h0 hb hq1 ⊢
    have hmI : ¬ ((m : Int) = 0) := by omega
    have hqI : (q : Int) < (m : Int) := by omega
    have hwx : IntKind.i64.wrap (x : Int) = (x : Int) := by rw [IntKind.wrap_i64]; omega
    clear hx hq hm hc hr
    go_enter Tryz.func13, Tryz.ntmps13
    go_wp2
    go_ret
    exact ⟨rfl, rfl⟩
end Go.Proofs.YtjkofmomoljelaaGreatDoor
