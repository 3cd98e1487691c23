/-
  The maps of an encoded message: bits set one by one, and the bytes of the bits.
-/
import Derived.Test.YtacgbajcdngokaaGreatDoorIsoCat
namespace Go.Proofs.YtacgbajcdngokaaGreatDoor
open Go.RowKit

theorem val_set8 : ∀ (b0 b1 b2 b3 b4 b5 b6 b7 : Fin 2) (r : Fin 8), valN (([b0, b1, b2, b3, b4, b5, b6, b7].map (fun b => UInt8.ofNat b.val)).set r.val 1) = valN ([b0, b1, b2, b3, b4, b5, b6, b7].map (fun b => UInt8.ofNat b.val)) ||| 2 ^ (7 - r.val) := by decide +kernel
theorem bit_fin (b : UInt8) (h : b.toNat ≤ 1) : ∃ f : Fin 2, b = UInt8.ofNat f.val := by
  refine ⟨⟨b.toNat, by omega⟩, ?_⟩
  simp
theorem val_set (S : List UInt8) (hS : isBits S) (hl : S.length = 8) (r : Nat) (hr : r < 8) : valN (S.set r 1) = valN S ||| 2 ^ (7 - r) := by
  match S, hl with
  | [a0, a1, a2, a3, a4, a5, a6, a7], _ =>
    obtain ⟨f0, rfl⟩ := bit_fin a0 (hS a0 (by simp))
    obtain ⟨f1, rfl⟩ := bit_fin a1 (hS a1 (by simp))
    obtain ⟨f2, rfl⟩ := bit_fin a2 (hS a2 (by simp))
    obtain ⟨f3, rfl⟩ := bit_fin a3 (hS a3 (by simp))
    obtain ⟨f4, rfl⟩ := bit_fin a4 (hS a4 (by simp))
    obtain ⟨f5, rfl⟩ := bit_fin a5 (hS a5 (by simp))
    obtain ⟨f6, rfl⟩ := bit_fin a6 (hS a6 (by simp))
    obtain ⟨f7, rfl⟩ := bit_fin a7 (hS a7 (by simp))
    exact val_set8 f0 f1 f2 f3 f4 f5 f6 f7 ⟨r, hr⟩
theorem seg_all (l : List UInt8) (j : Nat) : seg l l.length j = (l.drop (8 * j)).take 8 := by unfold seg; rw [List.take_length]
theorem unbits_get (l : List UInt8) (j : Nat) (hj : j < l.length / 8) : (unbitsL l)[j]'(by unfold unbitsL; rw [cellsU_length]; exact hj) = UInt8.ofNat (valN ((l.drop (8 * j)).take 8)) := by
  unfold unbitsL cellsU cellU
  simp [seg_all]
theorem unbits_length (l : List UInt8) : (unbitsL l).length = l.length / 8 := by unfold unbitsL; rw [cellsU_length]
theorem setL_get (l : List UInt8) (k j : Nat) (h : j < l.length) : (setL l k)[j]'(by rw [setL_length]; exact h) = if k / 8 = j then UInt8.ofNat ((l.getD (k / 8) 0).toNat ||| 2 ^ (7 - k % 8)) else l[j] := by
  simp only [setL, List.getElem_set]
/-- A bit set: its byte has it. -/
theorem unbits_set (X : List UInt8) (hX : isBits X) (h8 : X.length % 8 = 0) (k : Nat) (hk : k < X.length) : unbitsL (X.set k 1) = setL (unbitsL X) k := by
  have hb : isBits (X.set k 1) := by
    intro b hb
    rcases List.mem_or_eq_of_mem_set hb with h | rfl
    · exact hX b h
    · decide
  have hkj : k / 8 < X.length / 8 := by omega
  apply List.ext_getElem
  · rw [unbits_length, setL_length, unbits_length, List.length_set]
  · intro j h1 h2
    rw [unbits_length, List.length_set] at h1
    rw [unbits_get _ _ (by rw [List.length_set]; exact h1)]
    rw [setL_get _ _ _ (by rw [unbits_length]; exact h1)]
    by_cases hj : k / 8 = j
    · rw [if_pos hj]
      subst hj
      have hd : ((X.set k 1).drop (8 * (k / 8))).take 8 = ((X.drop (8 * (k / 8))).take 8).set (k % 8) 1 := by
        rw [List.drop_set, if_neg (by omega), List.take_set]
        congr 1
        omega
      have hS : isBits ((X.drop (8 * (k / 8))).take 8) := fun b hb => hX b (List.mem_of_mem_drop (List.mem_of_mem_take hb))
      have hSl : ((X.drop (8 * (k / 8))).take 8).length = 8 := by rw [List.length_take, List.length_drop]; omega
      rw [hd, val_set _ hS hSl _ (Nat.mod_lt _ (by omega))]
      have hlt := valN_lt _ hS
      rw [hSl] at hlt
      have hg : ((unbitsL X).getD (k / 8) 0).toNat = valN ((X.drop (8 * (k / 8))).take 8) := by
        rw [List.getD_eq_getElem?_getD, List.getElem?_eq_getElem (by rw [unbits_length]; exact hkj), Option.getD_some, unbits_get _ _ hkj, UInt8.toNat_ofNat']
        exact Nat.mod_eq_of_lt hlt
      rw [hg]
    · rw [if_neg hj, unbits_get _ _ h1]
      congr 2
      rw [List.drop_set]
      split
      · rfl
      · rw [List.take_set_of_le (by omega)]
/-- The bytes of the maps behind the first i fields. -/
def bmE (L : List (Int × List UInt8)) : Nat → List UInt8
  | 0 => List.replicate 16 0
  | i + 1 => setL (bmE L i) ((L.getD i (0, [])).1.toNat - 1)
theorem bmE_length (L : List (Int × List UInt8)) : ∀ i, (bmE L i).length = 16
  | 0 => rfl
  | i + 1 => by show (setL _ _).length = 16; rw [setL_length, bmE_length L i]
def mapsE (L : List (Int × List UInt8)) : List UInt8 := if 64 < bef L L.length then setL (bmE L L.length) 0 else (bmE L L.length).take 8
theorem setL_take (l : List UInt8) (k : Nat) (hk : k < 64) : setL (l.take 8) k = (setL l k).take 8 := by
  unfold setL
  rw [List.take_set]
  congr 4
  rw [List.getD_eq_getElem?_getD, List.getD_eq_getElem?_getD, List.getElem?_take, if_pos (by omega)]
theorem u8_or (x : UInt8) (a b : Nat) (ha : a < 256) (hb : b < 256) : UInt8.ofNat ((UInt8.ofNat (x.toNat ||| a)).toNat ||| b) = UInt8.ofNat ((UInt8.ofNat (x.toNat ||| b)).toNat ||| a) := by
  have hx := UInt8.toNat_lt x
  have h1 : x.toNat ||| a < 2 ^ 8 := Nat.or_lt_two_pow hx ha
  have h2 : x.toNat ||| b < 2 ^ 8 := Nat.or_lt_two_pow hx hb
  rw [UInt8.toNat_ofNat', UInt8.toNat_ofNat', Nat.mod_eq_of_lt h1, Nat.mod_eq_of_lt h2, Nat.or_assoc, Nat.or_assoc, Nat.or_comm a b]
theorem pow7 (k : Nat) : 2 ^ (7 - k % 8) < 256 := by
  have h : 7 - k % 8 ≤ 7 := by omega
  exact Nat.lt_of_le_of_lt (Nat.pow_le_pow_right (by omega) h) (by decide)
theorem setL_comm (l : List UInt8) (j k : Nat) (hk : k / 8 < l.length) : setL (setL l j) k = setL (setL l k) j := by
  by_cases h : j / 8 = k / 8
  · unfold setL
    rw [h, List.set_set, List.set_set]
    congr 1
    rw [List.getD_eq_getElem?_getD, List.getD_eq_getElem?_getD (l := l.set _ _), List.getElem?_set_self hk, List.getElem?_set_self hk, Option.getD_some, Option.getD_some]
    exact u8_or _ _ _ (pow7 j) (pow7 k)
  · unfold setL
    rw [List.set_comm _ _ h]
    congr 1
    · congr 1
      rw [List.getD_eq_getElem?_getD, List.getD_eq_getElem?_getD, List.getElem?_set_ne h, List.getD_eq_getElem?_getD]
    · rw [List.getD_eq_getElem?_getD, List.getD_eq_getElem?_getD, List.getElem?_set_ne (fun e => h e.symm)]
theorem nb_mod (L : List (Int × List UInt8)) (i : Nat) : (bitsE L i).length % 8 = 0 := by rw [bitsE_length]; unfold nbE; split <;> rfl
theorem maps_low (L : List (Int × List UInt8)) (h : okL L = true) (h64 : ¬ 64 < bef L L.length) : ∀ i, i ≤ L.length → unbitsL (bitsE L i) = (bmE L i).take 8
  | 0, _ => by unfold bitsE bmE; rw [if_neg h64]; decide +kernel
  | i + 1, hi => by
    have hn := no_nb h i (by omega)
    have hn2 : nbE L = 64 := by unfold nbE; rw [if_neg h64]
    show unbitsL ((bitsE L i).set _ 1) = (setL (bmE L i) _).take 8
    rw [unbits_set _ (bitsE_bits L i) (nb_mod L i) _ (by rw [bitsE_length]; exact hn), maps_low L h h64 i (by omega), setL_take _ _ (by omega)]
theorem maps_high (L : List (Int × List UInt8)) (h : okL L = true) (h64 : 64 < bef L L.length) : ∀ i, i ≤ L.length → unbitsL (bitsE L i) = setL (bmE L i) 0
  | 0, _ => by unfold bitsE bmE; rw [if_pos h64]; decide +kernel
  | i + 1, hi => by
    have hn := no_nb h i (by omega)
    have hn2 : nbE L = 128 := by unfold nbE; rw [if_pos h64]
    show unbitsL ((bitsE L i).set _ 1) = setL (setL (bmE L i) _) 0
    rw [unbits_set _ (bitsE_bits L i) (nb_mod L i) _ (by rw [bitsE_length]; exact hn), maps_high L h h64 i (by omega), setL_comm _ _ _ (by rw [bmE_length]; omega)]
theorem maps_eq (L : List (Int × List UInt8)) (h : okL L = true) : unbitsL (bitsE L L.length) = mapsE L := by
  unfold mapsE
  split
  · rename_i h64; exact maps_high L h h64 _ (Nat.le_refl _)
  · rename_i h64; exact maps_low L h h64 _ (Nat.le_refl _)
theorem tab_mono : ∀ a ∈ tabNos, ∀ b ∈ tabNos, a < b → tabNos.idxOf a < tabNos.idxOf b := by decide
/-- The numbers grow within the table: there are at most fourteen. -/
theorem rank_le {L : List (Int × List UInt8)} (h : okL L = true) : ∀ i, i < L.length → i ≤ tabNos.idxOf (L.getD i (0, [])).1.toNat
  | 0, _ => Nat.zero_le _
  | i + 1, hi => by
    have h1 := okL_at h (i + 1) hi
    have h2 := okL_at h i (by omega)
    have h3 : (L.getD i (0, [])).1 < (L.getD (i + 1) (0, [])).1 := h1.1
    have h4 := tab_mono _ h2.2.2.1 _ h1.2.2.1 (by omega)
    have h5 := rank_le h i (by omega)
    omega
theorem okL_len {L : List (Int × List UInt8)} (h : okL L = true) : L.length ≤ 14 := by
  by_cases h0 : L.length = 0
  · omega
  · have h1 := rank_le h (L.length - 1) (by omega)
    have h2 := (tab_ix _ (okL_at h (L.length - 1) (by omega)).2.2.1).1
    omega
theorem kpM_le : ∀ n ∈ tabNos, kpM n ≤ 200 := by decide
theorem fits_len {l m : Nat} {ok : UInt8 → Bool} {d : List UInt8} (h : fitsN l m ok d = true) : d.length ≤ m := by
  unfold fitsN at h
  simp at h
  omega
theorem okF_len {b : Int} {p : Int × List UInt8} (h : okF b p = true) : p.2.length ≤ 200 := by
  unfold okF fitZ inZ at h
  rw [Bool.and_eq_true, Bool.and_eq_true, Bool.and_eq_true, decide_eq_true_eq, decide_eq_true_eq, decide_eq_true_eq] at h
  exact Nat.le_trans (fits_len h.2.2) (kpM_le _ h.2.1.2)
theorem restE_small (L : List (Int × List UInt8)) : ∀ k, (∀ j, j < k → okF (bef L j) (L.getD j (0, [])) = true) → (restE L k).length ≤ k * 203
  | 0, _ => Nat.le_refl _
  | i + 1, h => by
    show (restE L i ++ (padL _ _ ++ _)).length ≤ _
    rw [List.length_append, List.length_append, padL_length]
    have h1 := restE_small L i (fun j hj => h j (by omega))
    have h2 := okF_len (h i (by omega))
    have h3 := kpD_le (L.getD i (0, [])).1.toNat
    omega
theorem encL_bad (s : ByteArray) (L : List (Int × List UInt8)) (h : (decide (s.size = 4) && digs s) = false ∨ okL L = false) : encL s L = [] := by
  unfold encL okE
  rw [if_neg]
  rcases h with h | h
  · rw [h]; simp
  · rw [h]; simp
theorem encL_good (s : ByteArray) (L : List (Int × List UInt8)) (h1 : (decide (s.size = 4) && digs s) = true) (h2 : okL L = true) : encL s L = s.data.toList ++ mapsE L ++ restE L L.length := by
  unfold encL okE
  have := okL_len h2
  rw [if_pos (by rw [h1, h2, decide_eq_true (by omega)]; rfl), maps_eq L h2]
end Go.Proofs.YtacgbajcdngokaaGreatDoor
