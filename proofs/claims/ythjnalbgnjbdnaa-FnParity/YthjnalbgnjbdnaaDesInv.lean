/-
  DES undone: a run with the keys turned round undoes a run; the parity bits of a key count for nothing.
-/
import Derived.Test.YthjnalbgnjbdnaaTdeaEq
import Derived.Test.YthjnalbgnjbdnaaOddImpl
namespace Go.Proofs.Ythjnalbgnjbdnaa

theorem block_word8 (a b c d e f g h : UInt8) : blockN (wordN [a, b, c, d, e, f, g, h]) = [a, b, c, d, e, f, g, h] := by
  have ha := a.toNat_lt; have hb := b.toNat_lt; have hc := c.toNat_lt; have hd := d.toNat_lt
  have he := e.toNat_lt; have hf := f.toNat_lt; have hg := g.toNat_lt; have hh := h.toNat_lt
  have u : ∀ (x : UInt8) (n : Nat), n % 256 = x.toNat → UInt8.ofNat n = x := by
    intro x n hn
    apply UInt8.toNat.inj
    rw [UInt8.toNat_ofNat', hn]
  simp only [blockN, wordN, List.foldl_cons, List.foldl_nil, List.range, List.range.loop, List.map_cons, List.map_nil]
  simp only [List.cons.injEq, and_true]
  refine ⟨u _ _ ?_, u _ _ ?_, u _ _ ?_, u _ _ ?_, u _ _ ?_, u _ _ ?_, u _ _ ?_, u _ _ ?_⟩ <;> simp <;> omega

theorem takeN_bitk (w width : Nat) (tab : List UInt8) (k : Nat) (hk : k ≤ tab.length) : ∀ i, i < k → (takeN w width (tab.take k)).testBit i = w.testBit (width - (tab.getD (k - 1 - i) 0).toNat) := by
  induction k with
  | zero => intro i hi; omega
  | succ k ih =>
    intro i hi
    rw [take_snoc tab k (by omega), takeN_snoc]
    cases i with
    | zero =>
      have e : tab.getD (k + 1 - 1 - 0) 0 = tab[k] := by simp [show k < tab.length from by omega]
      rw [e, Nat.testBit_zero, Nat.testBit_eq_decide_div_mod_eq]
      congr 1
      simp only [eq_iff_iff]
      omega
    | succ i =>
      rw [show k + 1 - 1 - (i + 1) = k - 1 - i from by omega, ← ih (by omega) i (by omega), Nat.testBit_succ]
      congr 1
      omega
theorem takeN_bit (w width : Nat) (tab : List UInt8) (i : Nat) (hi : i < tab.length) : (takeN w width tab).testBit i = w.testBit (width - (tab.getD (tab.length - 1 - i) 0).toNat) := by
  have h := takeN_bitk w width tab tab.length (Nat.le_refl _) i hi
  rw [List.take_length] at h
  exact h
theorem bit_at (t a p p' : Nat) : (t / 2 ^ a % 2 * 2 ^ p).testBit p' = (decide (p = p') && t.testBit a) := by
  rcases Nat.mod_two_eq_zero_or_one (t / 2 ^ a) with h | h
  · rw [h, Nat.zero_mul, Nat.zero_testBit, Nat.testBit_eq_decide_div_mod_eq, h]; simp
  · rw [h, Nat.one_mul, Nat.testBit_two_pow, Nat.testBit_eq_decide_div_mod_eq, h]; simp
theorem ip_apart : ∀ i, i < 64 → ∀ j, j < 64 → 64 - (ipTab.getD i 0).toNat = 64 - (ipTab.getD j 0).toNat → i = j := by decide +kernel
theorem ip_onto : ∀ p, p < 64 → ∃ j, j < 64 ∧ 64 - (ipTab.getD j 0).toNat = p := by decide +kernel
theorem putN_bit (t : Nat) (j0 : Nat) (h0 : j0 < 64) (k : Nat) (hk : k ≤ 64) : (putN t 64 ipTab k).testBit (64 - (ipTab.getD j0 0).toNat) = (decide (j0 < k) && t.testBit (63 - j0)) := by
  induction k with
  | zero => simp [putN]
  | succ k ih =>
    rw [putN, Nat.testBit_or, ih (by omega), bit_at, show ipTab.length - 1 - k = 63 - k from rfl]
    by_cases e : k = j0
    · subst e; simp
    · have : ¬ (64 - (ipTab.getD k 0).toNat = 64 - (ipTab.getD j0 0).toNat) := fun h => e (ip_apart k (by omega) j0 h0 h)
      have e2 : decide (j0 < k + 1) = decide (j0 < k) := by simp; omega
      rw [e2, decide_eq_false this, Bool.false_and, Bool.or_false]
theorem start_end (t : Nat) (ht : t < 2 ^ 64) : takeN (putN t 64 ipTab 64) 64 ipTab = t := by
  apply Nat.eq_of_testBit_eq
  intro i
  by_cases hi : i < 64
  · rw [takeN_bit _ _ ipTab i hi, show ipTab.length - 1 - i = 63 - i from rfl, putN_bit t (63 - i) (by omega) 64 (Nat.le_refl _), show 63 - (63 - i) = i from by omega]
    simp; omega
  · rw [Nat.testBit_lt_two_pow (Nat.lt_of_lt_of_le (takeN_lt _ _ ipTab) (Nat.pow_le_pow_right (by omega) (show ipTab.length ≤ i from by show 64 ≤ i; omega))), Nat.testBit_lt_two_pow (Nat.lt_of_lt_of_le ht (Nat.pow_le_pow_right (by omega) (by omega)))]
theorem end_start (w : Nat) (hw : w < 2 ^ 64) : putN (takeN w 64 ipTab) 64 ipTab 64 = w := by
  apply Nat.eq_of_testBit_eq
  intro p
  by_cases hp : p < 64
  · obtain ⟨j, hj, rfl⟩ := ip_onto p hp
    rw [putN_bit _ j hj 64 (Nat.le_refl _), takeN_bit _ _ ipTab (63 - j) (by show 63 - j < 64; omega), show ipTab.length - 1 - (63 - j) = j from by show 64 - 1 - (63 - j) = j; omega]
    simp; omega
  · have h1 : putN (takeN w 64 ipTab) 64 ipTab 64 < 2 ^ 64 := putN_lt _ 64 ipTab (Nat.le_refl _) ip_in 64 (Nat.le_refl _)
    rw [Nat.testBit_lt_two_pow (Nat.lt_of_lt_of_le h1 (Nat.pow_le_pow_right (by omega) (by omega))), Nat.testBit_lt_two_pow (Nat.lt_of_lt_of_le hw (Nat.pow_le_pow_right (by omega) (by omega)))]

theorem word_block (y : Nat) (hy : y < 2 ^ 64) : wordN (blockN y) = y := by
  simp only [blockN, wordN, List.range, List.range.loop, List.map_cons, List.map_nil, List.foldl_cons, List.foldl_nil, UInt8.toNat_ofNat']
  simp
  omega

theorem feis_back (ks : List Nat) (hks : ks.length = 16) (L R : Nat) (j : Nat) (hj : j ≤ 16) :
    feisN ks.reverse (feisN ks L R 16).2 (feisN ks L R 16).1 j = ((feisN ks L R (16 - j)).2, (feisN ks L R (16 - j)).1) := by
  induction j with
  | zero => rfl
  | succ j ih =>
    have hk : ks.reverse.getD j 0 = ks.getD (15 - j) 0 := by
      rw [List.getD_eq_getElem?_getD, List.getElem?_reverse (by omega), hks, ← List.getD_eq_getElem?_getD, show 16 - 1 - j = 15 - j from by omega]
    rw [feisN, ih (by omega), hk]
    have e : 16 - j = (15 - j) + 1 := by omega
    rw [e, feisN, show 16 - (j + 1) = 15 - j from by omega]
    simp only [Prod.mk.injEq, true_and]
    rw [Nat.xor_assoc, Nat.xor_self, Nat.xor_zero]

theorem run_back (ks : List Nat) (hks : ks.length = 16) (x : List UInt8) (hx : x.length = 8) : runN ks.reverse (runN ks x) = x := by
  obtain ⟨x0, x1, x2, x3, x4, x5, x6, x7, rfl⟩ := eight x hx
  have hw : wordN [x0, x1, x2, x3, x4, x5, x6, x7] < 2 ^ 64 := by
    have h := wordN_lt [x0, x1, x2, x3, x4, x5, x6, x7]
    rw [show [x0, x1, x2, x3, x4, x5, x6, x7].length = 8 from rfl] at h
    exact Nat.lt_of_lt_of_le h (by decide)
  have hs := startN_lt [x0, x1, x2, x3, x4, x5, x6, x7]
  obtain ⟨t, ht⟩ : ∃ t, t = startN [x0, x1, x2, x3, x4, x5, x6, x7] := ⟨_, rfl⟩
  have hl := feisN_lt ks (t / 4294967296) (t % 4294967296) (by omega) (by omega) 16
  have hb := feis_back ks hks (t / 4294967296) (t % 4294967296) 16 (Nat.le_refl _)
  have e1 : runN ks [x0, x1, x2, x3, x4, x5, x6, x7] = endN (feisN ks (t / 4294967296) (t % 4294967296) 16).1 (feisN ks (t / 4294967296) (t % 4294967296) 16).2 := by rw [ht]; rfl
  obtain ⟨l, hle⟩ : ∃ l, l = (feisN ks (t / 4294967296) (t % 4294967296) 16).1 := ⟨_, rfl⟩
  obtain ⟨r, hre⟩ : ∃ r, r = (feisN ks (t / 4294967296) (t % 4294967296) 16).2 := ⟨_, rfl⟩
  rw [← hle, ← hre] at hl hb e1
  have hlt : r * 4294967296 + l < 2 ^ 64 := by omega
  have e2 : startN (endN l r) = r * 4294967296 + l := by
    unfold startN endN
    rw [word_block _ (putN_lt _ 64 ipTab (Nat.le_refl _) ip_in 64 (Nat.le_refl _)), start_end _ hlt]
  rw [e1]
  show endN (feisN ks.reverse (startN (endN l r) / 4294967296) (startN (endN l r) % 4294967296) 16).1 (feisN ks.reverse (startN (endN l r) / 4294967296) (startN (endN l r) % 4294967296) 16).2 = _
  rw [e2, show (r * 4294967296 + l) / 4294967296 = r from by omega, show (r * 4294967296 + l) % 4294967296 = l from by omega, hb]
  show blockN (putN (t / 4294967296 * 4294967296 + t % 4294967296) 64 ipTab 64) = _
  rw [show t / 4294967296 * 4294967296 + t % 4294967296 = t from by omega, ht]
  unfold startN
  rw [end_start _ hw, block_word8]
theorem dec_enc (key x : List UInt8) (hx : x.length = 8) : decN key (encN key x) = x := run_back _ (keyNums_length _) x hx
theorem enc_dec (key x : List UInt8) (hx : x.length = 8) : encN key (decN key x) = x := by
  have h := run_back (keyNums key).reverse (by rw [List.length_reverse]; exact keyNums_length _) x hx
  rw [List.reverse_reverse] at h
  exact h

/-- Two bytes that differ in the lowest bit at most. -/
def NearB (a b : UInt8) : Prop := a.toNat / 2 = b.toNat / 2
theorem near_bit {a b : UInt8} (h : NearB a b) (q : Nat) (hq : 0 < q) : a.toNat.testBit q = b.toNat.testBit q := by
  obtain ⟨p, rfl⟩ : ∃ p, q = p + 1 := ⟨q - 1, by omega⟩
  rw [Nat.testBit_succ, Nat.testBit_succ, show a.toNat / 2 = b.toNat / 2 from h]
theorem word_near (k : Nat) (l l' : List UInt8) (hl : k ≤ l.length) (hl' : k ≤ l'.length) (h : ∀ i, i < k → NearB (l.getD i 0) (l'.getD i 0)) (p : Nat) (hp : p % 8 ≠ 0) : (wordN (l.take k)).testBit p = (wordN (l'.take k)).testBit p := by
  induction k generalizing p with
  | zero => simp
  | succ k ih =>
    rw [take_snoc l k (by omega), take_snoc l' k (by omega), wordN_snoc, wordN_snoc]
    have e : ∀ (t : Nat) (b : UInt8), 256 * t + b.toNat = 2 ^ 8 * t + b.toNat := fun _ _ => rfl
    rw [e, e, Nat.testBit_two_pow_mul_add _ (show (l[k]).toNat < 2 ^ 8 from (l[k]).toNat_lt), Nat.testBit_two_pow_mul_add _ (show (l'[k]).toNat < 2 ^ 8 from (l'[k]).toNat_lt)]
    split
    · have hn := h k (by omega)
      rw [show l.getD k 0 = l[k] from by simp [show k < l.length from by omega], show l'.getD k 0 = l'[k] from by simp [show k < l'.length from by omega]] at hn
      exact near_bit hn p (by omega)
    · exact ih (by omega) (by omega) (fun i hi => h i (by omega)) (p - 8) (by omega)
theorem pc1_apart : ∀ j, j < 56 → (64 - (pc1Tab.getD j 0).toNat) % 8 ≠ 0 := by decide +kernel
theorem both_near (l l' : List UInt8) (hl : l.length = 8) (hl' : l'.length = 8) (h : ∀ i, i < 8 → NearB (l.getD i 0) (l'.getD i 0)) : bothN l = bothN l' := by
  unfold bothN
  apply Nat.eq_of_testBit_eq
  intro i
  by_cases hi : i < 56
  · rw [takeN_bit _ _ pc1Tab i hi, takeN_bit _ _ pc1Tab i hi]
    have e := word_near 8 l l' (by omega) (by omega) h (64 - (pc1Tab.getD (pc1Tab.length - 1 - i) 0).toNat) (pc1_apart (55 - i) (by omega))
    rw [List.take_of_length_le (by omega), List.take_of_length_le (by omega)] at e
    exact e
  · rw [Nat.testBit_lt_two_pow (Nat.lt_of_lt_of_le (takeN_lt _ _ pc1Tab) (Nat.pow_le_pow_right (by omega) (show pc1Tab.length ≤ i from by show 56 ≤ i; omega))), Nat.testBit_lt_two_pow (Nat.lt_of_lt_of_le (takeN_lt _ _ pc1Tab) (Nat.pow_le_pow_right (by omega) (show pc1Tab.length ≤ i from by show 56 ≤ i; omega)))]
theorem nums_near (l l' : List UInt8) (h : bothN l = bothN l') : keyNums l = keyNums l' := by
  unfold keyNums keyN
  rw [h]
theorem enc_near (l l' x : List UInt8) (h : bothN l = bothN l') : encN l x = encN l' x := by unfold encN; rw [nums_near l l' h]
theorem dec_near (l l' x : List UInt8) (h : bothN l = bothN l') : decN l x = decN l' x := by unfold decN; rw [nums_near l l' h]
theorem odd_near : ∀ n : Nat, n < 256 → oddN n % 256 / 2 = n / 2 := by decide +kernel
theorem near_odd (b : UInt8) : NearB (odd b) b := by
  unfold NearB odd
  rw [UInt8.toNat_ofNat']
  exact odd_near _ b.toNat_lt
theorem both_odd (l : List UInt8) (hl : l.length = 8) : bothN (l.map odd) = bothN l :=
  both_near _ _ (by rw [List.length_map, hl]) hl (fun i hi => by
    have h1 : i < l.length := by omega
    have : (l.map odd).getD i 0 = odd (l.getD i 0) := by simp [h1]
    rw [this]
    exact near_odd _)
end Go.Proofs.Ythjnalbgnjbdnaa
