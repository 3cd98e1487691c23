/-
  The round of both sides is one.
-/
import Derived.Test.YthjnalbgnjbdnaaDesMath
namespace Go.Proofs.Ythjnalbgnjbdnaa

theorem valN_mid (l : List UInt8) (h : isBits l) (n m : Nat) (hn : n + m ≤ l.length) : valN l / 2 ^ (l.length - (n + m)) % 2 ^ m = valN ((l.drop n).take m) := by
  rw [(valN_split l h (n + m)).1]
  have h2 := (valN_split (l.take (n + m)) (bits_take h _) n).2
  rw [List.length_take, Nat.min_eq_left hn, show n + m - n = m from by omega] at h2
  rw [h2, List.drop_take, show n + m - n = m from by omega]

theorem pick_seg (r : List UInt8) (n m : Nat) : ((pickL r eInts).drop n).take m = pickL r ((eInts.drop n).take m) := by
  unfold pickL
  rw [← List.map_drop, ← List.map_take]

theorem seg_mid (k : Nat) (h1 : 1 ≤ k) (h6 : k ≤ 6) : (eInts.drop (6 * k)).take 6 = [4 * k, 4 * k + 1, 4 * k + 2, 4 * k + 3, 4 * k + 4, 4 * k + 5] := by
  have : k = 1 ∨ k = 2 ∨ k = 3 ∨ k = 4 ∨ k = 5 ∨ k = 6 := by omega
  rcases this with rfl | rfl | rfl | rfl | rfl | rfl <;> decide +kernel
theorem seg_first : (eInts.drop (6 * 0)).take 6 = [32, 1, 2, 3, 4, 5] := by decide +kernel
theorem seg_last : (eInts.drop (6 * 7)).take 6 = [28, 29, 30, 31, 32, 1] := by decide +kernel

theorem row_six (r : List UInt8) (n : Nat) (h : n + 6 ≤ r.length) : (r.drop n).take 6 = [r.getD n 0, r.getD (n + 1) 0, r.getD (n + 2) 0, r.getD (n + 3) 0, r.getD (n + 4) 0, r.getD (n + 5) 0] := by
  apply List.ext_getElem
  · simp; omega
  · intro i h1 h2
    simp only [List.length_cons, List.length_nil] at h2
    have : i = 0 ∨ i = 1 ∨ i = 2 ∨ i = 3 ∨ i = 4 ∨ i = 5 := by omega
    rcases this with rfl | rfl | rfl | rfl | rfl | rfl <;> simp [show n < r.length by omega, show n + 1 < r.length by omega, show n + 2 < r.length by omega, show n + 3 < r.length by omega, show n + 4 < r.length by omega, show n + 5 < r.length by omega]

theorem or_mod64 (a b : Nat) : (a ||| b) % 64 = a % 64 ||| b % 64 := by
  have := Nat.or_mod_two_pow (a := a) (b := b) (n := 6)
  simpa using this
theorem xor_mod64 (a b : Nat) : (a ^^^ b) % 64 = a % 64 ^^^ b % 64 := by
  have := Nat.xor_mod_two_pow (a := a) (b := b) (n := 6)
  simpa using this

theorem rot_mid (r : List UInt8) (hl : r.length = 32) (hb : isBits r) (k : Nat) (h1 : 1 ≤ k) (h6 : k ≤ 6) : rotN (valN r) (4 * k + 5) % 64 = valN (((pickL r eInts).drop (6 * k)).take 6) := by
  rw [pick_seg, seg_mid k h1 h6]
  have e : pickL r [4 * k, 4 * k + 1, 4 * k + 2, 4 * k + 3, 4 * k + 4, 4 * k + 5] = (r.drop (4 * k - 1)).take 6 := by
    rw [row_six r (4 * k - 1) (by omega)]
    simp only [pickL, List.map_cons, List.map_nil]
    rw [show 4 * k + 1 - 1 = 4 * k - 1 + 1 from by omega, show 4 * k + 2 - 1 = 4 * k - 1 + 2 from by omega, show 4 * k + 3 - 1 = 4 * k - 1 + 3 from by omega, show 4 * k + 4 - 1 = 4 * k - 1 + 4 from by omega, show 4 * k + 5 - 1 = 4 * k - 1 + 5 from by omega]
  rw [e, ← valN_mid r hb (4 * k - 1) 6 (by omega), hl]
  have hv : valN r < 4294967296 := by have := valN_lt r hb; rw [hl] at this; exact this
  unfold rotN
  rw [or_mod64]
  have : k = 1 ∨ k = 2 ∨ k = 3 ∨ k = 4 ∨ k = 5 ∨ k = 6 := by omega
  rcases this with rfl | rfl | rfl | rfl | rfl | rfl
  · rw [show valN r * 2 ^ ((4 * 1 + 5) % 32) % 4294967296 % 64 = 0 from by show valN r * 512 % 4294967296 % 64 = 0; omega, Nat.zero_or]
  · rw [show valN r * 2 ^ ((4 * 2 + 5) % 32) % 4294967296 % 64 = 0 from by show valN r * 8192 % 4294967296 % 64 = 0; omega, Nat.zero_or]
  · rw [show valN r * 2 ^ ((4 * 3 + 5) % 32) % 4294967296 % 64 = 0 from by show valN r * 131072 % 4294967296 % 64 = 0; omega, Nat.zero_or]
  · rw [show valN r * 2 ^ ((4 * 4 + 5) % 32) % 4294967296 % 64 = 0 from by show valN r * 2097152 % 4294967296 % 64 = 0; omega, Nat.zero_or]
  · rw [show valN r * 2 ^ ((4 * 5 + 5) % 32) % 4294967296 % 64 = 0 from by show valN r * 33554432 % 4294967296 % 64 = 0; omega, Nat.zero_or]
  · rw [show valN r * 2 ^ ((4 * 6 + 5) % 32) % 4294967296 % 64 = 0 from by show valN r * 536870912 % 4294967296 % 64 = 0; omega, Nat.zero_or]

theorem rot_first (r : List UInt8) (hl : r.length = 32) (hb : isBits r) : rotN (valN r) 5 % 64 = valN (((pickL r eInts).drop (6 * 0)).take 6) := by
  rw [pick_seg, seg_first]
  have hv : valN r < 4294967296 := by have := valN_lt r hb; rw [hl] at this; exact this
  have e1 : valN (r.take 5) = valN r / 134217728 := by have := (valN_split r hb 5).1; rw [hl] at this; exact this.symm
  have e2 := valN_bit r hb 32 (by omega) (by omega)
  rw [hl] at e2
  have e2' : valN r % 2 = (r.getD 31 0).toNat := by simpa using e2
  have e3 : pickL r [32, 1, 2, 3, 4, 5] = [r.getD 31 0] ++ r.take 5 := by
    have : r.take 5 = [r.getD 0 0, r.getD 1 0, r.getD 2 0, r.getD 3 0, r.getD 4 0] := by
      apply List.ext_getElem
      · simp; omega
      · intro i h1 h2
        simp only [List.length_cons, List.length_nil] at h2
        have : i = 0 ∨ i = 1 ∨ i = 2 ∨ i = 3 ∨ i = 4 := by omega
        rcases this with rfl | rfl | rfl | rfl | rfl <;> simp [show 0 < r.length by omega, show 1 < r.length by omega, show 2 < r.length by omega, show 3 < r.length by omega, show 4 < r.length by omega]
    rw [this]; rfl
  rw [e3, valN_append, e1, List.length_take, hl]
  have e4 : valN [r.getD 31 0] = valN r % 2 := by rw [e2']; simp [valN]
  rw [e4]
  unfold rotN
  rw [or_mod64]
  show valN r * 32 % 4294967296 % 64 ||| valN r / 134217728 % 64 = valN r % 2 * 32 + valN r / 134217728
  rw [nat_join 5 _ _ (by omega) (by omega)]
  omega

theorem rot_last (r : List UInt8) (hl : r.length = 32) (hb : isBits r) : rotN (valN r) 33 % 64 = valN (((pickL r eInts).drop (6 * 7)).take 6) := by
  rw [pick_seg, seg_last]
  have hv : valN r < 4294967296 := by have := valN_lt r hb; rw [hl] at this; exact this
  have e1 : valN (r.drop 27) = valN r % 32 := by have := (valN_split r hb 27).2; rw [hl] at this; exact this.symm
  have e2 := valN_bit r hb 1 (by omega) (by omega)
  rw [hl] at e2
  have e2' : valN r / 2147483648 = (r.getD 0 0).toNat := by
    have : valN r / 2147483648 % 2 = (r.getD 0 0).toNat := e2
    omega
  have e3 : pickL r [28, 29, 30, 31, 32, 1] = r.drop 27 ++ [r.getD 0 0] := by
    have : r.drop 27 = [r.getD 27 0, r.getD 28 0, r.getD 29 0, r.getD 30 0, r.getD 31 0] := by
      apply List.ext_getElem
      · simp; omega
      · intro i h1 h2
        simp only [List.length_cons, List.length_nil] at h2
        have : i = 0 ∨ i = 1 ∨ i = 2 ∨ i = 3 ∨ i = 4 := by omega
        rcases this with rfl | rfl | rfl | rfl | rfl <;> simp [show 27 < r.length by omega, show 28 < r.length by omega, show 29 < r.length by omega, show 30 < r.length by omega, show 31 < r.length by omega]
    rw [this]; rfl
  rw [e3, valN_snoc, e1, ← e2']
  unfold rotN
  rw [or_mod64]
  show valN r * 2 % 4294967296 % 64 ||| valN r / 2147483648 % 64 = 2 * (valN r % 32) + valN r / 2147483648
  rw [nat_join 1 _ _ (by omega) (by omega)]
  omega

theorem rot_eq (r : List UInt8) (hl : r.length = 32) (hb : isBits r) (k : Nat) (hk : k < 8) : rotN (valN r) (4 * k + 5) % 64 = valN (((pickL r eInts).drop (6 * k)).take 6) := by
  by_cases h0 : k = 0
  · subst h0; exact rot_first r hl hb
  · by_cases h7 : k = 7
    · subst h7; exact rot_last r hl hb
    · exact rot_mid r hl hb k (by omega) (by omega)

theorem group_eq (r kb : List UInt8) (hl : r.length = 32) (hkl : kb.length = 48) (hb : isBits r) (hkb : isBits kb) (k : Nat) (hk : k < 8) :
    groupN (valN r) (valN kb) k = valN (((xorL (pickL r eInts) kb).drop (6 * k)).take 6) := by
  unfold groupN
  rw [xor_mod64, rot_eq r hl hb k hk]
  have hpl : (pickL r eInts).length = 48 := by simp [pickL, eInts_length]
  have e1 : valN kb / 2 ^ (42 - 6 * k) % 4294967296 % 64 = valN ((kb.drop (6 * k)).take 6) := by
    rw [← valN_mid kb hkb (6 * k) 6 (by omega), hkl, show 48 - (6 * k + 6) = 42 - 6 * k from by omega]
    show _ = valN kb / 2 ^ (42 - 6 * k) % 64
    generalize valN kb / 2 ^ (42 - 6 * k) = z
    omega
  rw [e1, ← valN_xor _ _ (by simp [hpl, hkl]) (bits_take (bits_drop (pick_bits hb) _) _) (bits_take (bits_drop hkb _) _)]
  congr 1
  unfold xorL
  rw [List.drop_zipWith, List.take_zipWith]

theorem nib_val : ∀ d : Nat, d < 16 → valN (nib d) = d := by decide +kernel
theorem dig_lt (k g : Nat) (hk : k < 8) (hg : g < 64) : digN k g < 16 := by
  unfold digN
  exact boxD_hex _ (by omega)
theorem val6_lt (x : List UInt8) (hb : isBits x) (n : Nat) : valN ((x.drop n).take 6) < 64 := by
  have h1 := valN_lt _ (bits_take (bits_drop hb n) 6)
  have h2 : ((x.drop n).take 6).length ≤ 6 := by simp; omega
  have h3 := Nat.pow_le_pow_right (n := 2) (by omega) h2
  omega

theorem mix_part (r kb : List UInt8) (hl : r.length = 32) (hkl : kb.length = 48) (hb : isBits r) (hkb : isBits kb) (k : Nat) (hk : k ≤ 8) :
    mixN (valN r) (valN kb) k = takeN (valN (boxOut (xorL (pickL r eInts) kb) k) * 2 ^ (32 - 4 * k)) 32 pTab := by
  induction k with
  | zero =>
    have e : takeN 0 32 pTab = 0 := by decide +kernel
    show 0 = takeN (valN [] * 2 ^ 32) 32 pTab
    rw [show valN [] = 0 from rfl, Nat.zero_mul, e]
  | succ k ih =>
    have hX : isBits (xorL (pickL r eInts) kb) := xor_bits (pick_bits hb) hkb
    have hd : digS (xorL (pickL r eInts) kb) k < 16 := dig_lt k _ (by omega) (val6_lt _ hX _)
    show mixN (valN r) (valN kb) k ||| mergedN k (groupN (valN r) (valN kb) k) = takeN (valN (boxOut (xorL (pickL r eInts) kb) k ++ nib (digS (xorL (pickL r eInts) kb) k)) * 2 ^ (32 - 4 * (k + 1))) 32 pTab
    rw [ih (by omega), group_eq r kb hl hkl hb hkb k (by omega)]
    show takeN _ 32 pTab ||| takeN (digS (xorL (pickL r eInts) kb) k * 2 ^ (28 - 4 * k)) 32 pTab = _
    rw [← take_or, valN_append, nib_length, nib_val _ hd]
    congr 1
    generalize digS (xorL (pickL r eInts) kb) k = d at hd ⊢
    generalize valN (boxOut (xorL (pickL r eInts) kb) k) = V
    have hp : 2 ^ (32 - 4 * k) = 16 * 2 ^ (28 - 4 * k) := by rw [show 32 - 4 * k = (28 - 4 * k) + 4 from by omega, Nat.pow_add]; omega
    have hq : 0 < 2 ^ (28 - 4 * k) := Nat.pow_pos (by omega)
    have hlt : d * 2 ^ (28 - 4 * k) < 2 ^ (32 - 4 * k) := by rw [hp]; exact Nat.mul_lt_mul_of_pos_right hd hq
    rw [nat_join (32 - 4 * k) _ _ (Nat.mul_mod_left _ _) hlt, show 32 - 4 * (k + 1) = 28 - 4 * k from by omega, hp, Nat.add_mul, Nat.mul_assoc]

theorem mix_eq (r kb : List UInt8) (hl : r.length = 32) (hkl : kb.length = 48) (hb : isBits r) (hkb : isBits kb) : mixN (valN r) (valN kb) 8 = valN (roundS r kb) := by
  rw [mix_part r kb hl hkl hb hkb 8 (by omega)]
  have hlen : (boxOut (xorL (pickL r eInts) kb) 8).length = 32 := boxOut_length _ 8
  have h := take_pick (boxOut (xorL (pickL r eInts) kb) 8) (boxOut_bits _ _) pTab (by rw [hlen]; exact pTab_in)
  rw [hlen] at h
  show takeN (valN (boxOut (xorL (pickL r eInts) kb) 8) * 1) 32 pTab = _
  rw [Nat.mul_one, h]
  rfl

/-- Sixteen rounds of both sides. -/
theorem feis_eq (ks : List Nat) (kS : Nat → List UInt8) (l r : List UInt8) (hl : l.length = 32) (hr : r.length = 32) (bl : isBits l) (br : isBits r) (hks : ∀ k, k < 16 → ks.getD k 0 = valN (kS k) ∧ (kS k).length = 48 ∧ isBits (kS k)) (k : Nat) (hk : k ≤ 16) :
    feisN ks (valN l) (valN r) k = (valN (feisS kS l r k).1, valN (feisS kS l r k).2) := by
  induction k with
  | zero => rfl
  | succ k ih =>
    obtain ⟨f1, f2, f3, f4⟩ := feisS_ok kS l r hl hr bl br k
    obtain ⟨e, h48, hb⟩ := hks k (by omega)
    show ((feisN ks (valN l) (valN r) k).2, (feisN ks (valN l) (valN r) k).1 ^^^ mixN (feisN ks (valN l) (valN r) k).2 (ks.getD k 0) 8) = (valN (feisS kS l r k).2, valN (xorL (feisS kS l r k).1 (roundS (feisS kS l r k).2 (kS k))))
    rw [ih (by omega), e, mix_eq _ _ f2 h48 f4 hb, valN_xor _ _ (by rw [f1, roundS_length]) f3 (roundS_bits _ _)]

/-! The end: bits to their places, and into bytes. -/
theorem blk_unbits (l : List UInt8) (hl : l.length = 64) (hb : isBits l) : blockN (valN l) = unbitsL l := by
  apply List.ext_getElem
  · rw [blockN_length]; unfold unbitsL; rw [cellsU_length, hl]
  · intro i h1 h2
    rw [blockN_length] at h1
    rw [blockN_get _ _ h1]
    have e : (unbitsL l)[i] = cellU l l.length i := by simp [unbitsL, cellsU]
    rw [e]
    unfold cellU seg
    rw [List.take_length]
    have hm := valN_mid l hb (8 * i) 8 (by omega)
    rw [hl, show 64 - (8 * i + 8) = 56 - 8 * i from by omega] at hm
    rw [← hm]
    apply UInt8.toNat_inj.1
    rw [UInt8.toNat_ofNat', UInt8.toNat_ofNat']
    omega

theorem set_val (l : List UInt8) (p : Nat) (b : UInt8) (hp : p < l.length) (h0 : l.getD p 0 = 0) : valN (l.set p b) = valN l + b.toNat * 2 ^ (l.length - 1 - p) := by
  have e1 : l = l.take p ++ ([0] ++ l.drop (p + 1)) := by
    have h1 : l[p] = 0 := by rw [← h0]; simp [hp]
    have h2 := List.drop_eq_getElem_cons hp
    rw [h1] at h2
    have h3 := List.take_append_drop p l
    rw [h2] at h3
    exact h3.symm
  have e2 : l.set p b = l.take p ++ ([b] ++ l.drop (p + 1)) := by
    rw [List.set_eq_take_append_cons_drop, if_pos hp]; rfl
  have v1 : valN l = valN (l.take p) * 2 ^ ([0] ++ l.drop (p + 1)).length + (valN [0] * 2 ^ (l.drop (p + 1)).length + valN (l.drop (p + 1))) := by
    rw [← valN_append [0], ← valN_append, ← e1]
  rw [e2, valN_append, valN_append, v1]
  have z : valN [0] = 0 := rfl
  have y : valN [b] = b.toNat := by simp [valN]
  rw [z, y]
  simp only [List.length_append, List.length_cons, List.length_nil, List.length_drop]
  rw [show l.length - (p + 1) = l.length - 1 - p from by omega]
  omega

theorem ip_nodup : ∀ i, i < 64 → ∀ j, j < i → ipInts.getD j 0 - 1 ≠ ipInts.getD i 0 - 1 := by decide +kernel
theorem put_zero (both : List UInt8) (k p : Nat) (h : ∀ j, j < k → ipInts.getD j 0 - 1 ≠ p) : (putL both k).getD p 0 = 0 := by
  induction k with
  | zero =>
    show (List.replicate 64 (0 : UInt8)).getD p 0 = 0
    rw [List.getD_eq_getElem?_getD, List.getElem?_replicate]
    split <;> rfl
  | succ k ih =>
    show ((putL both k).set (ipInts.getD k 0 - 1) (both.getD k 0)).getD p 0 = 0
    rw [List.getD_eq_getElem?_getD, List.getElem?_set_ne (h k (by omega)), ← List.getD_eq_getElem?_getD]
    exact ih (fun j hj => h j (by omega))

theorem ip_tab (k : Nat) (hk : k < 64) : (ipTab.getD k 0).toNat = ipInts.getD k 0 := by
  have hl : k < ipTab.length := hk
  unfold ipInts ints
  simp [hl]

theorem or_free (a b s : Nat) (hb : b ≤ 1) (h0 : a / 2 ^ s % 2 = 0) : a ||| b * 2 ^ s = a + b * 2 ^ s := by
  induction s generalizing a with
  | zero =>
    have h1 : a % 2 = 0 := by simpa using h0
    rw [Nat.pow_zero, Nat.mul_one]
    exact nat_join 1 a b (by simpa using h1) (by omega)
  | succ s ih =>
    have h1 : a / 2 / 2 ^ s % 2 = 0 := by rw [Nat.div_div_eq_div_mul, Nat.mul_comm 2, ← Nat.pow_succ]; exact h0
    have h2 := ih (a / 2) h1
    have h3 := or_bit (a / 2) (b * 2 ^ s) (a % 2) 0 (by omega) (by omega)
    rw [Nat.or_zero, h2] at h3
    have e1 : 2 * (a / 2) + a % 2 = a := by omega
    have e2 : b * 2 ^ (s + 1) = 2 * (b * 2 ^ s) + 0 := by rw [Nat.pow_succ, ← Nat.mul_assoc]; omega
    rw [e1] at h3
    rw [e2, h3]
    omega

theorem put_eq (both : List UInt8) (hl : both.length = 64) (hb : isBits both) (k : Nat) (hk : k ≤ 64) : putN (valN both) 64 ipTab k = valN (putL both k) := by
  induction k with
  | zero => show 0 = valN (List.replicate 64 0); decide +kernel
  | succ k ih =>
    have hr := ip_range (ipInts.getD k 0) (by have : k < ipInts.length := (by rw [ipInts_length]; omega); simp [this])
    have hz := put_zero both k (ipInts.getD k 0 - 1) (ip_nodup k (by omega))
    have hv := set_val (putL both k) (ipInts.getD k 0 - 1) (both.getD k 0) (by rw [putL_length]; omega) hz
    show putN (valN both) 64 ipTab k ||| valN both / 2 ^ (ipTab.length - 1 - k) % 2 * 2 ^ (64 - (ipTab.getD k 0).toNat) = valN ((putL both k).set (ipInts.getD k 0 - 1) (both.getD k 0))
    rw [hv, ih (by omega), ip_tab k (by omega), putL_length]
    have hbit := valN_bit both hb (k + 1) (by omega) (by omega)
    rw [hl] at hbit
    have e1 : ipTab.length - 1 - k = 64 - (k + 1) := by show 64 - 1 - k = _; omega
    have e2 : both.getD (k + 1 - 1) 0 = both.getD k 0 := rfl
    rw [e1, hbit, e2, show 64 - 1 - (ipInts.getD k 0 - 1) = 64 - ipInts.getD k 0 from by omega]
    have hz2 := valN_bit (putL both k) (putL_bits both hb k) (ipInts.getD k 0) hr.1 (by rw [putL_length]; exact hr.2)
    rw [putL_length, hz] at hz2
    have hbb : (both.getD k 0).toNat ≤ 1 := by
      rw [List.getD_eq_getElem?_getD, List.getElem?_eq_getElem (by omega)]; exact hb _ (List.getElem_mem (by omega))
    exact or_free _ _ _ hbb hz2

end Go.Proofs.Ythjnalbgnjbdnaa
