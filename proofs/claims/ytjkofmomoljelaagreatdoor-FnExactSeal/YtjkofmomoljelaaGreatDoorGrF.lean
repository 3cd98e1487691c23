/-
  Texts laid together: DesMath, DesMath2, DesMath3, SpecTdea, TdeaCells, TdeaNew.
-/
import Derived.Test.YtjkofmomoljelaaGreatDoorGrE
import Derived.Test.YtjkofmomoljelaaGreatDoorGrC
/-
  Bits as lists against bits as numbers: Des of both sides is one.
-/
namespace Go.Proofs.YtjkofmomoljelaaGreatDoor

theorem valN_fold (l : List UInt8) (t : Nat) : l.foldl (fun t b => 2 * t + b.toNat) t = t * 2 ^ l.length + valN l := by
  induction l generalizing t with
  | nil => simp [valN]
  | cons c l ih =>
    have h1 := ih (2 * t + c.toNat)
    have h2 := ih (2 * 0 + c.toNat)
    simp only [List.foldl_cons, List.length_cons, valN] at *
    rw [h1, h2, Nat.pow_succ, Nat.add_mul, Nat.add_mul, Nat.mul_comm 2 t, Nat.mul_assoc t 2, Nat.mul_comm 2 (2 ^ l.length)]
    omega
theorem valN_append (a b : List UInt8) : valN (a ++ b) = valN a * 2 ^ b.length + valN b := by
  unfold valN
  rw [List.foldl_append, valN_fold]
  rfl
theorem valN_bits8 : ∀ x : Nat, x < 256 → valN (bits8 (UInt8.ofNat x)) = x := by decide +kernel
theorem valN_byte (x : UInt8) : valN (bits8 x) = x.toNat := by
  have := valN_bits8 x.toNat x.toNat_lt
  rwa [UInt8.ofNat_toNat] at this
theorem word_bits (bs : List UInt8) : wordN bs = valN (bitsL bs) := by
  unfold wordN
  have : ∀ t, bs.foldl (fun t b => 256 * t + b.toNat) t = t * 2 ^ (bitsL bs).length + valN (bitsL bs) := by
    induction bs with
    | nil => intro t; simp [bitsL, valN]
    | cons c bs ih =>
      intro t
      rw [List.foldl_cons, ih]
      have e : bitsL (c :: bs) = bits8 c ++ bitsL bs := by simp [bitsL]
      rw [e, valN_append, List.length_append, bits8_length, valN_byte, Nat.pow_add, Nat.add_mul]
      rw [show (2 : Nat) ^ 8 = 256 from rfl, ← Nat.mul_assoc, Nat.mul_comm t 256]
      omega
  have h := this 0
  simpa using h

theorem bits_drop {l : List UInt8} (h : isBits l) (n : Nat) : isBits (l.drop n) := fun b hb => h b (List.mem_of_mem_drop hb)
theorem bits_take {l : List UInt8} (h : isBits l) (n : Nat) : isBits (l.take n) := fun b hb => h b (List.mem_of_mem_take hb)

/-- The numbers of a row's beginning and end. -/
theorem valN_split (l : List UInt8) (h : isBits l) (n : Nat) : valN l / 2 ^ (l.length - n) = valN (l.take n) ∧ valN l % 2 ^ (l.length - n) = valN (l.drop n) := by
  have e : valN l = valN (l.take n) * 2 ^ (l.length - n) + valN (l.drop n) := by
    have := valN_append (l.take n) (l.drop n)
    rw [List.take_append_drop, List.length_drop] at this
    exact this
  have hlt : valN (l.drop n) < 2 ^ (l.length - n) := by
    have := valN_lt _ (bits_drop h n)
    rwa [List.length_drop] at this
  have hp : 0 < 2 ^ (l.length - n) := Nat.pow_pos (by omega)
  rw [e]
  exact ⟨by rw [Nat.mul_comm, Nat.mul_add_div hp, Nat.div_eq_of_lt hlt, Nat.add_zero], by rw [Nat.mul_comm, Nat.mul_add_mod, Nat.mod_eq_of_lt hlt]⟩

theorem valN_bit (l : List UInt8) (h : isBits l) (n : Nat) (h1 : 1 ≤ n) (hn : n ≤ l.length) : valN l / 2 ^ (l.length - n) % 2 = (l.getD (n - 1) 0).toNat := by
  rw [(valN_split l h n).1]
  obtain ⟨m, rfl⟩ : ∃ m, n = m + 1 := ⟨n - 1, by omega⟩
  rw [take_snoc l m (by omega), valN_snoc]
  have hb := h l[m] (List.getElem_mem (by omega))
  have e : l.getD (m + 1 - 1) 0 = l[m] := by simp [show m < l.length by omega]
  rw [e]
  omega

theorem take_pick (l : List UInt8) (h : isBits l) (tab : List UInt8) (ht : ∀ t ∈ tab, 1 ≤ t.toNat ∧ t.toNat ≤ l.length) : takeN (valN l) l.length tab = valN (pickL l (ints tab)) := by
  unfold takeN valN pickL ints
  rw [List.map_map, List.foldl_map]
  have : ∀ t, tab.foldl (fun t n => 2 * t + valN l / 2 ^ (l.length - n.toNat) % 2) t = tab.foldl (fun t n => 2 * t + (l.getD (n.toNat - 1) 0).toNat) t := by
    induction tab with
    | nil => intro t; rfl
    | cons c tab ih =>
      intro t
      have hc := ht c (by simp)
      rw [List.foldl_cons, List.foldl_cons, valN_bit l h c.toNat hc.1 hc.2]
      exact ih (fun t h => ht t (by simp [h])) _
  exact this 0

theorem xor_bit (s t x y : Nat) (hx : x ≤ 1) (hy : y ≤ 1) : (2 * s + x) ^^^ (2 * t + y) = 2 * (s ^^^ t) + (x ^^^ y) := by
  have h1 : ((2 * s + x) ^^^ (2 * t + y)) / 2 = s ^^^ t := by
    rw [Nat.xor_div_two, show (2 * s + x) / 2 = s from by omega, show (2 * t + y) / 2 = t from by omega]
  have h2 : ((2 * s + x) ^^^ (2 * t + y)) % 2 = x ^^^ y := by
    have := Nat.xor_mod_two_pow (a := 2 * s + x) (b := 2 * t + y) (n := 1)
    rw [show (2 : Nat) ^ 1 = 2 from rfl, show (2 * s + x) % 2 = x from by omega, show (2 * t + y) % 2 = y from by omega] at this
    exact this
  omega
theorem or_bit (s t x y : Nat) (hx : x ≤ 1) (hy : y ≤ 1) : (2 * s + x) ||| (2 * t + y) = 2 * (s ||| t) + (x ||| y) := by
  have h1 : ((2 * s + x) ||| (2 * t + y)) / 2 = s ||| t := by
    rw [Nat.or_div_two, show (2 * s + x) / 2 = s from by omega, show (2 * t + y) / 2 = t from by omega]
  have h2 : ((2 * s + x) ||| (2 * t + y)) % 2 = x ||| y := by
    have := Nat.or_mod_two_pow (a := 2 * s + x) (b := 2 * t + y) (n := 1)
    rw [show (2 : Nat) ^ 1 = 2 from rfl, show (2 * s + x) % 2 = x from by omega, show (2 * t + y) % 2 = y from by omega] at this
    exact this
  omega

theorem valN_xor (a b : List UInt8) (h : a.length = b.length) (ha : isBits a) (hb : isBits b) : valN (xorL a b) = valN a ^^^ valN b := by
  have : ∀ (a b : List UInt8), a.length = b.length → isBits a → isBits b → ∀ s t, (xorL a b).foldl (fun t b => 2 * t + b.toNat) (s ^^^ t) = a.foldl (fun t b => 2 * t + b.toNat) s ^^^ b.foldl (fun t b => 2 * t + b.toNat) t := by
    intro a
    induction a with
    | nil =>
      intro b hl _ _ s t
      cases b with
      | nil => rfl
      | cons c b => simp at hl
    | cons x a ih =>
      intro b hl ha hb s t
      cases b with
      | nil => simp at hl
      | cons y b =>
        have hx := ha x (by simp)
        have hy := hb y (by simp)
        have e : xorL (x :: a) (y :: b) = (x ^^^ y) :: xorL a b := rfl
        rw [e, List.foldl_cons, List.foldl_cons, List.foldl_cons, UInt8.toNat_xor, ← xor_bit s t _ _ hx hy]
        exact ih b (by simpa using hl) (fun z hz => ha z (by simp [hz])) (fun z hz => hb z (by simp [hz])) _ _
  simpa [valN] using this a b h ha hb 0 0

theorem or_shift (a b s : Nat) : (a ||| b) / 2 ^ s % 2 = a / 2 ^ s % 2 ||| b / 2 ^ s % 2 := by
  have h := Nat.or_div_two_pow (a := a) (b := b) (n := s)
  rw [h]
  have := Nat.or_mod_two_pow (a := a / 2 ^ s) (b := b / 2 ^ s) (n := 1)
  simpa using this
theorem take_or (a b width : Nat) (tab : List UInt8) : takeN (a ||| b) width tab = takeN a width tab ||| takeN b width tab := by
  unfold takeN
  have : ∀ (tab : List UInt8) (s t : Nat), tab.foldl (fun t n => 2 * t + (a ||| b) / 2 ^ (width - n.toNat) % 2) (s ||| t) = tab.foldl (fun t n => 2 * t + a / 2 ^ (width - n.toNat) % 2) s ||| tab.foldl (fun t n => 2 * t + b / 2 ^ (width - n.toNat) % 2) t := by
    intro tab
    induction tab with
    | nil => intro s t; rfl
    | cons c tab ih =>
      intro s t
      rw [List.foldl_cons, List.foldl_cons, List.foldl_cons, or_shift, ← or_bit s t _ _ (by omega) (by omega)]
      exact ih _ _
  simpa using this tab 0 0

/-! The keys. -/
theorem turn_rot (l : List UInt8) (hl : l.length = 28) (hb : isBits l) (t : Nat) (h1 : 1 ≤ t) (h2 : t ≤ 2) : turnN (valN l) t = valN (rotL l t) := by
  unfold turnN rotL
  obtain ⟨e1, e2⟩ := valN_split l hb t
  rw [hl] at e1 e2
  rw [valN_append, List.length_take, hl, Nat.min_eq_left (by omega), ← e1, ← e2]
  have ht : t = 1 ∨ t = 2 := by omega
  rcases ht with rfl | rfl
  · show valN l * 2 % 268435456 + valN l / 134217728 = valN l % 134217728 * 2 + valN l / 134217728
    omega
  · show valN l * 4 % 268435456 + valN l / 67108864 = valN l % 67108864 * 4 + valN l / 67108864
    omega
theorem half_eq (l : List UInt8) (hl : l.length = 28) (hb : isBits l) (k : Nat) (hk : k ≤ 16) : halfN (valN l) k = valN (halfS l k) := by
  induction k with
  | zero => rfl
  | succ k ih =>
    have ht := turns_in k (by omega)
    show turnN (halfN (valN l) k) (turnsTab.getD k 0) = valN (rotL (halfS l k) (turnsTab.getD k 0))
    rw [ih (by omega)]
    exact turn_rot _ (halfS_length l hl k (by omega)) (halfS_bits hb k) _ ht.1 ht.2
theorem both_eq (key : List UInt8) (h8 : key.length = 8) : bothN key = valN (cdS key) := by
  unfold bothN cdS
  rw [word_bits]
  have hl : (bitsL key).length = 64 := by rw [bitsL_length, h8]
  have := take_pick (bitsL key) (bitsL_bits key) pc1Tab (by rw [hl]; exact pc1_in)
  rw [hl] at this
  exact this
theorem key_eq (key : List UInt8) (h8 : key.length = 8) (k : Nat) (hk : k < 16) : keyN key k = valN (keyS key k) := by
  unfold keyN keyS
  have hb := cdS_bits key
  obtain ⟨e1, e2⟩ := valN_split (cdS key) hb 28
  rw [cdS_length] at e1 e2
  have e1' : valN (cdS key) / 268435456 = valN ((cdS key).take 28) := e1
  have e2' : valN (cdS key) % 268435456 = valN ((cdS key).drop 28) := e2
  have l1 : ((cdS key).take 28).length = 28 := by rw [List.length_take, cdS_length]; rfl
  have l2 : ((cdS key).drop 28).length = 28 := by rw [List.length_drop, cdS_length]
  rw [both_eq key h8, e1', e2', half_eq _ l1 (bits_take hb 28) _ (by omega), half_eq _ l2 (bits_drop hb 28) _ (by omega)]
  have m1 := halfS_length _ l1 (k + 1) (by omega)
  have m2 := halfS_length _ l2 (k + 1) (by omega)
  have hl : (halfS ((cdS key).take 28) (k + 1) ++ halfS ((cdS key).drop 28) (k + 1)).length = 56 := by rw [List.length_append, m1, m2]
  have ha := valN_append (halfS ((cdS key).take 28) (k + 1)) (halfS ((cdS key).drop 28) (k + 1))
  rw [m2] at ha
  have hp := take_pick _ (app_bits (halfS_bits (bits_take hb 28) (k + 1)) (halfS_bits (bits_drop hb 28) (k + 1))) pc2Tab (by rw [hl]; exact pc2_in)
  rw [hl, ha] at hp
  exact hp
end Go.Proofs.YtjkofmomoljelaaGreatDoor

/-
  The round of both sides is one.
-/
namespace Go.Proofs.YtjkofmomoljelaaGreatDoor

theorem valN_mid (l : List UInt8) (h : isBits l) (n m : Nat) (hn : n + m ≤ l.length) : valN l / 2 ^ (l.length - (n + m)) % 2 ^ m = valN ((l.drop n).take m) := by
  rw [(valN_split l h (n + m)).1]
  have h2 := (valN_split (l.take (n + m)) (bits_take h _) n).2
  rw [List.length_take, Nat.min_eq_left hn, show n + m - n = m from by omega] at h2
  rw [h2, List.drop_take, show n + m - n = m from by omega]

theorem pick_seg (r : List UInt8) (n m : Nat) : ((pickL r eInts).drop n).take m = pickL r ((eInts.drop n).take m) := by
  unfold pickL
  rw [← List.map_drop, ← List.map_take]

theorem seg_mid (k : Nat) (h1 : 1 ≤ k) (h6 : k ≤ 6) : (eInts.drop (6 * k)).take 6 = [4 * k, 4 * k + 1, 4 * k + 2, 4 * k + 3, 4 * k + 4, 4 * k + 5] := by
  have : k = 1 ∨ k = 2 ∨ k = 3 ∨ k = 4 ∨ k = 5 ∨ k = 6 := by omega
  rcases this with rfl | rfl | rfl | rfl | rfl | rfl <;> decide +kernel
theorem seg_first : (eInts.drop (6 * 0)).take 6 = [32, 1, 2, 3, 4, 5] := by decide +kernel
theorem seg_last : (eInts.drop (6 * 7)).take 6 = [28, 29, 30, 31, 32, 1] := by decide +kernel

theorem row_six (r : List UInt8) (n : Nat) (h : n + 6 ≤ r.length) : (r.drop n).take 6 = [r.getD n 0, r.getD (n + 1) 0, r.getD (n + 2) 0, r.getD (n + 3) 0, r.getD (n + 4) 0, r.getD (n + 5) 0] := by
  apply List.ext_getElem
  · simp; omega
  · intro i h1 h2
    simp only [List.length_cons, List.length_nil] at h2
    have : i = 0 ∨ i = 1 ∨ i = 2 ∨ i = 3 ∨ i = 4 ∨ i = 5 := by omega
    rcases this with rfl | rfl | rfl | rfl | rfl | rfl <;> simp [show n < r.length by omega, show n + 1 < r.length by omega, show n + 2 < r.length by omega, show n + 3 < r.length by omega, show n + 4 < r.length by omega, show n + 5 < r.length by omega]

theorem or_mod64 (a b : Nat) : (a ||| b) % 64 = a % 64 ||| b % 64 := by
  have := Nat.or_mod_two_pow (a := a) (b := b) (n := 6)
  simpa using this
theorem xor_mod64 (a b : Nat) : (a ^^^ b) % 64 = a % 64 ^^^ b % 64 := by
  have := Nat.xor_mod_two_pow (a := a) (b := b) (n := 6)
  simpa using this

theorem rot_mid (r : List UInt8) (hl : r.length = 32) (hb : isBits r) (k : Nat) (h1 : 1 ≤ k) (h6 : k ≤ 6) : rotN (valN r) (4 * k + 5) % 64 = valN (((pickL r eInts).drop (6 * k)).take 6) := by
  rw [pick_seg, seg_mid k h1 h6]
  have e : pickL r [4 * k, 4 * k + 1, 4 * k + 2, 4 * k + 3, 4 * k + 4, 4 * k + 5] = (r.drop (4 * k - 1)).take 6 := by
    rw [row_six r (4 * k - 1) (by omega)]
    simp only [pickL, List.map_cons, List.map_nil]
    rw [show 4 * k + 1 - 1 = 4 * k - 1 + 1 from by omega, show 4 * k + 2 - 1 = 4 * k - 1 + 2 from by omega, show 4 * k + 3 - 1 = 4 * k - 1 + 3 from by omega, show 4 * k + 4 - 1 = 4 * k - 1 + 4 from by omega, show 4 * k + 5 - 1 = 4 * k - 1 + 5 from by omega]
  rw [e, ← valN_mid r hb (4 * k - 1) 6 (by omega), hl]
  have hv : valN r < 4294967296 := by have := valN_lt r hb; rw [hl] at this; exact this
  unfold rotN
  rw [or_mod64]
  have : k = 1 ∨ k = 2 ∨ k = 3 ∨ k = 4 ∨ k = 5 ∨ k = 6 := by omega
  rcases this with rfl | rfl | rfl | rfl | rfl | rfl
  · rw [show valN r * 2 ^ ((4 * 1 + 5) % 32) % 4294967296 % 64 = 0 from by show valN r * 512 % 4294967296 % 64 = 0; omega, Nat.zero_or]
  · rw [show valN r * 2 ^ ((4 * 2 + 5) % 32) % 4294967296 % 64 = 0 from by show valN r * 8192 % 4294967296 % 64 = 0; omega, Nat.zero_or]
  · rw [show valN r * 2 ^ ((4 * 3 + 5) % 32) % 4294967296 % 64 = 0 from by show valN r * 131072 % 4294967296 % 64 = 0; omega, Nat.zero_or]
  · rw [show valN r * 2 ^ ((4 * 4 + 5) % 32) % 4294967296 % 64 = 0 from by show valN r * 2097152 % 4294967296 % 64 = 0; omega, Nat.zero_or]
  · rw [show valN r * 2 ^ ((4 * 5 + 5) % 32) % 4294967296 % 64 = 0 from by show valN r * 33554432 % 4294967296 % 64 = 0; omega, Nat.zero_or]
  · rw [show valN r * 2 ^ ((4 * 6 + 5) % 32) % 4294967296 % 64 = 0 from by show valN r * 536870912 % 4294967296 % 64 = 0; omega, Nat.zero_or]

theorem rot_first (r : List UInt8) (hl : r.length = 32) (hb : isBits r) : rotN (valN r) 5 % 64 = valN (((pickL r eInts).drop (6 * 0)).take 6) := by
  rw [pick_seg, seg_first]
  have hv : valN r < 4294967296 := by have := valN_lt r hb; rw [hl] at this; exact this
  have e1 : valN (r.take 5) = valN r / 134217728 := by have := (valN_split r hb 5).1; rw [hl] at this; exact this.symm
  have e2 := valN_bit r hb 32 (by omega) (by omega)
  rw [hl] at e2
  have e2' : valN r % 2 = (r.getD 31 0).toNat := by simpa using e2
  have e3 : pickL r [32, 1, 2, 3, 4, 5] = [r.getD 31 0] ++ r.take 5 := by
    have : r.take 5 = [r.getD 0 0, r.getD 1 0, r.getD 2 0, r.getD 3 0, r.getD 4 0] := by
      apply List.ext_getElem
      · simp; omega
      · intro i h1 h2
        simp only [List.length_cons, List.length_nil] at h2
        have : i = 0 ∨ i = 1 ∨ i = 2 ∨ i = 3 ∨ i = 4 := by omega
        rcases this with rfl | rfl | rfl | rfl | rfl <;> simp [show 0 < r.length by omega, show 1 < r.length by omega, show 2 < r.length by omega, show 3 < r.length by omega, show 4 < r.length by omega]
    rw [this]; rfl
  rw [e3, valN_append, e1, List.length_take, hl]
  have e4 : valN [r.getD 31 0] = valN r % 2 := by rw [e2']; simp [valN]
  rw [e4]
  unfold rotN
  rw [or_mod64]
  show valN r * 32 % 4294967296 % 64 ||| valN r / 134217728 % 64 = valN r % 2 * 32 + valN r / 134217728
  rw [nat_join 5 _ _ (by omega) (by omega)]
  omega

theorem rot_last (r : List UInt8) (hl : r.length = 32) (hb : isBits r) : rotN (valN r) 33 % 64 = valN (((pickL r eInts).drop (6 * 7)).take 6) := by
  rw [pick_seg, seg_last]
  have hv : valN r < 4294967296 := by have := valN_lt r hb; rw [hl] at this; exact this
  have e1 : valN (r.drop 27) = valN r % 32 := by have := (valN_split r hb 27).2; rw [hl] at this; exact this.symm
  have e2 := valN_bit r hb 1 (by omega) (by omega)
  rw [hl] at e2
  have e2' : valN r / 2147483648 = (r.getD 0 0).toNat := by
    have : valN r / 2147483648 % 2 = (r.getD 0 0).toNat := e2
    omega
  have e3 : pickL r [28, 29, 30, 31, 32, 1] = r.drop 27 ++ [r.getD 0 0] := by
    have : r.drop 27 = [r.getD 27 0, r.getD 28 0, r.getD 29 0, r.getD 30 0, r.getD 31 0] := by
      apply List.ext_getElem
      · simp; omega
      · intro i h1 h2
        simp only [List.length_cons, List.length_nil] at h2
        have : i = 0 ∨ i = 1 ∨ i = 2 ∨ i = 3 ∨ i = 4 := by omega
        rcases this with rfl | rfl | rfl | rfl | rfl <;> simp [show 27 < r.length by omega, show 28 < r.length by omega, show 29 < r.length by omega, show 30 < r.length by omega, show 31 < r.length by omega]
    rw [this]; rfl
  rw [e3, valN_snoc, e1, ← e2']
  unfold rotN
  rw [or_mod64]
  show valN r * 2 % 4294967296 % 64 ||| valN r / 2147483648 % 64 = 2 * (valN r % 32) + valN r / 2147483648
  rw [nat_join 1 _ _ (by omega) (by omega)]
  omega

theorem rot_eq (r : List UInt8) (hl : r.length = 32) (hb : isBits r) (k : Nat) (hk : k < 8) : rotN (valN r) (4 * k + 5) % 64 = valN (((pickL r eInts).drop (6 * k)).take 6) := by
  by_cases h0 : k = 0
  · subst h0; exact rot_first r hl hb
  · by_cases h7 : k = 7
    · subst h7; exact rot_last r hl hb
    · exact rot_mid r hl hb k (by omega) (by omega)

theorem group_eq (r kb : List UInt8) (hl : r.length = 32) (hkl : kb.length = 48) (hb : isBits r) (hkb : isBits kb) (k : Nat) (hk : k < 8) :
    groupN (valN r) (valN kb) k = valN (((xorL (pickL r eInts) kb).drop (6 * k)).take 6) := by
  unfold groupN
  rw [xor_mod64, rot_eq r hl hb k hk]
  have hpl : (pickL r eInts).length = 48 := by simp [pickL, eInts_length]
  have e1 : valN kb / 2 ^ (42 - 6 * k) % 4294967296 % 64 = valN ((kb.drop (6 * k)).take 6) := by
    rw [← valN_mid kb hkb (6 * k) 6 (by omega), hkl, show 48 - (6 * k + 6) = 42 - 6 * k from by omega]
    show _ = valN kb / 2 ^ (42 - 6 * k) % 64
    generalize valN kb / 2 ^ (42 - 6 * k) = z
    omega
  rw [e1, ← valN_xor _ _ (by simp [hpl, hkl]) (bits_take (bits_drop (pick_bits hb) _) _) (bits_take (bits_drop hkb _) _)]
  congr 1
  unfold xorL
  rw [List.drop_zipWith, List.take_zipWith]

theorem nib_val : ∀ d : Nat, d < 16 → valN (nib d) = d := by decide +kernel
theorem dig_lt (k g : Nat) (hk : k < 8) (hg : g < 64) : digN k g < 16 := by
  unfold digN
  exact boxD_hex _ (by omega)
theorem val6_lt (x : List UInt8) (hb : isBits x) (n : Nat) : valN ((x.drop n).take 6) < 64 := by
  have h1 := valN_lt _ (bits_take (bits_drop hb n) 6)
  have h2 : ((x.drop n).take 6).length ≤ 6 := by simp; omega
  have h3 := Nat.pow_le_pow_right (n := 2) (by omega) h2
  omega

theorem mix_part (r kb : List UInt8) (hl : r.length = 32) (hkl : kb.length = 48) (hb : isBits r) (hkb : isBits kb) (k : Nat) (hk : k ≤ 8) :
    mixN (valN r) (valN kb) k = takeN (valN (boxOut (xorL (pickL r eInts) kb) k) * 2 ^ (32 - 4 * k)) 32 pTab := by
  induction k with
  | zero =>
    have e : takeN 0 32 pTab = 0 := by decide +kernel
    show 0 = takeN (valN [] * 2 ^ 32) 32 pTab
    rw [show valN [] = 0 from rfl, Nat.zero_mul, e]
  | succ k ih =>
    have hX : isBits (xorL (pickL r eInts) kb) := xor_bits (pick_bits hb) hkb
    have hd : digS (xorL (pickL r eInts) kb) k < 16 := dig_lt k _ (by omega) (val6_lt _ hX _)
    show mixN (valN r) (valN kb) k ||| mergedN k (groupN (valN r) (valN kb) k) = takeN (valN (boxOut (xorL (pickL r eInts) kb) k ++ nib (digS (xorL (pickL r eInts) kb) k)) * 2 ^ (32 - 4 * (k + 1))) 32 pTab
    rw [ih (by omega), group_eq r kb hl hkl hb hkb k (by omega)]
    show takeN _ 32 pTab ||| takeN (digS (xorL (pickL r eInts) kb) k * 2 ^ (28 - 4 * k)) 32 pTab = _
    rw [← take_or, valN_append, nib_length, nib_val _ hd]
    congr 1
    generalize digS (xorL (pickL r eInts) kb) k = d at hd ⊢
    generalize valN (boxOut (xorL (pickL r eInts) kb) k) = V
    have hp : 2 ^ (32 - 4 * k) = 16 * 2 ^ (28 - 4 * k) := by rw [show 32 - 4 * k = (28 - 4 * k) + 4 from by omega, Nat.pow_add]; omega
    have hq : 0 < 2 ^ (28 - 4 * k) := Nat.pow_pos (by omega)
    have hlt : d * 2 ^ (28 - 4 * k) < 2 ^ (32 - 4 * k) := by rw [hp]; exact Nat.mul_lt_mul_of_pos_right hd hq
    rw [nat_join (32 - 4 * k) _ _ (Nat.mul_mod_left _ _) hlt, show 32 - 4 * (k + 1) = 28 - 4 * k from by omega, hp, Nat.add_mul, Nat.mul_assoc]

theorem mix_eq (r kb : List UInt8) (hl : r.length = 32) (hkl : kb.length = 48) (hb : isBits r) (hkb : isBits kb) : mixN (valN r) (valN kb) 8 = valN (roundS r kb) := by
  rw [mix_part r kb hl hkl hb hkb 8 (by omega)]
  have hlen : (boxOut (xorL (pickL r eInts) kb) 8).length = 32 := boxOut_length _ 8
  have h := take_pick (boxOut (xorL (pickL r eInts) kb) 8) (boxOut_bits _ _) pTab (by rw [hlen]; exact pTab_in)
  rw [hlen] at h
  show takeN (valN (boxOut (xorL (pickL r eInts) kb) 8) * 1) 32 pTab = _
  rw [Nat.mul_one, h]
  rfl

/-- Sixteen rounds of both sides. -/
theorem feis_eq (ks : List Nat) (kS : Nat → List UInt8) (l r : List UInt8) (hl : l.length = 32) (hr : r.length = 32) (bl : isBits l) (br : isBits r) (hks : ∀ k, k < 16 → ks.getD k 0 = valN (kS k) ∧ (kS k).length = 48 ∧ isBits (kS k)) (k : Nat) (hk : k ≤ 16) :
    feisN ks (valN l) (valN r) k = (valN (feisS kS l r k).1, valN (feisS kS l r k).2) := by
  induction k with
  | zero => rfl
  | succ k ih =>
    obtain ⟨f1, f2, f3, f4⟩ := feisS_ok kS l r hl hr bl br k
    obtain ⟨e, h48, hb⟩ := hks k (by omega)
    show ((feisN ks (valN l) (valN r) k).2, (feisN ks (valN l) (valN r) k).1 ^^^ mixN (feisN ks (valN l) (valN r) k).2 (ks.getD k 0) 8) = (valN (feisS kS l r k).2, valN (xorL (feisS kS l r k).1 (roundS (feisS kS l r k).2 (kS k))))
    rw [ih (by omega), e, mix_eq _ _ f2 h48 f4 hb, valN_xor _ _ (by rw [f1, roundS_length]) f3 (roundS_bits _ _)]

/-! The end: bits to their places, and into bytes. -/
theorem blk_unbits (l : List UInt8) (hl : l.length = 64) (hb : isBits l) : blockN (valN l) = unbitsL l := by
  apply List.ext_getElem
  · rw [blockN_length]; unfold unbitsL; rw [cellsU_length, hl]
  · intro i h1 h2
    rw [blockN_length] at h1
    rw [blockN_get _ _ h1]
    have e : (unbitsL l)[i] = cellU l l.length i := by simp [unbitsL, cellsU]
    rw [e]
    unfold cellU seg
    rw [List.take_length]
    have hm := valN_mid l hb (8 * i) 8 (by omega)
    rw [hl, show 64 - (8 * i + 8) = 56 - 8 * i from by omega] at hm
    rw [← hm]
    apply UInt8.toNat_inj.1
    rw [UInt8.toNat_ofNat', UInt8.toNat_ofNat']
    omega

theorem set_val (l : List UInt8) (p : Nat) (b : UInt8) (hp : p < l.length) (h0 : l.getD p 0 = 0) : valN (l.set p b) = valN l + b.toNat * 2 ^ (l.length - 1 - p) := by
  have e1 : l = l.take p ++ ([0] ++ l.drop (p + 1)) := by
    have h1 : l[p] = 0 := by rw [← h0]; simp [hp]
    have h2 := List.drop_eq_getElem_cons hp
    rw [h1] at h2
    have h3 := List.take_append_drop p l
    rw [h2] at h3
    exact h3.symm
  have e2 : l.set p b = l.take p ++ ([b] ++ l.drop (p + 1)) := by
    rw [List.set_eq_take_append_cons_drop, if_pos hp]; rfl
  have v1 : valN l = valN (l.take p) * 2 ^ ([0] ++ l.drop (p + 1)).length + (valN [0] * 2 ^ (l.drop (p + 1)).length + valN (l.drop (p + 1))) := by
    rw [← valN_append [0], ← valN_append, ← e1]
  rw [e2, valN_append, valN_append, v1]
  have z : valN [0] = 0 := rfl
  have y : valN [b] = b.toNat := by simp [valN]
  rw [z, y]
  simp only [List.length_append, List.length_cons, List.length_nil, List.length_drop]
  rw [show l.length - (p + 1) = l.length - 1 - p from by omega]
  omega

theorem ip_nodup : ∀ i, i < 64 → ∀ j, j < i → ipInts.getD j 0 - 1 ≠ ipInts.getD i 0 - 1 := by decide +kernel
theorem put_zero (both : List UInt8) (k p : Nat) (h : ∀ j, j < k → ipInts.getD j 0 - 1 ≠ p) : (putL both k).getD p 0 = 0 := by
  induction k with
  | zero =>
    show (List.replicate 64 (0 : UInt8)).getD p 0 = 0
    rw [List.getD_eq_getElem?_getD, List.getElem?_replicate]
    split <;> rfl
  | succ k ih =>
    show ((putL both k).set (ipInts.getD k 0 - 1) (both.getD k 0)).getD p 0 = 0
    rw [List.getD_eq_getElem?_getD, List.getElem?_set_ne (h k (by omega)), ← List.getD_eq_getElem?_getD]
    exact ih (fun j hj => h j (by omega))

theorem ip_tab (k : Nat) (hk : k < 64) : (ipTab.getD k 0).toNat = ipInts.getD k 0 := by
  have hl : k < ipTab.length := hk
  unfold ipInts ints
  simp [hl]

theorem or_free (a b s : Nat) (hb : b ≤ 1) (h0 : a / 2 ^ s % 2 = 0) : a ||| b * 2 ^ s = a + b * 2 ^ s := by
  induction s generalizing a with
  | zero =>
    have h1 : a % 2 = 0 := by simpa using h0
    rw [Nat.pow_zero, Nat.mul_one]
    exact nat_join 1 a b (by simpa using h1) (by omega)
  | succ s ih =>
    have h1 : a / 2 / 2 ^ s % 2 = 0 := by rw [Nat.div_div_eq_div_mul, Nat.mul_comm 2, ← Nat.pow_succ]; exact h0
    have h2 := ih (a / 2) h1
    have h3 := or_bit (a / 2) (b * 2 ^ s) (a % 2) 0 (by omega) (by omega)
    rw [Nat.or_zero, h2] at h3
    have e1 : 2 * (a / 2) + a % 2 = a := by omega
    have e2 : b * 2 ^ (s + 1) = 2 * (b * 2 ^ s) + 0 := by rw [Nat.pow_succ, ← Nat.mul_assoc]; omega
    rw [e1] at h3
    rw [e2, h3]
    omega

theorem put_eq (both : List UInt8) (hl : both.length = 64) (hb : isBits both) (k : Nat) (hk : k ≤ 64) : putN (valN both) 64 ipTab k = valN (putL both k) := by
  induction k with
  | zero => show 0 = valN (List.replicate 64 0); decide +kernel
  | succ k ih =>
    have hr := ip_range (ipInts.getD k 0) (by have : k < ipInts.length := by rw [ipInts_length]; omega
                                              simp [this])
    have hz := put_zero both k (ipInts.getD k 0 - 1) (ip_nodup k (by omega))
    have hv := set_val (putL both k) (ipInts.getD k 0 - 1) (both.getD k 0) (by rw [putL_length]; omega) hz
    show putN (valN both) 64 ipTab k ||| valN both / 2 ^ (ipTab.length - 1 - k) % 2 * 2 ^ (64 - (ipTab.getD k 0).toNat) = valN ((putL both k).set (ipInts.getD k 0 - 1) (both.getD k 0))
    rw [hv, ih (by omega), ip_tab k (by omega), putL_length]
    have hbit := valN_bit both hb (k + 1) (by omega) (by omega)
    rw [hl] at hbit
    have e1 : ipTab.length - 1 - k = 64 - (k + 1) := by show 64 - 1 - k = _; omega
    have e2 : both.getD (k + 1 - 1) 0 = both.getD k 0 := rfl
    rw [e1, hbit, e2, show 64 - 1 - (ipInts.getD k 0 - 1) = 64 - ipInts.getD k 0 from by omega]
    have hz2 := valN_bit (putL both k) (putL_bits both hb k) (ipInts.getD k 0) hr.1 (by rw [putL_length]; exact hr.2)
    rw [putL_length, hz] at hz2
    have hbb : (both.getD k 0).toNat ≤ 1 := by
      rw [List.getD_eq_getElem?_getD, List.getElem?_eq_getElem (by omega)]; exact hb _ (List.getElem_mem (by omega))
    exact or_free _ _ _ hbb hz2

end Go.Proofs.YtjkofmomoljelaaGreatDoor

/-
  Des of both sides is one.
-/
namespace Go.Proofs.YtjkofmomoljelaaGreatDoor

theorem start_eq (block : List UInt8) (h8 : block.length = 8) : startN block = valN (xS block) := by
  unfold startN xS
  rw [word_bits]
  have hl : (bitsL block).length = 64 := by rw [bitsL_length, h8]
  have := take_pick (bitsL block) (bitsL_bits block) ipTab (by rw [hl]; exact ip_in)
  rw [hl] at this
  exact this

theorem end_eq (L R : List UInt8) (hL : L.length = 32) (hR : R.length = 32) (bL : isBits L) (bR : isBits R) : endN (valN L) (valN R) = unbitsL (putL (R ++ L) 64) := by
  have ha : valN R * 4294967296 + valN L = valN (R ++ L) := by rw [valN_append, hL]
  have hl : (R ++ L).length = 64 := by rw [List.length_append, hL, hR]
  unfold endN
  rw [ha, put_eq (R ++ L) hl (app_bits bR bL) 64 (Nat.le_refl _)]
  exact blk_unbits _ (putL_length _ _) (putL_bits _ (app_bits bR bL) _)

theorem run_halves (ks : List Nat) (kS : Nat → List UInt8) (l r : List UInt8) (hl : l.length = 32) (hr : r.length = 32) (bl : isBits l) (br : isBits r) (hks : ∀ k, k < 16 → ks.getD k 0 = valN (kS k) ∧ (kS k).length = 48 ∧ isBits (kS k)) :
    endN (feisN ks (valN l) (valN r) 16).1 (feisN ks (valN l) (valN r) 16).2 = unbitsL (putL ((feisS kS l r 16).2 ++ (feisS kS l r 16).1) 64) := by
  obtain ⟨f1, f2, f3, f4⟩ := feisS_ok kS l r hl hr bl br 16
  rw [feis_eq ks kS l r hl hr bl br hks 16 (Nat.le_refl _)]
  exact end_eq _ _ f1 f2 f3 f4

theorem run_eq (ks : List Nat) (kS : Nat → List UInt8) (block : List UInt8) (h8 : block.length = 8) (hks : ∀ k, k < 16 → ks.getD k 0 = valN (kS k) ∧ (kS k).length = 48 ∧ isBits (kS k)) :
    runN ks block = unbitsL (putL ((feisS kS ((xS block).take 32) ((xS block).drop 32) 16).2 ++ (feisS kS ((xS block).take 32) ((xS block).drop 32) 16).1) 64) := by
  have hb := xS_bits block
  have l1 : ((xS block).take 32).length = 32 := by rw [List.length_take, xS_length]; rfl
  have l2 : ((xS block).drop 32).length = 32 := by rw [List.length_drop, xS_length]
  obtain ⟨e1, e2⟩ := valN_split (xS block) hb 32
  rw [xS_length, show (2 : Nat) ^ (64 - 32) = 4294967296 from rfl] at e1 e2
  rw [← run_halves ks kS _ _ l1 l2 (bits_take hb 32) (bits_drop hb 32) hks, ← e1, ← e2, ← start_eq block h8]
  unfold runN
  rfl

theorem nums_at (key : List UInt8) (k : Nat) (h : k < 16) : (keyNums key)[k]? = some (keyN key k) := by
  unfold keyNums
  rw [List.getElem?_map, List.getElem?_range h, Option.map_some]
theorem nums_get (key : List UInt8) (k : Nat) (h : k < 16) : (keyNums key).getD k 0 = keyN key k := by
  rw [List.getD_eq_getElem?_getD, nums_at key k h, Option.getD_some]
theorem nums_rev (key : List UInt8) (k : Nat) (h : k < 16) : (keyNums key).reverse.getD k 0 = keyN key (15 - k) := by
  rw [List.getD_eq_getElem?_getD, List.getElem?_reverse (by rw [keyNums_length]; exact h), keyNums_length, show 16 - 1 - k = 15 - k from rfl, nums_at key (15 - k) (by omega), Option.getD_some]
theorem kSof_false (key : List UInt8) (k : Nat) : kSof key false k = keyS key k := by unfold kSof; rw [if_neg (by decide)]
theorem kSof_true (key : List UInt8) (k : Nat) : kSof key true k = keyS key (15 - k) := by unfold kSof; rw [if_pos rfl]
theorem enc_eq (key block : List UInt8) (hk : key.length = 8) (hb : block.length = 8) : encN key block = desS key block false := by
  have h := run_eq (keyNums key) (kSof key false) block hb (fun k h => ⟨by rw [nums_get key k h, kSof_false, key_eq key hk k h], kSof_length _ _ _, kSof_bits _ _ _⟩)
  unfold encN desS
  exact h
theorem dec_eq (key block : List UInt8) (hk : key.length = 8) (hb : block.length = 8) : decN key block = desS key block true := by
  have h := run_eq (keyNums key).reverse (kSof key true) block hb (fun k h => ⟨by rw [nums_rev key k h, kSof_true, key_eq key hk (15 - k) (by omega)], kSof_length _ _ _, kSof_bits _ _ _⟩)
  unfold decN desS
  exact h
theorem desN_enc (key block : List UInt8) : desN key block false = encN key block := by unfold desN; rw [if_neg (by decide)]
theorem desN_dec (key block : List UInt8) : desN key block true = decN key block := by unfold desN; rw [if_pos rfl]

/-- Des of the program is Des of the specification. -/
theorem des_eq (key block : List UInt8) (dec : Bool) (hk : key.length = 8) (hb : block.length = 8) : desN key block dec = desS key block dec := by
  cases dec
  · rw [desN_enc]; exact enc_eq key block hk hb
  · rw [desN_dec]; exact dec_eq key block hk hb

end Go.Proofs.YtjkofmomoljelaaGreatDoor

/-
  spec: Tdea.
-/
namespace Go.Proofs.YtjkofmomoljelaaGreatDoor
open Go.RowKit

theorem desS_length (key block : List UInt8) (dec : Bool) : (desS key block dec).length = 8 := by
  unfold desS unbitsL
  rw [cellsU_length, putL_length]
def tdeaS (key block : List UInt8) (dec : Bool) : List UInt8 := desS (key.take 8) (desS (key.drop 8) (desS (key.take 8) block dec) (!dec)) dec
theorem tdeaS_length (key block : List UInt8) (dec : Bool) : (tdeaS key block dec).length = 8 := desS_length _ _ _

end Go.Proofs.YtjkofmomoljelaaGreatDoor

/-
  impl: the cells of a tdeaCipher.
-/
namespace Go.Proofs.YtjkofmomoljelaaGreatDoor
open Go.RowKit

def tdeaCells (k1 k2 : List UInt8) (S : Nat) : List Value := cipherCells k1 S ++ cipherCells k2 S
theorem tdeaCells_length (k1 k2 : List UInt8) (S : Nat) : (tdeaCells k1 k2 S).length = 34 := by simp [tdeaCells, cipherCells_length]
theorem allOne_tdea (k1 k2 : List UInt8) (S : Nat) : (tdeaCells k1 k2 S).toArray.all (·.oneCell') = true := by
  rw [Array.all_eq_true_iff_forall_mem]
  intro v hv
  simp only [tdeaCells, List.mem_toArray, List.mem_append] at hv
  rcases hv with hv | hv
  · exact (Array.all_eq_true_iff_forall_mem.1 (allOne_cipher k1 S)) v (by simpa using hv)
  · exact (Array.all_eq_true_iff_forall_mem.1 (allOne_cipher k2 S)) v (by simpa using hv)
def zeroTdea : List Value := zeroCipher ++ zeroCipher
theorem zeroTdea_length : zeroTdea.length = 34 := rfl
theorem Tryz.zero186 : (Tryz.prog.info? 186).map (fun i => (i.zero, i.size)) = some (some (.agg zeroTdea.toArray), 34) := by kernel_rfl
theorem of17 {l : List Value} (h : l.length = 17) : ∃ a0 a1 a2 a3 a4 a5 a6 a7 a8 a9 a10 a11 a12 a13 a14 a15 a16, l = [a0, a1, a2, a3, a4, a5, a6, a7, a8, a9, a10, a11, a12, a13, a14, a15, a16] := by
  match l, h with
  | [a0, a1, a2, a3, a4, a5, a6, a7, a8, a9, a10, a11, a12, a13, a14, a15, a16], _ => exact ⟨a0, a1, a2, a3, a4, a5, a6, a7, a8, a9, a10, a11, a12, a13, a14, a15, a16, rfl⟩
theorem built_two {a b : List Value} (ha : a.length = 17) (hb : b.length = 17) : Tryz.prog.built 186 [(0, .agg a.toArray), (1, .agg b.toArray)] = some (a ++ b).toArray := by
  obtain ⟨a0, a1, a2, a3, a4, a5, a6, a7, a8, a9, a10, a11, a12, a13, a14, a15, a16, rfl⟩ := of17 ha
  obtain ⟨b0, b1, b2, b3, b4, b5, b6, b7, b8, b9, b10, b11, b12, b13, b14, b15, b16, rfl⟩ := of17 hb
  kernel_rfl
theorem build_tdea (k1 k2 : List UInt8) (S : Nat) (w : World) : (Instr.build 186 #[(0, .agg (cipherCells k1 S).toArray), (1, .agg (cipherCells k2 S).toArray)]).run Tryz.prog w = .ok (.agg (tdeaCells k1 k2 S).toArray) w :=
  run_build w _ _ _ (built_two (cipherCells_length _ _) (cipherCells_length _ _))
theorem store_all {w : World} {g t : Nat} {old cs : List Value} (h : Blk w g t old) (hl : cs.length = old.length) (ho : cs.toArray.all (·.oneCell') = true) : (storeCells ⟨g, 0, none⟩ cs 0).run Tryz.prog w = .ok () (w.setRow g cs.toArray) := by
  have := run_storeCells_from (P := Tryz.prog) g t cs 0 old.toArray w h (by rw [List.size_toArray, Nat.zero_add]; exact hl) (fun v hv => (Array.all_eq_true_iff_forall_mem.1 ho) v (by simpa using hv))
  rw [List.take_zero, List.nil_append] at this
  exact this
theorem store_tdea (k1 k2 : List UInt8) (S : Nat) {w : World} {g t : Nat} (h : Blk w g t zeroTdea) : (storeCells ⟨g, 0, none⟩ (tdeaCells k1 k2 S) 0).run Tryz.prog w = .ok () (w.setRow g (tdeaCells k1 k2 S).toArray) :=
  store_all h ((tdeaCells_length _ _ _).trans zeroTdea_length.symm) (allOne_tdea _ _ _)

theorem eight_blk {w : World} {g t n : Nat} {l : List UInt8} {k0 k1 k2 k3 k4 k5 k6 k7 : UInt8} (h : Blk w g t (l.map byte)) (hl : (l.drop n).take 8 = [k0, k1, k2, k3, k4, k5, k6, k7]) : Eight w g n k0 k1 k2 k3 k4 k5 k6 k7 := by
  have hc : ∀ j, j < 8 → w.cell? ⟨g, n + j, none⟩ = some (byte ([k0, k1, k2, k3, k4, k5, k6, k7].getD j 0)) := by
    intro j hj
    have hlen : n + j < l.length := by
      have := congrArg List.length hl
      simp at this
      omega
    rw [h.cell (n + j) (by simpa using hlen), ← hl]
    simp [hj, hlen]
  exact ⟨hc 0 (by omega), hc 1 (by omega), hc 2 (by omega), hc 3 (by omega), hc 4 (by omega), hc 5 (by omega), hc 6 (by omega), hc 7 (by omega)⟩

theorem sixteen {w : World} {g t : Nat} {k0 k1 k2 k3 k4 k5 k6 k7 j0 j1 j2 j3 j4 j5 j6 j7 : UInt8} (h : Blk w g t ([k0, k1, k2, k3, k4, k5, k6, k7, j0, j1, j2, j3, j4, j5, j6, j7].map byte)) : w.cell? ⟨g, 0, none⟩ = some (byte k0) ∧ w.cell? ⟨g, 1, none⟩ = some (byte k1) ∧ w.cell? ⟨g, 2, none⟩ = some (byte k2) ∧ w.cell? ⟨g, 3, none⟩ = some (byte k3) ∧ w.cell? ⟨g, 4, none⟩ = some (byte k4) ∧ w.cell? ⟨g, 5, none⟩ = some (byte k5) ∧ w.cell? ⟨g, 6, none⟩ = some (byte k6) ∧ w.cell? ⟨g, 7, none⟩ = some (byte k7) ∧ w.cell? ⟨g, 8, none⟩ = some (byte j0) ∧ w.cell? ⟨g, 9, none⟩ = some (byte j1) ∧ w.cell? ⟨g, 10, none⟩ = some (byte j2) ∧ w.cell? ⟨g, 11, none⟩ = some (byte j3) ∧ w.cell? ⟨g, 12, none⟩ = some (byte j4) ∧ w.cell? ⟨g, 13, none⟩ = some (byte j5) ∧ w.cell? ⟨g, 14, none⟩ = some (byte j6) ∧ w.cell? ⟨g, 15, none⟩ = some (byte j7) :=
  ⟨h.cell 0 (by simp), h.cell 1 (by simp), h.cell 2 (by simp), h.cell 3 (by simp), h.cell 4 (by simp), h.cell 5 (by simp), h.cell 6 (by simp), h.cell 7 (by simp), h.cell 8 (by simp), h.cell 9 (by simp), h.cell 10 (by simp), h.cell 11 (by simp), h.cell 12 (by simp), h.cell 13 (by simp), h.cell 14 (by simp), h.cell 15 (by simp)⟩
theorem Blk.setRow_other {w : World} {g g' t : Nat} {l : List Value} {cs : Array Value} (h : Blk w g t l) (hne : ¬ g = g') : Blk (w.setRow g' cs) g t l := by
  unfold Blk; rw [_root_.Go.setRow_other w g' g _ hne]; exact h


/-- The first half laid, the second still zero. -/
def halfCells (k1 : List UInt8) (S : Nat) : List Value := cipherCells k1 S ++ zeroCipher
theorem halfCells_length (k1 : List UInt8) (S : Nat) : (halfCells k1 S).length = 34 := by unfold halfCells; rw [List.length_append, cipherCells_length, zeroCipher_length]
theorem fold_first {a : List Value} (ha : a.length = 17) : List.foldl (fun (cs : Array Value) (x : Value × Nat) => cs.setIfInBounds x.snd x.fst) #[Value.int IntKind.u64 0, Value.int IntKind.u64 0, Value.int IntKind.u64 0, Value.int IntKind.u64 0, Value.int IntKind.u64 0, Value.int IntKind.u64 0, Value.int IntKind.u64 0, Value.int IntKind.u64 0, Value.int IntKind.u64 0, Value.int IntKind.u64 0, Value.int IntKind.u64 0, Value.int IntKind.u64 0, Value.int IntKind.u64 0, Value.int IntKind.u64 0, Value.int IntKind.u64 0, Value.int IntKind.u64 0, Value.nilFunc, Value.int IntKind.u64 0, Value.int IntKind.u64 0, Value.int IntKind.u64 0, Value.int IntKind.u64 0, Value.int IntKind.u64 0, Value.int IntKind.u64 0, Value.int IntKind.u64 0, Value.int IntKind.u64 0, Value.int IntKind.u64 0, Value.int IntKind.u64 0, Value.int IntKind.u64 0, Value.int IntKind.u64 0, Value.int IntKind.u64 0, Value.int IntKind.u64 0, Value.int IntKind.u64 0, Value.int IntKind.u64 0, Value.nilFunc] a.zipIdx = (a ++ zeroCipher).toArray := by
  obtain ⟨a0, a1, a2, a3, a4, a5, a6, a7, a8, a9, a10, a11, a12, a13, a14, a15, a16, rfl⟩ := of17 ha
  kernel_rfl
theorem fold_second {a b : List Value} (ha : a.length = 17) (hb : b.length = 17) : List.foldl (fun (cs : Array Value) (x : Value × Nat) => cs.setIfInBounds (17 + x.snd) x.fst) (a ++ zeroCipher).toArray b.zipIdx = (a ++ b).toArray := by
  obtain ⟨a0, a1, a2, a3, a4, a5, a6, a7, a8, a9, a10, a11, a12, a13, a14, a15, a16, rfl⟩ := of17 ha
  obtain ⟨b0, b1, b2, b3, b4, b5, b6, b7, b8, b9, b10, b11, b12, b13, b14, b15, b16, rfl⟩ := of17 hb
  kernel_rfl
theorem fold_half (k1 : List UInt8) (S : Nat) : List.foldl (fun (cs : Array Value) (x : Value × Nat) => cs.setIfInBounds x.snd x.fst) #[Value.int IntKind.u64 0, Value.int IntKind.u64 0, Value.int IntKind.u64 0, Value.int IntKind.u64 0, Value.int IntKind.u64 0, Value.int IntKind.u64 0, Value.int IntKind.u64 0, Value.int IntKind.u64 0, Value.int IntKind.u64 0, Value.int IntKind.u64 0, Value.int IntKind.u64 0, Value.int IntKind.u64 0, Value.int IntKind.u64 0, Value.int IntKind.u64 0, Value.int IntKind.u64 0, Value.int IntKind.u64 0, Value.nilFunc, Value.int IntKind.u64 0, Value.int IntKind.u64 0, Value.int IntKind.u64 0, Value.int IntKind.u64 0, Value.int IntKind.u64 0, Value.int IntKind.u64 0, Value.int IntKind.u64 0, Value.int IntKind.u64 0, Value.int IntKind.u64 0, Value.int IntKind.u64 0, Value.int IntKind.u64 0, Value.int IntKind.u64 0, Value.int IntKind.u64 0, Value.int IntKind.u64 0, Value.int IntKind.u64 0, Value.int IntKind.u64 0, Value.nilFunc] (cipherCells k1 S).zipIdx = (halfCells k1 S).toArray := fold_first (cipherCells_length _ _)
theorem fold_tdea (k1 k2 : List UInt8) (S : Nat) : List.foldl (fun (cs : Array Value) (x : Value × Nat) => cs.setIfInBounds (17 + x.snd) x.fst) (halfCells k1 S).toArray (cipherCells k2 S).zipIdx = (tdeaCells k1 k2 S).toArray := fold_second (cipherCells_length _ _) (cipherCells_length _ _)
end Go.Proofs.YtjkofmomoljelaaGreatDoor

/-
  impl: newTdea.
-/
namespace Go.Proofs.YtjkofmomoljelaaGreatDoor
open Go.RowKit

set_option maxRecDepth 100000 in
set_option maxHeartbeats 2000000 in
theorem newTdea_lit (k0 k1 k2 k3 k4 k5 k6 k7 j0 j1 j2 j3 j4 j5 j6 j7 : UInt8) (w : World) :
    Calls Tryz.prog 108 #[.agg #[byte k0, byte k1, byte k2, byte k3, byte k4, byte k5, byte k6, byte k7, byte j0, byte j1, byte j2, byte j3, byte j4, byte j5, byte j6, byte j7]] w fun e w' =>
      ∃ S, e = .returned (.agg (tdeaCells [k0, k1, k2, k3, k4, k5, k6, k7] [j0, j1, j2, j3, j4, j5, j6, j7] S).toArray) ∧ w.heap.size ≤ S ∧ Blk w' S 228 mergedCells ∧ Below w.heap.size w w' := by
  have hz := (zero_of_info Tryz.zero186).1
  obtain ⟨W, hW⟩ : ∃ W, W = (w.alloc (.cells #[byte k0, byte k1, byte k2, byte k3, byte k4, byte k5, byte k6, byte k7, byte j0, byte j1, byte j2, byte j3, byte j4, byte j5, byte j6, byte j7] 54)).alloc (.cells zeroTdea.toArray 186) := ⟨_, rfl⟩
  have K0 : Blk W w.heap.size 54 ([k0, k1, k2, k3, k4, k5, k6, k7, j0, j1, j2, j3, j4, j5, j6, j7].map byte) := by rw [hW]; exact (Blk.new w _ _).alloc _
  have K1 : Blk W (w.heap.size + 1) 186 zeroTdea := by rw [hW]; exact Blk.new2 w _ _ _
  have bW : Below w.heap.size w W := by rw [hW]; exact ((Below.refl _ _).alloc (Nat.le_refl _) _).alloc (by simp) _
  have sW : W.heap.size = w.heap.size + 1 + 1 := by rw [hW]; simp
  subst hW
  have har := fun n c (wx : World) => run_arrayAt (P := Tryz.prog) (w := wx) 190 5 8 (some ⟨w.heap.size, n, none⟩) 8 c Tryz.underlying190 (Nat.le_refl _)
  go_enter Tryz.func108, Tryz.ntmps108
  go_wp2_with fail
  refine (newRound_any _).mono ?_
  rintro e w1 ⟨S, rfl, hS1, hS2, bel1⟩
  have A0 := K0.below bel1 K0.lt
  have A1 := K1.below bel1 K1.lt
  have b1 := bW.trans (bel1.mono bW.size)
  have hS0 : w.heap.size + 1 + 1 ≤ S := by omega
  have hA := cipherCells_length [k0, k1, k2, k3, k4, k5, k6, k7] S
  have hB := cipherCells_length [j0, j1, j2, j3, j4, j5, j6, j7] S
  have hf1 := fold_half [k0, k1, k2, k3, k4, k5, k6, k7] S
  have hf2 := fold_tdea [k0, k1, k2, k3, k4, k5, k6, k7] [j0, j1, j2, j3, j4, j5, j6, j7] S
  have hh := halfCells_length [k0, k1, k2, k3, k4, k5, k6, k7] S
  have lA := A0.lt
  have lA1 := A1.lt
  obtain ⟨c0, c1, c2, c3, c4, c5, c6, c7, c8, c9, c10, c11, c12, c13, c14, c15⟩ := sixteen A0
  have hne : ¬ w.heap.size = w.heap.size + 1 := (by omega)
  have htl := tdeaCells_length [k0, k1, k2, k3, k4, k5, k6, k7] [j0, j1, j2, j3, j4, j5, j6, j7] S
  clear K0 K1 bW sW bel1 hS1 hz
  go_wp2_with fail
  go_region_held3 (fun w' => w'.cell? ⟨w.heap.size, 0, none⟩ = some (byte k0) ∧ w'.cell? ⟨w.heap.size, 1, none⟩ = some (byte k1) ∧ w'.cell? ⟨w.heap.size, 2, none⟩ = some (byte k2) ∧ w'.cell? ⟨w.heap.size, 3, none⟩ = some (byte k3) ∧ w'.cell? ⟨w.heap.size, 4, none⟩ = some (byte k4) ∧ w'.cell? ⟨w.heap.size, 5, none⟩ = some (byte k5) ∧ w'.cell? ⟨w.heap.size, 6, none⟩ = some (byte k6) ∧ w'.cell? ⟨w.heap.size, 7, none⟩ = some (byte k7) ∧ w'.cell? ⟨w.heap.size, 8, none⟩ = some (byte j0) ∧ w'.cell? ⟨w.heap.size, 9, none⟩ = some (byte j1) ∧ w'.cell? ⟨w.heap.size, 10, none⟩ = some (byte j2) ∧ w'.cell? ⟨w.heap.size, 11, none⟩ = some (byte j3) ∧ w'.cell? ⟨w.heap.size, 12, none⟩ = some (byte j4) ∧ w'.cell? ⟨w.heap.size, 13, none⟩ = some (byte j5) ∧ w'.cell? ⟨w.heap.size, 14, none⟩ = some (byte j6) ∧ w'.cell? ⟨w.heap.size, 15, none⟩ = some (byte j7)) (first | exact sixteen C0 | exact sixteen B0 | exact sixteen (Blk.setRow_other C0 hne) | go_keep)
    (first
    | (go_at_call 140; refine (newDes_any [k0, k1, k2, k3, k4, k5, k6, k7] S _ rfl).mono ?_; rintro e w2 ⟨rfl, bel2⟩; have B0 : Blk w2 w.heap.size 54 ([k0, k1, k2, k3, k4, k5, k6, k7, j0, j1, j2, j3, j4, j5, j6, j7].map byte) := (by first | exact A0.below bel2 lA | exact (Blk.drew1 A0).below bel2 lA); have B1 : Blk w2 (w.heap.size + 1) 186 zeroTdea := (by first | exact A1.below bel2 lA1 | exact (Blk.drew1 A1).below bel2 lA1); have b2 : Below w.heap.size w w2 := (by first | exact b1.trans (bel2.mono b1.size) | exact b1.trans ((below_drew bel2).mono b1.size)); have B2 : Blk w2 S 228 mergedCells := (by first | exact hS2.below bel2 hS2.lt | exact (Blk.drew1 hS2).below bel2 hS2.lt); obtain ⟨p0, p1, p2, p3, p4, p5, p6, p7, p8, p9, p10, p11, p12, p13, p14, p15⟩ := sixteen B0)
    | (go_at_call 140; refine (newDes_any [j0, j1, j2, j3, j4, j5, j6, j7] S _ rfl).mono ?_; rintro e w3 ⟨rfl, bel3⟩; have C0 : Blk w3 w.heap.size 54 ([k0, k1, k2, k3, k4, k5, k6, k7, j0, j1, j2, j3, j4, j5, j6, j7].map byte) := B0.below bel3 B0.lt; have C1 : Blk w3 (w.heap.size + 1) 186 zeroTdea := B1.below bel3 B1.lt; have b3 : Below w.heap.size w w3 := b2.trans (bel3.mono b2.size); have C2 : Blk w3 S 228 mergedCells := B2.below bel3 B2.lt; obtain ⟨q0, q1, q2, q3, q4, q5, q6, q7, q8, q9, q10, q11, q12, q13, q14, q15⟩ := sixteen C0; have hst := store_tdea [k0, k1, k2, k3, k4, k5, k6, k7] [j0, j1, j2, j3, j4, j5, j6, j7] S C1))
  all_goals
    go_wp2_with fail
    exact bodyPost_ret (v := .agg (tdeaCells [k0, k1, k2, k3, k4, k5, k6, k7] [j0, j1, j2, j3, j4, j5, j6, j7] S).toArray) (results_blk Tryz.results108 _ _ rfl (Blk.setRow C1 _) Tryz.underlying186 rfl (by rw [tdeaCells_length]; kernel_rfl)) rfl ⟨S, rfl, by omega, Blk.setRow_other C2 (by omega), below_setRow' b3 (by omega) _⟩

theorem newTdea_any (key : List UInt8) (w : World) (h : key.length = 16) :
    Calls Tryz.prog 108 #[.agg (key.map byte).toArray] w fun e w' =>
      ∃ S, e = .returned (.agg (tdeaCells (key.take 8) (key.drop 8) S).toArray) ∧ w.heap.size ≤ S ∧ Blk w' S 228 mergedCells ∧ Below w.heap.size w w' := by
  match key, h with
  | [k0, k1, k2, k3, k4, k5, k6, k7, j0, j1, j2, j3, j4, j5, j6, j7], _ => exact newTdea_lit k0 k1 k2 k3 k4 k5 k6 k7 j0 j1 j2 j3 j4 j5 j6 j7 w
end Go.Proofs.YtjkofmomoljelaaGreatDoor
