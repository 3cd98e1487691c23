/-
  Bits as lists against bits as numbers: Des of both sides is one.
-/
import Derived.Test.YthjnalbgnjbdnaaSpecDes
namespace Go.Proofs.Ythjnalbgnjbdnaa

theorem valN_fold (l : List UInt8) (t : Nat) : l.foldl (fun t b => 2 * t + b.toNat) t = t * 2 ^ l.length + valN l := by
  induction l generalizing t with
  | nil => simp [valN]
  | cons c l ih =>
    have h1 := ih (2 * t + c.toNat)
    have h2 := ih (2 * 0 + c.toNat)
    simp only [List.foldl_cons, List.length_cons, valN] at *
    rw [h1, h2, Nat.pow_succ, Nat.add_mul, Nat.add_mul, Nat.mul_comm 2 t, Nat.mul_assoc t 2, Nat.mul_comm 2 (2 ^ l.length)]
    omega
theorem valN_append (a b : List UInt8) : valN (a ++ b) = valN a * 2 ^ b.length + valN b := by
  unfold valN
  rw [List.foldl_append, valN_fold]
  rfl
theorem valN_bits8 : ∀ x : Nat, x < 256 → valN (bits8 (UInt8.ofNat x)) = x := by decide +kernel
theorem valN_byte (x : UInt8) : valN (bits8 x) = x.toNat := by
  have := valN_bits8 x.toNat x.toNat_lt
  rwa [UInt8.ofNat_toNat] at this
theorem word_bits (bs : List UInt8) : wordN bs = valN (bitsL bs) := by
  unfold wordN
  have : ∀ t, bs.foldl (fun t b => 256 * t + b.toNat) t = t * 2 ^ (bitsL bs).length + valN (bitsL bs) := by
    induction bs with
    | nil => intro t; simp [bitsL, valN]
    | cons c bs ih =>
      intro t
      rw [List.foldl_cons, ih]
      have e : bitsL (c :: bs) = bits8 c ++ bitsL bs := by simp [bitsL]
      rw [e, valN_append, List.length_append, bits8_length, valN_byte, Nat.pow_add, Nat.add_mul]
      rw [show (2 : Nat) ^ 8 = 256 from rfl, ← Nat.mul_assoc, Nat.mul_comm t 256]
      omega
  have h := this 0
  simpa using h

theorem bits_drop {l : List UInt8} (h : isBits l) (n : Nat) : isBits (l.drop n) := fun b hb => h b (List.mem_of_mem_drop hb)
theorem bits_take {l : List UInt8} (h : isBits l) (n : Nat) : isBits (l.take n) := fun b hb => h b (List.mem_of_mem_take hb)

/-- The numbers of a row's beginning and end. -/
theorem valN_split (l : List UInt8) (h : isBits l) (n : Nat) : valN l / 2 ^ (l.length - n) = valN (l.take n) ∧ valN l % 2 ^ (l.length - n) = valN (l.drop n) := by
  have e : valN l = valN (l.take n) * 2 ^ (l.length - n) + valN (l.drop n) := by
    have := valN_append (l.take n) (l.drop n)
    rw [List.take_append_drop, List.length_drop] at this
    exact this
  have hlt : valN (l.drop n) < 2 ^ (l.length - n) := by
    have := valN_lt _ (bits_drop h n)
    rwa [List.length_drop] at this
  have hp : 0 < 2 ^ (l.length - n) := Nat.pow_pos (by omega)
  rw [e]
  exact ⟨by rw [Nat.mul_comm, Nat.mul_add_div hp, Nat.div_eq_of_lt hlt, Nat.add_zero], by rw [Nat.mul_comm, Nat.mul_add_mod, Nat.mod_eq_of_lt hlt]⟩

theorem valN_bit (l : List UInt8) (h : isBits l) (n : Nat) (h1 : 1 ≤ n) (hn : n ≤ l.length) : valN l / 2 ^ (l.length - n) % 2 = (l.getD (n - 1) 0).toNat := by
  rw [(valN_split l h n).1]
  obtain ⟨m, rfl⟩ : ∃ m, n = m + 1 := ⟨n - 1, by omega⟩
  rw [take_snoc l m (by omega), valN_snoc]
  have hb := h l[m] (List.getElem_mem (by omega))
  have e : l.getD (m + 1 - 1) 0 = l[m] := by simp [show m < l.length by omega]
  rw [e]
  omega

theorem take_pick (l : List UInt8) (h : isBits l) (tab : List UInt8) (ht : ∀ t ∈ tab, 1 ≤ t.toNat ∧ t.toNat ≤ l.length) : takeN (valN l) l.length tab = valN (pickL l (ints tab)) := by
  unfold takeN valN pickL ints
  rw [List.map_map, List.foldl_map]
  have : ∀ t, tab.foldl (fun t n => 2 * t + valN l / 2 ^ (l.length - n.toNat) % 2) t = tab.foldl (fun t n => 2 * t + (l.getD (n.toNat - 1) 0).toNat) t := by
    induction tab with
    | nil => intro t; rfl
    | cons c tab ih =>
      intro t
      have hc := ht c (by simp)
      rw [List.foldl_cons, List.foldl_cons, valN_bit l h c.toNat hc.1 hc.2]
      exact ih (fun t h => ht t (by simp [h])) _
  exact this 0

theorem xor_bit (s t x y : Nat) (hx : x ≤ 1) (hy : y ≤ 1) : (2 * s + x) ^^^ (2 * t + y) = 2 * (s ^^^ t) + (x ^^^ y) := by
  have h1 : ((2 * s + x) ^^^ (2 * t + y)) / 2 = s ^^^ t := by
    rw [Nat.xor_div_two, show (2 * s + x) / 2 = s from by omega, show (2 * t + y) / 2 = t from by omega]
  have h2 : ((2 * s + x) ^^^ (2 * t + y)) % 2 = x ^^^ y := by
    have := Nat.xor_mod_two_pow (a := 2 * s + x) (b := 2 * t + y) (n := 1)
    rw [show (2 : Nat) ^ 1 = 2 from rfl, show (2 * s + x) % 2 = x from by omega, show (2 * t + y) % 2 = y from by omega] at this
    exact this
  omega
theorem or_bit (s t x y : Nat) (hx : x ≤ 1) (hy : y ≤ 1) : (2 * s + x) ||| (2 * t + y) = 2 * (s ||| t) + (x ||| y) := by
  have h1 : ((2 * s + x) ||| (2 * t + y)) / 2 = s ||| t := by
    rw [Nat.or_div_two, show (2 * s + x) / 2 = s from by omega, show (2 * t + y) / 2 = t from by omega]
  have h2 : ((2 * s + x) ||| (2 * t + y)) % 2 = x ||| y := by
    have := Nat.or_mod_two_pow (a := 2 * s + x) (b := 2 * t + y) (n := 1)
    rw [show (2 : Nat) ^ 1 = 2 from rfl, show (2 * s + x) % 2 = x from by omega, show (2 * t + y) % 2 = y from by omega] at this
    exact this
  omega

theorem valN_xor (a b : List UInt8) (h : a.length = b.length) (ha : isBits a) (hb : isBits b) : valN (xorL a b) = valN a ^^^ valN b := by
  have : ∀ (a b : List UInt8), a.length = b.length → isBits a → isBits b → ∀ s t, (xorL a b).foldl (fun t b => 2 * t + b.toNat) (s ^^^ t) = a.foldl (fun t b => 2 * t + b.toNat) s ^^^ b.foldl (fun t b => 2 * t + b.toNat) t := by
    intro a
    induction a with
    | nil =>
      intro b hl _ _ s t
      cases b with
      | nil => rfl
      | cons c b => simp at hl
    | cons x a ih =>
      intro b hl ha hb s t
      cases b with
      | nil => simp at hl
      | cons y b =>
        have hx := ha x (by simp)
        have hy := hb y (by simp)
        have e : xorL (x :: a) (y :: b) = (x ^^^ y) :: xorL a b := rfl
        rw [e, List.foldl_cons, List.foldl_cons, List.foldl_cons, UInt8.toNat_xor, ← xor_bit s t _ _ hx hy]
        exact ih b (by simpa using hl) (fun z hz => ha z (by simp [hz])) (fun z hz => hb z (by simp [hz])) _ _
  simpa [valN] using this a b h ha hb 0 0

theorem or_shift (a b s : Nat) : (a ||| b) / 2 ^ s % 2 = a / 2 ^ s % 2 ||| b / 2 ^ s % 2 := by
  have h := Nat.or_div_two_pow (a := a) (b := b) (n := s)
  rw [h]
  have := Nat.or_mod_two_pow (a := a / 2 ^ s) (b := b / 2 ^ s) (n := 1)
  simpa using this
theorem take_or (a b width : Nat) (tab : List UInt8) : takeN (a ||| b) width tab = takeN a width tab ||| takeN b width tab := by
  unfold takeN
  have : ∀ (tab : List UInt8) (s t : Nat), tab.foldl (fun t n => 2 * t + (a ||| b) / 2 ^ (width - n.toNat) % 2) (s ||| t) = tab.foldl (fun t n => 2 * t + a / 2 ^ (width - n.toNat) % 2) s ||| tab.foldl (fun t n => 2 * t + b / 2 ^ (width - n.toNat) % 2) t := by
    intro tab
    induction tab with
    | nil => intro s t; rfl
    | cons c tab ih =>
      intro s t
      rw [List.foldl_cons, List.foldl_cons, List.foldl_cons, or_shift, ← or_bit s t _ _ (by omega) (by omega)]
      exact ih _ _
  simpa using this tab 0 0

/-! The keys. -/
theorem turn_rot (l : List UInt8) (hl : l.length = 28) (hb : isBits l) (t : Nat) (h1 : 1 ≤ t) (h2 : t ≤ 2) : turnN (valN l) t = valN (rotL l t) := by
  unfold turnN rotL
  obtain ⟨e1, e2⟩ := valN_split l hb t
  rw [hl] at e1 e2
  rw [valN_append, List.length_take, hl, Nat.min_eq_left (by omega), ← e1, ← e2]
  have ht : t = 1 ∨ t = 2 := by omega
  rcases ht with rfl | rfl
  · show valN l * 2 % 268435456 + valN l / 134217728 = valN l % 134217728 * 2 + valN l / 134217728
    omega
  · show valN l * 4 % 268435456 + valN l / 67108864 = valN l % 67108864 * 4 + valN l / 67108864
    omega
theorem half_eq (l : List UInt8) (hl : l.length = 28) (hb : isBits l) (k : Nat) (hk : k ≤ 16) : halfN (valN l) k = valN (halfS l k) := by
  induction k with
  | zero => rfl
  | succ k ih =>
    have ht := turns_in k (by omega)
    show turnN (halfN (valN l) k) (turnsTab.getD k 0) = valN (rotL (halfS l k) (turnsTab.getD k 0))
    rw [ih (by omega)]
    exact turn_rot _ (halfS_length l hl k (by omega)) (halfS_bits hb k) _ ht.1 ht.2
theorem both_eq (key : List UInt8) (h8 : key.length = 8) : bothN key = valN (cdS key) := by
  unfold bothN cdS
  rw [word_bits]
  have hl : (bitsL key).length = 64 := by rw [bitsL_length, h8]
  have := take_pick (bitsL key) (bitsL_bits key) pc1Tab (by rw [hl]; exact pc1_in)
  rw [hl] at this
  exact this
theorem key_eq (key : List UInt8) (h8 : key.length = 8) (k : Nat) (hk : k < 16) : keyN key k = valN (keyS key k) := by
  unfold keyN keyS
  have hb := cdS_bits key
  obtain ⟨e1, e2⟩ := valN_split (cdS key) hb 28
  rw [cdS_length] at e1 e2
  have e1' : valN (cdS key) / 268435456 = valN ((cdS key).take 28) := e1
  have e2' : valN (cdS key) % 268435456 = valN ((cdS key).drop 28) := e2
  have l1 : ((cdS key).take 28).length = 28 := by rw [List.length_take, cdS_length]; rfl
  have l2 : ((cdS key).drop 28).length = 28 := by rw [List.length_drop, cdS_length]
  rw [both_eq key h8, e1', e2', half_eq _ l1 (bits_take hb 28) _ (by omega), half_eq _ l2 (bits_drop hb 28) _ (by omega)]
  have m1 := halfS_length _ l1 (k + 1) (by omega)
  have m2 := halfS_length _ l2 (k + 1) (by omega)
  have hl : (halfS ((cdS key).take 28) (k + 1) ++ halfS ((cdS key).drop 28) (k + 1)).length = 56 := by rw [List.length_append, m1, m2]
  have ha := valN_append (halfS ((cdS key).take 28) (k + 1)) (halfS ((cdS key).drop 28) (k + 1))
  rw [m2] at ha
  have hp := take_pick _ (app_bits (halfS_bits (bits_take hb 28) (k + 1)) (halfS_bits (bits_drop hb 28) (k + 1))) pc2Tab (by rw [hl]; exact pc2_in)
  rw [hl, ha] at hp
  exact hp
end Go.Proofs.Ythjnalbgnjbdnaa
