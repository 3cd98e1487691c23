import Derived.Test.YtjkofmomoljelaaGreatDoorSfG
import Derived.Test.YtjkofmomoljelaaGreatDoorSfT
namespace Go.Proofs.YtjkofmomoljelaaGreatDoor
theorem tXN_xor (a b : Nat) (ha : a < 256) (hb : b < 256) : tXN (a ^^^ b) = tXN a ^^^ tXN b := by
  have e1 : ∀ n : Nat, n * 2 % 256 = (n <<< 1) &&& 255 := fun n => by
    rw [Nat.shiftLeft_eq, show (255 : Nat) = 2 ^ 8 - 1 from rfl, Nat.and_two_pow_sub_one_eq_mod]
  have e2 : ∀ n : Nat, n / 128 = n >>> 7 := fun n => by rw [Nat.shiftRight_eq_div_pow]
  have h1 : (a ^^^ b) / 128 = a / 128 ^^^ b / 128 := by rw [e2, e2, e2, Nat.shiftRight_xor_distrib]
  have h2 : (a ^^^ b) * 2 % 256 = (a * 2 % 256) ^^^ (b * 2 % 256) := by rw [e1, e1, e1, Nat.shiftLeft_xor_distrib, Nat.and_xor_distrib_right]
  unfold tXN
  rw [h1, h2]
  have ca : a / 128 = 0 ∨ a / 128 = 1 := by omega
  have cb : b / 128 = 0 ∨ b / 128 = 1 := by omega
  rcases ca with h | h <;> rcases cb with h' | h' <;> rw [h, h']
  · simp
  · simp [Nat.xor_assoc]
  · simp only [Nat.xor_zero, Nat.one_mul, Nat.zero_mul]; ac_rfl
  · simp only [Nat.xor_self, Nat.one_mul, Nat.zero_mul, Nat.xor_zero]
    rw [show a * 2 % 256 ^^^ 27 ^^^ (b * 2 % 256 ^^^ 27) = a * 2 % 256 ^^^ b * 2 % 256 ^^^ (27 ^^^ 27) from by ac_rfl, Nat.xor_self, Nat.xor_zero]
theorem tXB_xor (a b : UInt8) : tXB (a ^^^ b) = tXB a ^^^ tXB b := by
  apply UInt8.toNat.inj
  rw [UInt8.toNat_xor, tXB_nat, tXB_nat, tXB_nat, UInt8.toNat_xor]
  exact tXN_xor _ _ a.toNat_lt b.toNat_lt
theorem mulN_all : ∀ n : Nat, n < 256 → mulN n 1 = n ∧ mulN n 2 = tXN n ∧ mulN n 3 = tXN n ^^^ n ∧ mulN n 9 = tXN (tXN (tXN n)) ^^^ n ∧ mulN n 11 = tXN (tXN (tXN n)) ^^^ tXN n ^^^ n ∧ mulN n 13 = tXN (tXN (tXN n)) ^^^ tXN (tXN n) ^^^ n ∧ mulN n 14 = tXN (tXN (tXN n)) ^^^ tXN (tXN n) ^^^ tXN n := by decide +kernel
theorem mul1 (x : UInt8) : mulB x 1 = x := UInt8.toNat.inj (by rw [mulB_nat]; exact (mulN_all _ x.toNat_lt).1)
theorem mul2 (x : UInt8) : mulB x 2 = tXB x := UInt8.toNat.inj (by rw [mulB_nat, tXB_nat]; exact (mulN_all _ x.toNat_lt).2.1)
theorem mul3 (x : UInt8) : mulB x 3 = tXB x ^^^ x := UInt8.toNat.inj (by rw [mulB_nat, UInt8.toNat_xor, tXB_nat]; exact (mulN_all _ x.toNat_lt).2.2.1)
theorem mul9 (x : UInt8) : mulB x 9 = tXB (tXB (tXB x)) ^^^ x := UInt8.toNat.inj (by rw [mulB_nat, UInt8.toNat_xor, tXB_nat, tXB_nat, tXB_nat]; exact (mulN_all _ x.toNat_lt).2.2.2.1)
theorem mul11 (x : UInt8) : mulB x 11 = tXB (tXB (tXB x)) ^^^ tXB x ^^^ x := UInt8.toNat.inj (by rw [mulB_nat, UInt8.toNat_xor, UInt8.toNat_xor, tXB_nat, tXB_nat, tXB_nat]; exact (mulN_all _ x.toNat_lt).2.2.2.2.1)
theorem mul13 (x : UInt8) : mulB x 13 = tXB (tXB (tXB x)) ^^^ tXB (tXB x) ^^^ x := UInt8.toNat.inj (by rw [mulB_nat, UInt8.toNat_xor, UInt8.toNat_xor, tXB_nat, tXB_nat, tXB_nat]; exact (mulN_all _ x.toNat_lt).2.2.2.2.2.1)
theorem mul14 (x : UInt8) : mulB x 14 = tXB (tXB (tXB x)) ^^^ tXB (tXB x) ^^^ tXB x := UInt8.toNat.inj (by rw [mulB_nat, UInt8.toNat_xor, UInt8.toNat_xor, tXB_nat, tXB_nat, tXB_nat]; exact (mulN_all _ x.toNat_lt).2.2.2.2.2.2)
/-- A column mixed, its four bytes. -/
def colE (a b c d : UInt8) : UInt8 := mulB a 2 ^^^ mulB b 3 ^^^ mulB c 1 ^^^ mulB d 1
def colD (a b c d : UInt8) : UInt8 := mulB a 14 ^^^ mulB b 11 ^^^ mulB c 13 ^^^ mulB d 9
theorem xor_back (a b : UInt8) : a ^^^ (a ^^^ b) = b := by rw [← UInt8.xor_assoc, UInt8.xor_self, UInt8.zero_xor]
theorem xor_lc (a b c : UInt8) : a ^^^ (b ^^^ c) = b ^^^ (a ^^^ c) := by rw [← UInt8.xor_assoc, UInt8.xor_comm a b, UInt8.xor_assoc]
set_option maxHeartbeats 4000000 in
theorem col_DE (a b c d : UInt8) : colD (colE a b c d) (colE b c d a) (colE c d a b) (colE d a b c) = a := by
  simp only [colE, colD, mul1, mul2, mul3, mul9, mul11, mul13, mul14, tXB_xor]
  generalize tXB (tXB (tXB (tXB a))) = a4; generalize tXB (tXB (tXB (tXB b))) = b4; generalize tXB (tXB (tXB (tXB c))) = c4; generalize tXB (tXB (tXB (tXB d))) = d4
  generalize tXB (tXB (tXB a)) = a3; generalize tXB (tXB (tXB b)) = b3; generalize tXB (tXB (tXB c)) = c3; generalize tXB (tXB (tXB d)) = d3
  generalize tXB (tXB a) = a2; generalize tXB (tXB b) = b2; generalize tXB (tXB c) = c2; generalize tXB (tXB d) = d2
  generalize tXB a = a1; generalize tXB b = b1; generalize tXB c = c1; generalize tXB d = d1
  simp only [UInt8.xor_comm, xor_lc, UInt8.xor_self, UInt8.xor_zero, xor_back]
theorem sumE0 (s : List UInt8) (c : Nat) : mulSum rowE s c 0 4 = colE (s.getD (4 * c + 0) 0) (s.getD (4 * c + 1) 0) (s.getD (4 * c + 2) 0) (s.getD (4 * c + 3) 0) := by
  show 0 ^^^ mulB (s.getD (4 * c + 0) 0) 2 ^^^ mulB (s.getD (4 * c + 1) 0) 3 ^^^ mulB (s.getD (4 * c + 2) 0) 1 ^^^ mulB (s.getD (4 * c + 3) 0) 1 = _
  rw [UInt8.zero_xor]
  unfold colE
  ac_rfl
theorem sumE1 (s : List UInt8) (c : Nat) : mulSum rowE s c 1 4 = colE (s.getD (4 * c + 1) 0) (s.getD (4 * c + 2) 0) (s.getD (4 * c + 3) 0) (s.getD (4 * c + 0) 0) := by
  show 0 ^^^ mulB (s.getD (4 * c + 0) 0) 1 ^^^ mulB (s.getD (4 * c + 1) 0) 2 ^^^ mulB (s.getD (4 * c + 2) 0) 3 ^^^ mulB (s.getD (4 * c + 3) 0) 1 = _
  rw [UInt8.zero_xor]
  unfold colE
  ac_rfl
theorem sumE2 (s : List UInt8) (c : Nat) : mulSum rowE s c 2 4 = colE (s.getD (4 * c + 2) 0) (s.getD (4 * c + 3) 0) (s.getD (4 * c + 0) 0) (s.getD (4 * c + 1) 0) := by
  show 0 ^^^ mulB (s.getD (4 * c + 0) 0) 1 ^^^ mulB (s.getD (4 * c + 1) 0) 1 ^^^ mulB (s.getD (4 * c + 2) 0) 2 ^^^ mulB (s.getD (4 * c + 3) 0) 3 = _
  rw [UInt8.zero_xor]
  unfold colE
  ac_rfl
theorem sumE3 (s : List UInt8) (c : Nat) : mulSum rowE s c 3 4 = colE (s.getD (4 * c + 3) 0) (s.getD (4 * c + 0) 0) (s.getD (4 * c + 1) 0) (s.getD (4 * c + 2) 0) := by
  show 0 ^^^ mulB (s.getD (4 * c + 0) 0) 3 ^^^ mulB (s.getD (4 * c + 1) 0) 1 ^^^ mulB (s.getD (4 * c + 2) 0) 1 ^^^ mulB (s.getD (4 * c + 3) 0) 2 = _
  rw [UInt8.zero_xor]
  unfold colE
  ac_rfl
theorem sumD0 (s : List UInt8) (c : Nat) : mulSum rowD s c 0 4 = colD (s.getD (4 * c + 0) 0) (s.getD (4 * c + 1) 0) (s.getD (4 * c + 2) 0) (s.getD (4 * c + 3) 0) := by
  show 0 ^^^ mulB (s.getD (4 * c + 0) 0) 14 ^^^ mulB (s.getD (4 * c + 1) 0) 11 ^^^ mulB (s.getD (4 * c + 2) 0) 13 ^^^ mulB (s.getD (4 * c + 3) 0) 9 = _
  rw [UInt8.zero_xor]
  unfold colD
  ac_rfl
theorem sumD1 (s : List UInt8) (c : Nat) : mulSum rowD s c 1 4 = colD (s.getD (4 * c + 1) 0) (s.getD (4 * c + 2) 0) (s.getD (4 * c + 3) 0) (s.getD (4 * c + 0) 0) := by
  show 0 ^^^ mulB (s.getD (4 * c + 0) 0) 9 ^^^ mulB (s.getD (4 * c + 1) 0) 14 ^^^ mulB (s.getD (4 * c + 2) 0) 11 ^^^ mulB (s.getD (4 * c + 3) 0) 13 = _
  rw [UInt8.zero_xor]
  unfold colD
  ac_rfl
theorem sumD2 (s : List UInt8) (c : Nat) : mulSum rowD s c 2 4 = colD (s.getD (4 * c + 2) 0) (s.getD (4 * c + 3) 0) (s.getD (4 * c + 0) 0) (s.getD (4 * c + 1) 0) := by
  show 0 ^^^ mulB (s.getD (4 * c + 0) 0) 13 ^^^ mulB (s.getD (4 * c + 1) 0) 9 ^^^ mulB (s.getD (4 * c + 2) 0) 14 ^^^ mulB (s.getD (4 * c + 3) 0) 11 = _
  rw [UInt8.zero_xor]
  unfold colD
  ac_rfl
theorem sumD3 (s : List UInt8) (c : Nat) : mulSum rowD s c 3 4 = colD (s.getD (4 * c + 3) 0) (s.getD (4 * c + 0) 0) (s.getD (4 * c + 1) 0) (s.getD (4 * c + 2) 0) := by
  show 0 ^^^ mulB (s.getD (4 * c + 0) 0) 11 ^^^ mulB (s.getD (4 * c + 1) 0) 13 ^^^ mulB (s.getD (4 * c + 2) 0) 9 ^^^ mulB (s.getD (4 * c + 3) 0) 14 = _
  rw [UInt8.zero_xor]
  unfold colD
  ac_rfl
theorem mixS_lit (row s : List UInt8) : mixS row s = [mulSum row s 0 0 4, mulSum row s 0 1 4, mulSum row s 0 2 4, mulSum row s 0 3 4, mulSum row s 1 0 4, mulSum row s 1 1 4, mulSum row s 1 2 4, mulSum row s 1 3 4, mulSum row s 2 0 4, mulSum row s 2 1 4, mulSum row s 2 2 4, mulSum row s 2 3 4, mulSum row s 3 0 4, mulSum row s 3 1 4, mulSum row s 3 2 4, mulSum row s 3 3 4] := rfl
theorem mixE_lit (a0 a1 a2 a3 a4 a5 a6 a7 a8 a9 a10 a11 a12 a13 a14 a15 : UInt8) : mixS rowE [a0, a1, a2, a3, a4, a5, a6, a7, a8, a9, a10, a11, a12, a13, a14, a15] = [colE a0 a1 a2 a3, colE a1 a2 a3 a0, colE a2 a3 a0 a1, colE a3 a0 a1 a2, colE a4 a5 a6 a7, colE a5 a6 a7 a4, colE a6 a7 a4 a5, colE a7 a4 a5 a6, colE a8 a9 a10 a11, colE a9 a10 a11 a8, colE a10 a11 a8 a9, colE a11 a8 a9 a10, colE a12 a13 a14 a15, colE a13 a14 a15 a12, colE a14 a15 a12 a13, colE a15 a12 a13 a14] := by
  rw [mixS_lit]
  simp only [sumE0, sumE1, sumE2, sumE3]
  rfl
theorem mixD_lit (a0 a1 a2 a3 a4 a5 a6 a7 a8 a9 a10 a11 a12 a13 a14 a15 : UInt8) : mixS rowD [a0, a1, a2, a3, a4, a5, a6, a7, a8, a9, a10, a11, a12, a13, a14, a15] = [colD a0 a1 a2 a3, colD a1 a2 a3 a0, colD a2 a3 a0 a1, colD a3 a0 a1 a2, colD a4 a5 a6 a7, colD a5 a6 a7 a4, colD a6 a7 a4 a5, colD a7 a4 a5 a6, colD a8 a9 a10 a11, colD a9 a10 a11 a8, colD a10 a11 a8 a9, colD a11 a8 a9 a10, colD a12 a13 a14 a15, colD a13 a14 a15 a12, colD a14 a15 a12 a13, colD a15 a12 a13 a14] := by
  rw [mixS_lit]
  simp only [sumD0, sumD1, sumD2, sumD3]
  rfl
theorem mix_DE (s : List UInt8) (hs : s.length = 16) : mixS rowD (mixS rowE s) = s := by
  obtain ⟨a0, a1, a2, a3, a4, a5, a6, a7, a8, a9, a10, a11, a12, a13, a14, a15, rfl⟩ := sixteenL s hs
  rw [mixE_lit, mixD_lit]
  simp only [col_DE]
theorem turn_31 (s : List UInt8) (hs : s.length = 16) : turnL 3 (turnL 1 s) = s := by
  obtain ⟨a0, a1, a2, a3, a4, a5, a6, a7, a8, a9, a10, a11, a12, a13, a14, a15, rfl⟩ := sixteenL s hs
  rfl
theorem unsub_sub (b : UInt8) : unsubB (subB b) = b := UInt8.toNat.inj (inv_sub b.toNat b.toNat_lt)
theorem map_unsub_sub (s : List UInt8) : (s.map subB).map unsubB = s := by
  rw [List.map_map]
  have : (unsubB ∘ subB) = id := funext unsub_sub
  rw [this, List.map_id]
theorem xorL_twice (a b : List UInt8) (h : a.length = b.length) : xorL (xorL a b) b = a := by
  apply List.ext_getElem
  · rw [xorL_length _ _ (by rw [xorL_length _ _ h]; exact h), xorL_length _ _ h]
  · intro i h1 h2
    have hb : i < b.length := by omega
    rw [xorL_get (xorL a b) b i (by rw [xorL_length _ _ h]; exact h2) hb, xorL_get a b i h2 hb, UInt8.xor_assoc, UInt8.xor_self, UInt8.xor_zero]
theorem dec_at (K : Nat → List UInt8) (b : List UInt8) (hb : b.length = 16) (hK : ∀ r, (K r).length = 16) (k : Nat) (hk : k ≤ 9) : decGo K (encL K b) k = encGo K b (9 - k) := by
  have hl := encGo_length K b hb hK
  induction k with
  | zero =>
    show (turnL 3 (xorL (encL K b) (K 10))).map unsubB = _
    rw [encL_step K b hb hK, xorL_twice _ _ (by rw [turnL_length, hK]), turn_31 _ (by rw [List.length_map, hl]), map_unsub_sub]
  | succ k ih =>
    rw [decGo_step K _ hK, ih (by omega), show 9 - k = (8 - k) + 1 from by omega, encGo_step K b hb hK, xorL_twice _ _ (by rw [mixS_length, hK]), mix_DE _ (turnL_length _ _), turn_31 _ (by rw [List.length_map, hl]), map_unsub_sub, show 9 - (k + 1) = 8 - k from by omega]
theorem aes_dec_enc (K : Nat → List UInt8) (b : List UInt8) (hb : b.length = 16) (hK : ∀ r, (K r).length = 16) : decL K (encL K b) = b := by
  show xorL (decGo K (encL K b) 9) (K 0) = b
  rw [dec_at K b hb hK 9 (Nat.le_refl _)]
  show xorL (xorL b (K 0)) (K 0) = b
  exact xorL_twice _ _ (by rw [hb, hK])
end Go.Proofs.YtjkofmomoljelaaGreatDoor
namespace Go.Proofs.YtjkofmomoljelaaGreatDoor
open Go.RowKit
theorem wrap_open (master key : List UInt8) (u gen : Nat) (hm : master.length = 16) (hk : key.length = 16) (hu1 : 1 ≤ u) (hu3 : u ≤ 3) (hg : gen ≤ 255) :
    formOK master (wrapN master key u gen) = true ∧ tagOK master (wrapN master key u gen) = true ∧ uOf (wrapN master key u gen) = u ∧ gOf (wrapN master key u gen) = gen ∧ unkeyN master (wrapN master key u gen) = key := by
  obtain ⟨B, hB⟩ : ∃ B, B = wrapN master key u gen := ⟨_, rfl⟩
  have hl : B.length = 36 := by rw [hB]; exact wrapN_length _ _ _ _ hm
  have hTl : (tagN master key u gen).length = 16 := cmacN_length _ _ (cmacN_length master [77] hm)
  have hE : (sealK master).length = 16 := cmacN_length master [69] hm
  obtain ⟨T, hT⟩ : ∃ T, T = tagN master key u gen := ⟨_, rfl⟩
  have hB2 : B = 75 :: UInt8.ofNat u :: UInt8.ofNat gen :: 16 :: (T ++ aesN (sealK master) (xorL key T) false) := by
    rw [hB, hT]
    unfold wrapN headL
    simp
  rw [← hT] at hTl
  have hXl : (xorL key T).length = 16 := by rw [xorL_length _ _ (by omega), hk]
  have hu : uOf B = u := by
    rw [hB2]
    show (UInt8.ofNat u).toNat = u
    rw [UInt8.toNat_ofNat']
    omega
  have hgn : gOf B = gen := by
    rw [hB2]
    show (UInt8.ofNat gen).toNat = gen
    rw [UInt8.toNat_ofNat']
    omega
  have hkey : unkeyN master B = key := by
    have e1 : (B.drop 4).take 16 = T := by
      rw [hB2]
      show (T ++ aesN (sealK master) (xorL key T) false).take 16 = T
      rw [← hTl]
      exact List.take_left
    have e2 : B.drop 20 = aesN (sealK master) (xorL key T) false := by
      rw [hB2]
      show (T ++ aesN (sealK master) (xorL key T) false).drop 16 = _
      rw [← hTl]
      exact List.drop_left
    have e3 : aesN (sealK master) (aesN (sealK master) (xorL key T) false) true = xorL key T := aes_dec_enc (keyR (sealK master)) (xorL key T) hXl (fun r => keyR_length _ hE r)
    unfold unkeyN
    rw [e1, e2, e3]
    exact xorL_twice _ _ (by omega)
  rw [← hB]
  refine ⟨?_, ?_, hu, hgn, hkey⟩
  · have hh : headOK B = true := by
      unfold headOK
      rw [hu, hB2]
      simp
      omega
    unfold formOK
    rw [hh, decide_eq_true hm, decide_eq_true hl]
    rfl
  · unfold tagOK
    rw [hkey, hu, hgn, ← hB]
    exact decide_eq_true rfl
theorem open_vals {master block : List UInt8} (h1 : formOK master block = true) (h2 : tagOK master block = true) : opCode master block = 0 ∧ opU master block = (uOf block : Nat) ∧ opG master block = (gOf block : Nat) ∧ opKey master block = unkeyN master block := by
  unfold opCode opU opG opKey okO
  rw [h1, h2]
  exact ⟨rfl, rfl, rfl, rfl⟩
end Go.Proofs.YtjkofmomoljelaaGreatDoor
