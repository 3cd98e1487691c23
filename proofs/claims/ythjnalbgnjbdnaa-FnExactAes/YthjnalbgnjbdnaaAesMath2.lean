/-
  The key's words, and the rounds as the model says them.
-/
import Derived.Test.YthjnalbgnjbdnaaAesMath
import Derived.Test.YthjnalbgnjbdnaaXorImpl16
namespace Go.Proofs.Ythjnalbgnjbdnaa
open Go.RowKit

/-- The cipher, by rounds. -/
def encGo (K : Nat → List UInt8) (b : List UInt8) : Nat → List UInt8
  | 0 => xorL b (K 0)
  | r + 1 => xorL (mixCols mixT (turnL 1 (encGo K b r))) (K (r + 1))
def encL (K : Nat → List UInt8) (b : List UInt8) : List UInt8 := xorL ((turnL 1 (encGo K b 9)).map subB) (K 10)
def decGo (K : Nat → List UInt8) (b : List UInt8) : Nat → List UInt8
  | 0 => (turnL 3 (xorL b (K 10))).map unsubB
  | k + 1 => (turnL 3 (mixCols unmixT (xorL (decGo K b k) (K (9 - k))))).map unsubB
def decL (K : Nat → List UInt8) (b : List UInt8) : List UInt8 := xorL (decGo K b 9) (K 0)
theorem encGo_length (K : Nat → List UInt8) (b : List UInt8) (hb : b.length = 16) (hK : ∀ r, (K r).length = 16) (r : Nat) : (encGo K b r).length = 16 := by
  cases r with
  | zero => show (xorL b (K 0)).length = 16; rw [xorL_length _ _ (by rw [hb, hK]), hb]
  | succ r => show (xorL (mixCols mixT (turnL 1 (encGo K b r))) (K (r + 1))).length = 16; rw [xorL_length _ _ (by rw [mixCols_length, hK]), mixCols_length]
theorem encL_length (K : Nat → List UInt8) (b : List UInt8) (hK : ∀ r, (K r).length = 16) : (encL K b).length = 16 := by
  unfold encL
  rw [xorL_length _ _ (by rw [List.length_map, turnL_length, hK]), List.length_map, turnL_length]
theorem decGo_length (K : Nat → List UInt8) (b : List UInt8) (r : Nat) : (decGo K b r).length = 16 := by
  cases r <;> simp [decGo, turnL_length]
theorem decL_length (K : Nat → List UInt8) (b : List UInt8) (hK : ∀ r, (K r).length = 16) : (decL K b).length = 16 := by
  unfold decL
  rw [xorL_length _ _ (by rw [decGo_length, hK]), decGo_length]


/-- The word that is added to word m, and the words up to word m + 4. -/
def tailW (m : Nat) (w : List UInt8) : List UInt8 :=
  if m % 4 = 0 then [subB (w.getD (4 * m + 13) 0) ^^^ powB (m / 4), subB (w.getD (4 * m + 14) 0), subB (w.getD (4 * m + 15) 0), subB (w.getD (4 * m + 12) 0)]
  else (w.drop (4 * m + 12)).take 4
def wordsGo (key : List UInt8) : Nat → List UInt8
  | 0 => key
  | m + 1 => wordsGo key m ++ xorL (((wordsGo key m).drop (4 * m)).take 4) (tailW m (wordsGo key m))
theorem tailW_length (m : Nat) (w : List UInt8) (h : w.length = 16 + 4 * m) : (tailW m w).length = 4 := by
  unfold tailW
  split
  · rfl
  · simp; omega
theorem wordsGo_length (key : List UInt8) (h : key.length = 16) (m : Nat) : (wordsGo key m).length = 16 + 4 * m := by
  induction m with
  | zero => exact h
  | succ m ih =>
    show (wordsGo key m ++ xorL (((wordsGo key m).drop (4 * m)).take 4) (tailW m (wordsGo key m))).length = _
    have e : (((wordsGo key m).drop (4 * m)).take 4).length = 4 := by simp; omega
    rw [List.length_append, xorL_length _ _ (by rw [e, tailW_length m _ ih]), e, ih]
    omega

theorem sixteenL (l : List UInt8) (h : l.length = 16) : ∃ a0 a1 a2 a3 a4 a5 a6 a7 a8 a9 a10 a11 a12 a13 a14 a15, l = [a0, a1, a2, a3, a4, a5, a6, a7, a8, a9, a10, a11, a12, a13, a14, a15] := by
  match l, h with
  | [a0, a1, a2, a3, a4, a5, a6, a7, a8, a9, a10, a11, a12, a13, a14, a15], _ => exact ⟨a0, a1, a2, a3, a4, a5, a6, a7, a8, a9, a10, a11, a12, a13, a14, a15, rfl⟩

theorem words_next (key pre l : List UInt8) (r : Nat) (hp : pre.length = 16 * r) (hl : l.length = 16) (h : wordsGo key (4 * r) = pre ++ l) : wordsGo key (4 * r + 4) = pre ++ l ++ nextK (powB r) l := by
  obtain ⟨a0, a1, a2, a3, a4, a5, a6, a7, a8, a9, a10, a11, a12, a13, a14, a15, rfl⟩ := sixteenL l hl
  have g : ∀ (x : List UInt8) (k : Nat), (pre ++ x).getD (16 * r + k) 0 = x.getD k 0 := by
    intro x k
    rw [← hp]
    rw [List.getD_eq_getElem?_getD, List.getD_eq_getElem?_getD, List.getElem?_append_right (by omega), show pre.length + k - pre.length = k from by omega]
  have d : ∀ (x : List UInt8) (k : Nat), (pre ++ x).drop (16 * r + k) = x.drop k := by
    intro x k
    rw [← hp]
    simp [List.drop_append]
  have e0 : (4 * r) % 4 = 0 := by omega
  have e1 : ¬ (4 * r + 1) % 4 = 0 := by omega
  have e2 : ¬ (4 * r + 2) % 4 = 0 := by omega
  have e3 : ¬ (4 * r + 3) % 4 = 0 := by omega
  have e4 : 4 * r / 4 = r := by omega
  obtain ⟨n, hn⟩ : ∃ n, n = nextK (powB r) [a0, a1, a2, a3, a4, a5, a6, a7, a8, a9, a10, a11, a12, a13, a14, a15] := ⟨_, rfl⟩
  have s1 : wordsGo key (4 * r + 1) = pre ++ ([a0, a1, a2, a3, a4, a5, a6, a7, a8, a9, a10, a11, a12, a13, a14, a15] ++ n.take 4) := by
    show wordsGo key (4 * r) ++ xorL (((wordsGo key (4 * r)).drop (4 * (4 * r))).take 4) (tailW (4 * r) (wordsGo key (4 * r))) = _
    rw [h]
    unfold tailW
    rw [if_pos e0, e4]
    rw [show 4 * (4 * r) + 13 = 16 * r + 13 from by omega, show 4 * (4 * r) + 14 = 16 * r + 14 from by omega, show 4 * (4 * r) + 15 = 16 * r + 15 from by omega, show 4 * (4 * r) + 12 = 16 * r + 12 from by omega, show 4 * (4 * r) = 16 * r + 0 from by omega, g, g, g, g, d]
    rw [List.append_assoc, hn]
    congr 2
    simp [nextK, wordAt, word0, xorL, List.range_succ, UInt8.xor_comm]
  have s2 : wordsGo key (4 * r + 2) = pre ++ ([a0, a1, a2, a3, a4, a5, a6, a7, a8, a9, a10, a11, a12, a13, a14, a15] ++ n.take 8) := by
    show wordsGo key (4 * r + 1) ++ xorL (((wordsGo key (4 * r + 1)).drop (4 * (4 * r + 1))).take 4) (tailW (4 * r + 1) (wordsGo key (4 * r + 1))) = _
    rw [s1]
    unfold tailW
    rw [if_neg e1, show 4 * (4 * r + 1) + 12 = 16 * r + 16 from by omega, show 4 * (4 * r + 1) = 16 * r + 4 from by omega, d, d]
    rw [List.append_assoc, List.append_assoc, hn]
    congr 2
    simp [nextK, wordAt, word0, xorL, List.range_succ, UInt8.xor_comm]
  have s3 : wordsGo key (4 * r + 3) = pre ++ ([a0, a1, a2, a3, a4, a5, a6, a7, a8, a9, a10, a11, a12, a13, a14, a15] ++ n.take 12) := by
    show wordsGo key (4 * r + 2) ++ xorL (((wordsGo key (4 * r + 2)).drop (4 * (4 * r + 2))).take 4) (tailW (4 * r + 2) (wordsGo key (4 * r + 2))) = _
    rw [s2]
    unfold tailW
    rw [if_neg e2, show 4 * (4 * r + 2) + 12 = 16 * r + 20 from by omega, show 4 * (4 * r + 2) = 16 * r + 8 from by omega, d, d]
    rw [List.append_assoc, List.append_assoc, hn]
    congr 2
    simp [nextK, wordAt, word0, xorL, List.range_succ, UInt8.xor_comm]
  show wordsGo key (4 * r + 3) ++ xorL (((wordsGo key (4 * r + 3)).drop (4 * (4 * r + 3))).take 4) (tailW (4 * r + 3) (wordsGo key (4 * r + 3))) = _
  rw [s3]
  unfold tailW
  rw [if_neg e3, show 4 * (4 * r + 3) + 12 = 16 * r + 24 from by omega, show 4 * (4 * r + 3) = 16 * r + 12 from by omega, d, d]
  rw [List.append_assoc, List.append_assoc, List.append_assoc, hn]
  congr 2
  simp [nextK, wordAt, word0, xorL, List.range_succ, UInt8.xor_comm]

def keysL (key : List UInt8) : List UInt8 := wordsGo key 40
theorem keysL_length (key : List UInt8) (h : key.length = 16) : (keysL key).length = 176 := wordsGo_length key h 40

/-- The keys up to key r, one behind the other. -/
def keysUpto (key : List UInt8) : Nat → List UInt8
  | 0 => []
  | r + 1 => keysUpto key r ++ keyR key r
theorem keysUpto_length (key : List UInt8) (h : key.length = 16) (r : Nat) : (keysUpto key r).length = 16 * r := by
  induction r with
  | zero => rfl
  | succ r ih => show (keysUpto key r ++ keyR key r).length = _; rw [List.length_append, ih, keyR_length key h]; omega
theorem words_keys (key : List UInt8) (h : key.length = 16) (r : Nat) : wordsGo key (4 * r) = keysUpto key r ++ keyR key r := by
  induction r with
  | zero => rfl
  | succ r ih =>
    rw [show 4 * (r + 1) = 4 * r + 4 from by omega, words_next key _ _ r (keysUpto_length key h r) (keyR_length key h r) ih]
    rfl
theorem keysL_eq (key : List UInt8) (h : key.length = 16) : keysL key = keysUpto key 11 := words_keys key h 10
theorem keysUpto_at (key : List UInt8) (h : key.length = 16) (n r : Nat) (hr : r < n) : ((keysUpto key n).drop (16 * r)).take 16 = keyR key r := by
  induction n with
  | zero => omega
  | succ n ih =>
    show ((keysUpto key n ++ keyR key n).drop (16 * r)).take 16 = keyR key r
    have hl := keysUpto_length key h n
    by_cases e : r = n
    · subst e
      rw [← hl, List.drop_left, List.take_of_length_le (by rw [keyR_length key h]; exact Nat.le_refl _)]
    · rw [List.drop_append_of_le_length (by omega), List.take_append_of_le_length (by simp; omega)]
      exact ih (by omega)
theorem keysL_at (key : List UInt8) (h : key.length = 16) (r : Nat) (hr : r < 11) : ((keysL key).drop (16 * r)).take 16 = keyR key r := by
  rw [keysL_eq key h]; exact keysUpto_at key h 11 r hr

theorem encGo_step (K : Nat → List UInt8) (b : List UInt8) (hb : b.length = 16) (hK : ∀ r, (K r).length = 16) (r : Nat) : encGo K b (r + 1) = xorL (mixS rowE (turnL 1 ((encGo K b r).map subB))) (K (r + 1)) := by
  show xorL (mixCols mixT (turnL 1 (encGo K b r))) (K (r + 1)) = _
  rw [mixCols_eq _ (turnL_length _ _), turnL_map subB 1 _ (encGo_length K b hb hK r)]
theorem encL_step (K : Nat → List UInt8) (b : List UInt8) (hb : b.length = 16) (hK : ∀ r, (K r).length = 16) : encL K b = xorL (turnL 1 ((encGo K b 9).map subB)) (K 10) := by
  unfold encL
  rw [turnL_map subB 1 _ (encGo_length K b hb hK 9)]
theorem decGo_step (K : Nat → List UInt8) (b : List UInt8) (hK : ∀ r, (K r).length = 16) (k : Nat) : decGo K b (k + 1) = (turnL 3 (mixS rowD (xorL (decGo K b k) (K (9 - k))))).map unsubB := by
  show (turnL 3 (mixCols unmixT (xorL (decGo K b k) (K (9 - k))))).map unsubB = _
  rw [unmix_eq _ (by rw [xorL_length _ _ (by rw [decGo_length, hK]), decGo_length])]
end Go.Proofs.Ythjnalbgnjbdnaa
