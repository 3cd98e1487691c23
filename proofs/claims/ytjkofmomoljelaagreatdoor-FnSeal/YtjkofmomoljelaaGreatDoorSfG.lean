import Derived.Test.YtjkofmomoljelaaGreatDoorSfF
import Derived.Test.YtjkofmomoljelaaGreatDoorSfE
/-
  spec: l1Mul, l1Inverse, l1Turn, l1Sub.
-/
namespace Go.Proofs.YtjkofmomoljelaaGreatDoor
open Go.RowKit
end Go.Proofs.YtjkofmomoljelaaGreatDoor
/-
  The key's words, and the rounds as the model says them.
-/
namespace Go.Proofs.YtjkofmomoljelaaGreatDoor
open Go.RowKit
/-- The cipher, by rounds. -/
def encGo (K : Nat → List UInt8) (b : List UInt8) : Nat → List UInt8
  | 0 => xorL b (K 0)
  | r + 1 => xorL (mixCols mixT (turnL 1 (encGo K b r))) (K (r + 1))
def encL (K : Nat → List UInt8) (b : List UInt8) : List UInt8 := xorL ((turnL 1 (encGo K b 9)).map subB) (K 10)
def decGo (K : Nat → List UInt8) (b : List UInt8) : Nat → List UInt8
  | 0 => (turnL 3 (xorL b (K 10))).map unsubB
  | k + 1 => (turnL 3 (mixCols unmixT (xorL (decGo K b k) (K (9 - k))))).map unsubB
def decL (K : Nat → List UInt8) (b : List UInt8) : List UInt8 := xorL (decGo K b 9) (K 0)
theorem encGo_length (K : Nat → List UInt8) (b : List UInt8) (hb : b.length = 16) (hK : ∀ r, (K r).length = 16) (r : Nat) : (encGo K b r).length = 16 := by
  cases r with
  | zero => show (xorL b (K 0)).length = 16; rw [xorL_length _ _ (by rw [hb, hK]), hb]
  | succ r => show (xorL (mixCols mixT (turnL 1 (encGo K b r))) (K (r + 1))).length = 16; rw [xorL_length _ _ (by rw [mixCols_length, hK]), mixCols_length]
theorem encL_length (K : Nat → List UInt8) (b : List UInt8) (hK : ∀ r, (K r).length = 16) : (encL K b).length = 16 := by
  unfold encL
  rw [xorL_length _ _ (by rw [List.length_map, turnL_length, hK]), List.length_map, turnL_length]
theorem decGo_length (K : Nat → List UInt8) (b : List UInt8) (r : Nat) : (decGo K b r).length = 16 := by
  cases r <;> simp [decGo, turnL_length]
theorem decL_length (K : Nat → List UInt8) (b : List UInt8) (hK : ∀ r, (K r).length = 16) : (decL K b).length = 16 := by
  unfold decL
  rw [xorL_length _ _ (by rw [decGo_length, hK]), decGo_length]
theorem sixteenL (l : List UInt8) (h : l.length = 16) : ∃ a0 a1 a2 a3 a4 a5 a6 a7 a8 a9 a10 a11 a12 a13 a14 a15, l = [a0, a1, a2, a3, a4, a5, a6, a7, a8, a9, a10, a11, a12, a13, a14, a15] := by
  match l, h with
  | [a0, a1, a2, a3, a4, a5, a6, a7, a8, a9, a10, a11, a12, a13, a14, a15], _ => exact ⟨a0, a1, a2, a3, a4, a5, a6, a7, a8, a9, a10, a11, a12, a13, a14, a15, rfl⟩
/-- The keys up to key r, one behind the other. -/
def keysUpto (key : List UInt8) : Nat → List UInt8
  | 0 => []
  | r + 1 => keysUpto key r ++ keyR key r
theorem keysUpto_length (key : List UInt8) (h : key.length = 16) (r : Nat) : (keysUpto key r).length = 16 * r := by
  induction r with
  | zero => rfl
  | succ r ih => show (keysUpto key r ++ keyR key r).length = _; rw [List.length_append, ih, keyR_length key h]; omega
theorem encGo_step (K : Nat → List UInt8) (b : List UInt8) (hb : b.length = 16) (hK : ∀ r, (K r).length = 16) (r : Nat) : encGo K b (r + 1) = xorL (mixS rowE (turnL 1 ((encGo K b r).map subB))) (K (r + 1)) := by
  show xorL (mixCols mixT (turnL 1 (encGo K b r))) (K (r + 1)) = _
  rw [mixCols_eq _ (turnL_length _ _), turnL_map subB 1 _ (encGo_length K b hb hK r)]
theorem encL_step (K : Nat → List UInt8) (b : List UInt8) (hb : b.length = 16) (hK : ∀ r, (K r).length = 16) : encL K b = xorL (turnL 1 ((encGo K b 9).map subB)) (K 10) := by
  unfold encL
  rw [turnL_map subB 1 _ (encGo_length K b hb hK 9)]
theorem decGo_step (K : Nat → List UInt8) (b : List UInt8) (hK : ∀ r, (K r).length = 16) (k : Nat) : decGo K b (k + 1) = (turnL 3 (mixS rowD (xorL (decGo K b k) (K (9 - k))))).map unsubB := by
  show (turnL 3 (mixCols unmixT (xorL (decGo K b k) (K (9 - k))))).map unsubB = _
  rw [unmix_eq _ (by rw [xorL_length _ _ (by rw [decGo_length, hK]), decGo_length])]
end Go.Proofs.YtjkofmomoljelaaGreatDoor
/-
  spec: l1SubTable, l1Unsub, l1Shift, l1Mix.
-/
namespace Go.Proofs.YtjkofmomoljelaaGreatDoor
open Go.RowKit
set_option maxRecDepth 100000 in
theorem inv_sub : ∀ k : Nat, k < 256 → (invTab.getD (subTab.getD k 0).toNat 0).toNat = k := by decide +kernel
end Go.Proofs.YtjkofmomoljelaaGreatDoor
/-
  spec: l1Words.
-/
namespace Go.Proofs.YtjkofmomoljelaaGreatDoor
open Go.RowKit
end Go.Proofs.YtjkofmomoljelaaGreatDoor
