/-
  AES over bytes: what both sides reckon. Nothing of the program.
-/
import Derived.Test.YthjnalbgnjbdnaaDesBox
namespace Go.Proofs.Ythjnalbgnjbdnaa
open Go.RowKit

/-- The powers of x + 1, the table of sub, and its inverse. -/
def powTab : List UInt8 := [1, 3, 5, 15, 17, 51, 85, 255, 26, 46, 114, 150, 161, 248, 19, 53, 95, 225, 56, 72, 216, 115, 149, 164, 247, 2, 6, 10, 30, 34, 102, 170,
  229, 52, 92, 228, 55, 89, 235, 38, 106, 190, 217, 112, 144, 171, 230, 49, 83, 245, 4, 12, 20, 60, 68, 204, 79, 209, 104, 184, 211, 110, 178, 205,
  76, 212, 103, 169, 224, 59, 77, 215, 98, 166, 241, 8, 24, 40, 120, 136, 131, 158, 185, 208, 107, 189, 220, 127, 129, 152, 179, 206, 73, 219, 118, 154,
  181, 196, 87, 249, 16, 48, 80, 240, 11, 29, 39, 105, 187, 214, 97, 163, 254, 25, 43, 125, 135, 146, 173, 236, 47, 113, 147, 174, 233, 32, 96, 160,
  251, 22, 58, 78, 210, 109, 183, 194, 93, 231, 50, 86, 250, 21, 63, 65, 195, 94, 226, 61, 71, 201, 64, 192, 91, 237, 44, 116, 156, 191, 218, 117,
  159, 186, 213, 100, 172, 239, 42, 126, 130, 157, 188, 223, 122, 142, 137, 128, 155, 182, 193, 88, 232, 35, 101, 175, 234, 37, 111, 177, 200, 67, 197, 84,
  252, 31, 33, 99, 165, 244, 7, 9, 27, 45, 119, 153, 176, 203, 70, 202, 69, 207, 74, 222, 121, 139, 134, 145, 168, 227, 62, 66, 198, 81, 243, 14,
  18, 54, 90, 238, 41, 123, 141, 140, 143, 138, 133, 148, 167, 242, 13, 23, 57, 75, 221, 124, 132, 151, 162, 253, 28, 36, 108, 180, 199, 82, 246, 1]
def subTab : List UInt8 := [99, 124, 119, 123, 242, 107, 111, 197, 48, 1, 103, 43, 254, 215, 171, 118, 202, 130, 201, 125, 250, 89, 71, 240, 173, 212, 162, 175, 156, 164, 114, 192,
  183, 253, 147, 38, 54, 63, 247, 204, 52, 165, 229, 241, 113, 216, 49, 21, 4, 199, 35, 195, 24, 150, 5, 154, 7, 18, 128, 226, 235, 39, 178, 117,
  9, 131, 44, 26, 27, 110, 90, 160, 82, 59, 214, 179, 41, 227, 47, 132, 83, 209, 0, 237, 32, 252, 177, 91, 106, 203, 190, 57, 74, 76, 88, 207,
  208, 239, 170, 251, 67, 77, 51, 133, 69, 249, 2, 127, 80, 60, 159, 168, 81, 163, 64, 143, 146, 157, 56, 245, 188, 182, 218, 33, 16, 255, 243, 210,
  205, 12, 19, 236, 95, 151, 68, 23, 196, 167, 126, 61, 100, 93, 25, 115, 96, 129, 79, 220, 34, 42, 144, 136, 70, 238, 184, 20, 222, 94, 11, 219,
  224, 50, 58, 10, 73, 6, 36, 92, 194, 211, 172, 98, 145, 149, 228, 121, 231, 200, 55, 109, 141, 213, 78, 169, 108, 86, 244, 234, 101, 122, 174, 8,
  186, 120, 37, 46, 28, 166, 180, 198, 232, 221, 116, 31, 75, 189, 139, 138, 112, 62, 181, 102, 72, 3, 246, 14, 97, 53, 87, 185, 134, 193, 29, 158,
  225, 248, 152, 17, 105, 217, 142, 148, 155, 30, 135, 233, 206, 85, 40, 223, 140, 161, 137, 13, 191, 230, 66, 104, 65, 153, 45, 15, 176, 84, 187, 22]
def invTab : List UInt8 := [82, 9, 106, 213, 48, 54, 165, 56, 191, 64, 163, 158, 129, 243, 215, 251, 124, 227, 57, 130, 155, 47, 255, 135, 52, 142, 67, 68, 196, 222, 233, 203,
  84, 123, 148, 50, 166, 194, 35, 61, 238, 76, 149, 11, 66, 250, 195, 78, 8, 46, 161, 102, 40, 217, 36, 178, 118, 91, 162, 73, 109, 139, 209, 37,
  114, 248, 246, 100, 134, 104, 152, 22, 212, 164, 92, 204, 93, 101, 182, 146, 108, 112, 72, 80, 253, 237, 185, 218, 94, 21, 70, 87, 167, 141, 157, 132,
  144, 216, 171, 0, 140, 188, 211, 10, 247, 228, 88, 5, 184, 179, 69, 6, 208, 44, 30, 143, 202, 63, 15, 2, 193, 175, 189, 3, 1, 19, 138, 107,
  58, 145, 17, 65, 79, 103, 220, 234, 151, 242, 207, 206, 240, 180, 230, 115, 150, 172, 116, 34, 231, 173, 53, 133, 226, 249, 55, 232, 28, 117, 223, 110,
  71, 241, 26, 113, 29, 41, 197, 137, 111, 183, 98, 14, 170, 24, 190, 27, 252, 86, 62, 75, 198, 210, 121, 32, 154, 219, 192, 254, 120, 205, 90, 244,
  31, 221, 168, 51, 136, 7, 199, 49, 177, 18, 16, 89, 39, 128, 236, 95, 96, 81, 127, 169, 25, 181, 74, 13, 45, 229, 122, 159, 147, 201, 156, 239,
  160, 224, 59, 77, 174, 42, 245, 176, 200, 235, 187, 60, 131, 83, 153, 97, 23, 43, 4, 126, 186, 119, 214, 38, 225, 105, 20, 99, 85, 33, 12, 125]
set_option maxRecDepth 100000 in
theorem powTab_length : powTab.length = 256 := by decide +kernel
set_option maxRecDepth 100000 in
theorem subTab_length : subTab.length = 256 := by decide +kernel
set_option maxRecDepth 100000 in
theorem invTab_length : invTab.length = 256 := by decide +kernel

/-- Times x. -/
def tXN (n : Nat) : Nat := (n * 2 % 256) ^^^ (n / 128 * 27)
def tXB (b : UInt8) : UInt8 := UInt8.ofNat (tXN b.toNat)
theorem tXN_lt : ∀ n : Nat, n < 256 → tXN n < 256 := by decide +kernel
theorem tXB_nat (b : UInt8) : (tXB b).toNat = tXN b.toNat := by
  have := tXN_lt b.toNat b.toNat_lt
  simp [tXB]; omega

/-- The product, bit by bit. -/
def mulGo : Nat → Nat → Nat → Nat → Nat
  | 0, p, _, _ => p
  | f + 1, p, a, b => mulGo f (if b % 2 = 1 then p ^^^ a else p) (tXN a) (b / 2)
def mulN (a b : Nat) : Nat := mulGo 8 0 a b
theorem mulGo_lt (f p a b : Nat) (hp : p < 256) (ha : a < 256) : mulGo f p a b < 256 := by
  induction f generalizing p a b with
  | zero => exact hp
  | succ f ih =>
    refine ih _ _ _ ?_ (tXN_lt a ha)
    split
    · exact Nat.xor_lt_two_pow (n := 8) hp ha
    · exact hp
theorem mulGo_zero (f p a : Nat) : mulGo f p a 0 = p := by
  induction f generalizing a with
  | zero => rfl
  | succ f ih => show mulGo f (if 0 % 2 = 1 then p ^^^ a else p) (tXN a) (0 / 2) = p; rw [if_neg (by decide)]; exact ih _
def mulB (a b : UInt8) : UInt8 := UInt8.ofNat (mulN a.toNat b.toNat)
theorem mulN_lt (a b : Nat) (ha : a < 256) : mulN a b < 256 := mulGo_lt 8 0 a b (by decide) ha
theorem mulB_nat (a b : UInt8) : (mulB a b).toNat = mulN a.toNat b.toNat := by
  have := mulN_lt a.toNat b.toNat a.toNat_lt
  simp [mulB]; omega

def subB (b : UInt8) : UInt8 := subTab.getD b.toNat 0
def unsubB (b : UInt8) : UInt8 := invTab.getD b.toNat 0

/-- The inverse as a power: a and p behind k steps. -/
def invGo (a : Nat) : Nat → Nat × Nat
  | 0 => (a, 1)
  | k + 1 => let x := mulN (invGo a k).1 (invGo a k).1; (x, mulN (invGo a k).2 x)
def invN (a : Nat) : Nat := (invGo a 7).2
theorem invGo_lt (a k : Nat) (ha : a < 256) : (invGo a k).1 < 256 ∧ (invGo a k).2 < 256 := by
  induction k with
  | zero => exact ⟨ha, (by decide : 1 < 256)⟩
  | succ k ih => exact ⟨mulN_lt _ _ ih.1, mulN_lt _ _ ih.2⟩
def turn8 (x k : Nat) : Nat := x * 2 ^ k % 256 ||| x / 2 ^ (8 - k)
def affN (c : Nat) : Nat := c ^^^ turn8 c 1 ^^^ turn8 c 2 ^^^ turn8 c 3 ^^^ turn8 c 4 ^^^ 99

/-- Columns of the two tables. -/
def colOf (a b c d : Nat) : Nat := a * 16777216 + b * 65536 + c * 256 + d
def mixT (n : Nat) : Nat := colOf (tXN (subTab.getD n 0).toNat) (subTab.getD n 0).toNat (subTab.getD n 0).toNat (tXN (subTab.getD n 0).toNat ^^^ (subTab.getD n 0).toNat)
def unmixT (n : Nat) : Nat := colOf (tXN (tXN (tXN n)) ^^^ tXN (tXN n) ^^^ tXN n) (tXN (tXN (tXN n)) ^^^ n) (tXN (tXN (tXN n)) ^^^ tXN (tXN n) ^^^ n) (tXN (tXN (tXN n)) ^^^ tXN n ^^^ n)

/-- A column behind k of its rows. -/
def colN (T : Nat → Nat) (s : List UInt8) (c : Nat) : Nat → Nat
  | 0 => 0
  | k + 1 => colN T s c k ^^^ rotN (T (s.getD (4 * c + k) 0).toNat) (32 - 8 * k)
def mixCols (T : Nat → Nat) (s : List UInt8) : List UInt8 := (List.range 16).map fun j => UInt8.ofNat (colN T s (j / 4) 4 / 2 ^ (24 - 8 * (j % 4)))
theorem mixCols_length (T : Nat → Nat) (s : List UInt8) : (mixCols T s).length = 16 := by simp [mixCols]

def mulSum (row s : List UInt8) (c i : Nat) : Nat → UInt8
  | 0 => 0
  | k + 1 => mulSum row s c i k ^^^ mulB (s.getD (4 * c + k) 0) (row.getD ((k + 4 - i) % 4) 0)
def mixS (row s : List UInt8) : List UInt8 := (List.range 16).map fun j => mulSum row s (j / 4) (j % 4) 4
theorem mixS_length (row s : List UInt8) : (mixS row s).length = 16 := by simp [mixS]

theorem ofNat_xor_div (a b p : Nat) : UInt8.ofNat ((a ^^^ b) / 2 ^ p) = UInt8.ofNat (a / 2 ^ p) ^^^ UInt8.ofNat (b / 2 ^ p) := by
  apply UInt8.toNat_inj.1
  rw [UInt8.toNat_xor]
  simp only [UInt8.toNat_ofNat']
  rw [← Nat.shiftRight_eq_div_pow, ← Nat.shiftRight_eq_div_pow, ← Nat.shiftRight_eq_div_pow, Nat.shiftRight_xor_distrib]
  exact Nat.xor_mod_two_pow

def rowE : List UInt8 := [2, 3, 1, 1]
def rowD : List UInt8 := [14, 11, 13, 9]
set_option maxRecDepth 100000 in
theorem mix_entry : ∀ n : Nat, n < 256 → ∀ k : Nat, k < 4 → ∀ i : Nat, i < 4 → rotN (mixT n) (32 - 8 * k) / 2 ^ (24 - 8 * i) % 256 = mulN (subTab.getD n 0).toNat (rowE.getD ((k + 4 - i) % 4) 0).toNat := by decide +kernel
set_option maxRecDepth 100000 in
theorem unmix_entry : ∀ n : Nat, n < 256 → ∀ k : Nat, k < 4 → ∀ i : Nat, i < 4 → rotN (unmixT n) (32 - 8 * k) / 2 ^ (24 - 8 * i) % 256 = mulN n (rowD.getD ((k + 4 - i) % 4) 0).toNat := by decide +kernel

theorem col_eq (T : Nat → Nat) (f : UInt8 → UInt8) (row s : List UInt8) (h : ∀ x : UInt8, ∀ k, k < 4 → ∀ i, i < 4 → rotN (T x.toNat) (32 - 8 * k) / 2 ^ (24 - 8 * i) % 256 = mulN (f x).toNat (row.getD ((k + 4 - i) % 4) 0).toNat)
    (c i k : Nat) (hs : s.length = 16) (hc : c < 4) (hi : i < 4) (hk : k ≤ 4) : UInt8.ofNat (colN T s c k / 2 ^ (24 - 8 * i)) = mulSum row (s.map f) c i k := by
  induction k with
  | zero => show UInt8.ofNat (0 / 2 ^ (24 - 8 * i)) = 0; rw [Nat.zero_div]; rfl
  | succ k ih =>
    show UInt8.ofNat ((colN T s c k ^^^ rotN (T (s.getD (4 * c + k) 0).toNat) (32 - 8 * k)) / 2 ^ (24 - 8 * i)) = mulSum row (s.map f) c i k ^^^ mulB ((s.map f).getD (4 * c + k) 0) (row.getD ((k + 4 - i) % 4) 0)
    rw [ofNat_xor_div, ih (by omega)]
    congr 1
    have e : (s.map f).getD (4 * c + k) 0 = f (s.getD (4 * c + k) 0) := by
      have hl : 4 * c + k < s.length := by omega
      simp [hl]
    rw [e]
    apply UInt8.toNat_inj.1
    rw [mulB_nat, ← h (s.getD (4 * c + k) 0) k (by omega) i hi]
    simp

theorem mixCols_eq (s : List UInt8) (hs : s.length = 16) : mixCols mixT s = mixS rowE (s.map subB) := by
  unfold mixCols mixS
  apply List.map_congr_left
  intro j hj
  have hj := List.mem_range.1 hj
  exact col_eq mixT subB rowE s (fun x k hk i hi => mix_entry x.toNat x.toNat_lt k hk i hi) (j / 4) (j % 4) 4 hs (by omega) (by omega) (by omega)
theorem unmix_eq (s : List UInt8) (hs : s.length = 16) : mixCols unmixT s = mixS rowD s := by
  unfold mixCols mixS
  apply List.map_congr_left
  intro j hj
  have hj := List.mem_range.1 hj
  have := col_eq unmixT id rowD s (fun x k hk i hi => unmix_entry x.toNat x.toNat_lt k hk i hi) (j / 4) (j % 4) 4 hs (by omega) (by omega) (by omega)
  rwa [List.map_id] at this

/-- Rows turned. -/
def turnL (by_ : Nat) (s : List UInt8) : List UInt8 := (List.range 16).map fun i => s.getD ((i + 4 * by_ * (i % 4)) % 16) 0
theorem turnL_length (b : Nat) (s : List UInt8) : (turnL b s).length = 16 := by simp [turnL]
theorem turnL_map (f : UInt8 → UInt8) (b : Nat) (s : List UInt8) (hs : s.length = 16) : (turnL b s).map f = turnL b (s.map f) := by
  unfold turnL
  rw [List.map_map]
  apply List.map_congr_left
  intro i _
  have hl : (i + 4 * b * (i % 4)) % 16 < s.length := by omega
  simp [hl]
theorem turn_at (b i : Nat) (hb : b = 1 ∨ b = 3) (_hi : i < 16) : 4 * ((i / 4 + b * (i % 4)) % 4) + i % 4 = (i + 4 * b * (i % 4)) % 16 := by
  rcases hb with rfl | rfl <;> omega

/-- The word of the key schedule behind i bytes of the last key, and the next key. -/
def word0 (pw : UInt8) (l : List UInt8) : List UInt8 := [subB (l.getD 13 0) ^^^ pw, subB (l.getD 14 0), subB (l.getD 15 0), subB (l.getD 12 0)]
def wordAt (pw : UInt8) (l : List UInt8) : Nat → List UInt8
  | 0 => word0 pw l
  | i + 1 => (wordAt pw l i).set (i % 4) ((wordAt pw l i).getD (i % 4) 0 ^^^ l.getD i 0)
theorem wordAt_length (pw : UInt8) (l : List UInt8) (i : Nat) : (wordAt pw l i).length = 4 := by
  induction i with
  | zero => rfl
  | succ i ih => simp [wordAt, ih]
def nextK (pw : UInt8) (l : List UInt8) : List UInt8 := (List.range 16).map fun i => (wordAt pw l (i + 1)).getD (i % 4) 0
theorem nextK_length (pw : UInt8) (l : List UInt8) : (nextK pw l).length = 16 := by simp [nextK]
def powB : Nat → UInt8
  | 0 => 1
  | r + 1 => tXB (powB r)
def keyR (key : List UInt8) : Nat → List UInt8
  | 0 => key
  | r + 1 => nextK (powB r) (keyR key r)
theorem keyR_length (key : List UInt8) (h : key.length = 16) (r : Nat) : (keyR key r).length = 16 := by
  cases r with
  | zero => exact h
  | succ r => exact nextK_length _ _

/-- What the loops over tables leave. -/
def subUpto : Nat → List UInt8
  | 0 => (List.replicate 256 (0 : UInt8)).set 0 99
  | k + 1 => (subUpto k).set (powTab.getD k 0).toNat (UInt8.ofNat (affN (powTab.getD (255 - k) 0).toNat))
theorem subUpto_length (k : Nat) : (subUpto k).length = 256 := by
  induction k with
  | zero => show ((List.replicate 256 (0 : UInt8)).set 0 99).length = 256; rw [List.length_set, List.length_replicate]
  | succ k ih => show ((subUpto k).set _ _).length = 256; rw [List.length_set, ih]
def invUpto : Nat → List UInt8
  | 0 => List.replicate 256 (0 : UInt8)
  | k + 1 => (invUpto k).set (subTab.getD k 0).toNat (UInt8.ofNat k)
theorem invUpto_length (k : Nat) : (invUpto k).length = 256 := by
  induction k with
  | zero => show (List.replicate 256 (0 : UInt8)).length = 256; rw [List.length_replicate]
  | succ k ih => show ((invUpto k).set _ _).length = 256; rw [List.length_set, ih]
set_option maxRecDepth 100000 in
theorem pow_step : ∀ i : Nat, i < 255 → (powTab.getD (i + 1) 0).toNat = (powTab.getD i 0).toNat ^^^ tXN (powTab.getD i 0).toNat := by decide +kernel
set_option maxRecDepth 100000 in
theorem subUpto_all : subUpto 256 = subTab := by decide +kernel
set_option maxRecDepth 100000 in
theorem invUpto_all : invUpto 256 = invTab := by decide +kernel
set_option maxRecDepth 100000 in
theorem sub_aff : ∀ n : Nat, n < 256 → affN (invN n) = (subTab.getD n 0).toNat := by decide +kernel
theorem tX_mul : ∀ n : Nat, n < 256 → mulN n 2 = tXN n := by decide +kernel
end Go.Proofs.Ythjnalbgnjbdnaa
