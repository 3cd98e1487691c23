/-
  Texts laid together: DesMerged, DesRound, DesKeys, DesRun.
-/
import Derived.Test.YtoajfbkblpaejaaDoorGrA
/-
  impl: mergedBoxes.
-/
namespace Go.Proofs.YtoajfbkblpaejaaDoor
open Go.RowKit

/-- The boxes, 64 digits each, as bytes. -/
def boxD : List UInt8 := [
  69, 52, 68, 49, 50, 70, 66, 56, 51, 65, 54, 67, 53, 57, 48, 55, 48, 70, 55, 52, 69, 50, 68, 49, 65, 54, 67, 66, 57, 53, 51, 56,
  52, 49, 69, 56, 68, 54, 50, 66, 70, 67, 57, 55, 51, 65, 53, 48, 70, 67, 56, 50, 52, 57, 49, 55, 53, 66, 51, 69, 65, 48, 54, 68,
  70, 49, 56, 69, 54, 66, 51, 52, 57, 55, 50, 68, 67, 48, 53, 65, 51, 68, 52, 55, 70, 50, 56, 69, 67, 48, 49, 65, 54, 57, 66, 53,
  48, 69, 55, 66, 65, 52, 68, 49, 53, 56, 67, 54, 57, 51, 50, 70, 68, 56, 65, 49, 51, 70, 52, 50, 66, 54, 55, 67, 48, 53, 69, 57,
  65, 48, 57, 69, 54, 51, 70, 53, 49, 68, 67, 55, 66, 52, 50, 56, 68, 55, 48, 57, 51, 52, 54, 65, 50, 56, 53, 69, 67, 66, 70, 49,
  68, 54, 52, 57, 56, 70, 51, 48, 66, 49, 50, 67, 53, 65, 69, 55, 49, 65, 68, 48, 54, 57, 56, 55, 52, 70, 69, 51, 66, 53, 50, 67,
  55, 68, 69, 51, 48, 54, 57, 65, 49, 50, 56, 53, 66, 67, 52, 70, 68, 56, 66, 53, 54, 70, 48, 51, 52, 55, 50, 67, 49, 65, 69, 57,
  65, 54, 57, 48, 67, 66, 55, 68, 70, 49, 51, 69, 53, 50, 56, 52, 51, 70, 48, 54, 65, 49, 68, 56, 57, 52, 53, 66, 67, 55, 50, 69,
  50, 67, 52, 49, 55, 65, 66, 54, 56, 53, 51, 70, 68, 48, 69, 57, 69, 66, 50, 67, 52, 55, 68, 49, 53, 48, 70, 65, 51, 57, 56, 54,
  52, 50, 49, 66, 65, 68, 55, 56, 70, 57, 67, 53, 54, 51, 48, 69, 66, 56, 67, 55, 49, 69, 50, 68, 54, 70, 48, 57, 65, 52, 53, 51,
  67, 49, 65, 70, 57, 50, 54, 56, 48, 68, 51, 52, 69, 55, 53, 66, 65, 70, 52, 50, 55, 67, 57, 53, 54, 49, 68, 69, 48, 66, 51, 56,
  57, 69, 70, 53, 50, 56, 67, 51, 55, 48, 52, 65, 49, 68, 66, 54, 52, 51, 50, 67, 57, 53, 70, 65, 66, 69, 49, 55, 54, 48, 56, 68,
  52, 66, 50, 69, 70, 48, 56, 68, 51, 67, 57, 55, 53, 65, 54, 49, 68, 48, 66, 55, 52, 57, 49, 65, 69, 51, 53, 67, 50, 70, 56, 54,
  49, 52, 66, 68, 67, 51, 55, 69, 65, 70, 54, 56, 48, 53, 57, 50, 54, 66, 68, 56, 49, 52, 65, 55, 57, 53, 48, 70, 69, 50, 51, 67,
  68, 50, 56, 52, 54, 70, 66, 49, 65, 57, 51, 69, 53, 48, 67, 55, 49, 70, 68, 56, 65, 51, 55, 52, 67, 53, 54, 66, 48, 69, 57, 50,
  55, 66, 52, 49, 57, 67, 69, 50, 48, 54, 65, 68, 70, 51, 53, 56, 50, 49, 69, 55, 52, 65, 56, 68, 70, 67, 57, 48, 51, 53, 54, 66]

/-- The digit of a box at a group of six bits. -/
def digN (box g : Nat) : Nat := hexN (boxD.getD (64 * box + 16 * (g / 32 * 2 + g % 2) + g / 2 % 16) 0).toNat
def mergedN (box g : Nat) : Nat := spreadN box (digN box g)
def mergedCell (j : Nat) : Value := word32 (mergedN (j / 64) (j % 64))

def mergedCells : List Value := (List.range 512).map mergedCell
theorem mergedCells_length : mergedCells.length = 512 := by simp [mergedCells]
theorem allOne_merged : mergedCells.toArray.all (·.oneCell') = true := allOne_map _ (fun _ => rfl) _

set_option maxRecDepth 100000 in
theorem boxD_hex : ∀ i : Nat, i < 512 → hexN (boxD.getD i 0).toNat < 16 := by decide +kernel

theorem g1 : ∀ g : Nat, g < 64 → bits BinOp.and IntKind.i64 ((g : Int) / 16) 2 = ((g / 32 * 2 : Nat) : Int) := by decide +kernel
theorem g2 : ∀ g : Nat, g < 64 → bits BinOp.and IntKind.i64 (g : Int) 1 = ((g % 2 : Nat) : Int) := by decide +kernel
theorem g3 : ∀ g : Nat, g < 64 → bits BinOp.or IntKind.i64 ((g / 32 * 2 : Nat) : Int) ((g % 2 : Nat) : Int) = ((g / 32 * 2 + g % 2 : Nat) : Int) := by decide +kernel
theorem g4 : ∀ g : Nat, g < 64 → bits BinOp.and IntKind.i64 ((g : Int) / 2) 15 = ((g / 2 % 16 : Nat) : Int) := by decide +kernel

theorem hex_lit (L : ByteArray) (x : Nat) (hx : x < L.size) (hL : L.data.toList = boxD) (hx5 : x < 512) (w : World) :
    Calls Tryd.prog 42 #[.int .u8 (L[x].toNat : Int)] w fun e w' => ∃ d : Nat, e = .returned (.int .u8 d) ∧ d < 16 ∧ (d : Int) < 16 ∧ Hid (d = hexN (boxD.getD x 0).toNat) ∧ w' = w := by
  have h := boxD_hex x hx5
  have e1 : L[x] = boxD.getD x 0 := by
    rw [← hL]
    have hl : x < L.data.toList.length := by simpa using hx
    rw [List.getD_eq_getElem?_getD, List.getElem?_eq_getElem hl]
    rfl
  rw [e1]
  refine (hexValue_any (boxD.getD x 0).toNat w (UInt8.toNat_lt _)).mono ?_
  rintro e w' ⟨rfl, rfl⟩
  exact ⟨_, rfl, h, by omega, rfl, rfl⟩

theorem spread_cell {w : World} {S t k d : Nat} (h : Blk w S t (spreadCells k)) (hd : d < 16) : w.cell? ⟨S, d, none⟩ = some (.int .u32 (spreadN k d : Nat)) := by
  rw [h.cell d (by rw [spreadCells_length]; exact hd), spreadCells_get k d hd]
  rfl

end Go.Proofs.YtoajfbkblpaejaaDoor

/-
  impl: newRound and the round.
-/
namespace Go.Proofs.YtoajfbkblpaejaaDoor
open Go.RowKit

/-- The group of six bits that goes into box k. -/
def groupN (half key k : Nat) : Nat := (rotN half (4 * k + 5) ^^^ key / 2 ^ (42 - 6 * k) % 4294967296) % 64
/-- What the boxes before k add. -/
def mixN (half key : Nat) : Nat → Nat
  | 0 => 0
  | k + 1 => mixN half key k ||| mergedN k (groupN half key k)

theorem mixN_lt (half key k : Nat) : mixN half key k < 4294967296 := by
  induction k with
  | zero => simp [mixN]
  | succ k ih => exact Nat.or_lt_two_pow (n := 32) ih (spreadN_lt _ _)

theorem rotN_lt (x k : Nat) (hx : x < 4294967296) : rotN x k < 4294967296 := by
  unfold rotN
  have hd : x / 2 ^ (32 - k % 32) ≤ x := Nat.div_le_self _ _
  exact Nat.or_lt_two_pow (n := 32) (by omega) (by omega)

theorem merged_cell {w : World} {S t k g : Nat} (h : Blk w S t mergedCells) (hk : k < 8) (hg : g < 64) : w.cell? ⟨S, k * 64 + g, none⟩ = some (.int .u32 (mergedN k g : Nat)) := by
  rw [h.cell (k * 64 + g) (by rw [mergedCells_length]; omega)]
  have : mergedCells[k * 64 + g]'(by rw [mergedCells_length]; omega) = mergedCell (k * 64 + g) := by simp [mergedCells]
  rw [this]
  unfold mergedCell word32
  rw [show (k * 64 + g) / 64 = k from by omega, show (k * 64 + g) % 64 = g from by omega]

theorem drewN_add (w : World) (a b : Nat) : (w.drewN a).drewN b = w.drewN (a + b) := by
  simp [World.drewN, Nat.add_assoc]

end Go.Proofs.YtoajfbkblpaejaaDoor

/-
  impl: the round keys.
-/
namespace Go.Proofs.YtoajfbkblpaejaaDoor
open Go.RowKit

def pc1Tab : List UInt8 := [57, 49, 41, 33, 25, 17, 9, 1, 58, 50, 42, 34, 26, 18, 10, 2, 59, 51, 43, 35, 27, 19, 11, 3, 60, 52, 44, 36,
  63, 55, 47, 39, 31, 23, 15, 7, 62, 54, 46, 38, 30, 22, 14, 6, 61, 53, 45, 37, 29, 21, 13, 5, 28, 20, 12, 4]
def pc2Tab : List UInt8 := [14, 17, 11, 24, 1, 5, 3, 28, 15, 6, 21, 10, 23, 19, 12, 4, 26, 8, 16, 7, 27, 20, 13, 2,
  41, 52, 31, 37, 47, 55, 30, 40, 51, 45, 33, 48, 44, 49, 39, 56, 34, 53, 46, 42, 50, 36, 29, 32]
def turnsTab : List Nat := [1, 1, 2, 2, 2, 2, 2, 2, 1, 2, 2, 2, 2, 2, 2, 1]
theorem pc1_cells : (pc1Tab.map byte).length = 56 := rfl
theorem pc2_cells : (pc2Tab.map byte).length = 48 := rfl
theorem pc1_in : ∀ t ∈ pc1Tab, 1 ≤ t.toNat ∧ t.toNat ≤ 64 := by decide
theorem pc2_in : ∀ t ∈ pc2Tab, 1 ≤ t.toNat ∧ t.toNat ≤ 56 := by decide
def turnCells : List Value := turnsTab.map fun (n : Nat) => Value.int .u64 (n : Int)
theorem turnCells_length : turnCells.length = 16 := rfl
theorem turns_in : ∀ k, k < 16 → 1 ≤ turnsTab.getD k 0 ∧ turnsTab.getD k 0 ≤ 2 := by decide
theorem turnCells_get (k : Nat) (h : k < 16) : turnCells.toArray[k]? = some (.int .u64 (turnsTab.getD k 0 : Nat)) := by
  have : k < turnsTab.length := h
  simp [turnCells, this]
theorem allOne_turns : turnCells.toArray.all (·.oneCell') = true := allOne_map _ (fun _ => rfl) _

/-- A half of the key behind k turns. -/
def halfN (h : Nat) : Nat → Nat
  | 0 => h
  | k + 1 => turnN (halfN h k) (turnsTab.getD k 0)
theorem halfN_lt (h k : Nat) (hh : h < 268435456) (hk : k ≤ 16) : halfN h k < 268435456 := by
  induction k with
  | zero => exact hh
  | succ k ih => exact turnN_lt _ _ (ih (by omega)) (turns_in k (by omega)).1 (turns_in k (by omega)).2

def bothN (key : List UInt8) : Nat := takeN (wordN key) 64 pc1Tab
theorem bothN_lt (key : List UInt8) : bothN key < 72057594037927936 := takeN_lt _ _ pc1Tab
def keyN (key : List UInt8) (k : Nat) : Nat := takeN (halfN (bothN key / 268435456) (k + 1) * 268435456 + halfN (bothN key % 268435456) (k + 1)) 56 pc2Tab
theorem keyN_lt (key : List UInt8) (k : Nat) : keyN key k < 281474976710656 := takeN_lt _ _ pc2Tab
def keyCell (key : List UInt8) (k : Nat) : Value := .int .u64 (keyN key k : Nat)
def keyCells (key : List UInt8) : List Value := (List.range 16).map (keyCell key)
theorem keyCells_length (key : List UInt8) : (keyCells key).length = 16 := by simp [keyCells]
/-- The round keys as numbers. -/
def keyNums (key : List UInt8) : List Nat := (List.range 16).map (keyN key)
theorem keyNums_length (key : List UInt8) : (keyNums key).length = 16 := by simp [keyNums]
theorem keyNums_lt (key : List UInt8) : ∀ x ∈ keyNums key, x < 18446744073709551616 := by
  intro x hx
  simp only [keyNums, List.mem_map, List.mem_range] at hx
  obtain ⟨k, -, rfl⟩ := hx
  have := keyN_lt key k
  omega
def word64 (n : Nat) : Value := .int .u64 (n : Int)
theorem keyCells_nums (key : List UInt8) : keyCells key = (keyNums key).map word64 := by
  simp [keyCells, keyNums, keyCell, word64, Function.comp_def]
theorem allOne_keys (key : List UInt8) : (keyCells key).toArray.all (·.oneCell') = true := allOne_map _ (fun _ => rfl) _

theorem eight (bs : List UInt8) (h : bs.length = 8) : ∃ b0 b1 b2 b3 b4 b5 b6 b7, bs = [b0, b1, b2, b3, b4, b5, b6, b7] := by
  match bs, h with
  | [b0, b1, b2, b3, b4, b5, b6, b7], _ => exact ⟨b0, b1, b2, b3, b4, b5, b6, b7, rfl⟩

end Go.Proofs.YtoajfbkblpaejaaDoor

/-
  impl: a Des cipher and its run.
-/
namespace Go.Proofs.YtoajfbkblpaejaaDoor
open Go.RowKit

def zeroCipher : List Value := zerosOf 16 .u64 ++ [.nilFunc]
theorem zeroCipher_length : zeroCipher.length = 17 := rfl
theorem Tryd.zero46 : (Tryd.prog.info? 46).map (fun i => (i.zero, i.size)) = some (some (.agg (zerosOf 8 .u8).toArray), 8) := by kernel_rfl

/-- The halves behind k rounds. -/
def feisN (ks : List Nat) (L R : Nat) : Nat → Nat × Nat
  | 0 => (L, R)
  | k + 1 => ((feisN ks L R k).2, (feisN ks L R k).1 ^^^ mixN (feisN ks L R k).2 (ks.getD k 0) 8)
theorem feisN_lt (ks : List Nat) (L R : Nat) (hL : L < 4294967296) (hR : R < 4294967296) (k : Nat) : (feisN ks L R k).1 < 4294967296 ∧ (feisN ks L R k).2 < 4294967296 := by
  induction k with
  | zero => exact ⟨hL, hR⟩
  | succ k ih => exact ⟨ih.2, Nat.xor_lt_two_pow (n := 32) ih.1 (mixN_lt _ _ _)⟩

def startN (block : List UInt8) : Nat := takeN (wordN block) 64 ipTab
def endN (L R : Nat) : List UInt8 := blockN (putN (R * 4294967296 + L) 64 ipTab 64)
/-- What a run makes of a block. -/
def runN (ks : List Nat) (block : List UInt8) : List UInt8 :=
  endN (feisN ks (startN block / 4294967296) (startN block % 4294967296) 16).1 (feisN ks (startN block / 4294967296) (startN block % 4294967296) 16).2
theorem startN_lt (block : List UInt8) : startN block < 18446744073709551616 := takeN_lt _ _ ipTab
theorem ip_in : ∀ t ∈ ipTab, 1 ≤ t.toNat ∧ t.toNat ≤ 64 := by decide
theorem runN_length (ks : List Nat) (block : List UInt8) : (runN ks block).length = 8 := blockN_length _

end Go.Proofs.YtoajfbkblpaejaaDoor
