/-
  Texts laid together: AesKeys, AesCells, AesNew.
-/
import Derived.Test.YtoajfbkblpaejaaDoorGrH
import Derived.Test.YtoajfbkblpaejaaDoorGrI
import Derived.Deep.MidRow
import Derived.Deep.RegionHeld3
import Derived.Test.YtoajfbkblpaejaaDoorGrG
/-
  impl: aesKeys.
-/
namespace Go.Proofs.YtoajfbkblpaejaaDoor
open Go.RowKit

def ksC (key : List UInt8) (j : Nat) : Value := byte ((keyR key (j / 16)).getD (j % 16) 0)
theorem keysUpto_get (key : List UInt8) (h : key.length = 16) (n j : Nat) (hj : j < 16 * n) : (keysUpto key n)[j]? = some ((keyR key (j / 16)).getD (j % 16) 0) := by
  induction n with
  | zero => omega
  | succ n ih =>
    show (keysUpto key n ++ keyR key n)[j]? = _
    have hl := keysUpto_length key h n
    have hk := keyR_length key h n
    by_cases e : j < 16 * n
    · rw [List.getElem?_append_left (by omega), ih e]
    · rw [List.getElem?_append_right (by omega), hl, show j / 16 = n from by omega, show j - 16 * n = j % 16 from by omega]
      have : j % 16 < (keyR key n).length := by omega
      simp [this]
theorem ksC_all (key : List UInt8) (h : key.length = 16) : (List.range 176).map (ksC key) = (keysUpto key 11).map byte := by
  apply List.ext_getElem?
  intro j
  have hl := keysUpto_length key h 11
  by_cases hj : j < 176
  · rw [List.getElem?_map, List.getElem?_map, List.getElem?_range hj, keysUpto_get key h 11 j (by omega)]
    rfl
  · rw [List.getElem?_eq_none (by simp; omega), List.getElem?_eq_none (by simp; omega)]
theorem ks_range {w : World} {g t n : Nat} {key : List UInt8} {z : Value} (hk : key.length = 16) (h : Blk w g t (upTo (ksC key) z 176 n)) (j : Nat) (hj : 16 * (j + 1) ≤ n) (hn : n ≤ 176) : w.rangeAt g (j * 16) ((keyR key j).map byte) := by
  intro i v hv
  have hl := keyR_length key hk j
  have hi : i < 16 := by have := (List.getElem?_eq_some_iff.1 hv).1; simpa [hl] using this
  rw [upTo_cell h (j * 16 + i) (by omega) hn, ← hv]
  unfold ksC
  rw [show (j * 16 + i) / 16 = j from by omega, show (j * 16 + i) % 16 = i from by omega]
  have : i < (keyR key j).length := by omega
  simp [this]
theorem set_getD (l : List UInt8) (k : Nat) (v : UInt8) (h : k < l.length) : (l.set k v).getD k 0 = v := by
  rw [List.getD_eq_getElem?_getD, List.getElem?_set_self h]; rfl
theorem hid_of' {p : Prop} (h : p) : Hid p := h
/-- Cells written one behind the other. -/
def setL (cs : List Value) : Nat → List Value → List Value
  | _, [] => cs
  | o, v :: r => setL (cs.set o v) (o + 1) r
theorem setL_length (vs : List Value) : ∀ (cs : List Value) (o : Nat), (setL cs o vs).length = cs.length := by
  induction vs with
  | nil => intro cs o; rfl
  | cons v r ih => intro cs o; show (setL (cs.set o v) (o + 1) r).length = _; rw [ih, List.length_set]
theorem setL_get (vs : List Value) : ∀ (cs : List Value) (o i : Nat), o + vs.length ≤ cs.length → (setL cs o vs)[i]? = if o ≤ i ∧ i < o + vs.length then vs[i - o]? else cs[i]? := by
  induction vs with
  | nil => intro cs o i _; rw [if_neg (by simp only [List.length_nil]; omega)]; rfl
  | cons v r ih =>
    intro cs o i hl
    simp only [List.length_cons] at hl ⊢
    show (setL (cs.set o v) (o + 1) r)[i]? = _
    rw [ih (cs.set o v) (o + 1) i (by rw [List.length_set]; omega)]
    by_cases h1 : i = o
    · subst h1
      rw [if_neg (by omega), if_pos (by omega), Nat.sub_self, List.getElem?_set_self (by omega)]
      rfl
    · by_cases h2 : o + 1 ≤ i ∧ i < o + 1 + r.length
      · rw [if_pos h2, if_pos (by omega), show i - o = i - (o + 1) + 1 from by omega, List.getElem?_cons_succ]
      · rw [if_neg h2, if_neg (by omega), List.getElem?_set_ne (by omega)]
theorem setCells_blk (vs : List Value) : ∀ {w : World} {g t : Nat} (cs : List Value) (o : Nat), Blk w g t cs → Blk (w.setCells g o vs) g t (setL cs o vs) ∧ w.grownBy (w.setCells g o vs) (some g) ∧ (w.setCells g o vs).heap.size = w.heap.size := by
  induction vs with
  | nil => intro w g t cs o h; exact ⟨h, ⟨rfl, rfl, rfl, Nat.le_refl _, fun _ _ _ => rfl⟩, rfl⟩
  | cons v r ih =>
    intro w g t cs o h
    obtain ⟨h1, h2, h3⟩ := ih (cs.set o v) (o + 1) (h.set o v)
    have hg : w.grownBy (w.setCell ⟨g, o, none⟩ v) (some g) := ⟨rfl, rfl, rfl, by simp, fun k _ hk => heap_setCell_other w _ k v (fun e => hk (by rw [e]))⟩
    exact ⟨h1, grown_trans hg h2, h3.trans (by simp)⟩
theorem store_mid {P : Program} {ops : Array Oper} {rest : List Oper} {o : Oper} {a : Act} {w : World} {Q : Exit → Act → World → Prop} (hgd : o.guard = none) (ty : Nat) (x y : Operand) (ho : o.op = .store ty x y)
    (g off : Nat) (hx : a.eval x = .pointer (some ⟨g, off, none⟩)) {t : Nat} {old cs : List Value} (hy : a.eval y = .agg cs.toArray) (hb : Blk w g t old) (hl : off + cs.length ≤ old.length) (hi : (P.info? ty).map (·.size) = some cs.length) (h1 : cs.toArray.all (·.oneCell') = true)
    (h : ∀ w', Blk w' g t (setL old off cs) → w.grownBy w' (some g) → w'.heap.size = w.heap.size → wpList P ops Q rest (a.put o.dst undef) w') : wpList P ops Q (o :: rest) a w := by
  refine wpList_store_mid hgd ty x y ho g off cs.toArray hx hy ?_ (by simpa using hi) h1 ?_
  · intro j hj
    have hj' : j < cs.length := by simpa using hj
    exact ⟨by rw [hb.cell (off + j) (by omega)]; rfl, hb.free _⟩
  · obtain ⟨k1, k2, k3⟩ := setCells_blk cs old off hb
    exact h _ k1 k2 k3
theorem ks_start (key : List UInt8) (hk : key.length = 16) : setL (zerosOf 176 .u8) 0 (key.map byte) = upTo (ksC key) (.int .u8 0) 176 16 := by
  apply List.ext_getElem?
  intro i
  rw [setL_get _ _ _ _ (by rw [zerosOf_length, List.length_map, hk]; omega), List.length_map, hk]
  by_cases h1 : i < 16
  · rw [if_pos ⟨by omega, by omega⟩]
    have hi : i < key.length := by omega
    unfold upTo
    rw [List.getElem?_map, List.getElem?_map, List.getElem?_range (by omega), Nat.sub_zero, List.getElem?_eq_getElem hi]
    show some (byte key[i]) = some (if i < 16 then ksC key i else _)
    rw [if_pos h1]
    unfold ksC
    rw [show i / 16 = 0 from by omega, show i % 16 = i from by omega]
    show _ = some (byte (key.getD i 0))
    simp [hi]
  · rw [if_neg (by omega)]
    unfold upTo zerosOf
    by_cases h2 : i < 176
    · rw [List.getElem?_map, List.getElem?_range h2, List.getElem?_replicate, if_pos h2]
      show _ = some (if i < 16 then ksC key i else _)
      rw [if_neg h1]
    · rw [List.getElem?_eq_none (by rw [List.length_replicate]; omega), List.getElem?_eq_none (by rw [List.length_map, List.length_range]; omega)]
theorem ks_next (key : List UInt8) (r i : Nat) (hr : 1 ≤ r) (hi : i < 16) : ksC key (16 * r + i) = byte ((wordAt (powB (r - 1)) (keyR key (r - 1)) (i + 1)).getD (i % 4) 0) := by
  unfold ksC
  rw [show (16 * r + i) / 16 = r from by omega, show (16 * r + i) % 16 = i from by omega]
  obtain ⟨q, rfl⟩ : ∃ q, r = q + 1 := ⟨r - 1, by omega⟩
  rw [show q + 1 - 1 = q from rfl]
  show byte ((nextK (powB q) (keyR key q)).getD i 0) = _
  unfold nextK
  simp [hi]
end Go.Proofs.YtoajfbkblpaejaaDoor

/-
  impl: the cells of an aesCipher.
-/
namespace Go.Proofs.YtoajfbkblpaejaaDoor
open Go.RowKit

def zeroAes : List Value := zerosOf 176 .u8 ++ [.nilFunc, .nilFunc, .nilFunc, .nilFunc]
theorem zeroAes_length : zeroAes.length = 180 := by unfold zeroAes; rw [List.length_append, zerosOf_length]; rfl
/-- Where the fields lie. -/
def aesPlaces : Array (Nat × Nat) := #[(0, 176), (176, 1), (177, 1), (178, 1), (179, 1)]
theorem fill_aes (a cells : List Value) (f1 f2 f3 f4 : Value) (h1 : f1.cells = #[f1]) (h2 : f2.cells = #[f2]) (h3 : f3.cells = #[f3]) (h4 : f4.cells = #[f4]) (ha : a.length = 176) (hc : cells.length = 180) :
    Instr.fill (fun i => aesPlaces[i]?) cells.toArray [(0, .agg a.toArray), (1, f1), (2, f2), (3, f3), (4, f4)] = some (a ++ [f1, f2, f3, f4]).toArray := by
  have e1 := fold_whole a 0 cells.toArray (by simp; omega)
  simp only [Nat.zero_add, List.take_zero, List.nil_append, ha] at e1
  have hd : (cells.drop 176).length = 4 := by rw [List.length_drop]; omega
  obtain ⟨z0, z1, z2, z3, hz⟩ : ∃ z0 z1 z2 z3, cells.drop 176 = [z0, z1, z2, z3] := by
    match cells.drop 176, hd with
    | [z0, z1, z2, z3], _ => exact ⟨z0, z1, z2, z3, rfl⟩
  rw [hz] at e1
  have p0 : aesPlaces[0]? = some (0, 176) := rfl
  have p1 : aesPlaces[1]? = some (176, 1) := rfl
  have p2 : aesPlaces[2]? = some (177, 1) := rfl
  have p3 : aesPlaces[3]? = some (178, 1) := rfl
  have p4 : aesPlaces[4]? = some (179, 1) := rfl
  have st : ∀ (k : Nat) (x : Value) (l : List Value), ((#[x] : Array Value).zipIdx.foldl (fun (cs : Array Value) (c : Value × Nat) => cs.setIfInBounds (k + c.2) c.1) l.toArray) = (l.set k x).toArray := by
    intro k x l; simp
  have s1 : (a ++ [z0, z1, z2, z3]).set 176 f1 = a ++ [f1, z1, z2, z3] := by rw [List.set_append_right _ _ (by omega), ha]; rfl
  have s2 : (a ++ [f1, z1, z2, z3]).set 177 f2 = a ++ [f1, f2, z2, z3] := by rw [List.set_append_right _ _ (by omega), ha]; rfl
  have s3 : (a ++ [f1, f2, z2, z3]).set 178 f3 = a ++ [f1, f2, f3, z3] := by rw [List.set_append_right _ _ (by omega), ha]; rfl
  have s4 : (a ++ [f1, f2, f3, z3]).set 179 f4 = a ++ [f1, f2, f3, f4] := by rw [List.set_append_right _ _ (by omega), ha]; rfl
  have e0 : ((Value.agg a.toArray).cells.zipIdx.foldl (fun (cs : Array Value) (c : Value × Nat) => cs.setIfInBounds (0 + c.2) c.1) cells.toArray) = (a ++ [z0, z1, z2, z3]).toArray := by
    show (a.toArray.zipIdx.foldl _ cells.toArray) = _
    rw [← Array.foldl_toList, Array.toList_zipIdx]
    simpa using e1
  have ca : (Value.agg a.toArray).cells.size = 176 := by show a.toArray.size = 176; simpa using ha
  simp only [Instr.fill, p0, p1, p2, p3, p4]
  rw [if_neg (by rw [ca]; simp; omega), e0]
  rw [h1, h2, h3, h4]
  rw [if_neg (by simp [ha]), st, s1, if_neg (by simp [ha]), st, s2, if_neg (by simp [ha]), st, s3, if_neg (by simp [ha]), st, s4]
end Go.Proofs.YtoajfbkblpaejaaDoor

/-
  impl: newAes.
-/
namespace Go.Proofs.YtoajfbkblpaejaaDoor
open Go.RowKit

theorem wp_build_to {P : Program} {op : Oper} {a : Act} {w : World} {K : Act → World → Prop} {Q : Exit → Act → World → Prop} (d : Option Tmp) (hd : op.dst = d) (t : TypeId) (parts : Array (Nat × Operand)) (ho : op.op = .build t parts) (cs : List Value)
    (hf : P.built t (parts.map fun (i, x) => (i, a.eval x)).toList = some cs.toArray) (h : K (a.put d (.agg cs.toArray)) w) : op.wp P a w K Q := by
  subst hd
  exact wp_build t parts ho (by rw [hf]; rfl) (by rw [hf]; exact h)

end Go.Proofs.YtoajfbkblpaejaaDoor
