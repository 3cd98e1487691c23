/-
  Texts laid together: CmacRow, CmacBlocks, CmacImpl, CmacEq.
-/
import Derived.Test.YtoajfbkblpaejaaDoorGrN
/-
  A row of blocks of sixteen that the call owns: a block of it written.
-/
namespace Go.Proofs.YtoajfbkblpaejaaDoor
open Go.RowKit

theorem flat_get (bl : List (List UInt8)) (h16 : ∀ b ∈ bl, b.length = 16) : ∀ i, i < bl.length * 16 → bl.flatten[i]? = some ((bl.getD (i / 16) []).getD (i % 16) 0) := by
  induction bl with
  | nil => intro i hi; simp at hi
  | cons b l ih =>
    intro i hi
    have hb : b.length = 16 := h16 b (by simp)
    rw [List.flatten_cons]
    by_cases h : i < 16
    · rw [List.getElem?_append_left (by omega), show i / 16 = 0 from by omega, show i % 16 = i from by omega]
      have : i < b.length := by omega
      simp [this]
    · rw [List.getElem?_append_right (by omega), hb, ih (fun c hc => h16 c (by simp [hc])) (i - 16) (by simp at hi; omega)]
      rw [show i / 16 = (i - 16) / 16 + 1 from by omega, show (i - 16) % 16 = i % 16 from by omega]
      rfl
theorem flat_len (bl : List (List UInt8)) (h16 : ∀ b ∈ bl, b.length = 16) : bl.flatten.length = bl.length * 16 := by
  induction bl with
  | nil => rfl
  | cons b l ih => rw [List.flatten_cons, List.length_append, ih (fun c hc => h16 c (by simp [hc])), h16 b (by simp), List.length_cons]; omega

theorem map_get (X : List UInt8) (j : Nat) (h : j < X.length) : (X.map byte)[j]? = some (byte (X.getD j 0)) := by simp [h]
theorem flat_at (bl : List (List UInt8)) (h16 : ∀ b ∈ bl, b.length = 16) (i : Nat) (hi : i < bl.length * 16) : (bl.flatten.map byte)[i]? = some (byte ((bl.getD (i / 16) []).getD (i % 16) 0)) := by
  rw [List.getElem?_map, flat_get bl h16 i hi]; rfl

/-- What is known of the block that a row of blocks lies in. -/
structure RowQ (w : World) (base g cap : Nat) (cur : List Value) (bl : List (List UInt8)) : Prop where
  low : base ≤ g
  blk : Blk w g 125 cur
  len : bl.length ≤ cap
  max : cap ≤ maxLen
  size : cur.length = cap * 16
  row : cur.take (bl.length * 16) = bl.flatten.map byte
theorem OwnKQ.split {w : World} {base : Nat} {v : Value} {bl : List (List UInt8)} (h : OwnKQ w base v bl) (h0 : 0 < bl.length) : ∃ g cap cur, v = .slice (some ⟨g, 0, none⟩) bl.length cap ∧ RowQ w base g cap cur bl := by
  rcases h.2 with ⟨-, hn⟩ | ⟨g, cap, cur, hv, hb, hh, hn, hm, hs, ht⟩
  · omega
  · exact ⟨g, cap, cur.toList, hv, hb, hh, hn, hm, by simpa using hs, ht⟩
theorem RowQ.own {w : World} {base g cap : Nat} {cur : List Value} {bl : List (List UInt8)} (h : RowQ w base g cap cur bl) (h16 : ∀ b ∈ bl, b.length = 16) : OwnKQ w base (.slice (some ⟨g, 0, none⟩) bl.length cap) bl :=
  ⟨by rw [List.length_map, flat_len bl h16], .inr ⟨g, cap, cur.toArray, rfl, h.low, h.blk, h.len, h.max, by simpa using h.size, h.row⟩⟩
theorem set_mem16 {bl : List (List UInt8)} (h16 : ∀ b ∈ bl, b.length = 16) (k : Nat) (Y : List UInt8) (hY : Y.length = 16) : ∀ b ∈ bl.set k Y, b.length = 16 := by
  intro b hb
  rcases List.mem_or_eq_of_mem_set hb with h | h
  · exact h16 b h
  · rw [h, hY]
theorem RowQ.range {w : World} {base g cap : Nat} {cur : List Value} {bl : List (List UInt8)} (h : RowQ w base g cap cur bl) (h16 : ∀ b ∈ bl, b.length = 16) (k : Nat) (hk : k < bl.length) : w.rangeAt g (k * 16) ((bl.getD k []).map byte) := by
  intro j v hv
  have hl : (bl.getD k []).length = 16 := by
    rw [show bl.getD k [] = bl[k] from by simp [hk]]
    exact h16 _ (List.getElem_mem _)
  have hj : j < 16 := by have := (List.getElem?_eq_some_iff.1 hv).1; rw [List.length_map, hl] at this; exact this
  have hsz := h.size
  have hn := h.len
  have hi : k * 16 + j < bl.length * 16 := by omega
  have e : cur[k * 16 + j]? = some v := by
    have e1 : (cur.take (bl.length * 16))[k * 16 + j]? = cur[k * 16 + j]? := List.getElem?_take_of_lt hi
    rw [← e1, h.row, flat_at bl h16 _ hi, ← hv, show (k * 16 + j) / 16 = k from by omega, show (k * 16 + j) % 16 = j from by omega, map_get _ j (by omega)]
  rw [h.blk.cell (k * 16 + j) (by omega), ← List.getElem?_eq_getElem, e]
theorem RowQ.put {w w' : World} {base g cap : Nat} {cur cur' : List Value} {bl : List (List UInt8)} (h : RowQ w base g cap cur bl) (h16 : ∀ b ∈ bl, b.length = 16) (k : Nat) (hk : k < bl.length) (Y : List UInt8) (hY : Y.length = 16) (hb : Blk w' g 125 cur') (hl : cur'.length = cur.length)
    (hc : ∀ i, cur'[i]? = if k * 16 ≤ i ∧ i < k * 16 + 16 then (Y.map byte)[i - k * 16]? else cur[i]?) : RowQ w' base g cap cur' (bl.set k Y) := by
  refine ⟨h.low, hb, by rw [List.length_set]; exact h.len, h.max, by rw [hl]; exact h.size, ?_⟩
  rw [List.length_set]
  apply List.ext_getElem?
  intro i
  have hfl := flat_len (bl.set k Y) (set_mem16 h16 k Y hY)
  rw [List.length_set] at hfl
  by_cases hi : i < bl.length * 16
  · rw [List.getElem?_take_of_lt hi, hc, flat_at _ (set_mem16 h16 k Y hY) i (by rw [List.length_set]; exact hi)]
    by_cases hr : k * 16 ≤ i ∧ i < k * 16 + 16
    · rw [if_pos hr, show i / 16 = k from by omega, show i - k * 16 = i % 16 from by omega]
      have e3 : (bl.set k Y).getD k [] = Y := by rw [List.getD_eq_getElem?_getD, List.getElem?_set_self hk]; rfl
      rw [e3, map_get Y _ (by omega)]
    · rw [if_neg hr]
      have e1 : (cur.take (bl.length * 16))[i]? = cur[i]? := List.getElem?_take_of_lt hi
      rw [← e1, h.row, flat_at bl h16 i hi]
      have hne : ¬ k = i / 16 := by omega
      have e2 : (bl.set k Y).getD (i / 16) [] = bl.getD (i / 16) [] := by
        rw [List.getD_eq_getElem?_getD, List.getD_eq_getElem?_getD, List.getElem?_set_ne hne]
      rw [e2]
  · rw [List.getElem?_eq_none (by rw [List.length_take]; omega), List.getElem?_eq_none (by rw [List.length_map, hfl]; omega)]
theorem RowQ.below {w w' : World} {base g cap : Nat} {cur : List Value} {bl : List (List UInt8)} (h : RowQ w base g cap cur bl) (hb : Below w.heap.size w w') : RowQ w' base g cap cur bl := ⟨h.low, h.blk.below hb h.blk.lt, h.len, h.max, h.size, h.row⟩
/-- A block written whole. -/
theorem RowQ.whole {w w' : World} {base g cap : Nat} {cur : List Value} {bl : List (List UInt8)} (h : RowQ w base g cap cur bl) (h16 : ∀ b ∈ bl, b.length = 16) (k : Nat) (hk : k < bl.length) (Y : List UInt8) (hY : Y.length = 16) (hb : Blk w' g 125 (setL cur (k * 16) (Y.map byte))) : RowQ w' base g cap (setL cur (k * 16) (Y.map byte)) (bl.set k Y) := by
  have hsz := h.size
  have hn := h.len
  refine h.put h16 k hk Y hY hb (setL_length _ _ _) ?_
  intro i
  rw [setL_get _ _ _ _ (by rw [List.length_map, hY]; omega), List.length_map, hY]
/-- One byte of a block written. -/
theorem RowQ.one {w w' : World} {base g cap : Nat} {cur : List Value} {bl : List (List UInt8)} (h : RowQ w base g cap cur bl) (h16 : ∀ b ∈ bl, b.length = 16) (k : Nat) (hk : k < bl.length) (r : Nat) (hr : r < 16) (x : UInt8) (hb : Blk w' g 125 (cur.set (k * 16 + r) (byte x))) : RowQ w' base g cap (cur.set (k * 16 + r) (byte x)) (bl.set k ((bl.getD k []).set r x)) := by
  have hsz := h.size
  have hn := h.len
  have hl : (bl.getD k []).length = 16 := by
    rw [show bl.getD k [] = bl[k] from by simp [hk]]
    exact h16 _ (List.getElem_mem _)
  refine h.put h16 k hk _ (by rw [List.length_set, hl]) hb (by rw [List.length_set]) ?_
  intro i
  by_cases hri : k * 16 ≤ i ∧ i < k * 16 + 16
  · rw [if_pos hri, List.map_set]
    by_cases e : k * 16 + r = i
    · subst e
      rw [List.getElem?_set_self (by omega), show k * 16 + r - k * 16 = r from by omega, List.getElem?_set_self (by rw [List.length_map]; omega)]
    · rw [List.getElem?_set_ne e, List.getElem?_set_ne (by omega)]
      have hi : i < bl.length * 16 := by omega
      have e1 : (cur.take (bl.length * 16))[i]? = cur[i]? := List.getElem?_take_of_lt hi
      rw [← e1, h.row, flat_at bl h16 i hi, show i / 16 = k from by omega, show i - k * 16 = i % 16 from by omega, map_get _ _ (by omega)]
  · rw [if_neg hri, List.getElem?_set_ne (by omega)]
end Go.Proofs.YtoajfbkblpaejaaDoor

/-
  impl.cmacBlocks.
-/
namespace Go.Proofs.YtoajfbkblpaejaaDoor
open Go.RowKit

theorem there_blk {w : World} {g t o n : Nat} {cs : List Value} (h : Blk w g t cs) (hl : o + n ≤ cs.length) : w.there g o n := by
  intro j hj
  exact ⟨by rw [h.cell (o + j) (by omega)]; rfl, h.free _⟩

/-- The blocks of a CMAC. -/
def lastQ (data : List UInt8) : List UInt8 := (macBlocksQ data).getD ((macBlocksQ data).length - 1) []
def cmacB (data whole : List UInt8) : List (List UInt8) :=
  if data.length % 16 = 0 ∧ 0 < data.length then (macBlocksQ data).set ((macBlocksQ data).length - 1) (xorL (lastQ data) whole)
  else (macBlocksQ data).set ((macBlocksQ data).length - 1) (xorL ((lastQ data).set (data.length % 16) 128) (dblL whole))

end Go.Proofs.YtoajfbkblpaejaaDoor

/-
  impl.Cmac.
-/
namespace Go.Proofs.YtoajfbkblpaejaaDoor
open Go.RowKit

def cmacK (key : List UInt8) : List UInt8 := dblL (encL (keyR key) (zeros8 16))
def cmacN (key data : List UInt8) : List UInt8 := befLQ (encL (keyR key)) (zeros8 16) (cmacB data (cmacK key)) (cmacB data (cmacK key)).length
theorem z16_length : (zeros8 16).length = 16 := by simp [zeros8]
theorem lastQ_length (data : List UInt8) : (lastQ data).length = 16 := by
  have hp := macBlocks_posQ data
  unfold lastQ
  rw [show (macBlocksQ data).getD ((macBlocksQ data).length - 1) [] = (macBlocksQ data)[(macBlocksQ data).length - 1] from by simp [show (macBlocksQ data).length - 1 < (macBlocksQ data).length from by omega]]
  exact macBlocks_eightQ data _ (List.getElem_mem _)
theorem cmacB_sixteen (data whole : List UInt8) (hw : whole.length = 16) : ∀ b ∈ cmacB data whole, b.length = 16 := by
  unfold cmacB
  split
  · exact set_mem16 (macBlocks_eightQ data) _ _ (xor16_let _ _ (lastQ_length data) hw)
  · exact set_mem16 (macBlocks_eightQ data) _ _ (xor16_let _ _ (by rw [List.length_set]; exact lastQ_length data) (dblL_length _))
theorem cmacB_length (data whole : List UInt8) : (cmacB data whole).length = (macBlocksQ data).length := by
  unfold cmacB
  split <;> rw [List.length_set]
theorem cmacN_length (key data : List UInt8) (hk : key.length = 16) : (cmacN key data).length = 16 := by
  unfold cmacN
  exact befL_lengthQ _ (fun x => encL_length _ x (keyR_length key hk)) _ z16_length _ _

end Go.Proofs.YtoajfbkblpaejaaDoor

/-
  The blocks of a CMAC, as the model fills them up.
-/
namespace Go.Proofs.YtoajfbkblpaejaaDoor
open Go.RowKit

def wholeQ (data : List UInt8) : Prop := data.length % 16 = 0 ∧ 0 < data.length
instance (data : List UInt8) : Decidable (wholeQ data) := inferInstanceAs (Decidable (_ ∧ _))
/-- The data filled up. -/
def fillQ (data : List UInt8) : List UInt8 := if wholeQ data then data else data ++ [128] ++ zeros8 (15 - data.length % 16)
theorem nB_len (data : List UInt8) : (macBlocksQ data).length = if wholeQ data then data.length / 16 else data.length / 16 + 1 := by
  have e : (macBlocksQ data).length = if (data.length + 15) / 16 = 0 then 1 else (data.length + 15) / 16 := by
    unfold macBlocksQ leastOneQ
    rw [chunks_lengthQ]
    unfold nBlocksQ
    split
    · rfl
    · rw [chunks_lengthQ]
  rw [e]
  by_cases h : wholeQ data
  · rw [if_pos h]
    unfold wholeQ at h
    rw [if_neg (by omega)]
    omega
  · rw [if_neg h]
    unfold wholeQ at h
    by_cases h0 : (data.length + 15) / 16 = 0
    · rw [if_pos h0]; omega
    · rw [if_neg h0]; omega
theorem fillQ_length (data : List UInt8) : (fillQ data).length = 16 * (macBlocksQ data).length := by
  rw [nB_len]
  unfold fillQ
  by_cases h : wholeQ data
  · rw [if_pos h, if_pos h]; unfold wholeQ at h; omega
  · rw [if_neg h, if_neg h, List.length_append, List.length_append, List.length_singleton]
    simp only [zeros8, List.length_replicate]
    omega
theorem block_at (data : List UInt8) (k : Nat) (hk : k < (macBlocksQ data).length) : (macBlocksQ data).getD k [] = pad8Q ((data.drop (16 * k)).take 16) := by
  unfold macBlocksQ leastOneQ at hk ⊢
  by_cases h0 : (chunksQ data (nBlocksQ data)).length = 0
  · rw [if_pos h0] at hk ⊢
    obtain rfl : k = 0 := by simpa using hk
    have hd : data = [] := by
      rw [chunks_lengthQ] at h0
      unfold nBlocksQ at h0
      exact List.length_eq_zero_iff.1 (by omega)
    subst hd
    rfl
  · rw [if_neg h0] at hk ⊢
    rw [chunks_lengthQ] at hk
    simp [chunksQ, chunkQ, hk]
theorem fill_at (data : List UInt8) (k : Nat) (hk : k + 1 < (macBlocksQ data).length) : ((fillQ data).drop (16 * k)).take 16 = (macBlocksQ data).getD k [] := by
  rw [block_at data k (by omega)]
  rw [nB_len] at hk
  have hl : 16 * k + 16 ≤ data.length := by split at hk <;> omega
  have e : ((fillQ data).drop (16 * k)).take 16 = (data.drop (16 * k)).take 16 := by
    unfold fillQ
    split
    · rfl
    · rw [List.append_assoc, List.drop_append_of_le_length (by omega), List.take_append_of_le_length (by rw [List.length_drop]; omega)]
  rw [e]
  unfold pad8Q
  rw [List.length_take, List.length_drop, show 16 - min 16 (data.length - 16 * k) = 0 from by omega]
  simp [zeros8]
/-- The last block, filled up. -/
theorem fill_last (data : List UInt8) : (fillQ data).drop (16 * ((macBlocksQ data).length - 1)) = if wholeQ data then lastQ data else (lastQ data).set (data.length % 16) 128 := by
  have hp := macBlocks_posQ data
  have hb := block_at data ((macBlocksQ data).length - 1) (by omega)
  unfold lastQ
  rw [hb]
  rw [nB_len] at hp ⊢
  unfold fillQ
  by_cases h : wholeQ data
  · rw [if_pos h] at hp ⊢
    rw [if_pos h, if_pos h]
    unfold wholeQ at h
    have hl : (data.drop (16 * (data.length / 16 - 1))).length = 16 := by rw [List.length_drop]; omega
    unfold pad8Q
    rw [List.take_of_length_le (by omega), hl]
    simp [zeros8]
  · rw [if_neg h] at hp ⊢
    rw [if_neg h, if_neg h, Nat.add_sub_cancel]
    have hl : (data.drop (16 * (data.length / 16))).length = data.length % 16 := by rw [List.length_drop]; omega
    rw [List.append_assoc, List.drop_append_of_le_length (by omega)]
    unfold pad8Q
    rw [List.take_of_length_le (by omega), hl, List.set_append_right _ _ (by omega), hl, Nat.sub_self]
    congr 1
    rw [show 16 - data.length % 16 = (15 - data.length % 16) + 1 from by omega]
    simp [zeros8, List.replicate_succ]
def maskQ (data K : List UInt8) : List UInt8 := if wholeQ data then K else dblL K
theorem maskQ_length (data K : List UInt8) (h : K.length = 16) : (maskQ data K).length = 16 := by
  unfold maskQ
  split
  · exact h
  · exact dblL_length _
/-- All blocks one behind the other, the last one masked. -/
def fullX (data K : List UInt8) : List UInt8 := (fillQ data).take (16 * ((macBlocksQ data).length - 1)) ++ xorL ((fillQ data).drop (16 * ((macBlocksQ data).length - 1))) (maskQ data K)
theorem fill_tail (data : List UInt8) : ((fillQ data).drop (16 * ((macBlocksQ data).length - 1))).length = 16 := by
  have := fillQ_length data
  have := macBlocks_posQ data
  rw [List.length_drop]
  omega
theorem fullX_length (data K : List UInt8) (h : K.length = 16) : (fullX data K).length = 16 * (macBlocksQ data).length := by
  have h1 := fillQ_length data
  have h2 := macBlocks_posQ data
  have h3 := fill_tail data
  unfold fullX
  rw [List.length_append, xorL_length _ _ (by rw [h3, maskQ_length data K h]), h3, List.length_take]
  omega
theorem full_at (data K : List UInt8) (h : K.length = 16) (k : Nat) (hk : k < (macBlocksQ data).length) : ((fullX data K).drop (16 * k)).take 16 = (cmacB data K).getD k [] := by
  have h1 := fillQ_length data
  have h3 := fill_tail data
  have hx : (xorL ((fillQ data).drop (16 * ((macBlocksQ data).length - 1))) (maskQ data K)).length = 16 := by rw [xorL_length _ _ (by rw [h3, maskQ_length data K h]), h3]
  have hc : cmacB data K = (macBlocksQ data).set ((macBlocksQ data).length - 1) (xorL ((fillQ data).drop (16 * ((macBlocksQ data).length - 1))) (maskQ data K)) := by
    rw [fill_last]
    unfold cmacB maskQ
    by_cases hw : wholeQ data
    · rw [if_pos hw, if_pos hw, if_pos (show data.length % 16 = 0 ∧ 0 < data.length from hw)]
    · rw [if_neg hw, if_neg hw, if_neg (show ¬ (data.length % 16 = 0 ∧ 0 < data.length) from hw)]
  rw [hc]
  by_cases e : k = (macBlocksQ data).length - 1
  · subst e
    rw [List.getD_eq_getElem?_getD, List.getElem?_set_self hk]
    unfold fullX
    rw [List.drop_append, List.drop_of_length_le (by rw [List.length_take]; omega), List.nil_append, List.length_take, show 16 * ((macBlocksQ data).length - 1) - min (16 * ((macBlocksQ data).length - 1)) (fillQ data).length = 0 from by omega, List.drop_zero, List.take_of_length_le (by omega)]
    rfl
  · rw [List.getD_eq_getElem?_getD, List.getElem?_set_ne (fun h => e h.symm), ← List.getD_eq_getElem?_getD, ← fill_at data k (by omega)]
    unfold fullX
    rw [List.drop_append_of_le_length (by rw [List.length_take]; omega), List.take_append_of_le_length (by rw [List.length_drop, List.length_take]; omega), List.drop_take, List.take_take]
    congr 1
    omega
/-- The chain, over slices. -/
def chQ (f : List UInt8 → List UInt8) (full : List UInt8) : Nat → List UInt8
  | 0 => zeros8 16
  | k + 1 => f (xorL (chQ f full k) ((full.drop (16 * k)).take 16))
theorem ch_eqQ (f : List UInt8 → List UInt8) (data K : List UInt8) (h : K.length = 16) (k : Nat) (hk : k ≤ (macBlocksQ data).length) : chQ f (fullX data K) k = befLQ f (zeros8 16) (cmacB data K) k := by
  induction k with
  | zero => rfl
  | succ k ih =>
    show f (xorL (chQ f (fullX data K) k) (((fullX data K).drop (16 * k)).take 16)) = f (xorL ((cmacB data K).getD k []) (befLQ f (zeros8 16) (cmacB data K) k))
    rw [ih (by omega), full_at data K h k (by omega), xorL_comm]
theorem cmac_eq (key data : List UInt8) : cmacN key data = chQ (encL (keyR key)) (fullX data (cmacK key)) (macBlocksQ data).length := by
  unfold cmacN
  rw [cmacB_length, ch_eqQ _ data (cmacK key) (dblL_length _) _ (Nat.le_refl _)]
end Go.Proofs.YtoajfbkblpaejaaDoor
