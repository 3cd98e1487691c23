/-
  Texts laid together: Grounds, Filled16, Cut16, Chain16, Least16, ChainAes, Double, DoubleS.
-/
import Derived.Test.YtoajfbkblpaejaaDoorGrG
import Derived.Test.YtoajfbkblpaejaaDoorGrM
import Derived.Test.YtoajfbkblpaejaaDoorGrE
import Derived.Test.YtoajfbkblpaejaaDoorGmH
/-
  Rows that are appended; contracts hidden. Nothing of the program.
-/
namespace Go.Proofs.YtoajfbkblpaejaaDoor
open Go.RowKit

section
variable {P : Program} {o : Oper} {a : Act} {w : World} {K : Act → World → Prop} {Q : Exit → Act → World → Prop}
end
end Go.Proofs.YtoajfbkblpaejaaDoor

/-
  impl.filled16, impl.cut.
-/
namespace Go.Proofs.YtoajfbkblpaejaaDoor
open Go.RowKit

/-- Filled up to eight. -/
def pad8Q (p : List UInt8) : List UInt8 := p ++ zeros8 (16 - p.length)
theorem pad8_lengthQ (p : List UInt8) (h : p.length ≤ 16) : (pad8Q p).length = 16 := by simp [pad8Q, zeros8]; omega

theorem range_newsQ {w : World} {b o : Nat} {l : List UInt8} (h : w.rangeAt b o (l.map byte)) : ∀ j u, (l.map byte)[j]? = some u → w.cell? ((⟨b, o, none⟩ : Addr).add j) = some u := by
  intro j u hu
  rw [Addr.add_mid]
  exact h j u hu

end Go.Proofs.YtoajfbkblpaejaaDoor

/-
  impl.cut, impl.atLeastOne, over blocks of eight.
-/
namespace Go.Proofs.YtoajfbkblpaejaaDoor
open Go.RowKit

theorem fill_oneQ (N : Nat) (a : List Value) (cells : Array Value) (hc : cells.size = N) (ha : a.length = N) : Instr.fill (fun i => some (i * N, N)) cells [(0, .agg a.toArray)] = some a.toArray := by
  have e1 := fold_whole a 0 cells (by omega)
  simp only [Nat.zero_add, List.take_zero, List.nil_append, ha] at e1
  rw [List.drop_of_length_le (by rw [Array.length_toList]; omega), List.append_nil] at e1
  simp only [Instr.fill, Value.cells, List.size_toArray, ha, Nat.zero_mul, Nat.zero_add, ne_eq, not_true_eq_false, decide_false, Bool.false_or, decide_eq_true_eq, ← Array.foldl_toList, Array.toList_zipIdx, e1]
  rw [if_neg (by omega)]

theorem run_buildSlice1Q {P : Program} (w : World) (t e N : Nat) (z : Value) (a : List Value) (ht : P.underlying t = some (.slice e)) (hz : (P.info? e).map (fun i => (i.zero, i.size)) = some (some z, N)) (ha : a.length = N) (h0 : 0 < N) (hN : N ≤ 1048576) :
    (Instr.buildSlice t 1 #[(0, .agg a.toArray)]).run P w = .ok (.slice (some ⟨w.heap.size, 0, none⟩) 1 1) (w.alloc (.cells a.toArray e)) := by
  cases hq : P.info? e with
  | none => simp [hq] at hz
  | some i =>
    have hz1 : i.zero = some z := by simp [hq] at hz; exact hz.1
    have hz2 : i.size = N := by simp [hq] at hz; exact hz.2
    have h1 : ¬ (N > 16777216) := by omega
    have h2 : ¬ (N = 0) := by omega
    have hf := fill_oneQ N a ((Array.range (1 * N)).map (z.cells[· % z.cells.size]!)) (by simp) ha
    have hsz : ∀ wx, (sizeOf e).run P wx = .ok N wx := fun wx => by simp [sizeOf, typeInfo, hq, hz2]
    have hzv : ∀ wx, (zeroValue e).run P wx = .ok z wx := fun wx => by simp [zeroValue, typeInfo, hq, hz1]
    rw [Nat.one_mul] at hf
    simp [Instr.buildSlice, run_underlying ht, hsz, hzv, hf, newRow]
    rw [if_neg h1, if_neg h2]
section
variable {P : Program} {op : Oper} {a : Act} {w : World} {K : Act → World → Prop} {Q : Exit → Act → World → Prop} {ops : Array Oper} {rest : List Oper}
theorem wp_build1Q (d : Option Tmp) (hd : op.dst = d) (t : TypeId) (x : Operand) (ho : op.op = .buildSlice t 1 #[(0, x)]) (e N : Nat) (z : Value) (A : List Value) (hx : a.eval x = .agg A.toArray)
    (ht : P.underlying t = some (.slice e)) (hz : (P.info? e).map (fun i => (i.zero, i.size)) = some (some z, N)) (hA : A.length = N) (h0 : 0 < N) (hN : N ≤ 1048576)
    (h : K (a.put d (.slice (some ⟨w.heap.size, 0, none⟩) 1 1)) (w.alloc (.cells A.toArray e))) : op.wp P a w K Q := by
  subst hd
  unfold Oper.wp execOp
  simp only [ho, List.map_toArray, List.map_cons, List.map_nil, hx, Sem.run_bind, run_buildSlice1Q w t e N z A ht hz hA h0 hN, Result.andThen_ok]
  exact h
theorem wpList_build1Q (hgd : op.guard = none) (t : TypeId) (x : Operand) (ho : op.op = .buildSlice t 1 #[(0, x)]) (e N : Nat) (z : Value) (A : List Value) (hx : a.eval x = .agg A.toArray)
    (ht : P.underlying t = some (.slice e)) (hz : (P.info? e).map (fun i => (i.zero, i.size)) = some (some z, N)) (hA : A.length = N) (h0 : 0 < N) (hN : N ≤ 1048576)
    (h : wpList P ops Q rest (a.put op.dst (.slice (some ⟨w.heap.size, 0, none⟩) 1 1)) (w.alloc (.cells A.toArray e))) : wpList P ops Q (op :: rest) a w :=
  wpList_plain hgd fun _ hK => wp_build1Q op.dst rfl t x ho e N z A hx ht hz hA h0 hN (hK _ _ h)
theorem wpList_build2Q (hgd : op.guard = none) (t : TypeId) (x y : Operand) (ho : op.op = .buildSlice t 2 #[(0, x), (1, y)]) (e N : Nat) (z : Value) (A B : List Value) (hx : a.eval x = .agg A.toArray) (hy : a.eval y = .agg B.toArray)
    (ht : P.underlying t = some (.slice e)) (hz : (P.info? e).map (fun i => (i.zero, i.size)) = some (some z, N)) (hA : A.length = N) (hB : B.length = N) (h0 : 0 < N) (hN : N ≤ 1048576)
    (h : wpList P ops Q rest (a.put op.dst (.slice (some ⟨w.heap.size, 0, none⟩) 2 2)) (w.alloc (.cells (A ++ B).toArray e))) : wpList P ops Q (op :: rest) a w :=
  wpList_plain hgd fun _ hK => wp_build2 op.dst rfl t x y ho e N z A B hx hy ht hz hA hB h0 hN (hK _ _ h)
end

/-- A row of blocks that the call owns. -/
def OwnKQ (w : World) (base : Nat) (v : Value) (bl : List (List UInt8)) : Prop := w.ownsRow base 125 16 v bl.length (bl.flatten.map byte)
theorem OwnKQ.below {w w' : World} {base : Nat} {v : Value} {l : List (List UInt8)} (h : OwnKQ w base v l) (hb : Below w.heap.size w w') : OwnKQ w' base v l :=
  World.ownsRow.kept h (grown_of_below hb none) (by cases hv : v.ownBlock <;> simp)
theorem OwnKQ.mono {w : World} {B base : Nat} {v : Value} {l : List (List UInt8)} (h : OwnKQ w base v l) (hB : B ≤ base) : OwnKQ w B v l := by
  refine ⟨h.1, ?_⟩
  rcases h.2 with h | ⟨g, cap, cur, hv, hb, r⟩
  · exact .inl h
  · exact .inr ⟨g, cap, cur, hv, by omega, r⟩

def chunkQ (data : List UInt8) (k : Nat) : List UInt8 := pad8Q ((data.drop (16 * k)).take 16)
def chunksQ (data : List UInt8) (k : Nat) : List (List UInt8) := (List.range k).map (chunkQ data)
theorem chunks_succQ (data : List UInt8) (k : Nat) : chunksQ data (k + 1) = chunksQ data k ++ [chunkQ data k] := by simp [chunksQ, List.range_succ]
theorem chunks_lengthQ (data : List UInt8) (k : Nat) : (chunksQ data k).length = k := by simp [chunksQ]
theorem chunk_lengthQ (data : List UInt8) (k : Nat) : (chunkQ data k).length = 16 := pad8_lengthQ _ (by rw [List.length_take]; omega)
theorem range_partQ {w : World} {b o : Nat} {l : List UInt8} (h : w.rangeAt b o (l.map byte)) (k n : Nat) : w.rangeAt b (o + k) (((l.drop k).take n).map byte) := by
  intro j v hv
  rw [List.map_take, List.getElem?_take] at hv
  split at hv
  · rw [List.map_drop, List.getElem?_drop] at hv
    rw [Nat.add_assoc]
    exact h (k + j) v hv
  · cases hv
theorem Tryd.info125 : (Tryd.prog.info? 125).map (fun i => (i.zero, i.size, i.bytes)) = some (some (.agg (zerosOf 16 .u8).toArray), 16, 16) := by kernel_rfl

theorem ownK_snocQ {w1 : World} {base : Nat} {v1 : Value} {bl : List (List UInt8)} {x : List UInt8} (h : w1.ownsRow base 125 16 v1 (bl.length + 1) (bl.flatten.map byte ++ x.map byte)) : OwnKQ w1 base v1 (bl ++ [x]) := by
  unfold OwnKQ
  rw [List.length_append, List.flatten_append, List.map_append]
  simpa using h

end Go.Proofs.YtoajfbkblpaejaaDoor

/-
  Chains of blocks, as lists.
-/
namespace Go.Proofs.YtoajfbkblpaejaaDoor
open Go.RowKit

/-- The block before the k-th, encrypted. -/
def befLQ (f : List UInt8 → List UInt8) (iv : List UInt8) (bl : List (List UInt8)) : Nat → List UInt8
  | 0 => iv
  | k + 1 => f (xorL (bl.getD k []) (befLQ f iv bl k))
def outLQ (f : List UInt8 → List UInt8) (iv : List UInt8) (bl : List (List UInt8)) (k : Nat) : List (List UInt8) := (List.range k).map fun j => befLQ f iv bl (j + 1)
theorem outL_succQ (f : List UInt8 → List UInt8) (iv : List UInt8) (bl : List (List UInt8)) (k : Nat) : outLQ f iv bl (k + 1) = outLQ f iv bl k ++ [befLQ f iv bl (k + 1)] := by simp [outLQ, List.range_succ]
theorem outL_lengthQ (f : List UInt8 → List UInt8) (iv : List UInt8) (bl : List (List UInt8)) (k : Nat) : (outLQ f iv bl k).length = k := by simp [outLQ]
theorem befL_lengthQ (f : List UInt8 → List UInt8) (hf : ∀ x, (f x).length = 16) (iv : List UInt8) (hiv : iv.length = 16) (bl : List (List UInt8)) (k : Nat) : (befLQ f iv bl k).length = 16 := by
  cases k with
  | zero => exact hiv
  | succ k => exact hf _

/-- Blocks in memory that are read. -/
def BlksQ (w : World) (ao : Option Addr) (bl : List (List UInt8)) : Prop := ∀ k, k < bl.length → ∃ g off, ao = some ⟨g, off, none⟩ ∧ w.rangeAt g (off + k * 16) ((bl.getD k []).map byte)
theorem BlksQ.below {w w' : World} {ao : Option Addr} {bl : List (List UInt8)} (h : BlksQ w ao bl) (hb : Below w.heap.size w w') : BlksQ w' ao bl := fun k hk => by
  obtain ⟨g, off, e, hr⟩ := h k hk
  exact ⟨g, off, e, range_below hr hb⟩
theorem flat_take8Q (bl : List (List UInt8)) (h8 : ∀ b ∈ bl, b.length = 16) (k : Nat) (hk : k ≤ bl.length) : (bl.take k).flatten.length = k * 16 := by
  induction k with
  | zero => simp
  | succ k ih =>
    rw [flat_snoc bl k (by omega), List.length_append, ih (by omega)]
    have : (bl.getD k []).length = 16 := by
      rw [show bl.getD k [] = bl[k] from by simp [show k < bl.length from by omega]]
      exact h8 _ (List.getElem_mem _)
    omega
theorem OwnKQ.blks {w : World} {base : Nat} {v : Value} {bl : List (List UInt8)} (h : OwnKQ w base v bl) (h8 : ∀ b ∈ bl, b.length = 16) : ∃ ao cap, v = .slice ao bl.length cap ∧ bl.length ≤ cap ∧ BlksQ w ao bl := by
  rcases h.2 with ⟨rfl, hn⟩ | ⟨g, cap, cur, rfl, hb, hh, hn, hm, hs, ht⟩
  · exact ⟨none, 0, by rw [hn], by omega, fun k hk => by omega⟩
  · refine ⟨_, cap, rfl, hn, fun k hk => ⟨g, 0, rfl, ?_⟩⟩
    intro j v hv
    have hl : bl.getD k [] = bl[k] := by simp [hk]
    have hlen : (bl.getD k []).length = 16 := by rw [hl]; exact h8 _ (List.getElem_mem _)
    have hj : j < 16 := by have := (List.getElem?_eq_some_iff.1 hv).1; rw [List.length_map, hlen] at this; exact this
    have hcell := h.cells (g := g) rfl (k * 16 + j) v (by
      have e : bl.flatten = (bl.take k).flatten ++ (bl.getD k [] ++ (bl.drop (k + 1)).flatten) := by
        rw [← List.append_assoc, ← flat_snoc bl k hk, ← List.flatten_append, List.take_append_drop]
      rw [e, List.map_append, List.map_append, List.getElem?_append_right (by rw [List.length_map, flat_take8Q bl h8 k (by omega)]; omega), List.length_map, flat_take8Q bl h8 k (by omega), Nat.add_sub_cancel_left, List.getElem?_append_left (by rw [List.length_map, hlen]; exact hj)]
      exact hv)
    rw [Addr.add_mid] at hcell
    rw [Nat.zero_add] at hcell ⊢
    exact hcell
end Go.Proofs.YtoajfbkblpaejaaDoor

/-
  impl.cut at every row, impl.atLeastOne.
-/
namespace Go.Proofs.YtoajfbkblpaejaaDoor
open Go.RowKit

def nBlocksQ (data : List UInt8) : Nat := (data.length + 15) / 16
def leastOneQ (bl : List (List UInt8)) : List (List UInt8) := if bl.length = 0 then [zeros8 16] else bl
theorem made_blockQ : (madeCells (Value.agg (zerosOf 16 .u8).toArray).cells (1 * 16)).toList = [zeros8 16].flatten.map byte := by kernel_rfl

/-- The blocks of a MAC. -/
def macBlocksQ (data : List UInt8) : List (List UInt8) := leastOneQ (chunksQ data (nBlocksQ data))
theorem macBlocks_eightQ (data : List UInt8) : ∀ b ∈ macBlocksQ data, b.length = 16 := by
  intro b hb
  unfold macBlocksQ leastOneQ at hb
  split at hb
  · simp only [List.mem_singleton] at hb; rw [hb]; simp [zeros8]
  · simp only [chunksQ, List.mem_map] at hb
    obtain ⟨k, -, rfl⟩ := hb
    exact chunk_lengthQ _ _
theorem macBlocks_posQ (data : List UInt8) : 0 < (macBlocksQ data).length := by
  unfold macBlocksQ leastOneQ
  split
  · simp
  · omega
theorem macBlocks_leQ (data : List UInt8) (h : data.length ≤ 4096) : (macBlocksQ data).length ≤ 4096 := by
  unfold macBlocksQ leastOneQ
  split
  · simp
  · rw [chunks_lengthQ]; unfold nBlocksQ; omega
end Go.Proofs.YtoajfbkblpaejaaDoor

/-
  impl.chain without dec, over aesCipher.encrypt.
-/
namespace Go.Proofs.YtoajfbkblpaejaaDoor
open Go.RowKit

end Go.Proofs.YtoajfbkblpaejaaDoor

/-
  impl.doubled.
-/
namespace Go.Proofs.YtoajfbkblpaejaaDoor
open Go.RowKit

/-- From k on the cells are f, those ahead of it are zeros. -/
def dnTo (f : Nat → Value) (z : Value) (n k : Nat) : List Value := (List.range n).map fun i => if k ≤ i then f i else z
theorem dnTo_length (f : Nat → Value) (z : Value) (n k : Nat) : (dnTo f z n k).length = n := by simp [dnTo]
theorem dnTo_set (f : Nat → Value) (z : Value) (n k : Nat) : (dnTo f z n (k + 1)).set k (f k) = dnTo f z n k := by
  apply List.ext_getElem?
  intro i
  rw [List.getElem?_set]
  simp only [dnTo, List.length_map, List.length_range, List.getElem?_map]
  by_cases hi : k = i
  · subst hi
    by_cases hn : k < n <;> simp [hn]
  · rw [if_neg hi]
    by_cases hn : i < n
    · simp [hn, show (k + 1 ≤ i) = (k ≤ i) from by apply propext; omega]
    · simp [hn]
theorem dnTo_top (f : Nat → Value) (z : Value) (n : Nat) : dnTo f z n n = List.replicate n z := by
  apply List.ext_getElem?
  intro i
  by_cases hn : i < n
  · simp [dnTo, hn]; omega
  · simp [dnTo, hn]
theorem dnTo_all (f : Nat → Value) (z : Value) (n : Nat) : dnTo f z n 0 = (List.range n).map f := by simp [dnTo]

/-- What is carried into byte k - 1, and the bytes shifted. -/
def lostN (v : List UInt8) (k : Nat) : Nat := if k = 16 then 0 else (v.getD k 0).toNat / 128
def shB (v : List UInt8) (i : Nat) : UInt8 := UInt8.ofNat ((v.getD i 0).toNat * 2 % 256 ||| lostN v (i + 1))
def shL (v : List UInt8) : List UInt8 := (List.range 16).map (shB v)
theorem shL_length (v : List UInt8) : (shL v).length = 16 := by simp [shL]
def dblL (v : List UInt8) : List UInt8 := (shL v).set 15 (shB v 15 ^^^ UInt8.ofNat (lostN v 0 * 135))
theorem dblL_length (v : List UInt8) : (dblL v).length = 16 := by simp [dblL, shL_length]
theorem lostN_le (v : List UInt8) (k : Nat) : lostN v k ≤ 1 := by
  unfold lostN
  split
  · omega
  · have := (v.getD k 0).toNat_lt; omega

end Go.Proofs.YtoajfbkblpaejaaDoor

/-
  spec.l2Double.
-/
namespace Go.Proofs.YtoajfbkblpaejaaDoor
open Go.RowKit

theorem bitsL_cons (x : UInt8) (l : List UInt8) : bitsL (x :: l) = bits8 x ++ bitsL l := by simp [bitsL]
theorem bitsL_drop (v : List UInt8) : ∀ j, j < v.length → (bitsL v).drop (8 * j) = bits8 (v.getD j 0) ++ bitsL (v.drop (j + 1)) := by
  induction v with
  | nil => intro j hj; simp at hj
  | cons x l ih =>
    intro j hj
    cases j with
    | zero => rw [bitsL_cons]; rfl
    | succ j =>
      rw [bitsL_cons, show 8 * (j + 1) = (bits8 x).length + 8 * j from by rw [bits8_length]; omega, List.drop_append]
      rw [List.drop_of_length_le (by omega), List.nil_append, Nat.add_sub_cancel_left, ih j (by simpa using hj)]
      rfl
theorem val7 : ∀ n : Nat, n < 256 → valN ((bits8 (UInt8.ofNat n)).drop 1) = n % 128 := by decide +kernel
theorem val7_u (x : UInt8) : valN ((bits8 x).drop 1) = x.toNat % 128 := by
  have h := val7 x.toNat x.toNat_lt
  rwa [UInt8.ofNat_toNat] at h
/-- The bit that comes in behind byte j. -/
def inB (v : List UInt8) (j : Nat) : UInt8 := if j = 15 then 0 else bitN (v.getD (j + 1) 0) 0
theorem inB_nat (v : List UInt8) (j : Nat) : (inB v j).toNat = lostN v (j + 1) := by
  unfold inB lostN
  by_cases h : j = 15
  · rw [if_pos h, if_pos (by omega)]; rfl
  · rw [if_neg h, if_neg (by omega)]
    unfold bitN
    have := (v.getD (j + 1) 0).toNat_lt
    rw [UInt8.toNat_ofNat']
    omega
theorem dbl_seg (v : List UInt8) (hv : v.length = 16) (j : Nat) (hj : j < 16) : ((((bitsL v).drop 1 ++ [0]).drop (8 * j)).take 8) = (bits8 (v.getD j 0)).drop 1 ++ [inB v j] := by
  have hl := bitsL_length v
  have h7 : ((bits8 (v.getD j 0)).drop 1).length = 7 := by rw [List.length_drop, bits8_length]
  rw [List.drop_append_of_le_length (by rw [List.length_drop]; omega), List.drop_drop, show 1 + 8 * j = 8 * j + 1 from by omega, ← List.drop_drop, bitsL_drop v j (by omega), List.drop_append_of_le_length (by rw [bits8_length]; omega), List.append_assoc]
  rw [List.take_append, List.take_of_length_le (by omega), h7]
  congr 1
  unfold inB
  by_cases h : j = 15
  · rw [if_pos h, List.drop_of_length_le (by omega)]
    rfl
  · rw [if_neg h]
    have hd : v.drop (j + 1) = v.getD (j + 1) 0 :: v.drop (j + 2) := by
      rw [List.drop_eq_getElem_cons (by omega)]
      simp [show j + 1 < v.length from by omega]
    rw [hd, bitsL_cons]
    rfl
theorem dbl_bits (v : List UInt8) (hv : v.length = 16) : unbitsL ((bitsL v).drop 1 ++ [0]) = shL v := by
  have hl := bitsL_length v
  have hL : ((bitsL v).drop 1 ++ [0]).length = 128 := by rw [List.length_append, List.length_drop]; simp; omega
  unfold unbitsL cellsU shL
  rw [hL]
  apply List.map_congr_left
  intro j hj
  have hj := List.mem_range.1 hj
  unfold cellU seg shB
  rw [List.take_of_length_le (l := (bitsL v).drop 1 ++ [0]) (i := 128) (by omega), dbl_seg v hv j (by omega), valN_snoc, val7_u, inB_nat]
  have h1 := lostN_le v (j + 1)
  rw [nat_join 1 ((v.getD j 0).toNat * 2 % 256) (lostN v (j + 1)) (by omega) (by omega)]
  congr 1
  omega
theorem bitN_le (x : UInt8) (j : Nat) : (bitN x j).toNat ≤ 1 := by
  unfold bitN
  rw [UInt8.toNat_ofNat']
  omega
theorem dbl_isBits (v : List UInt8) : isBits ((bitsL v).drop 1 ++ [0]) := by
  intro b hb
  rcases List.mem_append.1 hb with h | h
  · have h := List.mem_of_mem_drop h
    simp only [bitsL, List.mem_flatMap, bits8, List.mem_map] at h
    obtain ⟨x, -, j, -, rfl⟩ := h
    exact bitN_le x j
  · simp only [List.mem_singleton] at h
    subst h
    decide
theorem dbl_first (v : List UInt8) (hv : v.length = 16) : ((bitsL v).getD 0 0).toNat = lostN v 0 := by
  have h := bitsL_drop v 0 (by omega)
  rw [Nat.mul_zero, List.drop_zero] at h
  rw [h]
  show (bitN (v.getD 0 0) 0).toNat = _
  unfold bitN lostN
  have := (v.getD 0 0).toNat_lt
  rw [UInt8.toNat_ofNat', if_neg (by omega)]
  omega

set_option maxRecDepth 100000 in
set_option maxHeartbeats 2000000 in
theorem double_spec (v : List UInt8) (ao : Option Addr) (cap : Nat) (w : World) (hv : v.length = 16) (hr : RowAt w ao v) :
    Calls Tryd.prog 71 #[.slice ao 16 cap] w fun e w' => ∃ x, e = .returned x ∧ OwnB w' w.heap.size x (dblL v) ∧ Below w.heap.size w w' := by
  obtain ⟨i0, hi0, hz0, hz1, hz2⟩ := info_parts Tryd.info5
  have HB := hid_of (bits_any ao cap v w (by omega) hr)
  rw [hv] at HB
  have hbl : (bitsL v).length = 128 := by rw [bitsL_length, hv]
  have hdl : ((bitsL v).drop 1).length = 127 := by rw [List.length_drop, hbl]
  have HU := hid_of (dbl_bits v hv)
  have HI := hid_of (dbl_isBits v)
  have h0 := dbl_first v hv
  have hl1 := lostN_le v 0
  have hsl := shL_length v
  obtain ⟨D, hD⟩ : ∃ D, D = (bitsL v).drop 1 := ⟨_, rfl⟩
  rw [← hD] at hdl HU HI
  have HD := hid_of hD
  obtain ⟨l, hl⟩ : ∃ l, l = lostN v 0 := ⟨_, rfl⟩
  have HL := hid_of hl
  rw [← hl] at h0 hl1
  clear hD hl
  go_enter Tryd.func71, Tryd.ntmps71
  go_wp2_with fail
  refine HB.out.mono ?_
  rintro e w1 ⟨v1, rfl, own1, bel1⟩
  obtain ⟨g1, c1, hc1, rfl, row1⟩ := own_at own1 hbl (by omega)
  have rowD : RowAt w1 (some ⟨g1, 1, none⟩) D := by rw [HD.out]; have := row1.drop 1; rwa [Nat.zero_add] at this
  have HY := hid_of (bytes_any (some ⟨g1, 1, none⟩) (c1 - 1) D w1 (by omega) (by omega) rowD)
  rw [hdl] at HY
  have hcI : (128 : Int) ≤ (c1 : Int) := by omega
  have hcI1 : (1 : Int) ≤ (c1 : Int) := by omega
  clear HB own1 rowD
  go_wp2_with fail
  refine HY.out.mono ?_
  rintro e w2 ⟨rfl, own2, bel2⟩
  have b2 := bel1.trans (bel2.mono bel1.size)
  have hs2 := b2.size
  have own2' := own_num (own2.mono bel1.size) hdl
  have row2 := row1.below bel2
  have hz1' := bel1.size
  clear HY own2
  go_wp2_with (at_builtin; refine wpList_append_own _ rfl _ _ 22 rfl w.heap.size 5 i0 (.int .u8 0) 1 1 Tryd.underlying22 hi0 hz0 hz1 hz2 rfl (by decide) _ _ _ rfl (own2'.alloc _) ⟨w2.heap.size, 0, none⟩ 1 1 [.int .u8 0] rfl rfl (cell_one_new _ _ _) (by intro u hu; simp at hu; subst hu; rfl) (by unfold maxLen; omega) (by omega) (by simp; omega) ?_; intro v3 w3 own3 hg3 hnil3)
  have lg1 := row1.blk (by omega)
  have hD1 : (D ++ [0]).length = 128 := by rw [List.length_append, hdl]; rfl
  have o3 : OwnB w3 w.heap.size v3 (D ++ [0]) := by
    unfold OwnB
    rw [hD1, List.map_append]
    exact own3
  have b3 : Below w.heap.size w w3 := (b2.alloc hs2 _).grown hg3 (by simp; omega) (fun j hj => (own2'.lt j hj).1)
  have row3 : RowAt w3 (some ⟨g1, 0, none⟩) (bitsL v) := (row2.below (below_new w2 _)).grown hg3 (by
    rintro a ha
    cases ha
    show (Value.slice (some ⟨w1.heap.size, 0, none⟩) 127 127).ownBlock ≠ some g1
    simp only [Value.ownBlock, ne_eq, Option.some.injEq]
    omega)
  obtain ⟨g3, c3, hc3, rfl, row3'⟩ := own_at o3 hD1 (by omega)
  have HN := hid_of (unbits_any (some ⟨g3, 0, none⟩) c3 (D ++ [0]) w3 (by omega) (by omega) HI.out row3')
  rw [hD1, HU.out] at HN
  clear own3 hg3 hnil3 own2' row2 row1 o3 row3' b2 bel2 hs2
  go_wp2_with fail
  refine HN.out.mono ?_
  rintro e w4 ⟨v4, rfl, own4, bel4⟩
  have row4 := row3.below bel4
  have b4 := b3.trans (bel4.mono b3.size)
  obtain ⟨g4, c4, hc4, rfl, rowS⟩ := own_at own4 hsl (by omega)
  have hg4 := (own4.lt g4 rfl)
  have hz3 := b3.size
  have own4' := own_num (own4.mono hz3) hsl
  have hc0 : w4.cell? ⟨g1, 0, none⟩ = some (.int .u8 (l : Int)) := by
    obtain ⟨bb, oo, e0, hcc⟩ := row4.at (show 0 < (bitsL v).length by omega)
    cases e0
    have := hcc 0 (by omega)
    rw [h0] at this
    exact this
  clear HN row3 row4 own4 bel4 b3
  obtain rfl | rfl : l = 0 ∨ l = 1 := by omega
  · have HE : Hid (shL v = dblL v) := hid_of (by
      unfold dblL
      rw [← HL.out]
      have e : shB v 15 ^^^ UInt8.ofNat (0 * 135) = shB v 15 := by simp
      rw [e]
      symm
      apply List.ext_getElem?
      intro i
      rw [List.getElem?_set]
      by_cases hi : 15 = i
      · subst hi; simp [shL]
      · rw [if_neg hi])
    go_wp2
    go_ret
    refine ⟨_, rfl, ?_, b4⟩
    rw [← HE.out]
    unfold OwnB
    rw [hsl]
    exact own4'
  · obtain ⟨y, hy8, Hy⟩ : ∃ y : Nat, y < 256 ∧ Hid (y = (shB v 15).toNat) := ⟨_, UInt8.toNat_lt _, rfl⟩
    have hcs : w4.cell? ⟨g4, 15, none⟩ = some (.int .u8 (y : Int)) := by
      obtain ⟨bb, oo, e0, hcc⟩ := rowS.at (show 0 < (shL v).length by omega)
      cases e0
      have := hcc 15 (by omega)
      rw [Nat.zero_add] at this
      rw [this, Hy.out]
      simp [shL]
    have hfz : w4.frozen? ⟨g4, 15, none⟩ = false := own4'.frozenAt 15
    obtain ⟨q, hq, Hq⟩ : ∃ q : Nat, bits BinOp.xor IntKind.u8 (y : Int) 135 = (q : Int) ∧ Hid (Value.int .u8 (q : Int) = byte (shB v 15 ^^^ UInt8.ofNat (lostN v 0 * 135))) := by
      refine ⟨_, u8_xor_nat y 135 hy8 (by omega), hid_of ?_⟩
      show Value.int .u8 _ = Value.int .u8 _
      rw [UInt8.toNat_xor, ← HL.out, ← Hy.out]
      rfl
    have hst := (own4'.stored 15 (byte (shB v 15 ^^^ UInt8.ofNat (lostN v 0 * 135)))).1
    rw [← List.map_set] at hst
    have hst' : OwnB (w4.setCell ⟨g4, 15, none⟩ (byte (shB v 15 ^^^ UInt8.ofNat (lostN v 0 * 135)))) w.heap.size (.slice (some ⟨g4, 0, none⟩) 16 c4) (dblL v) := by
      unfold OwnB
      rw [dblL_length]
      exact hst
    have bb := b4.setCell (p := ⟨g4, 15, none⟩) (by show w.heap.size ≤ g4; have := hg4.1; omega) (byte (shB v 15 ^^^ UInt8.ofNat (lostN v 0 * 135)))
    rw [← Hq.out] at hst' bb
    clear hst own4' rowS
    go_wp2
    go_ret
    exact ⟨_, rfl, hst', bb⟩
end Go.Proofs.YtoajfbkblpaejaaDoor
