/-
  impl.cut, impl.atLeastOne, over blocks of eight.
-/
import Derived.Test.YthjnalbgnjbdnaaFilled
namespace Go.Proofs.Ythjnalbgnjbdnaa
open Go.RowKit

theorem fill_one (N : Nat) (a : List Value) (cells : Array Value) (hc : cells.size = N) (ha : a.length = N) : Instr.fill (fun i => some (i * N, N)) cells [(0, .agg a.toArray)] = some a.toArray := by
  have e1 := fold_whole a 0 cells (by omega)
  simp only [Nat.zero_add, List.take_zero, List.nil_append, ha] at e1
  rw [List.drop_of_length_le (by rw [Array.length_toList]; omega), List.append_nil] at e1
  simp only [Instr.fill, Value.cells, List.size_toArray, ha, Nat.zero_mul, Nat.zero_add, ne_eq, not_true_eq_false, decide_false, Bool.false_or, decide_eq_true_eq, ← Array.foldl_toList, Array.toList_zipIdx, e1]
  rw [if_neg (by omega)]

theorem run_buildSlice1 {P : Program} (w : World) (t e N : Nat) (z : Value) (a : List Value) (ht : P.underlying t = some (.slice e)) (hz : (P.info? e).map (fun i => (i.zero, i.size)) = some (some z, N)) (ha : a.length = N) (h0 : 0 < N) (hN : N ≤ 1048576) :
    (Instr.buildSlice t 1 #[(0, .agg a.toArray)]).run P w = .ok (.slice (some ⟨w.heap.size, 0, none⟩) 1 1) (w.alloc (.cells a.toArray e)) := by
  cases hq : P.info? e with
  | none => simp [hq] at hz
  | some i =>
    have hz1 : i.zero = some z := by simp [hq] at hz; exact hz.1
    have hz2 : i.size = N := by simp [hq] at hz; exact hz.2
    have h1 : ¬ (N > 16777216) := by omega
    have h2 : ¬ (N = 0) := by omega
    have hf := fill_one N a ((Array.range (1 * N)).map (z.cells[· % z.cells.size]!)) (by simp) ha
    have hsz : ∀ wx, (sizeOf e).run P wx = .ok N wx := fun wx => by simp [sizeOf, typeInfo, hq, hz2]
    have hzv : ∀ wx, (zeroValue e).run P wx = .ok z wx := fun wx => by simp [zeroValue, typeInfo, hq, hz1]
    rw [Nat.one_mul] at hf
    simp [Instr.buildSlice, run_underlying ht, hsz, hzv, hf, newRow]
    rw [if_neg h1, if_neg h2]
section
variable {P : Program} {op : Oper} {a : Act} {w : World} {K : Act → World → Prop} {Q : Exit → Act → World → Prop} {ops : Array Oper} {rest : List Oper}
theorem wp_build1 (d : Option Tmp) (hd : op.dst = d) (t : TypeId) (x : Operand) (ho : op.op = .buildSlice t 1 #[(0, x)]) (e N : Nat) (z : Value) (A : List Value) (hx : a.eval x = .agg A.toArray)
    (ht : P.underlying t = some (.slice e)) (hz : (P.info? e).map (fun i => (i.zero, i.size)) = some (some z, N)) (hA : A.length = N) (h0 : 0 < N) (hN : N ≤ 1048576)
    (h : K (a.put d (.slice (some ⟨w.heap.size, 0, none⟩) 1 1)) (w.alloc (.cells A.toArray e))) : op.wp P a w K Q := by
  subst hd
  unfold Oper.wp execOp
  simp only [ho, List.map_toArray, List.map_cons, List.map_nil, hx, Sem.run_bind, run_buildSlice1 w t e N z A ht hz hA h0 hN, Result.andThen_ok]
  exact h
theorem wpList_build1 (hgd : op.guard = none) (t : TypeId) (x : Operand) (ho : op.op = .buildSlice t 1 #[(0, x)]) (e N : Nat) (z : Value) (A : List Value) (hx : a.eval x = .agg A.toArray)
    (ht : P.underlying t = some (.slice e)) (hz : (P.info? e).map (fun i => (i.zero, i.size)) = some (some z, N)) (hA : A.length = N) (h0 : 0 < N) (hN : N ≤ 1048576)
    (h : wpList P ops Q rest (a.put op.dst (.slice (some ⟨w.heap.size, 0, none⟩) 1 1)) (w.alloc (.cells A.toArray e))) : wpList P ops Q (op :: rest) a w :=
  wpList_plain hgd fun _ hK => wp_build1 op.dst rfl t x ho e N z A hx ht hz hA h0 hN (hK _ _ h)
theorem wpList_build2 (hgd : op.guard = none) (t : TypeId) (x y : Operand) (ho : op.op = .buildSlice t 2 #[(0, x), (1, y)]) (e N : Nat) (z : Value) (A B : List Value) (hx : a.eval x = .agg A.toArray) (hy : a.eval y = .agg B.toArray)
    (ht : P.underlying t = some (.slice e)) (hz : (P.info? e).map (fun i => (i.zero, i.size)) = some (some z, N)) (hA : A.length = N) (hB : B.length = N) (h0 : 0 < N) (hN : N ≤ 1048576)
    (h : wpList P ops Q rest (a.put op.dst (.slice (some ⟨w.heap.size, 0, none⟩) 2 2)) (w.alloc (.cells (A ++ B).toArray e))) : wpList P ops Q (op :: rest) a w :=
  wpList_plain hgd fun _ hK => wp_build2 op.dst rfl t x y ho e N z A B hx hy ht hz hA hB h0 hN (hK _ _ h)
end

/-- A row of blocks that the call owns. -/
def OwnK (w : World) (base : Nat) (v : Value) (bl : List (List UInt8)) : Prop := w.ownsRow base 50 8 v bl.length (bl.flatten.map byte)
theorem OwnK.below {w w' : World} {base : Nat} {v : Value} {l : List (List UInt8)} (h : OwnK w base v l) (hb : Below w.heap.size w w') : OwnK w' base v l :=
  World.ownsRow.kept h (grown_of_below hb none) (by cases hv : v.ownBlock <;> simp)
theorem OwnK.mono {w : World} {B base : Nat} {v : Value} {l : List (List UInt8)} (h : OwnK w base v l) (hB : B ≤ base) : OwnK w B v l := by
  refine ⟨h.1, ?_⟩
  rcases h.2 with h | ⟨g, cap, cur, hv, hb, r⟩
  · exact .inl h
  · exact .inr ⟨g, cap, cur, hv, by omega, r⟩

def chunk (data : List UInt8) (k : Nat) : List UInt8 := pad8 ((data.drop (8 * k)).take 8)
def chunks (data : List UInt8) (k : Nat) : List (List UInt8) := (List.range k).map (chunk data)
theorem chunks_succ (data : List UInt8) (k : Nat) : chunks data (k + 1) = chunks data k ++ [chunk data k] := by simp [chunks, List.range_succ]
theorem chunks_length (data : List UInt8) (k : Nat) : (chunks data k).length = k := by simp [chunks]
theorem chunk_length (data : List UInt8) (k : Nat) : (chunk data k).length = 8 := pad8_length _ (by rw [List.length_take]; omega)
theorem range_part {w : World} {b o : Nat} {l : List UInt8} (h : w.rangeAt b o (l.map byte)) (k n : Nat) : w.rangeAt b (o + k) (((l.drop k).take n).map byte) := by
  intro j v hv
  rw [List.map_take, List.getElem?_take] at hv
  split at hv
  · rw [List.map_drop, List.getElem?_drop] at hv
    rw [Nat.add_assoc]
    exact h (k + j) v hv
  · cases hv
theorem Try.info50 : (Try.prog.info? 50).map (fun i => (i.zero, i.size, i.bytes)) = some (some (.agg (zerosOf 8 .u8).toArray), 8, 8) := by kernel_rfl

theorem ownK_snoc {w1 : World} {base : Nat} {v1 : Value} {bl : List (List UInt8)} {x : List UInt8} (h : w1.ownsRow base 50 8 v1 (bl.length + 1) (bl.flatten.map byte ++ x.map byte)) : OwnK w1 base v1 (bl ++ [x]) := by
  unfold OwnK
  rw [List.length_append, List.flatten_append, List.map_append]
  simpa using h

set_option maxRecDepth 100000 in
set_option maxHeartbeats 2000000 in
theorem cut_some (data : List UInt8) (b o cap : Nat) (w : World) (hn : data.length ≤ 4096) (hc : data.length ≤ cap) (hr : w.rangeAt b o (data.map byte)) :
    Calls Try.prog 62 #[.slice (some ⟨b, o, none⟩) data.length cap, .int .i64 8, .func (.func 63) #[] #[]] w fun e w' => ∃ v, e = .returned v ∧ OwnK w' w.heap.size v (chunks data ((data.length + 7) / 8)) ∧ Below w.heap.size w w' := by
  obtain ⟨i0, hi, hz0, hz1, hz2⟩ := info_parts Try.info50
  obtain ⟨n, hnl⟩ : ∃ n, n = data.length := ⟨_, rfl⟩
  have HF : Hid (∀ (a k L : Nat) (wx : World), a = 8 * k → L = min 8 (n - a) → Below w.heap.size w wx → Calls Try.prog 63 #[.slice (some ⟨b, o + a, none⟩) L (cap - a)] wx fun x w' => x = .returned (.agg ((chunk data k).map byte).toArray) ∧ Below wx.heap.size wx w') := by
    intro a k L wx ha hL hb
    subst ha
    have := filled8_any ((data.drop (8 * k)).take 8) b (o + 8 * k) (cap - 8 * k) wx (by rw [List.length_take]; omega) (range_below (range_part hr (8 * k) 8) hb)
    rw [show ((data.drop (8 * k)).take 8).length = L from by rw [List.length_take, List.length_drop]; omega] at this
    exact this
  have HN : Hid (n = data.length) := hnl
  rw [← hnl] at hn hc ⊢
  clear hr hnl
  go_enter Try.func62, Try.ntmps62
  go_wp2
  go_loopw [7, 8] (fun v i wr => ∃ k : Nat, 8 * k ≤ n + 7 ∧ i = .int .i64 ((8 * k : Nat) : Int) ∧ OwnK wr w.heap.size v (chunks data k) ∧ Below w.heap.size w wr) (fun _ i _ => n + 8 - (intOf i).toNat)
  case atStart => exact ⟨0, by omega, rfl, World.ownsRow_nil _ _ _ _, Below.refl _ _⟩
  case round =>
    obtain ⟨k, hk, rfl, hown, hbel⟩ := hrel
    obtain ⟨a, ha⟩ : ∃ a, a = 8 * k := ⟨_, rfl⟩
    have HA : Hid (a = 8 * k) := ha
    rw [← ha] at hk ⊢
    clear ha
    by_cases hlt : a < n
    · have haI : (a : Int) < (n : Int) := by omega
      have haI0 : (0 : Int) ≤ (a : Int) := by omega
      have hcI : (n : Int) ≤ (cap : Int) := by omega
      have hwa : IntKind.i64.wrap ((a : Int) + 8) = ((a + 8 : Nat) : Int) := by rw [IntKind.wrap_i64]; omega
      have hcl := chunk_length data k
      have HS := hide (chunks_succ data k)
      have hkl := chunks_length data k
      obtain ⟨X, hX⟩ : ∃ X, X = chunk data k := ⟨_, rfl⟩
      rw [← hX] at hcl HS
      have hXm : (X.map byte).length = 8 := by rw [List.length_map, hcl]
      have hone := all_one X
      have hsz := hbel.size
      have hk2 : k ≤ 4096 := by have := HA.out; omega
      have HK : Hid (∀ L wx, L = min 8 (n - a) → Below w.heap.size w wx → Calls Try.prog 63 #[.slice (some ⟨b, o + a, none⟩) L (cap - a)] wx fun x w' => x = .returned (.agg (X.map byte).toArray) ∧ Below wx.heap.size wx w') := by
        intro L wx hL hb; rw [hX]; exact HF.out a k L wx HA.out hL hb
      clear hX
      by_cases h8 : a + 8 ≤ n
      · have h8I : ((a : Int) + 8) ≤ (n : Int) := by omega
        have h8c : ((a : Int) + 8) ≤ (cap : Int) := by omega
        have h8a : (a : Int) ≤ (a : Int) + 8 := by omega
        go_wp2_with (first
          | (go_at_call 63; refine (HK.out _ _ (by omega) hbel).mono ?_; rintro e1 w1 ⟨rfl, bel1⟩; have b1 := (hbel.trans (bel1.mono hsz)); have o1 := (hown.below bel1).alloc (.cells (X.map byte).toArray 50); have n1 : Blk (w1.alloc (.cells (X.map byte).toArray 50)) w1.heap.size 50 (X.map byte) := (Blk.new w1 _ _); have hnews := range_news (blk_whole n1); have b1a := (b1.alloc b1.size (.cells (X.map byte).toArray 50)))
          | (refine wpList_build1 rfl 58 _ rfl 50 8 _ (X.map byte) rfl Try.underlying58 Try.zero50 hXm (by omega) (by omega) ?_)
          | (at_builtin; refine wpList_append_own _ rfl _ _ 58 rfl w.heap.size 50 i0 _ 8 8 Try.underlying58 hi hz0 hz1 hz2 rfl (by decide) _ _ _ rfl o1 ⟨w1.heap.size, 0, none⟩ 1 1 (X.map byte) rfl hXm hnews hone (by unfold maxLen; omega) (by omega) b1a.size ?_; intro v1 w2 hown1 hgrow1 hnil1))
        have R1 : OwnK w2 w.heap.size v1 (chunks data (k + 1)) := by rw [HS.out]; exact ownK_snoc hown1
        have R2 := b1a.grown hgrow1 b1a.size (fun j hj => (o1.lt j hj).1)
        clear hown1 hgrow1 hnil1 hown hbel o1 n1 hnews b1 b1a
        go_wp2
        go_roundw
        case rel => exact ⟨k + 1, by have := HA.out; omega, by have := HA.out; go_num, R1, R2⟩
        case measure => simp [intOf]; omega
      · have h8I : ¬ ((a : Int) + 8) ≤ (n : Int) := by omega
        go_wp2_with (first
          | (go_at_call 63; refine (HK.out _ _ (by omega) hbel).mono ?_; rintro e1 w1 ⟨rfl, bel1⟩; have b1 := (hbel.trans (bel1.mono hsz)); have o1 := (hown.below bel1).alloc (.cells (X.map byte).toArray 50); have n1 : Blk (w1.alloc (.cells (X.map byte).toArray 50)) w1.heap.size 50 (X.map byte) := (Blk.new w1 _ _); have hnews := range_news (blk_whole n1); have b1a := (b1.alloc b1.size (.cells (X.map byte).toArray 50)))
          | (refine wpList_build1 rfl 58 _ rfl 50 8 _ (X.map byte) rfl Try.underlying58 Try.zero50 hXm (by omega) (by omega) ?_)
          | (at_builtin; refine wpList_append_own _ rfl _ _ 58 rfl w.heap.size 50 i0 _ 8 8 Try.underlying58 hi hz0 hz1 hz2 rfl (by decide) _ _ _ rfl o1 ⟨w1.heap.size, 0, none⟩ 1 1 (X.map byte) rfl hXm hnews hone (by unfold maxLen; omega) (by omega) b1a.size ?_; intro v1 w2 hown1 hgrow1 hnil1))
        have R1 : OwnK w2 w.heap.size v1 (chunks data (k + 1)) := by rw [HS.out]; exact ownK_snoc hown1
        have R2 := b1a.grown hgrow1 b1a.size (fun j hj => (o1.lt j hj).1)
        clear hown1 hgrow1 hnil1 hown hbel o1 n1 hnews b1 b1a
        go_wp2
        go_roundw
        case rel => exact ⟨k + 1, by have := HA.out; omega, by have := HA.out; go_num, R1, R2⟩
        case measure => simp [intOf]; omega
    · go_wp2
      go_ret
      rw [show (n + 7) / 8 = k from by have := HA.out; omega]
      exact ⟨_, rfl, hown, hbel⟩
end Go.Proofs.Ythjnalbgnjbdnaa
