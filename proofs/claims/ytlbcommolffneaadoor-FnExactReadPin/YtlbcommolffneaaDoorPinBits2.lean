/-
  Two arrays laid as a slice.
-/
import Derived.Test.YtlbcommolffneaaDoorPinImpl
namespace Go.Proofs.YtlbcommolffneaaDoor
open Go.RowKit

theorem fold_place (l : List Value) (off k : Nat) (cs : Array Value) (h : off + k + l.length ≤ cs.size) :
    (l.zipIdx k).foldl (fun (cs : Array Value) (x : Value × Nat) => cs.setIfInBounds (off + x.2) x.1) cs = (cs.toList.take (off + k) ++ l ++ cs.toList.drop (off + k + l.length)).toArray := by
  induction l generalizing k cs with
  | nil => simp
  | cons a l ih =>
    rw [List.length_cons] at h
    rw [List.zipIdx_cons, List.foldl_cons, ih (k + 1) _ (by rw [Array.size_setIfInBounds]; omega), Array.toList_setIfInBounds, List.length_cons]
    have hl : off + k < cs.toList.length := by rw [Array.length_toList]; omega
    rw [show off + (k + 1) = off + k + 1 from by omega, List.take_set, List.take_succ_eq_append_getElem hl, List.set_append_right _ _ (by rw [List.length_take]; omega), List.drop_set_of_lt (by omega)]
    rw [List.length_take, Nat.min_eq_left (Nat.le_of_lt hl), Nat.sub_self, List.set_cons_zero, show off + k + 1 + l.length = off + k + (l.length + 1) from by omega, List.append_assoc, List.append_assoc, List.singleton_append, List.append_assoc, List.cons_append]
theorem fold_whole (l : List Value) (off : Nat) (cs : Array Value) (h : off + l.length ≤ cs.size) :
    l.zipIdx.foldl (fun (cs : Array Value) (x : Value × Nat) => cs.setIfInBounds (off + x.2) x.1) cs = (cs.toList.take off ++ l ++ cs.toList.drop (off + l.length)).toArray := fold_place l off 0 cs h
theorem fill_two (N : Nat) (a b : List Value) (cells : Array Value) (hc : cells.size = 2 * N) (ha : a.length = N) (hb : b.length = N) :
    Instr.fill (fun i => some (i * N, N)) cells [(0, .agg a.toArray), (1, .agg b.toArray)] = some (a ++ b).toArray := by
  have e1 := fold_whole a 0 cells (by omega)
  have e2 := fold_whole b N ((a ++ cells.toList.drop N).toArray) (by simp [hc, ha, hb]; omega)
  simp only [Nat.zero_add, List.take_zero, List.nil_append, ha] at e1
  have e3 : ((a ++ cells.toList.drop N).toArray.toList.take N ++ b ++ (a ++ cells.toList.drop N).toArray.toList.drop (N + b.length)).toArray = (a ++ b).toArray := by
    rw [List.toList_toArray, List.take_left' ha, List.drop_append, List.drop_of_length_le (by omega), List.nil_append, List.drop_of_length_le (by rw [List.length_drop, Array.length_toList]; omega), List.append_nil]
  rw [e3] at e2
  simp only [Instr.fill, Value.cells, List.size_toArray, ha, hb, Nat.zero_mul, Nat.one_mul, Nat.zero_add, ne_eq, not_true_eq_false, decide_false, Bool.false_or, decide_eq_true_eq, ← Array.foldl_toList, Array.toList_zipIdx, e1]
  rw [if_neg (by omega), if_neg (by simp [ha, hc]; omega), e2]
/-- Two elements of N cells each, made a slice. -/
theorem run_buildSlice2 {P : Program} (w : World) (t e N : Nat) (z : Value) (a b : List Value) (ht : P.underlying t = some (.slice e)) (hz : (P.info? e).map (fun i => (i.zero, i.size)) = some (some z, N)) (ha : a.length = N) (hb : b.length = N) (h0 : 0 < N) (hN : N ≤ 1048576) :
    (Instr.buildSlice t 2 #[(0, .agg a.toArray), (1, .agg b.toArray)]).run P w = .ok (.slice (some ⟨w.heap.size, 0, none⟩) 2 2) (w.alloc (.cells (a ++ b).toArray e)) := by
  cases hq : P.info? e with
  | none => simp [hq] at hz
  | some i =>
    have hz1 : i.zero = some z := by simp [hq] at hz; exact hz.1
    have hz2 : i.size = N := by simp [hq] at hz; exact hz.2
    have h1 : ¬ (2 * N > 16777216) := by omega
    have h2 : ¬ (2 * N = 0) := by omega
    have hf := fill_two N a b ((Array.range (2 * N)).map (z.cells[· % z.cells.size]!)) (by simp) ha hb
    have hsz : ∀ wx, (sizeOf e).run P wx = .ok N wx := fun wx => by simp [sizeOf, typeInfo, hq, hz2]
    have hzv : ∀ wx, (zeroValue e).run P wx = .ok z wx := fun wx => by simp [zeroValue, typeInfo, hq, hz1]
    simp [Instr.buildSlice, run_underlying ht, hsz, hzv, hf, newRow]
    rw [if_neg h1, if_neg h2]
theorem own_of_blk {w : World} {g t base n : Nat} {bs : List UInt8} (h : Blk w g t (bs.map byte)) (hb : base ≤ g) (hn : bs.length = n) (hm : n ≤ maxLen) : Own w base (.slice (some ⟨g, 0, none⟩) n n) bs := by
  subst hn
  exact ⟨t, by simp, .inr ⟨g, bs.length, (bs.map byte).toArray, rfl, hb, h, Nat.le_refl _, hm, by simp, by rw [List.take_of_length_le (by simp)]⟩⟩
theorem below_new (w : World) (o : Obj) : Below w.heap.size w (w.alloc o) := (Below.refl _ _).alloc (Nat.le_refl _) o
theorem below_step {a b c : World} (h : Below a.heap.size a b) (h2 : Below b.heap.size b c) : Below a.heap.size a c := h.trans (h2.mono h.size)
section
variable {P : Program} {op : Oper} {a : Act} {w : World} {K : Act → World → Prop} {Q : Exit → Act → World → Prop}
theorem wp_build2 (d : Option Tmp) (hd : op.dst = d) (t : TypeId) (x y : Operand) (ho : op.op = .buildSlice t 2 #[(0, x), (1, y)]) (e N : Nat) (z : Value) (A B : List Value) (hx : a.eval x = .agg A.toArray) (hy : a.eval y = .agg B.toArray)
    (ht : P.underlying t = some (.slice e)) (hz : (P.info? e).map (fun i => (i.zero, i.size)) = some (some z, N)) (hA : A.length = N) (hB : B.length = N) (h0 : 0 < N) (hN : N ≤ 1048576)
    (h : K (a.put d (.slice (some ⟨w.heap.size, 0, none⟩) 2 2)) (w.alloc (.cells (A ++ B).toArray e))) : op.wp P a w K Q := by
  subst hd
  unfold Oper.wp execOp
  simp only [ho, List.map_toArray, List.map_cons, List.map_nil, hx, hy, Sem.run_bind, run_buildSlice2 w t e N z A B ht hz hA hB h0 hN, Result.andThen_ok]
  exact h

end
section
variable {P : Program} {ops : Array Oper} {rest : List Oper} {op : Oper} {a : Act} {w : World} {Q : Exit → Act → World → Prop}
theorem wpList_build2 (hgd : op.guard = none) (t : TypeId) (x y : Operand) (ho : op.op = .buildSlice t 2 #[(0, x), (1, y)]) (e N : Nat) (z : Value) (A B : List Value) (hx : a.eval x = .agg A.toArray) (hy : a.eval y = .agg B.toArray)
    (ht : P.underlying t = some (.slice e)) (hz : (P.info? e).map (fun i => (i.zero, i.size)) = some (some z, N)) (hA : A.length = N) (hB : B.length = N) (h0 : 0 < N) (hN : N ≤ 1048576)
    (h : wpList P ops Q rest (a.put op.dst (.slice (some ⟨w.heap.size, 0, none⟩) 2 2)) (w.alloc (.cells (A ++ B).toArray e))) : wpList P ops Q (op :: rest) a w :=
  wpList_plain hgd fun _ hK => wp_build2 op.dst rfl t x y ho e N z A B hx hy ht hz hA hB h0 hN (hK _ _ h)
end
/-- The digits of a block, as numbers. -/
def fillN (f : Nat) (pin : ByteArray) (draws : List UInt8) : List Nat := if f = 3 then (draws.take (14 - pin.size)).map (fun d => 10 + d.toNat % 6) else List.replicate (14 - pin.size) 15
def pinN (f : Nat) (pin : ByteArray) (draws : List UInt8) : List Nat := [f, pin.size] ++ pin.data.toList.map digN ++ fillN f pin draws
theorem pinN_length (f : Nat) (pin : ByteArray) (draws : List UInt8) (h12 : pin.size ≤ 12) (hd : f = 3 → 14 - pin.size ≤ draws.length) : (pinN f pin draws).length = 16 := by
  have hp : pin.data.toList.length = pin.size := rfl
  unfold pinN fillN
  rw [List.length_append, List.length_append, List.length_map, hp]
  split
  · rename_i h
    have := hd h
    rw [List.length_map, List.length_take]
    show 2 + _ + _ = _
    omega
  · rw [List.length_replicate]
    show 2 + _ + _ = _
    omega
theorem pinN_lt (f : Nat) (pin : ByteArray) (draws : List UInt8) (hf : f < 16) (h12 : pin.size ≤ 12) (hp : digs pin = true) : ∀ d ∈ pinN f pin draws, d < 16 := by
  intro d hd
  unfold pinN at hd
  rw [List.mem_append, List.mem_append] at hd
  rcases hd with (hd | hd) | hd
  · simp at hd; omega
  · obtain ⟨b, hb, rfl⟩ := List.mem_map.1 hd
    unfold digs at hp
    rw [List.all_eq_true] at hp
    have := dig_to (hp b hb)
    unfold digN
    omega
  · unfold fillN at hd
    split at hd
    · obtain ⟨b, -, rfl⟩ := List.mem_map.1 hd
      omega
    · have := List.eq_of_mem_replicate hd
      omega
theorem digs_text (pin : ByteArray) (hp : digs pin = true) : (pin.data.toList.map digN).map hexC = pin.data.toList := map_digs _ (by unfold digs at hp; rw [List.all_eq_true] at hp; exact hp)
theorem bytes_of (s : ByteArray) : s = ⟨s.data.toList.toArray⟩ := by cases s; simp
theorem repeat_F (n : Nat) : Lib.repeatL [70] n = (List.replicate n 15).map hexC := by
  induction n with
  | zero => rfl
  | succ n ih =>
    show [70] ++ Lib.repeatL [70] n = _
    rw [ih, List.replicate_succ]
    rfl
theorem text0 (pin : ByteArray) (hp : digs pin = true) (draws : List UInt8) : (ByteArray.mk #[hexC 0]) ++ (ByteArray.mk #[hexC pin.size]) ++ pin ++ ⟨(Lib.repeatL [70] (14 - pin.size)).toArray⟩ = ⟨((pinN 0 pin draws).map hexC).toArray⟩ := by
  apply ByteArray.ext
  rw [ByteArray.data_append, ByteArray.data_append, ByteArray.data_append]
  apply Array.ext'
  rw [Array.toList_append, Array.toList_append, Array.toList_append]
  unfold pinN fillN
  rw [List.map_append, List.map_append, digs_text pin hp, if_neg (by omega), repeat_F]
  rfl
theorem text3 (pin : ByteArray) (hp : digs pin = true) (draws : List UInt8) : (ByteArray.mk #[hexC 3]) ++ (ByteArray.mk #[hexC pin.size]) ++ pin ++ ⟨((draws.take (14 - pin.size)).map drawnC).toArray⟩ = ⟨((pinN 3 pin draws).map hexC).toArray⟩ := by
  apply ByteArray.ext
  rw [ByteArray.data_append, ByteArray.data_append, ByteArray.data_append]
  apply Array.ext'
  rw [Array.toList_append, Array.toList_append, Array.toList_append]
  unfold pinN fillN
  rw [List.map_append, List.map_append, digs_text pin hp, if_pos rfl, List.map_map]
  rfl
/-- The block in the clear. -/
def pinL (f : Nat) (pin pan : ByteArray) (draws : List UInt8) : List UInt8 := xorL (blockN (wordH (pinN f pin draws))) (blockN (wordH (acctN pan)))
theorem pinL_length (f : Nat) (pin pan : ByteArray) (draws : List UInt8) : (pinL f pin pan draws).length = 8 := by
  unfold pinL
  rw [xorL_length _ _ (by rw [blockN_length, blockN_length]), blockN_length]
end Go.Proofs.YtlbcommolffneaaDoor
