/-
  Steps of a region that draws its order: laws at one operation.
-/
import Derived.Test.YthjnalbgnjbdnaaConcat
namespace Go.Proofs.Ythjnalbgnjbdnaa
open Go.RowKit

theorem fold_place (l : List Value) (off k : Nat) (cs : Array Value) (h : off + k + l.length ≤ cs.size) :
    (l.zipIdx k).foldl (fun (cs : Array Value) (x : Value × Nat) => cs.setIfInBounds (off + x.2) x.1) cs = (cs.toList.take (off + k) ++ l ++ cs.toList.drop (off + k + l.length)).toArray := by
  induction l generalizing k cs with
  | nil => simp
  | cons a l ih =>
    rw [List.length_cons] at h
    rw [List.zipIdx_cons, List.foldl_cons, ih (k + 1) _ (by rw [Array.size_setIfInBounds]; omega), Array.toList_setIfInBounds, List.length_cons]
    have hl : off + k < cs.toList.length := by rw [Array.length_toList]; omega
    rw [show off + (k + 1) = off + k + 1 from by omega, List.take_set, List.take_succ_eq_append_getElem hl, List.set_append_right _ _ (by rw [List.length_take]; omega), List.drop_set_of_lt (by omega)]
    rw [List.length_take, Nat.min_eq_left (Nat.le_of_lt hl), Nat.sub_self, List.set_cons_zero, show off + k + 1 + l.length = off + k + (l.length + 1) from by omega, List.append_assoc, List.append_assoc, List.singleton_append, List.append_assoc, List.cons_append]

theorem fold_whole (l : List Value) (off : Nat) (cs : Array Value) (h : off + l.length ≤ cs.size) :
    l.zipIdx.foldl (fun (cs : Array Value) (x : Value × Nat) => cs.setIfInBounds (off + x.2) x.1) cs = (cs.toList.take off ++ l ++ cs.toList.drop (off + l.length)).toArray := fold_place l off 0 cs h

theorem fill_two (N : Nat) (a b : List Value) (cells : Array Value) (hc : cells.size = 2 * N) (ha : a.length = N) (hb : b.length = N) :
    Instr.fill (fun i => some (i * N, N)) cells [(0, .agg a.toArray), (1, .agg b.toArray)] = some (a ++ b).toArray := by
  have e1 := fold_whole a 0 cells (by omega)
  have e2 := fold_whole b N ((a ++ cells.toList.drop N).toArray) (by simp [hc, ha, hb]; omega)
  simp only [Nat.zero_add, List.take_zero, List.nil_append, ha] at e1
  have e3 : ((a ++ cells.toList.drop N).toArray.toList.take N ++ b ++ (a ++ cells.toList.drop N).toArray.toList.drop (N + b.length)).toArray = (a ++ b).toArray := by
    rw [List.toList_toArray, List.take_left' ha, List.drop_append, List.drop_of_length_le (by omega), List.nil_append, List.drop_of_length_le (by rw [List.length_drop, Array.length_toList]; omega), List.append_nil]
  rw [e3] at e2
  simp only [Instr.fill, Value.cells, List.size_toArray, ha, hb, Nat.zero_mul, Nat.one_mul, Nat.zero_add, ne_eq, not_true_eq_false, decide_false, Bool.false_or, decide_eq_true_eq, ← Array.foldl_toList, Array.toList_zipIdx, e1]
  rw [if_neg (by omega), if_neg (by simp [ha, hc]; omega), e2]

/-- Two elements of N cells each, made a slice. -/
theorem run_buildSlice2 {P : Program} (w : World) (t e N : Nat) (z : Value) (a b : List Value) (ht : P.underlying t = some (.slice e)) (hz : (P.info? e).map (fun i => (i.zero, i.size)) = some (some z, N)) (ha : a.length = N) (hb : b.length = N) (h0 : 0 < N) (hN : N ≤ 1048576) :
    (Instr.buildSlice t 2 #[(0, .agg a.toArray), (1, .agg b.toArray)]).run P w = .ok (.slice (some ⟨w.heap.size, 0, none⟩) 2 2) (w.alloc (.cells (a ++ b).toArray e)) := by
  cases hq : P.info? e with
  | none => simp [hq] at hz
  | some i =>
    have hz1 : i.zero = some z := by simp [hq] at hz; exact hz.1
    have hz2 : i.size = N := by simp [hq] at hz; exact hz.2
    have h1 : ¬ (2 * N > 16777216) := by omega
    have h2 : ¬ (2 * N = 0) := by omega
    have hf := fill_two N a b ((Array.range (2 * N)).map (z.cells[· % z.cells.size]!)) (by simp) ha hb
    have hsz : ∀ wx, (sizeOf e).run P wx = .ok N wx := fun wx => by simp [sizeOf, typeInfo, hq, hz2]
    have hzv : ∀ wx, (zeroValue e).run P wx = .ok z wx := fun wx => by simp [zeroValue, typeInfo, hq, hz1]
    simp [Instr.buildSlice, run_underlying ht, hsz, hzv, hf, newRow]
    rw [if_neg h1, if_neg h2]

section
variable {P : Program} {op : Oper} {a : Act} {w : World} {K : Act → World → Prop} {Q : Exit → Act → World → Prop}
theorem wp_build2 (d : Option Tmp) (hd : op.dst = d) (t : TypeId) (x y : Operand) (ho : op.op = .buildSlice t 2 #[(0, x), (1, y)]) (e N : Nat) (z : Value) (A B : List Value) (hx : a.eval x = .agg A.toArray) (hy : a.eval y = .agg B.toArray)
    (ht : P.underlying t = some (.slice e)) (hz : (P.info? e).map (fun i => (i.zero, i.size)) = some (some z, N)) (hA : A.length = N) (hB : B.length = N) (h0 : 0 < N) (hN : N ≤ 1048576)
    (h : K (a.put d (.slice (some ⟨w.heap.size, 0, none⟩) 2 2)) (w.alloc (.cells (A ++ B).toArray e))) : op.wp P a w K Q := by
  subst hd
  unfold Oper.wp execOp
  simp only [ho, List.map_toArray, List.map_cons, List.map_nil, hx, hy, Sem.run_bind, run_buildSlice2 w t e N z A B ht hz hA hB h0 hN, Result.andThen_ok]
  exact h

theorem wp_load_to (d : Option Tmp) (hd : op.dst = d) (ty : TypeId) (x : Operand) (ho : op.op = .load ty x) (b o : Nat) (hx : a.eval x = .pointer (some ⟨b, o, none⟩)) (cs : List Value) (D : TypeDesc) (hc : w.rangeAt b o cs)
    (hu : P.underlying ty = some D) (hD : D.isRow = true) (hi : (P.info? ty).map (·.size) = some cs.length) (h : K (a.put d (.agg cs.toArray)) w) : op.wp P a w K Q := by
  subst hd
  exact wp_load_mid ty x ho b o hx cs D hc hu hD hi h

theorem wp_store_blk (hd : op.dst = none) (ty : TypeId) (x y : Operand) (ho : op.op = .store ty x y) (g : Nat) (hx : a.eval x = .pointer (some ⟨g, 0, none⟩)) {t : Nat} {old cs : List Value} (hy : a.eval y = .agg cs.toArray) (hb : Blk w g t old)
    (hi : (P.info? ty).map (·.size) = some cs.length) (hl : old.length = cs.length) (h1 : cs.toArray.all (·.oneCell') = true)
    (h : K a (w.setRow g cs.toArray)) : op.wp P a w K Q := by
  have hst : (storeCells ⟨g, 0, none⟩ cs 0).run P w = .ok () (w.setRow g cs.toArray) := by
    have := run_storeCells_from (P := P) g t cs 0 old.toArray w hb (by rw [List.size_toArray, Nat.zero_add]; omega) (fun v hv => (Array.all_eq_true_iff_forall_mem.1 h1) v (by simpa using hv))
    rw [List.take_zero, List.nil_append] at this
    exact this
  have hsv : (storeVar ty ⟨g, 0, none⟩ (.agg cs.toArray)).run P w = .ok () (w.setRow g cs.toArray) := by
    cases hq : P.info? ty with
    | none => simp [hq] at hi
    | some i =>
      have hs : cs.length = i.size := by simp [hq] at hi; omega
      simp [storeVar, sizeOf, typeInfo, hq, Value.cells, hs, hst]
  unfold Oper.wp execOp
  simp only [ho, hx, hy, Instr.storeAt, Instr.sureAddr, Sem.run_bind, Sem.run_pure, Result.andThen_ok, hsv]
  have h' : K (a.put op.dst undef) (w.setRow g cs.toArray) := by rw [hd]; exact h
  exact h'

theorem below_new (w : World) (o : Obj) : Below w.heap.size w (w.alloc o) := (Below.refl _ _).alloc (Nat.le_refl _) o
theorem below_step {a b c : World} (h : Below a.heap.size a b) (h2 : Below b.heap.size b c) : Below a.heap.size a c := h.trans (h2.mono h.size)
end
end Go.Proofs.Ythjnalbgnjbdnaa
