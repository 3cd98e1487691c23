/-
  Arrays by value, and the blocks of memory that hold them. Nothing of the program.
-/
import Derived.Test.YthjnalbgnjbdnaaBase
import Derived.Laws.BitsAllLaws
import Derived.Deep.WholeRow
namespace Go.Proofs.Ythjnalbgnjbdnaa
open Go.RowKit

/-- An element of an array by value. -/
theorem run_index_agg {P : Program} {t e n : Nat} {d : TypeDesc} (hu : P.underlying t = some (.array n e)) (hue : P.underlying e = some d) (hd : (match d with | .struct _ | .array _ _ => true | _ => false) = false) (hs : (P.info? e).map (·.size) = some 1)
    (cs : Array Value) (k : IntKind) (i : Nat) (hin : i < n) (v : Value) (hv : cs[i]? = some v) (w : World) : (Instr.index t (.agg cs) (.int k (i : Int))).run P w = .ok v w := by
  cases hq : P.info? e with
  | none => simp [hq] at hs
  | some x =>
    have hsz : x.size = 1 := by simpa [hq] using hs
    have hagg : (isAgg e).run P w = .ok false w := by
      unfold isAgg
      rw [Sem.run_bind, run_underlying hue w]
      cases d <;> simp_all
    simp [Instr.index, asIntOf, Sem.run_bind, run_underlying hu w, sizeOf, typeInfo, hq, hsz, Go.part, hagg, hv, hin]

/-- The block g holds just these cells, free to be written. -/
def Blk (w : World) (g t : Nat) (cs : List Value) : Prop := w.heap[g]? = some (.cells cs.toArray t (0, 0))

theorem Blk.cell {w : World} {g t : Nat} {cs : List Value} (h : Blk w g t cs) (j : Nat) (hj : j < cs.length) : w.cell? ⟨g, j, none⟩ = some cs[j] := by
  rw [cell_of_row w g j _ t (0, 0) h]; simp [hj]
theorem Blk.free {w : World} {g t : Nat} {cs : List Value} (h : Blk w g t cs) (j : Nat) : w.frozen? ⟨g, j, none⟩ = false := frozen_of_row w g j _ t h
theorem Blk.set {w : World} {g t : Nat} {cs : List Value} (h : Blk w g t cs) (j : Nat) (v : Value) : Blk (w.setCell ⟨g, j, none⟩ v) g t (cs.set j v) := by
  have := heap_setCell_same w g j cs.toArray t v h
  unfold Blk
  rw [this]
  simp
theorem Blk.other {w : World} {g t : Nat} {cs : List Value} (h : Blk w g t cs) (a : Addr) (v : Value) (hne : g ≠ a.block) : Blk (w.setCell a v) g t cs := by
  unfold Blk; rw [heap_setCell_other w a g v hne]; exact h
theorem Blk.new (w : World) (t : Nat) (cs : Array Value) : Blk (w.alloc (.cells cs t)) w.heap.size t cs.toList := by
  unfold Blk; rw [heap_alloc_new]
theorem Blk.newAt (w : World) (t n : Nat) (cs : Array Value) (h : n = w.heap.size) : Blk (w.alloc (.cells cs t)) n t cs.toList := by subst h; exact Blk.new w t cs
theorem Blk.new2 (w : World) (A : Obj) (t : Nat) (cs : Array Value) : Blk ((w.alloc A).alloc (.cells cs t)) (w.heap.size + 1) t cs.toList := by
  unfold Blk; rw [heap_alloc2_new]
theorem Blk.lt {w : World} {g t : Nat} {cs : List Value} (h : Blk w g t cs) : g < w.heap.size := lt_of_block h
theorem Blk.alloc {w : World} {g t : Nat} {cs : List Value} (h : Blk w g t cs) (o : Obj) : Blk (w.alloc o) g t cs := by
  unfold Blk; rw [Below.heap_alloc w o g (Blk.lt h)]; exact h
theorem Blk.grown {w w' : World} {g t : Nat} {row : Option Nat} {cs : List Value} (h : Blk w g t cs) (hg : w.grownBy w' row) (hne : some g ≠ row) : Blk w' g t cs := by
  unfold Blk; rw [hg.block g (Blk.lt h) hne]; exact h
theorem Blk.below {w w' : World} {g t B : Nat} {cs : List Value} (h : Blk w g t cs) (hb : Below B w w') (hg : g < B) : Blk w' g t cs := by
  unfold Blk; rw [hb.block g hg]; exact h
theorem Blk.drew1 {w : World} {g t : Nat} {cs : List Value} (h : Blk w g t cs) : Blk w.drew g t cs := h
theorem Blk.setRow {w : World} {g t : Nat} {cs : List Value} (h : Blk w g t cs) (cs' : List Value) : Blk (w.setRow g cs'.toArray) g t cs' := setRow_heap w g _ _ t _ h
theorem below_setRow' {B : Nat} {a w : World} (h : Below B a w) {g : Nat} (hp : B ≤ g) (cs : Array Value) : Below B a (w.setRow g cs) :=
  h.trans ⟨rfl, rfl, rfl, by simp, fun k hk => setRow_other w g k cs (by omega)⟩

theorem allOne_bytes (bs : List UInt8) : (bs.map byte).toArray.all (·.oneCell') = true := by
  rw [Array.all_eq_true_iff_forall_mem]
  intro v hv
  simp only [List.mem_toArray, List.mem_map] at hv
  obtain ⟨b, -, rfl⟩ := hv
  rfl

theorem load_blk {P : Program} {ops : Array Oper} {rest : List Oper} {o : Oper} {a : Act} {w : World} {Q : Exit → Act → World → Prop} (hgd : o.guard = none) (ty : Nat) (x : Operand) (ho : o.op = .load ty x)
    (g : Nat) (hx : a.eval x = .pointer (some ⟨g, 0, none⟩)) {t : Nat} {cs : List Value} (hb : Blk w g t cs) {d : TypeDesc} (hu : P.underlying ty = some d) (hd : (match d with | .struct _ | .array _ _ => true | _ => false) = true)
    (hi : (P.info? ty).map (·.size) = some cs.length) (h : wpList P ops Q rest (a.put o.dst (.agg cs.toArray)) w) : wpList P ops Q (o :: rest) a w :=
  wpList_load_row hgd ty x ho g hx t cs.toArray (0, 0) d hb hu hd (by simpa using hi) h

theorem store_blk {P : Program} {ops : Array Oper} {rest : List Oper} {o : Oper} {a : Act} {w : World} {Q : Exit → Act → World → Prop} (hgd : o.guard = none) (ty : Nat) (x y : Operand) (ho : o.op = .store ty x y)
    (g : Nat) (hx : a.eval x = .pointer (some ⟨g, 0, none⟩)) {t : Nat} {old cs : List Value} (hy : a.eval y = .agg cs.toArray) (hb : Blk w g t old) (hi : (P.info? ty).map (·.size) = some cs.length) (hl : old.length = cs.length) (h1 : cs.toArray.all (·.oneCell') = true)
    (h : ∀ w', Blk w' g t cs → w.grownBy w' (some g) → w'.heap.size = w.heap.size → wpList P ops Q rest (a.put o.dst undef) w') : wpList P ops Q (o :: rest) a w :=
  wpList_store_row hgd ty x y ho g cs.toArray hx hy t old.toArray hb (by simpa using hi) (by simpa using hl) h1
    (h _ (Blk.setRow hb cs) ⟨rfl, rfl, rfl, by simp, fun k _ hk => setRow_other w g k _ (fun e => hk (by simp [e]))⟩ (by simp))

theorem results_blk {P : Program} {fn : Func} {p ty : Nat} (h : fn.results = #[.cell p ty]) (tmps : Array Value) (w : World) {g t : Nat} {cs : List Value} {d : TypeDesc} (hp : tmps.getD p undef = .pointer (some ⟨g, 0, none⟩)) (hb : Blk w g t cs)
    (hu : P.underlying ty = some d) (hd : (match d with | .struct _ | .array _ _ => true | _ => false) = true) (hi : (P.info? ty).map (·.size) = some cs.length) : (results fn tmps).run P w = .ok (.agg cs.toArray) w :=
  results_cell_row h tmps w g t cs.toArray (0, 0) d hp hb hu hd (by simpa using hi)

theorem shl_u64 {P : Program} (x s : Nat) (yk : IntKind) (hs : s ≤ 64) (hb : x * 2 ^ s < 18446744073709551616) (w : World) : (Op.shift BinOp.shl IntKind.u64 (x : Int) yk (s : Int)).run P w = .ok (.int .u64 ((x * 2 ^ s : Nat) : Int)) w := by
  have h0 : ¬ ((s : Int) < 0) := by omega
  have e : min ((s : Int).toNat) IntKind.u64.bits = s := by simp [IntKind.bits]; omega
  have e2 : (x : Int) * 2 ^ s = ((x * 2 ^ s : Nat) : Int) := by simp
  unfold Op.shift
  rw [if_neg h0]
  simp only [e, e2, IntKind.wrap_u64]
  rw [show ((x * 2 ^ s : Nat) : Int) % 18446744073709551616 = ((x * 2 ^ s : Nat) : Int) from by omega]
  rfl

theorem shr_u64 {P : Program} (x s : Nat) (yk : IntKind) (hs : s ≤ 64) (w : World) : (Op.shift BinOp.shr IntKind.u64 (x : Int) yk (s : Int)).run P w = .ok (.int .u64 ((x / 2 ^ s : Nat) : Int)) w := by
  have h0 : ¬ ((s : Int) < 0) := by omega
  have e : min ((s : Int).toNat) IntKind.u64.bits = s := by simp [IntKind.bits]; omega
  have e2 : (x : Int).fdiv (2 ^ s) = ((x / 2 ^ s : Nat) : Int) := by rw [Int.fdiv_eq_ediv_of_nonneg _ (Int.le_of_lt (Int.pow_pos (by omega)))]; simp
  unfold Op.shift
  rw [if_neg h0]
  simp only [e, e2]
  rfl

theorem build_to {P : Program} {ops : Array Oper} {rest : List Oper} {o : Oper} {a : Act} {w : World} {Q : Exit → Act → World → Prop} (hg : o.guard = none) (t : Nat) (parts : Array (Nat × Operand)) (ho : o.op = .build t parts) (cs : List Value)
    (hf : P.built t (parts.map fun (i, x) => (i, a.eval x)).toList = some cs.toArray) (h : wpList P ops Q rest (a.put o.dst (.agg cs.toArray)) w) : wpList P ops Q (o :: rest) a w :=
  wpList_build hg t parts ho (by rw [hf]; rfl) (by rw [hf]; exact h)

end Go.Proofs.Ythjnalbgnjbdnaa
