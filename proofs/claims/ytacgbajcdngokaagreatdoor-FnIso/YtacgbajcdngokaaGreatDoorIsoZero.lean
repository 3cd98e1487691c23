/-
  append of zeros onto a row of the call's own, and a store into one.
-/
import Derived.Test.YtacgbajcdngokaaGreatDoorIsoApp
namespace Go.Proofs.YtacgbajcdngokaaGreatDoor
open Go.RowKit

theorem zero_cells (n : Nat) : Builtin.zeroCells (Value.int IntKind.u8 0).cells n = ((List.replicate n (0 : UInt8)).map byte).toArray := by
  apply Array.ext'
  simp only [Builtin.zeroCells, Value.cells, List.map_replicate]
  show ((Array.range (n * 1)).map _).toList = _
  rw [Nat.mul_one, Array.toList_map, Array.toList_range]
  apply List.ext_getElem
  · simp
  · intro i h1 h2
    simp only [List.getElem_map, List.getElem_replicate, Nat.mod_one, List.size_toArray, List.length_singleton]
    rfl
theorem run_append_Z {w : World} (base ty : Nat) (v : Value) (l : List UInt8) (n : Nat) (h0 : 0 < n) (hown : OwnT w base v l) (h63 : l.length + n ≤ 1073741824) (hbase : base ≤ w.heap.size) :
    ∃ v' w', (Builtin.append_ #[22, 3] ty #[v, .int .i64 (n : Int)]).run Tryz.prog w = .ok v' w' ∧ OwnT w' base v' (l ++ List.replicate n 0) ∧ w.grownBy w' v.ownBlock := by
  obtain ⟨i0, hi, hz0, hz1, hz2⟩ := info_parts Tryz.infoB8
  obtain ⟨g, cap, cur, fz, rfl, hbg, hg, hfz, hlc, hcm, hcs, ht⟩ := hown
  have hn : n ≠ 0 := by omega
  have h1 : IntKind.i64.wrap (n : Int) = (n : Int) := by rw [IntKind.wrap_i64]; omega
  have h2 : ¬ ((n : Int) < 0) := by omega
  have h3 : ¬ (281474976710656 < (n : Int)) := by omega
  have hd : (List.replicate n (0 : UInt8)).length = n := List.length_replicate
  have hzc := zero_cells n
  obtain ⟨d, hde⟩ : ∃ d, d = List.replicate n (0 : UInt8) := ⟨_, rfl⟩
  rw [← hde] at hd hzc ⊢
  have hlen : (l.map byte ++ d.map byte).length = l.length + n := by simp [hd]
  have hrw : (Value.slice (some ⟨g, 0, none⟩) l.length cap).ownBlock = some g := rfl
  by_cases hroom : l.length + n ≤ cap
  · have hst := run_storeT Tryz.prog g l.length 5 fz (d.map byte) 0 cur w hg (by rw [hcs]; exact hfz) (by simp [hd]; omega) (news_one d)
    simp only [Nat.add_zero, List.length_map, hd] at hst
    refine ⟨.slice (some ⟨g, 0, none⟩) (l.length + n) cap, w.setRow g (cur.toList.take l.length ++ d.map byte ++ cur.toList.drop (l.length + n)).toArray, ?_, ?_, ⟨rfl, rfl, rfl, by simp, fun k _ hk => setRow_other w g k _ (fun e => hk (by simp [Value.ownBlock, e]))⟩⟩
    · simp [Builtin.append_, run_underlying Tryz.underlying22, run_underlying Tryz.underlying3, sizeOf, typeInfo, zeroValue, asInt, asIntOf, hi, hz0, hz1, hz2, h1, h2, h3, hn, hroom, hzc, Addr.add_lit, hst]
    · refine ⟨g, cap, _, fz, by rw [List.length_append, hd], hbg, setRow_heap w g cur _ _ _ hg, hfz, by rw [List.length_append, hd]; exact hroom, hcm, ?_, ?_⟩
      · simp only [List.size_toArray, List.length_append, List.length_take, List.length_drop, Array.length_toList, List.length_map, hd]; omega
      · rw [ht, List.map_append, List.length_append, hd, ← hlen]; exact List.take_left
  · have holds : ∀ j u, (l.map byte)[j]? = some u → w.cell? ((⟨g, 0, none⟩ : Addr).add j) = some u := by
      obtain ⟨g', cap', e', -, -, hrw⟩ := OwnT.row (w := w) (base := base) (v := .slice (some ⟨g, 0, none⟩) l.length cap) (l := l) ⟨g, cap, cur, fz, rfl, hbg, hg, hfz, hlc, hcm, hcs, ht⟩
      simp only [Value.slice.injEq, Option.some.injEq, Addr.mk.injEq, and_true, true_and] at e'
      obtain ⟨rfl, rfl⟩ := e'
      exact news_row hrw
    have hfo := run_firstCells_some (P := Tryz.prog) w.drew 1 l.length ⟨g, 0, none⟩ l.length cap (l.map byte) (by simp) (by simpa using holds)
    have hge := grownCap_ge w (l.length + n) cap 5
    have hcm2 : grownCap w (l.length + n) cap 5 ≤ maxLen := grownCap_le_maxLen w (l.length + n) cap 5 (by unfold maxLen; omega)
    have hfit := (growslice_fits (by omega) (by rw [hz2]; omega) : Builtin.nextslicecap (l.length + n) cap * i0.bytes ≤ 281474976710656)
    have h63' : ¬ (9223372036854775807 < ((l.length : Int) + (n : Int))) := by omega
    have h48' : ¬ (281474976710656 < Builtin.nextslicecap (l.length + n) cap) := by rw [hz2] at hfit; omega
    refine ⟨.slice (some ⟨w.heap.size, 0, none⟩) (l.length + n) (grownCap w (l.length + n) cap 5), w.drew.alloc (.cells ((l.map byte).toArray ++ (d.map byte).toArray ++ Builtin.zeroCells (Value.int IntKind.u8 0).cells (grownCap w (l.length + n) cap 5 - (l.length + n))) 5), ?_, ⟨w.heap.size, _, _, (0, 0), by rw [List.length_append, hd], hbase, heap_alloc_new w.drew _, .inl rfl, by rw [List.length_append, hd]; exact hge, hcm2, ?_, ?_⟩, ⟨rfl, rfl, rfl, by simp, fun k hk _ => Go.heap_alloc_old w.drew _ hk⟩⟩
    · simp [Builtin.append_, run_underlying Tryz.underlying22, run_underlying Tryz.underlying3, sizeOf, typeInfo, zeroValue, asInt, asIntOf, hi, hz0, hz1, hz2, h1, h2, h3, hn, hroom, hzc, hfo, h63', h48', Question.forced, newRow, grownCap]
      have kk : ∀ Z : Array Value, (l.map byte).toArray ++ ((d.map byte).toArray ++ Z) = (l.map byte ++ d.map byte).toArray ++ Z := fun Z => by apply Array.ext'; simp
      rw [kk]
    · have hz : (Value.int IntKind.u8 0).cells.size = 1 := rfl
      simp only [Array.size_append, List.size_toArray, size_zeroCells, hz, List.length_map, hd]; omega
    · simp only [Array.toList_append, List.append_assoc, List.map_append, List.length_append, hd]
      rw [← List.append_assoc, ← hlen]
      exact List.take_left
theorem wpList_append_Z {w : World} {ops : Array Oper} {rest : List Oper} {o : Oper} {a : Act} {Q : Exit → Act → World → Prop} (hgd : o.guard = none) (s x : Operand)
    (ho : o.op = .call { callee := .builtin .append, args := #[s, x], argTypes := #[22, 3] }) (base : Nat) (v : Value) (l : List UInt8) (n : Nat) (h0 : 0 < n) (hs : a.eval s = v) (hown : OwnT w base v l) (hx : a.eval x = .int .i64 (n : Int)) (h63 : l.length + n ≤ 1073741824) (hbase : base ≤ w.heap.size)
    (h : ∀ v' w', OwnT w' base v' (l ++ List.replicate n 0) → w.grownBy w' v.ownBlock → wpList Tryz.prog ops Q rest (a.put o.dst v') w') : wpList Tryz.prog ops Q (o :: rest) a w := by
  refine wpList_plain hgd fun K hK => ?_
  obtain ⟨v', w', hrun, h2, h3⟩ := run_append_Z base o.type v l n h0 hown h63 hbase
  unfold Oper.wp execOp
  simp only [ho, resolve, invoke, builtin, Sem.run_bind, Sem.run_pure, Result.andThen_ok, List.map_toArray, List.map_cons, List.map_nil, hs, hx, hrun]
  exact hK _ _ (h v' w' h2 h3)
theorem wpList_append_T {w : World} {ops : Array Oper} {rest : List Oper} {o : Oper} {a : Act} {Q : Exit → Act → World → Prop} (hgd : o.guard = none) (s x : Operand)
    (ho : o.op = .call { callee := .builtin .append, args := #[s, x], argTypes := #[22, 22] }) (base : Nat) (v : Value) (l d : List UInt8) (hs : a.eval s = v) (hown : OwnT w base v l) (ao : Option Addr) (c : Nat) (hx : a.eval x = .slice ao d.length c) (hr : RowAt w ao d) (h63 : l.length + d.length ≤ 1073741824) (hbase : base ≤ w.heap.size)
    (h : ∀ v' w', OwnT w' base v' (l ++ d) → w.grownBy w' v.ownBlock → wpList Tryz.prog ops Q rest (a.put o.dst v') w') : wpList Tryz.prog ops Q (o :: rest) a w := by
  refine wpList_plain hgd fun K hK => ?_
  exact wp_append_T s x ho base v l d hs hown ao c hx hr h63 hbase (fun v' w' h1 h2 => hK _ _ (h v' w' h1 h2))
theorem OwnT.free {w : World} {base g n c : Nat} {l : List UInt8} (h : OwnT w base (.slice (some ⟨g, 0, none⟩) n c) l) (j : Nat) (hj : j < l.length) : w.frozen? ⟨g, j, none⟩ = false := by
  obtain ⟨g', cap, cur, fz, e, -, hg, hfz, hl, -, -, -⟩ := h
  simp only [Value.slice.injEq, Option.some.injEq, Addr.mk.injEq, and_true] at e
  obtain ⟨rfl, -, rfl⟩ := e
  obtain ⟨lo, hi'⟩ := fz
  simp only [World.frozen?, hg, Bool.and_eq_false_iff, decide_eq_false_iff_not]
  simp only at hfz
  omega
theorem OwnT.capB {w : World} {base n c : Nat} {a : Option Addr} {l : List UInt8} (h : OwnT w base (.slice a n c) l) : l.length ≤ c ∧ n = l.length := by
  obtain ⟨g, cap, cur, fz, e, -, -, -, hl, -⟩ := h
  simp only [Value.slice.injEq] at e
  omega
theorem row_cell {w : World} {g : Nat} {l : List UInt8} (h : RowAt w (some ⟨g, 0, none⟩) l) (j : Nat) (hj : j < l.length) : w.cell? ⟨g, j, none⟩ = some (.int .u8 ((l.getD j 0).toNat : Int)) := by
  obtain ⟨b, o, he, hc⟩ := h.at hj
  cases he
  have := hc j hj
  rwa [Nat.zero_add] at this
theorem row_set {w : World} {g : Nat} {l : List UInt8} (h : RowAt w (some ⟨g, 0, none⟩) l) (j : Nat) (hj : j < l.length) (y : UInt8) : RowAt (w.setCell ⟨g, j, none⟩ (byte y)) (some ⟨g, 0, none⟩) (l.set j y) := by
  refine .inr ⟨g, 0, rfl, fun i hi => ?_⟩
  rw [List.length_set] at hi
  rw [Nat.zero_add]
  by_cases e : i = j
  · subst e
    rw [World.cell?_setCell_same w _ _ (row_cell h i hi)]
    simp [byte, hi]
  · rw [World.cell?_setCell_other w ⟨g, j, none⟩ ⟨g, i, none⟩ (byte y) (by intro h2; cases h2; exact e rfl), row_cell h i hi]
    simp only [List.getD_eq_getElem?_getD, List.getElem?_set]
    rw [if_neg (fun h => e h.symm)]
theorem row_take {w : World} {g : Nat} {l : List UInt8} (h : RowAt w (some ⟨g, 0, none⟩) l) (j : Nat) (hj : j ≤ l.length) : RowAt w (some ⟨g, 0, none⟩) (l.take j) := by
  refine .inr ⟨g, 0, rfl, fun i hi => ?_⟩
  rw [List.length_take] at hi
  rw [Nat.zero_add, row_cell h i (by omega)]
  simp only [List.getD_eq_getElem?_getD, List.getElem?_take]
  rw [if_pos (by omega)]
end Go.Proofs.YtacgbajcdngokaaGreatDoor
