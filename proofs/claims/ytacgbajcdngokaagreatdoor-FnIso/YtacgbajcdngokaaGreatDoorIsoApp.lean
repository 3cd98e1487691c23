/-
  append of any row of bytes, nil too, onto a row that the call owns; the same onto a row out of a string (its mark lies behind its last cell).
-/
import Derived.Test.YtacgbajcdngokaaGreatDoorIsoUnb
import Derived.Lib.AppendStr
import Derived.Laws.OwnMore
import Derived.Lib.ConvBytes
namespace Go.Proofs.YtacgbajcdngokaaGreatDoor
open Go.RowKit

theorem Tryz.infoB8 : (Tryz.prog.info? 5).map (fun i => (i.zero, i.size, i.bytes)) = some (some (.int .u8 0), 1, 1) := by kernel_rfl
theorem news_row {w : World} {b o : Nat} {d : List UInt8} (h : RowAt w (some ⟨b, o, none⟩) d) : ∀ j u, (d.map byte)[j]? = some u → w.cell? ((⟨b, o, none⟩ : Addr).add j) = some u := by
  intro j u hu
  obtain ⟨hj, he⟩ := List.getElem?_eq_some_iff.1 hu
  rw [List.length_map] at hj
  obtain ⟨b', o', he2, hc2⟩ := h.at hj
  cases he2
  rw [Addr.add_mid, hc2 j hj, ← he]
  simp [byte, hj]
theorem news_one (d : List UInt8) : ∀ u ∈ d.map byte, u.oneCell' = true := by
  intro u hu
  obtain ⟨x, -, rfl⟩ := List.mem_map.1 hu
  rfl
theorem run_append_empty {w : World} (base ty : Nat) (v : Value) (l : List UInt8) (hown : OwnB w base v l) (ao : Option Addr) (c : Nat) :
    (Builtin.append_ #[22, 22] ty #[v, .slice ao 0 c]).run Tryz.prog w = .ok v w := by
  obtain ⟨i0, hi, hz0, hz1, hz2⟩ := info_parts Tryz.infoB8
  rcases hown.2 with ⟨rfl, h0⟩ | ⟨g, cap, cur, rfl, _, _, hnc, _⟩
  · cases ao <;> simp [Builtin.append_, run_underlying Tryz.underlying22, sizeOf, typeInfo, hi, Builtin.lenOf, Builtin.firstCells, loadCells, loadCellsFrom]
  · cases ao <;> simp [Builtin.append_, run_underlying Tryz.underlying22, sizeOf, typeInfo, hi, Builtin.lenOf, Builtin.firstCells, hnc, storeCells, loadCells, loadCellsFrom]
theorem run_append_bytes {w : World} (base ty : Nat) (v : Value) (l d : List UInt8) (hown : OwnB w base v l) (ao : Option Addr) (c : Nat) (hr : RowAt w ao d) (h63 : l.length + d.length ≤ 1073741824) (hbase : base ≤ w.heap.size) :
    ∃ v' w', (Builtin.append_ #[22, 22] ty #[v, .slice ao d.length c]).run Tryz.prog w = .ok v' w' ∧ OwnB w' base v' (l ++ d) ∧ w.grownBy w' v.ownBlock := by
  obtain ⟨i0, hi, hz0, hz1, hz2⟩ := info_parts Tryz.infoB8
  rcases hr with rfl | ⟨b, o, rfl, hc⟩
  · exact ⟨v, w, run_append_empty base ty v l hown ao c, by rw [List.append_nil]; exact hown, ⟨rfl, rfl, rfl, Nat.le_refl _, fun _ _ _ => rfl⟩⟩
  · obtain ⟨v', w', h1, h2, h3, -⟩ := run_append_own (P := Tryz.prog) w base 22 ty 5 i0 (.int .u8 0) 1 1 Tryz.underlying22 hi hz0 hz1 hz2 rfl (by decide) v l.length (l.map byte) hown ⟨b, o, none⟩ d.length c (d.map byte) (by rw [List.length_map, Nat.mul_one]) (news_row (.inr ⟨b, o, rfl, hc⟩)) (news_one d) (by unfold maxLen; omega) (by omega) hbase
    refine ⟨v', w', h1, ?_, h3⟩
    unfold OwnB
    rw [List.map_append, List.length_append]
    exact h2
theorem wpList_append_bytes {w : World} {ops : Array Oper} {rest : List Oper} {o : Oper} {a : Act} {Q : Exit → Act → World → Prop} (hgd : o.guard = none) (s x : Operand)
    (ho : o.op = .call { callee := .builtin .append, args := #[s, x], argTypes := #[22, 22] }) (base : Nat) (v : Value) (l d : List UInt8) (hs : a.eval s = v) (hown : OwnB w base v l) (ao : Option Addr) (c : Nat) (hx : a.eval x = .slice ao d.length c) (hr : RowAt w ao d) (h63 : l.length + d.length ≤ 1073741824) (hbase : base ≤ w.heap.size)
    (h : ∀ v' w', OwnB w' base v' (l ++ d) → w.grownBy w' v.ownBlock → wpList Tryz.prog ops Q rest (a.put o.dst v') w') : wpList Tryz.prog ops Q (o :: rest) a w := by
  refine wpList_plain hgd fun K hK => ?_
  obtain ⟨v', w', hrun, h2, h3⟩ := run_append_bytes base o.type v l d hown ao c hr h63 hbase
  unfold Oper.wp execOp
  simp only [ho, resolve, invoke, builtin, Sem.run_bind, Sem.run_pure, Result.andThen_ok, List.map_toArray, List.map_cons, List.map_nil, hs, hx, hrun]
  exact hK _ _ (h v' w' h2 h3)
theorem run_append_text {w : World} (base ty : Nat) (v : Value) (l d : List UInt8) (hown : OwnB w base v l) (h63 : l.length + d.length ≤ 1073741824) (hbase : base ≤ w.heap.size) :
    ∃ v' w', (Builtin.append_ #[22, 9] ty #[v, .string ⟨d.toArray⟩]).run Tryz.prog w = .ok v' w' ∧ OwnB w' base v' (l ++ d) ∧ w.grownBy w' v.ownBlock := by
  obtain ⟨i0, hi, hz0, hz1, hz2⟩ := info_parts Tryz.infoB8
  have hsz : (⟨d.toArray⟩ : ByteArray).size = d.length := by simp [ByteArray.size]
  obtain ⟨v', w', h1, h2, h3, -⟩ := Lib.run_append_own_string (P := Tryz.prog) w base 22 9 ty 5 i0 Tryz.underlying22 Tryz.underlying9 hi hz0 hz1 hz2 v l.length (l.map byte) hown ⟨d.toArray⟩ (by rw [hsz]; unfold maxLen; omega) (by rw [hsz]; omega) hbase
  refine ⟨v', w', h1, ?_, h3⟩
  unfold OwnB
  rw [List.map_append, List.length_append]
  rw [hsz] at h2
  exact h2
theorem wpList_append_text {w : World} {ops : Array Oper} {rest : List Oper} {o : Oper} {a : Act} {Q : Exit → Act → World → Prop} (hgd : o.guard = none) (s x : Operand)
    (ho : o.op = .call { callee := .builtin .append, args := #[s, x], argTypes := #[22, 9] }) (base : Nat) (v : Value) (l d : List UInt8) (hs : a.eval s = v) (hown : OwnB w base v l) (hx : a.eval x = .string ⟨d.toArray⟩) (h63 : l.length + d.length ≤ 1073741824) (hbase : base ≤ w.heap.size)
    (h : ∀ v' w', OwnB w' base v' (l ++ d) → w.grownBy w' v.ownBlock → wpList Tryz.prog ops Q rest (a.put o.dst v') w') : wpList Tryz.prog ops Q (o :: rest) a w := by
  refine wpList_plain hgd fun K hK => ?_
  obtain ⟨v', w', hrun, h2, h3⟩ := run_append_text base o.type v l d hown h63 hbase
  unfold Oper.wp execOp
  simp only [ho, resolve, invoke, builtin, Sem.run_bind, Sem.run_pure, Result.andThen_ok, List.map_toArray, List.map_cons, List.map_nil, hs, hx, hrun]
  exact hK _ _ (h v' w' h2 h3)

/-- A row of bytes of the call's own; a mark, if there is one, lies behind its last cell. -/
def OwnT (w : World) (base : Nat) (v : Value) (l : List UInt8) : Prop := ∃ (g cap : Nat) (cur : Array Value) (fz : Nat × Nat), v = .slice (some ⟨g, 0, none⟩) l.length cap ∧ base ≤ g ∧ w.heap[g]? = some (.cells cur 5 fz) ∧ (fz.2 = 0 ∨ cap ≤ fz.1) ∧ l.length ≤ cap ∧ cap ≤ maxLen ∧ cur.size = cap ∧ cur.toList.take l.length = l.map byte
theorem OwnT.row {w : World} {base : Nat} {v : Value} {l : List UInt8} (h : OwnT w base v l) : ∃ g cap, v = .slice (some ⟨g, 0, none⟩) l.length cap ∧ base ≤ g ∧ g < w.heap.size ∧ RowAt w (some ⟨g, 0, none⟩) l := by
  obtain ⟨g, cap, cur, fz, rfl, hb, hg, -, hl, -, hcs, ht⟩ := h
  refine ⟨g, cap, rfl, hb, lt_of_block hg, .inr ⟨g, 0, rfl, fun i hi => ?_⟩⟩
  have h1 : (cur.toList.take l.length)[i]? = (l.map byte)[i]? := by rw [ht]
  rw [List.getElem?_take, if_pos hi, List.getElem?_map, List.getElem?_eq_getElem hi] at h1
  rw [Nat.zero_add]
  simp only [World.cell?, hg]
  rw [Array.getElem?_toList] at h1
  rw [h1]
  simp [byte, hi]
theorem OwnT.kept {w w' : World} {base : Nat} {v : Value} {l : List UInt8} (h : OwnT w base v l) (hb : Below w.heap.size w w') : OwnT w' base v l := by
  obtain ⟨g, cap, cur, fz, rfl, hbg, hg, hr⟩ := h
  exact ⟨g, cap, cur, fz, rfl, hbg, (hb.block g (lt_of_block hg)).trans hg, hr⟩
theorem run_storeT (P : Program) (g o : Nat) (t : TypeId) (fz : Nat × Nat) : ∀ (vs : List Value) (i : Nat) (cur : Array Value) (w : World), w.heap[g]? = some (.cells cur t fz) → (fz.2 = 0 ∨ cur.size ≤ fz.1) → o + i + vs.length ≤ cur.size → (∀ v ∈ vs, v.oneCell' = true) →
    (storeCells ⟨g, o, none⟩ vs i).run P w = .ok () (w.setRow g (cur.toList.take (o + i) ++ vs ++ cur.toList.drop (o + i + vs.length)).toArray)
  | [], i, cur, w, hg, _, _, _ => by
    simp only [storeCells, List.append_nil, List.length_nil, Nat.add_zero, List.take_append_drop, Array.toArray_toList]
    rw [setRow_self w g cur t fz hg]
    rfl
  | v :: rest, i, cur, w, hg, hfz, hl, h1 => by
    have hi : o + i < cur.size := by simp at hl; omega
    have hadd : (⟨g, o, none⟩ : Addr).add i = ⟨g, o + i, none⟩ := by rw [Addr.add_mid]
    have hcell : w.cell? ⟨g, o + i, none⟩ = some cur[o + i] := by simp [World.cell?, hg, hi]
    have hfro : w.frozen? ⟨g, o + i, none⟩ = false := by
      obtain ⟨lo, hi'⟩ := fz
      simp only [World.frozen?, hg, Bool.and_eq_false_iff, decide_eq_false_iff_not]
      simp only at hfz
      omega
    have hst : (store ((⟨g, o, none⟩ : Addr).add i) v).run P w = .ok () (w.setRow g (cur.setIfInBounds (o + i) v)) := by
      rw [hadd, run_store P w _ v _ (h1 v (by simp)), hcell]
      simp [hfro, setCell_eq_setRow w g (o + i) cur t fz v hg]
    have ih := run_storeT P g o t fz rest (i + 1) (cur.setIfInBounds (o + i) v) (w.setRow g (cur.setIfInBounds (o + i) v)) (setRow_heap w g cur _ t _ hg) (by simpa using hfz) (by simp at hl ⊢; omega) (fun x hx => h1 x (by simp [hx]))
    simp only [storeCells, Sem.run_bind, hst, Result.andThen_ok, ih, setRow_setRow]
    congr 3
    have e := list_seg_step cur.toList (o + i) v rest (by simp at hl ⊢; omega)
    simpa [Array.toList_setIfInBounds, Nat.add_assoc] using e
theorem run_append_T {w : World} (base ty : Nat) (v : Value) (l d : List UInt8) (hown : OwnT w base v l) (ao : Option Addr) (c : Nat) (hr : RowAt w ao d) (h63 : l.length + d.length ≤ 1073741824) (hbase : base ≤ w.heap.size) :
    ∃ v' w', (Builtin.append_ #[22, 22] ty #[v, .slice ao d.length c]).run Tryz.prog w = .ok v' w' ∧ OwnT w' base v' (l ++ d) ∧ w.grownBy w' v.ownBlock := by
  obtain ⟨i0, hi, hz0, hz1, hz2⟩ := info_parts Tryz.infoB8
  obtain ⟨g, cap, cur, fz, rfl, hbg, hg, hfz, hlc, hcm, hcs, ht⟩ := hown
  have hr2 : d = [] ∨ ∃ b o, ao = some ⟨b, o, none⟩ ∧ RowAt w (some ⟨b, o, none⟩) d := by
    rcases hr with h | ⟨b, o, rfl, hc⟩
    · exact .inl h
    · exact .inr ⟨b, o, rfl, .inr ⟨b, o, rfl, hc⟩⟩
  rcases hr2 with rfl | ⟨b, o, rfl, hrow⟩
  · refine ⟨.slice (some ⟨g, 0, none⟩) l.length cap, w, ?_, ?_, ⟨rfl, rfl, rfl, Nat.le_refl _, fun _ _ _ => rfl⟩⟩
    · cases ao <;> simp [Builtin.append_, run_underlying Tryz.underlying22, sizeOf, typeInfo, hi, Builtin.lenOf, Builtin.firstCells, hlc, storeCells, loadCells, loadCellsFrom]
    · rw [List.append_nil]; exact ⟨g, cap, cur, fz, rfl, hbg, hg, hfz, hlc, hcm, hcs, ht⟩
  · have hlen : (l.map byte ++ d.map byte).length = l.length + d.length := by simp
    by_cases hroom : l.length + d.length ≤ cap
    · have hf := run_firstCells_some (P := Tryz.prog) w 1 d.length ⟨b, o, none⟩ d.length c (d.map byte) (by simp) (news_row hrow)
      have hst := run_storeT Tryz.prog g l.length 5 fz (d.map byte) 0 cur w hg (by rw [hcs]; exact hfz) (by simp; omega) (news_one d)
      simp only [Nat.add_zero, List.length_map] at hst
      refine ⟨.slice (some ⟨g, 0, none⟩) (l.length + d.length) cap, w.setRow g (cur.toList.take l.length ++ d.map byte ++ cur.toList.drop (l.length + d.length)).toArray, ?_, ?_, ⟨rfl, rfl, rfl, by simp, fun k _ hk => setRow_other w g k _ (fun e => hk (by simp [Value.ownBlock, e]))⟩⟩
      · simp [Builtin.append_, run_underlying Tryz.underlying22, sizeOf, typeInfo, hi, hz1, Builtin.lenOf, hroom, hf, Addr.add_lit, hst]
      · refine ⟨g, cap, _, fz, by rw [List.length_append], hbg, setRow_heap w g cur _ _ _ hg, hfz, by rw [List.length_append]; exact hroom, hcm, ?_, ?_⟩
        · simp only [List.size_toArray, List.length_append, List.length_take, List.length_drop, Array.length_toList, List.length_map]; omega
        · rw [ht, List.map_append, List.length_append, ← hlen]; exact List.take_left
    · have holds : ∀ j u, (l.map byte)[j]? = some u → w.cell? ((⟨g, 0, none⟩ : Addr).add j) = some u := by
        obtain ⟨g', cap', e', -, -, hrw⟩ := OwnT.row (w := w) (base := base) (v := .slice (some ⟨g, 0, none⟩) l.length cap) (l := l) ⟨g, cap, cur, fz, rfl, hbg, hg, hfz, hlc, hcm, hcs, ht⟩
        simp only [Value.slice.injEq, Option.some.injEq, Addr.mk.injEq, and_true, true_and] at e'
        obtain ⟨rfl, rfl⟩ := e'
        exact news_row hrw
      have hr := run_append_grow (P := Tryz.prog) w 22 ty 5 i0 (.int .u8 0) Tryz.underlying22 hi hz0 ⟨g, 0, none⟩ l.length cap (l.map byte) (by rw [hz1]; simp) holds ⟨b, o, none⟩ d.length c (d.map byte) (by rw [hz1]; simp) (news_row hrow) (by omega) (by omega) (growslice_fits (by omega) (by rw [hz2]; omega))
      have hge := grownCap_ge w (l.length + d.length) cap 5
      have hcm2 : grownCap w (l.length + d.length) cap 5 ≤ maxLen := grownCap_le_maxLen w (l.length + d.length) cap 5 (by unfold maxLen; omega)
      refine ⟨_, _, hr, ⟨w.heap.size, _, _, (0, 0), by rw [List.length_append], hbase, heap_alloc_new w.drew _, .inl rfl, by rw [List.length_append]; exact hge, hcm2, ?_, ?_⟩, ⟨rfl, rfl, rfl, by simp, fun k hk _ => Go.heap_alloc_old w.drew _ hk⟩⟩
      · have hz : (Value.int IntKind.u8 0).cells.size = 1 := rfl
        simp only [Array.size_append, List.size_toArray, size_zeroCells, hz, List.length_map]; omega
      · simp only [Array.toList_append, List.append_assoc, List.map_append, List.length_append]
        rw [← List.append_assoc, ← hlen]
        exact List.take_left
theorem wp_append_T {w : World} {o : Oper} {a : Act} {K : Act → World → Prop} {Q : Exit → Act → World → Prop} (s x : Operand)
    (ho : o.op = .call { callee := .builtin .append, args := #[s, x], argTypes := #[22, 22] }) (base : Nat) (v : Value) (l d : List UInt8) (hs : a.eval s = v) (hown : OwnT w base v l) (ao : Option Addr) (c : Nat) (hx : a.eval x = .slice ao d.length c) (hr : RowAt w ao d) (h63 : l.length + d.length ≤ 1073741824) (hbase : base ≤ w.heap.size)
    (h : ∀ v' w', OwnT w' base v' (l ++ d) → w.grownBy w' v.ownBlock → K (a.put o.dst v') w') : o.wp Tryz.prog a w K Q := by
  obtain ⟨v', w', hrun, h2, h3⟩ := run_append_T base o.type v l d hown ao c hr h63 hbase
  unfold Oper.wp execOp
  simp only [ho, resolve, invoke, builtin, Sem.run_bind, Sem.run_pure, Result.andThen_ok, List.map_toArray, List.map_cons, List.map_nil, hs, hx, hrun]
  exact h v' w' h2 h3
theorem wp_append_text {w : World} {o : Oper} {a : Act} {K : Act → World → Prop} {Q : Exit → Act → World → Prop} (s x : Operand)
    (ho : o.op = .call { callee := .builtin .append, args := #[s, x], argTypes := #[22, 9] }) (base : Nat) (v : Value) (l d : List UInt8) (hs : a.eval s = v) (hown : OwnB w base v l) (hx : a.eval x = .string ⟨d.toArray⟩) (h63 : l.length + d.length ≤ 1073741824) (hbase : base ≤ w.heap.size)
    (h : ∀ v' w', OwnB w' base v' (l ++ d) → w.grownBy w' v.ownBlock → K (a.put o.dst v') w') : o.wp Tryz.prog a w K Q := by
  obtain ⟨v', w', hrun, h2, h3⟩ := run_append_text base o.type v l d hown h63 hbase
  unfold Oper.wp execOp
  simp only [ho, resolve, invoke, builtin, Sem.run_bind, Sem.run_pure, Result.andThen_ok, List.map_toArray, List.map_cons, List.map_nil, hs, hx, hrun]
  exact h v' w' h2 h3
/-- A string's bytes in a row of their own. -/
theorem conv_T (w : World) (s : ByteArray) (hs : s.size ≤ 1048576) : ∃ v w', (convert 9 22 (.string s)).run Tryz.prog w = .ok v w' ∧ OwnT w' w.heap.size v s.data.toList ∧ Below w.heap.size w w' := by
  have hge := grownCap_ge w s.size 0 5
  have hle := grownCap_le_maxLen w s.size 0 5 (by unfold maxLen; omega)
  have hl : s.data.toList.length = s.size := Array.length_toList
  have hbc : (Lib.bytesCells w 5 s).size = grownCap w s.size 0 5 := by
    unfold Lib.bytesCells
    rw [Array.size_append, Array.size_map, Array.size_replicate]
    show s.size + _ = _
    omega
  refine ⟨_, _, Lib.run_convert_string_bytes w 9 22 5 s Tryz.underlying9 Tryz.underlying22 Tryz.underlying5, ⟨w.heap.size, grownCap w s.size 0 5, _, _, by rw [hl], Nat.le_refl _, Lib.bytesWorld_at_new w _ s, .inr (by rw [hbc]; exact Nat.le_refl _), by rw [hl]; exact hge, hle, hbc, ?_⟩, below_bw w _ s⟩
  unfold Lib.bytesCells
  rw [Array.toList_append, List.take_append_of_le_length (by simp), List.take_of_length_le (by simp)]
  simp [byte]
end Go.Proofs.YtacgbajcdngokaaGreatDoor
