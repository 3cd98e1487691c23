import Derived.Test.YtjkofmomoljelaaGreatDoorSfAB
import Derived.Test.YtjkofmomoljelaaGreatDoorSfAC
import Derived.Lib.AppendStr
import Derived.Laws.OwnMore
import Derived.Lib.ConvBytes
import Derived.Deep.SlicePairs
namespace Go.Proofs.YtjkofmomoljelaaGreatDoor
open Go.RowKit
/-- The first k fields are written. -/
structure TS (w : World) (lo : Nat) (L : List (Int × List UInt8)) (k : Nat) (xs vs : List Value) : Prop where
  len : vs.length = k
  at_ : ∀ i, i < k → xs[i * 2]? = some (.int .i64 (L.getD i (0, [])).1) ∧ xs[i * 2 + 1]? = some (vs.getD i undef) ∧ Own w lo (vs.getD i undef) (L.getD i (0, [])).2
  sep : ∀ i j, i < j → j < k → ∀ g, (vs.getD i undef).ownBlock = some g → (vs.getD j undef).ownBlock ≠ some g
theorem TS.step {w w1 w2 : World} {lo k : Nat} {L : List (Int × List UInt8)} {xs vs : List Value} {x : Value} (h : TS w lo L k xs vs) (hb : Below w.heap.size w w1) (own : Own w1 w.heap.size x (L.getD k (0, [])).2) (hlo : lo ≤ w.heap.size) (hk : k * 2 + 1 < xs.length) (hkeep : ∀ {y l}, Own w1 lo y l → Own w2 lo y l) :
    TS w2 lo L (k + 1) ((xs.set (k * 2) (.int .i64 (L.getD k (0, [])).1)).set (k * 2 + 1) x) (vs ++ [x]) := by
  have hlen := h.len
  refine ⟨by simp [hlen], fun i hi => ?_, fun i j hij hj g hg => ?_⟩
  · by_cases hik : i = k
    · subst hik
      rw [getD_last _ _ _ _ hlen.symm]
      refine ⟨?_, ?_, hkeep (own.monoI hlo)⟩
      · rw [List.getElem?_set_ne (by omega), List.getElem?_set_self (by omega)]
      · rw [List.getElem?_set_self (by simp; omega)]
    · obtain ⟨h1, h2, h3⟩ := h.at_ i (by omega)
      rw [getD_left _ _ _ _ (by omega)]
      refine ⟨?_, ?_, hkeep (h3.below hb)⟩
      · rw [List.getElem?_set_ne (by omega), List.getElem?_set_ne (by omega)]; exact h1
      · rw [List.getElem?_set_ne (by omega), List.getElem?_set_ne (by omega)]; exact h2
  · rw [getD_left _ _ _ _ (by omega)] at hg
    by_cases hjk : j = k
    · subst hjk
      rw [getD_last _ _ _ _ hlen.symm]
      intro e
      have h1 := (own_lt (h.at_ i hij).2.2 g hg).2
      have h2 := (own_lt own g e).1
      omega
    · rw [getD_left _ _ _ _ (by omega)]
      exact h.sep i j hij (by omega) g hg
theorem Tryz.infoFz : (Tryz.prog.info? 37).map (fun i => (i.zero, i.size, i.bytes)) = some (some (.agg #[.int .i64 0, .slice none 0 0]), 2, 32) := by kernel_rfl
end Go.Proofs.YtjkofmomoljelaaGreatDoor
namespace Go.Proofs.YtjkofmomoljelaaGreatDoor
open Go.RowKit
theorem Tryz.infoB8 : (Tryz.prog.info? 5).map (fun i => (i.zero, i.size, i.bytes)) = some (some (.int .u8 0), 1, 1) := by kernel_rfl
theorem news_row {w : World} {b o : Nat} {d : List UInt8} (h : RowAt w (some ⟨b, o, none⟩) d) : ∀ j u, (d.map byte)[j]? = some u → w.cell? ((⟨b, o, none⟩ : Addr).add j) = some u := by
  intro j u hu
  obtain ⟨hj, he⟩ := List.getElem?_eq_some_iff.1 hu
  rw [List.length_map] at hj
  obtain ⟨b', o', he2, hc2⟩ := h.at hj
  cases he2
  rw [Addr.add_mid, hc2 j hj, ← he]
  simp [byte, hj]
theorem news_one (d : List UInt8) : ∀ u ∈ d.map byte, u.oneCell' = true := by
  intro u hu
  obtain ⟨x, -, rfl⟩ := List.mem_map.1 hu
  rfl
theorem run_append_empty {w : World} (base ty : Nat) (v : Value) (l : List UInt8) (hown : OwnB w base v l) (ao : Option Addr) (c : Nat) :
    (Builtin.append_ #[22, 22] ty #[v, .slice ao 0 c]).run Tryz.prog w = .ok v w := by
  obtain ⟨i0, hi, hz0, hz1, hz2⟩ := info_parts Tryz.infoB8
  rcases hown.2 with ⟨rfl, h0⟩ | ⟨g, cap, cur, rfl, _, _, hnc, _⟩
  · cases ao <;> simp [Builtin.append_, run_underlying Tryz.underlying22, sizeOf, typeInfo, hi, Builtin.lenOf, Builtin.firstCells, loadCells, loadCellsFrom]
  · cases ao <;> simp [Builtin.append_, run_underlying Tryz.underlying22, sizeOf, typeInfo, hi, Builtin.lenOf, Builtin.firstCells, hnc, storeCells, loadCells, loadCellsFrom]
theorem run_append_bytes {w : World} (base ty : Nat) (v : Value) (l d : List UInt8) (hown : OwnB w base v l) (ao : Option Addr) (c : Nat) (hr : RowAt w ao d) (h63 : l.length + d.length ≤ 1073741824) (hbase : base ≤ w.heap.size) :
    ∃ v' w', (Builtin.append_ #[22, 22] ty #[v, .slice ao d.length c]).run Tryz.prog w = .ok v' w' ∧ OwnB w' base v' (l ++ d) ∧ w.grownBy w' v.ownBlock := by
  obtain ⟨i0, hi, hz0, hz1, hz2⟩ := info_parts Tryz.infoB8
  rcases hr with rfl | ⟨b, o, rfl, hc⟩
  · exact ⟨v, w, run_append_empty base ty v l hown ao c, by rw [List.append_nil]; exact hown, ⟨rfl, rfl, rfl, Nat.le_refl _, fun _ _ _ => rfl⟩⟩
  · obtain ⟨v', w', h1, h2, h3, -⟩ := run_append_own (P := Tryz.prog) w base 22 ty 5 i0 (.int .u8 0) 1 1 Tryz.underlying22 hi hz0 hz1 hz2 rfl (by decide) v l.length (l.map byte) hown ⟨b, o, none⟩ d.length c (d.map byte) (by rw [List.length_map, Nat.mul_one]) (news_row (.inr ⟨b, o, rfl, hc⟩)) (news_one d) (by unfold maxLen; omega) (by omega) hbase
    refine ⟨v', w', h1, ?_, h3⟩
    unfold OwnB
    rw [List.map_append, List.length_append]
    exact h2
theorem wpList_append_bytes {w : World} {ops : Array Oper} {rest : List Oper} {o : Oper} {a : Act} {Q : Exit → Act → World → Prop} (hgd : o.guard = none) (s x : Operand)
    (ho : o.op = .call { callee := .builtin .append, args := #[s, x], argTypes := #[22, 22] }) (base : Nat) (v : Value) (l d : List UInt8) (hs : a.eval s = v) (hown : OwnB w base v l) (ao : Option Addr) (c : Nat) (hx : a.eval x = .slice ao d.length c) (hr : RowAt w ao d) (h63 : l.length + d.length ≤ 1073741824) (hbase : base ≤ w.heap.size)
    (h : ∀ v' w', OwnB w' base v' (l ++ d) → w.grownBy w' v.ownBlock → wpList Tryz.prog ops Q rest (a.put o.dst v') w') : wpList Tryz.prog ops Q (o :: rest) a w := by
  refine wpList_plain hgd fun K hK => ?_
  obtain ⟨v', w', hrun, h2, h3⟩ := run_append_bytes base o.type v l d hown ao c hr h63 hbase
  unfold Oper.wp execOp
  simp only [ho, resolve, invoke, builtin, Sem.run_bind, Sem.run_pure, Result.andThen_ok, List.map_toArray, List.map_cons, List.map_nil, hs, hx, hrun]
  exact hK _ _ (h v' w' h2 h3)
theorem run_append_text {w : World} (base ty : Nat) (v : Value) (l d : List UInt8) (hown : OwnB w base v l) (h63 : l.length + d.length ≤ 1073741824) (hbase : base ≤ w.heap.size) :
    ∃ v' w', (Builtin.append_ #[22, 9] ty #[v, .string ⟨d.toArray⟩]).run Tryz.prog w = .ok v' w' ∧ OwnB w' base v' (l ++ d) ∧ w.grownBy w' v.ownBlock := by
  obtain ⟨i0, hi, hz0, hz1, hz2⟩ := info_parts Tryz.infoB8
  have hsz : (⟨d.toArray⟩ : ByteArray).size = d.length := by simp [ByteArray.size]
  obtain ⟨v', w', h1, h2, h3, -⟩ := Lib.run_append_own_string (P := Tryz.prog) w base 22 9 ty 5 i0 Tryz.underlying22 Tryz.underlying9 hi hz0 hz1 hz2 v l.length (l.map byte) hown ⟨d.toArray⟩ (by rw [hsz]; unfold maxLen; omega) (by rw [hsz]; omega) hbase
  refine ⟨v', w', h1, ?_, h3⟩
  unfold OwnB
  rw [List.map_append, List.length_append]
  rw [hsz] at h2
  exact h2
/-- A row of bytes of the call's own; a mark, if there is one, lies behind its last cell. -/
def OwnT (w : World) (base : Nat) (v : Value) (l : List UInt8) : Prop := ∃ (g cap : Nat) (cur : Array Value) (fz : Nat × Nat), v = .slice (some ⟨g, 0, none⟩) l.length cap ∧ base ≤ g ∧ w.heap[g]? = some (.cells cur 5 fz) ∧ (fz.2 = 0 ∨ cap ≤ fz.1) ∧ l.length ≤ cap ∧ cap ≤ maxLen ∧ cur.size = cap ∧ cur.toList.take l.length = l.map byte
theorem OwnT.row {w : World} {base : Nat} {v : Value} {l : List UInt8} (h : OwnT w base v l) : ∃ g cap, v = .slice (some ⟨g, 0, none⟩) l.length cap ∧ base ≤ g ∧ g < w.heap.size ∧ RowAt w (some ⟨g, 0, none⟩) l := by
  obtain ⟨g, cap, cur, fz, rfl, hb, hg, -, hl, -, hcs, ht⟩ := h
  refine ⟨g, cap, rfl, hb, lt_of_block hg, .inr ⟨g, 0, rfl, fun i hi => ?_⟩⟩
  have h1 : (cur.toList.take l.length)[i]? = (l.map byte)[i]? := by rw [ht]
  rw [List.getElem?_take, if_pos hi, List.getElem?_map, List.getElem?_eq_getElem hi] at h1
  rw [Nat.zero_add]
  simp only [World.cell?, hg]
  rw [Array.getElem?_toList] at h1
  rw [h1]
  simp [byte, hi]
theorem OwnT.kept {w w' : World} {base : Nat} {v : Value} {l : List UInt8} (h : OwnT w base v l) (hb : Below w.heap.size w w') : OwnT w' base v l := by
  obtain ⟨g, cap, cur, fz, rfl, hbg, hg, hr⟩ := h
  exact ⟨g, cap, cur, fz, rfl, hbg, (hb.block g (lt_of_block hg)).trans hg, hr⟩
theorem run_storeT (P : Program) (g o : Nat) (t : TypeId) (fz : Nat × Nat) : ∀ (vs : List Value) (i : Nat) (cur : Array Value) (w : World), w.heap[g]? = some (.cells cur t fz) → (fz.2 = 0 ∨ cur.size ≤ fz.1) → o + i + vs.length ≤ cur.size → (∀ v ∈ vs, v.oneCell' = true) →
    (storeCells ⟨g, o, none⟩ vs i).run P w = .ok () (w.setRow g (cur.toList.take (o + i) ++ vs ++ cur.toList.drop (o + i + vs.length)).toArray)
  | [], i, cur, w, hg, _, _, _ => by
    simp only [storeCells, List.append_nil, List.length_nil, Nat.add_zero, List.take_append_drop, Array.toArray_toList]
    rw [setRow_self w g cur t fz hg]
    rfl
  | v :: rest, i, cur, w, hg, hfz, hl, h1 => by
    have hi : o + i < cur.size := by simp at hl; omega
    have hadd : (⟨g, o, none⟩ : Addr).add i = ⟨g, o + i, none⟩ := by rw [Addr.add_mid]
    have hcell : w.cell? ⟨g, o + i, none⟩ = some cur[o + i] := by simp [World.cell?, hg, hi]
    have hfro : w.frozen? ⟨g, o + i, none⟩ = false := by
      obtain ⟨lo, hi'⟩ := fz
      simp only [World.frozen?, hg, Bool.and_eq_false_iff, decide_eq_false_iff_not]
      simp only at hfz
      omega
    have hst : (store ((⟨g, o, none⟩ : Addr).add i) v).run P w = .ok () (w.setRow g (cur.setIfInBounds (o + i) v)) := by
      rw [hadd, run_store P w _ v _ (h1 v (by simp)), hcell]
      simp [hfro, setCell_eq_setRow w g (o + i) cur t fz v hg]
    have ih := run_storeT P g o t fz rest (i + 1) (cur.setIfInBounds (o + i) v) (w.setRow g (cur.setIfInBounds (o + i) v)) (setRow_heap w g cur _ t _ hg) (by simpa using hfz) (by simp at hl ⊢; omega) (fun x hx => h1 x (by simp [hx]))
    simp only [storeCells, Sem.run_bind, hst, Result.andThen_ok, ih, setRow_setRow]
    congr 3
    have e := list_seg_step cur.toList (o + i) v rest (by simp at hl ⊢; omega)
    simpa [Array.toList_setIfInBounds, Nat.add_assoc] using e
theorem wp_append_text {w : World} {o : Oper} {a : Act} {K : Act → World → Prop} {Q : Exit → Act → World → Prop} (s x : Operand)
    (ho : o.op = .call { callee := .builtin .append, args := #[s, x], argTypes := #[22, 9] }) (base : Nat) (v : Value) (l d : List UInt8) (hs : a.eval s = v) (hown : OwnB w base v l) (hx : a.eval x = .string ⟨d.toArray⟩) (h63 : l.length + d.length ≤ 1073741824) (hbase : base ≤ w.heap.size)
    (h : ∀ v' w', OwnB w' base v' (l ++ d) → w.grownBy w' v.ownBlock → K (a.put o.dst v') w') : o.wp Tryz.prog a w K Q := by
  obtain ⟨v', w', hrun, h2, h3⟩ := run_append_text base o.type v l d hown h63 hbase
  unfold Oper.wp execOp
  simp only [ho, resolve, invoke, builtin, Sem.run_bind, Sem.run_pure, Result.andThen_ok, List.map_toArray, List.map_cons, List.map_nil, hs, hx, hrun]
  exact h v' w' h2 h3
/-- A string's bytes in a row of their own. -/
theorem conv_T (w : World) (s : ByteArray) (hs : s.size ≤ 1048576) : ∃ v w', (convert 9 22 (.string s)).run Tryz.prog w = .ok v w' ∧ OwnT w' w.heap.size v s.data.toList ∧ Below w.heap.size w w' := by
  have hge := grownCap_ge w s.size 0 5
  have hle := grownCap_le_maxLen w s.size 0 5 (by unfold maxLen; omega)
  have hl : s.data.toList.length = s.size := Array.length_toList
  have hbc : (Lib.bytesCells w 5 s).size = grownCap w s.size 0 5 := by
    unfold Lib.bytesCells
    rw [Array.size_append, Array.size_map, Array.size_replicate]
    show s.size + _ = _
    omega
  refine ⟨_, _, Lib.run_convert_string_bytes w 9 22 5 s Tryz.underlying9 Tryz.underlying22 Tryz.underlying5, ⟨w.heap.size, grownCap w s.size 0 5, _, _, by rw [hl], Nat.le_refl _, Lib.bytesWorld_at_new w _ s, .inr (by rw [hbc]; exact Nat.le_refl _), by rw [hl]; exact hge, hle, hbc, ?_⟩, below_bw w _ s⟩
  unfold Lib.bytesCells
  rw [Array.toList_append, List.take_append_of_le_length (by simp), List.take_of_length_le (by simp)]
  simp [byte]
end Go.Proofs.YtjkofmomoljelaaGreatDoor
namespace Go.Proofs.YtjkofmomoljelaaGreatDoor
open Go.RowKit
def macNo (no : Int) : Bool := decide (no = 64) || decide (no = 128)
def ixN (no : Int) : Int := if no = 64 then 0 else if no = 128 then 1 else -1
set_option maxHeartbeats 1000000 in
theorem index2_any (no : Int) (gN : Nat) (w : World) (c0 : w.cell? ⟨gN, 0, none⟩ = some (.int .i64 64)) (c1 : w.cell? ⟨gN, 1, none⟩ = some (.int .i64 128)) :
    Calls Tryz.prog 101 #[.slice (some ⟨gN, 0, none⟩) 2 2, .int .i64 no] w fun e w' => e = .returned (.int .i64 (ixN no)) ∧ w' = w := by
  by_cases h1 : no = 64
  · have e : ixN no = 0 := by unfold ixN; rw [if_pos h1]
    rw [e]
    subst h1
    go_enter Tryz.func101, Tryz.ntmps101
    go_wp2_with fail
    go_loopw [8] (fun i wr => i = .int .i64 0 ∧ wr = w) (fun i _ => 2 - (intOf i).toNat)
    case atStart => exact ⟨rfl, rfl⟩
    case round =>
      obtain ⟨rfl, hw⟩ := hrel
      have hw2 := hw.symm
      subst hw2
      go_wp2_with fail
      go_ret
      exact ⟨rfl, rfl⟩
  · have hb1 : (no == 64) = false := by rw [beq_eq_false_iff_ne]; exact h1
    by_cases h2 : no = 128
    · have e : ixN no = 1 := by unfold ixN; rw [if_neg h1, if_pos h2]
      rw [e]
      subst h2
      go_enter Tryz.func101, Tryz.ntmps101
      go_wp2_with fail
      go_loopw [8] (fun i wr => (i = .int .i64 0 ∨ i = .int .i64 1) ∧ wr = w) (fun i _ => 2 - (intOf i).toNat)
      case atStart => exact ⟨.inl rfl, rfl⟩
      case round =>
        obtain ⟨hi, hw⟩ := hrel
        have hw2 := hw.symm
        subst hw2
        rcases hi with rfl | rfl
        · go_wp2_with fail
          go_roundw
          case rel => exact ⟨.inr rfl, trivial⟩
          case measure => simp [intOf]
        · go_wp2_with fail
          go_ret
          exact ⟨rfl, rfl⟩
    · have hb2 : (no == 128) = false := by rw [beq_eq_false_iff_ne]; exact h2
      have e : ixN no = -1 := by unfold ixN; rw [if_neg h1, if_neg h2]
      rw [e]
      go_enter Tryz.func101, Tryz.ntmps101
      go_wp2_with fail
      go_loopw [8] (fun i wr => ∃ k : Nat, k ≤ 2 ∧ i = .int .i64 (k : Int) ∧ wr = w) (fun i _ => 2 - (intOf i).toNat)
      case atStart => exact ⟨0, by omega, rfl, rfl⟩
      case round =>
        obtain ⟨k, hk, rfl, hw⟩ := hrel
        have hw2 := hw.symm
        subst hw2
        have hk3 : k = 0 ∨ k = 1 ∨ k = 2 := by omega
        rcases hk3 with rfl | rfl | rfl
        · go_wp2_with fail
          go_roundw
          case rel => exact ⟨1, by omega, rfl, trivial⟩
          case measure => simp [intOf]
        · go_wp2_with fail
          go_roundw
          case rel => exact ⟨2, by omega, rfl, trivial⟩
          case measure => simp [intOf]
        · go_wp2_with fail
          go_ret
          exact ⟨rfl, rfl⟩
theorem macNo_ix (no : Int) : macNo no = decide (0 ≤ ixN no) := by
  unfold macNo ixN
  by_cases h1 : no = 64
  · simp [h1]
  · by_cases h2 : no = 128
    · simp [h2]
    · simp [h1, h2]
set_option maxHeartbeats 1000000 in
theorem contains2_any (no : Int) (gN : Nat) (w : World) (c0 : w.cell? ⟨gN, 0, none⟩ = some (.int .i64 64)) (c1 : w.cell? ⟨gN, 1, none⟩ = some (.int .i64 128)) :
    Calls Tryz.prog 60 #[.slice (some ⟨gN, 0, none⟩) 2 2, .int .i64 no] w fun e w' => e = .returned (.bool (macNo no)) ∧ w' = w := by
  have HI := hideT (index2_any no gN w c0 c1)
  have HM := hideT (macNo_ix no)
  obtain ⟨q, hq⟩ : ∃ q, q = ixN no := ⟨_, rfl⟩
  rw [← hq] at HI HM
  clear hq c0 c1
  go_enter Tryz.func60, Tryz.ntmps60
  go_wp2_with (go_at_call 101; refine HI.out.mono ?_; rintro e w2 ⟨rfl, hw⟩; have hw2 := hw.symm; subst hw2; clear hw)
  go_ret
  exact ⟨by rw [HM.out]; rfl, rfl⟩
set_option maxHeartbeats 1000000 in
theorem without1_any (no : Int) (x : Value) (gb gN : Nat) (w : World) (cb : w.cell? ⟨gb, 0, none⟩ = some (.slice (some ⟨gN, 0, none⟩) 2 2)) (c0 : w.cell? ⟨gN, 0, none⟩ = some (.int .i64 64)) (c1 : w.cell? ⟨gN, 1, none⟩ = some (.int .i64 128)) :
    Calls Tryz.prog 59 #[.agg #[.int .i64 no, x], .pointer (some ⟨gb, 0, none⟩)] w fun e w' => e = .returned (.bool (macNo no)) ∧ Below w.heap.size w w' := by
  obtain ⟨W, hW⟩ : ∃ y, y = w.alloc (Obj.cells #[.int .i64 no, x] 37) := ⟨_, rfl⟩
  have bW : Below w.heap.size w W := by rw [hW]; exact below_newT _ _
  have lb := World.block_lt_of_cell? w _ cb
  have ln := World.block_lt_of_cell? w _ c0
  have cbW : W.cell? ⟨gb, 0, none⟩ = some (.slice (some ⟨gN, 0, none⟩) 2 2) := (bW.cell (p := ⟨gb, 0, none⟩) lb).trans cb
  have HC := hideT (contains2_any no gN W ((bW.cell (p := ⟨gN, 0, none⟩) ln).trans c0) ((bW.cell (p := ⟨gN, 1, none⟩) ln).trans c1))
  have kW : Blk W w.heap.size 37 [.int .i64 no, x] := by rw [hW]; exact Blk.new _ _ _
  have kc := kW.cell 0 (by simp)
  have HW := hideT hW
  clear hW cb c0 c1
  go_enter Tryz.func59, Tryz.ntmps59
  go_upto_region 1 with fail
  rw [← show W = _ from HW]
  go_wp2_with fail
  refine HC.out.mono ?_
  rintro e w2 ⟨rfl, hw⟩
  have hw2 := hw.symm
  subst hw2
  go_wp2_with fail
  go_ret
  exact ⟨rfl, bW⟩
def above64 (no : Int) : Bool := decide (64 < no)
set_option maxHeartbeats 1000000 in
theorem seal1_any (no : Int) (x : Value) (w : World) :
    Calls Tryz.prog 32 #[.agg #[.int .i64 no, x]] w fun e w' => e = .returned (.bool (above64 no)) ∧ Below w.heap.size w w' := by
  have bW : Below w.heap.size w (w.alloc (Obj.cells #[.int .i64 no, x] 37)) := below_newT _ _
  go_enter Tryz.func32, Tryz.ntmps32
  go_wp2_with fail
  go_ret
  exact ⟨rfl, bW⟩
/-- A row of numbers and values, two cells each. -/
def PAt2 (w : World) (a : Option Addr) (Q : List (Int × Value)) : Prop := ∀ i, i < Q.length → ∃ g o, a = some ⟨g, o, none⟩ ∧ w.cell? ⟨g, o + i * 2, none⟩ = some (.int .i64 (Q.getD i (0, undef)).1) ∧ w.cell? ⟨g, o + i * 2 + 1, none⟩ = some (Q.getD i (0, undef)).2
/-- The place of the first number with a property, -1 if there is none. -/
def IxR (p : Int → Bool) (Q : List (Int × Value)) (r : Int) : Prop := (r = -1 ∧ ∀ j, j < Q.length → p (Q.getD j (0, undef)).1 = false) ∨ ∃ k : Nat, k < Q.length ∧ r = (k : Int) ∧ (∀ j, j < k → p (Q.getD j (0, undef)).1 = false) ∧ p (Q.getD k (0, undef)).1 = true
set_option maxRecDepth 100000 in
set_option maxHeartbeats 2000000 in
theorem indexW_any (Q : List (Int × Value)) (hQ : Q.length ≤ 1048576) (a : Option Addr) (cap : Nat) (w : World) (hP : PAt2 w a Q) (gb gN : Nat) (cb : w.cell? ⟨gb, 0, none⟩ = some (.slice (some ⟨gN, 0, none⟩) 2 2)) (c0 : w.cell? ⟨gN, 0, none⟩ = some (.int .i64 64)) (c1 : w.cell? ⟨gN, 1, none⟩ = some (.int .i64 128)) :
    Calls Tryz.prog 61 #[.slice a Q.length cap, .func (Fn.func 59) #[] #[.pointer (some ⟨gb, 0, none⟩)]] w fun e w' => (∃ r, e = .returned (.int .i64 r) ∧ IxR macNo Q r) ∧ Below w.heap.size w w' := by
  obtain ⟨n, hn⟩ : ∃ n, n = Q.length := ⟨_, rfl⟩
  have HN := hideT hn
  rw [← hn] at hQ ⊢
  have HP := hideT hP
  have HCB := hideT (And.intro cb (And.intro c0 c1))
  have lb := World.block_lt_of_cell? w _ cb
  have ln := World.block_lt_of_cell? w _ c0
  clear cb c0 c1
  clear hn hP
  go_enter Tryz.func61, Tryz.ntmps61
  go_wp2_with fail
  go_loopw [8] (fun i wr => ∃ k : Nat, k ≤ n ∧ i = .int .i64 (k : Int) ∧ Hid (∀ j, j < k → macNo (Q.getD j (0, undef)).1 = false) ∧ Below w.heap.size w wr) (fun i _ => n - (intOf i).toNat)
  case atStart => exact ⟨0, Nat.zero_le _, rfl, fun j h => absurd h (Nat.not_lt_zero j), Below.refl _ _⟩
  case round =>
    obtain ⟨k, hk, rfl, HJ, hbel⟩ := hrel
    by_cases hlt : k < n
    · have hltI : (k : Int) < (n : Int) := by omega
      have hkQ : k < Q.length := by rw [← HN.out]; exact hlt
      obtain ⟨g, o, rfl, c1w, c2w⟩ := HP.out k hkQ
      have hlw := World.block_lt_of_cell? w _ c1w
      have c1 := (hbel.cell (p := ⟨g, o + k * 2, none⟩) hlw).trans c1w
      have c2 := (hbel.cell (p := ⟨g, o + k * 2 + 1, none⟩) hlw).trans c2w
      obtain ⟨no, hno⟩ : ∃ m, m = (Q.getD k (0, undef)).1 := ⟨_, rfl⟩
      obtain ⟨x, hx⟩ : ∃ m, m = (Q.getD k (0, undef)).2 := ⟨_, rfl⟩
      rw [← hno] at c1
      rw [← hx] at c2
      have HNO := hideT hno
      have HCL := hideT (without1_any no x gb gN wr ((hbel.cell (p := ⟨gb, 0, none⟩) lb).trans HCB.out.1) ((hbel.cell (p := ⟨gN, 0, none⟩) ln).trans HCB.out.2.1) ((hbel.cell (p := ⟨gN, 1, none⟩) ln).trans HCB.out.2.2))
      obtain ⟨pb, hpb⟩ : ∃ m, m = macNo no := ⟨_, rfl⟩
      rw [← hpb] at HCL
      have HPB := hideT hpb
      clear hno hx hpb c1w c2w hlw
      cases pb
      · go_wp2_with (go_at_call 59; refine HCL.out.mono ?_; rintro e w2 ⟨rfl, b2⟩; have hb2 := hbel.trans (b2.mono hbel.size); clear b2)
        go_roundw
        case rel => exact ⟨k + 1, by omega, by go_num, fun j hj => by
          by_cases hjk : j = k
          · rw [hjk, ← HNO.out, ← HPB.out]
          · exact HJ.out j (by omega), hb2⟩
        case measure => simp [intOf]; omega
      · go_wp2_with (go_at_call 59; refine HCL.out.mono ?_; rintro e w2 ⟨rfl, b2⟩; have hb2 := hbel.trans (b2.mono hbel.size); clear b2)
        go_ret
        exact ⟨⟨_, rfl, .inr ⟨k, hkQ, rfl, HJ.out, by rw [← HNO.out, ← HPB.out]⟩⟩, hb2⟩
    · have hltI : ¬ (k : Int) < (n : Int) := by omega
      go_wp2_with fail
      go_ret
      exact ⟨⟨_, rfl, .inl ⟨rfl, fun j hj => HJ.out j (by rw [← HN.out] at hj; omega)⟩⟩, hbel⟩
set_option maxRecDepth 100000 in
set_option maxHeartbeats 2000000 in
theorem indexS_any (Q : List (Int × Value)) (hQ : Q.length ≤ 1048576) (a : Option Addr) (cap : Nat) (w : World) (hP : PAt2 w a Q) :
    Calls Tryz.prog 61 #[.slice a Q.length cap, .func (Fn.func 32) #[] #[]] w fun e w' => (∃ r, e = .returned (.int .i64 r) ∧ IxR above64 Q r) ∧ Below w.heap.size w w' := by
  obtain ⟨n, hn⟩ : ∃ n, n = Q.length := ⟨_, rfl⟩
  have HN := hideT hn
  rw [← hn] at hQ ⊢
  have HP := hideT hP
  clear hn hP
  go_enter Tryz.func61, Tryz.ntmps61
  go_wp2_with fail
  go_loopw [8] (fun i wr => ∃ k : Nat, k ≤ n ∧ i = .int .i64 (k : Int) ∧ Hid (∀ j, j < k → above64 (Q.getD j (0, undef)).1 = false) ∧ Below w.heap.size w wr) (fun i _ => n - (intOf i).toNat)
  case atStart => exact ⟨0, Nat.zero_le _, rfl, fun j h => absurd h (Nat.not_lt_zero j), Below.refl _ _⟩
  case round =>
    obtain ⟨k, hk, rfl, HJ, hbel⟩ := hrel
    by_cases hlt : k < n
    · have hltI : (k : Int) < (n : Int) := by omega
      have hkQ : k < Q.length := by rw [← HN.out]; exact hlt
      obtain ⟨g, o, rfl, c1w, c2w⟩ := HP.out k hkQ
      have hlw := World.block_lt_of_cell? w _ c1w
      have c1 := (hbel.cell (p := ⟨g, o + k * 2, none⟩) hlw).trans c1w
      have c2 := (hbel.cell (p := ⟨g, o + k * 2 + 1, none⟩) hlw).trans c2w
      obtain ⟨no, hno⟩ : ∃ m, m = (Q.getD k (0, undef)).1 := ⟨_, rfl⟩
      obtain ⟨x, hx⟩ : ∃ m, m = (Q.getD k (0, undef)).2 := ⟨_, rfl⟩
      rw [← hno] at c1
      rw [← hx] at c2
      have HNO := hideT hno
      have HCL := hideT (seal1_any no x wr)
      obtain ⟨pb, hpb⟩ : ∃ m, m = above64 no := ⟨_, rfl⟩
      rw [← hpb] at HCL
      have HPB := hideT hpb
      clear hno hx hpb c1w c2w hlw
      cases pb
      · go_wp2_with (go_at_call 32; refine HCL.out.mono ?_; rintro e w2 ⟨rfl, b2⟩; have hb2 := hbel.trans (b2.mono hbel.size); clear b2)
        go_roundw
        case rel => exact ⟨k + 1, by omega, by go_num, fun j hj => by
          by_cases hjk : j = k
          · rw [hjk, ← HNO.out, ← HPB.out]
          · exact HJ.out j (by omega), hb2⟩
        case measure => simp [intOf]; omega
      · go_wp2_with (go_at_call 32; refine HCL.out.mono ?_; rintro e w2 ⟨rfl, b2⟩; have hb2 := hbel.trans (b2.mono hbel.size); clear b2)
        go_ret
        exact ⟨⟨_, rfl, .inr ⟨k, hkQ, rfl, HJ.out, by rw [← HNO.out, ← HPB.out]⟩⟩, hb2⟩
    · have hltI : ¬ (k : Int) < (n : Int) := by omega
      go_wp2_with fail
      go_ret
      exact ⟨⟨_, rfl, .inl ⟨rfl, fun j hj => HJ.out j (by rw [← HN.out] at hj; omega)⟩⟩, hbel⟩
end Go.Proofs.YtjkofmomoljelaaGreatDoor
