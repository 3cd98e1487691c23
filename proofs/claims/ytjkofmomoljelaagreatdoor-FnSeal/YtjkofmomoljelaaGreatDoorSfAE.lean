import Derived.Test.YtjkofmomoljelaaGreatDoorSfAD
namespace Go.Proofs.YtjkofmomoljelaaGreatDoor
open Go.RowKit
def cellsP (Q : List (Int × Value)) : List Value := Q.flatMap (fun q => [.int .i64 q.1, q.2])
theorem cellsP_cons (q : Int × Value) (r : List (Int × Value)) : cellsP (q :: r) = .int .i64 q.1 :: q.2 :: cellsP r := rfl
theorem cellsP_length (Q : List (Int × Value)) : (cellsP Q).length = Q.length * 2 := by
  induction Q with
  | nil => rfl
  | cons q r ih => rw [cellsP_cons, List.length_cons, List.length_cons, List.length_cons, ih]; omega
theorem cellsP_at (Q : List (Int × Value)) : ∀ i, i < Q.length → (cellsP Q)[i * 2]? = some (.int .i64 (Q.getD i (0, undef)).1) ∧ (cellsP Q)[i * 2 + 1]? = some (Q.getD i (0, undef)).2 := by
  induction Q with
  | nil => intro i h; simp at h
  | cons q r ih =>
    intro i h
    cases i with
    | zero => exact ⟨rfl, rfl⟩
    | succ i =>
      have := ih i (by simpa using h)
      rw [show (i + 1) * 2 = i * 2 + 1 + 1 from by omega]
      exact this
def keepP (Q : List (Int × Value)) : List (Int × Value) := Q.filter (fun q => !macNo q.1)
theorem keepP_snoc (A : List (Int × Value)) (q : Int × Value) : keepP (A ++ [q]) = if macNo q.1 = true then keepP A else keepP A ++ [q] := by
  unfold keepP
  rw [List.filter_append]
  by_cases h : macNo q.1 = true
  · rw [if_pos h]; simp [h]
  · rw [if_neg h]; simp [h]
theorem keepP_all (Q : List (Int × Value)) (h : ∀ j, j < Q.length → macNo (Q.getD j (0, undef)).1 = false) : keepP Q = Q := by
  unfold keepP
  rw [List.filter_eq_self]
  intro q hq
  obtain ⟨i, hi, rfl⟩ := List.getElem_of_mem hq
  have := h i hi
  rw [List.getD_eq_getElem?_getD, List.getElem?_eq_getElem hi] at this
  simpa using this
theorem takeP_snoc {α : Type} (l : List α) (k : Nat) (d : α) (h : k < l.length) : l.take (k + 1) = l.take k ++ [l.getD k d] := by
  rw [List.take_succ_eq_append_getElem h, List.getD_eq_getElem?_getD, List.getElem?_eq_getElem h]
  rfl
theorem getD_takeP {α : Type} (l : List α) (k j : Nat) (d : α) (h : j < k) : (l.take k).getD j d = l.getD j d := by
  rw [List.getD_eq_getElem?_getD, List.getD_eq_getElem?_getD, List.getElem?_take, if_pos h]
/-- The first j are looked at, i of them kept, and moved ahead. -/
structure DI (Q : List (Int × Value)) (i j : Nat) (xs : List Value) : Prop where
  len : (keepP (Q.take j)).length = i
  lt : i < j
  front : ∀ m, m < i → xs[m * 2]? = some (.int .i64 ((keepP (Q.take j)).getD m (0, undef)).1) ∧ xs[m * 2 + 1]? = some ((keepP (Q.take j)).getD m (0, undef)).2
  back : ∀ m, j ≤ m → m < Q.length → xs[m * 2]? = some (.int .i64 (Q.getD m (0, undef)).1) ∧ xs[m * 2 + 1]? = some (Q.getD m (0, undef)).2
theorem DI.start {Q : List (Int × Value)} {k : Nat} (hk : k < Q.length) (h1 : ∀ j, j < k → macNo (Q.getD j (0, undef)).1 = false) (h2 : macNo (Q.getD k (0, undef)).1 = true) : DI Q k (k + 1) (cellsP Q) := by
  have e0 : keepP (Q.take k) = Q.take k := keepP_all _ (fun j hj => by rw [List.length_take] at hj; rw [getD_takeP _ _ _ _ (by omega)]; exact h1 j (by omega))
  have e : keepP (Q.take (k + 1)) = Q.take k := by rw [takeP_snoc Q k (0, undef) hk, keepP_snoc, if_pos h2, e0]
  refine ⟨by rw [e, List.length_take]; omega, by omega, fun m hm => ?_, fun m _ hm => cellsP_at Q m hm⟩
  rw [e, getD_takeP _ _ _ _ hm]
  exact cellsP_at Q m (by omega)
theorem DI.drop {Q : List (Int × Value)} {i j : Nat} {xs : List Value} (h : DI Q i j xs) (hj : j < Q.length) (hm : macNo (Q.getD j (0, undef)).1 = true) : DI Q i (j + 1) xs := by
  have e : keepP (Q.take (j + 1)) = keepP (Q.take j) := by rw [takeP_snoc Q j (0, undef) hj, keepP_snoc, if_pos hm]
  refine ⟨by rw [e]; exact h.len, by have := h.lt; omega, fun m hm => by rw [e]; exact h.front m hm, fun m h1 h2 => h.back m (by omega) h2⟩
theorem DI.keep {Q : List (Int × Value)} {i j : Nat} {xs : List Value} (h : DI Q i j xs) (hj : j < Q.length) (hx : xs.length = Q.length * 2) (hm : macNo (Q.getD j (0, undef)).1 = false) : DI Q (i + 1) (j + 1) ((xs.set (i * 2) (.int .i64 (Q.getD j (0, undef)).1)).set (i * 2 + 1) (Q.getD j (0, undef)).2) := by
  have e : keepP (Q.take (j + 1)) = keepP (Q.take j) ++ [Q.getD j (0, undef)] := by rw [takeP_snoc Q j (0, undef) hj, keepP_snoc, if_neg (by rw [hm]; decide)]
  have hl := h.len
  have hij := h.lt
  refine ⟨by rw [e, List.length_append, hl]; rfl, by omega, fun m hm2 => ?_, fun m h1 h2 => ?_⟩
  · rw [e]
    by_cases hmi : m = i
    · subst hmi
      rw [getD_last _ _ _ _ hl.symm]
      refine ⟨?_, ?_⟩
      · rw [List.getElem?_set_ne (by omega), List.getElem?_set_self (by omega)]
      · rw [List.getElem?_set_self (by simp; omega)]
    · obtain ⟨a, b⟩ := h.front m (by omega)
      rw [getD_left _ _ _ _ (by omega)]
      refine ⟨?_, ?_⟩
      · rw [List.getElem?_set_ne (by omega), List.getElem?_set_ne (by omega)]; exact a
      · rw [List.getElem?_set_ne (by omega), List.getElem?_set_ne (by omega)]; exact b
  · obtain ⟨a, b⟩ := h.back m (by omega) h2
    refine ⟨?_, ?_⟩
    · rw [List.getElem?_set_ne (by omega), List.getElem?_set_ne (by omega)]; exact a
    · rw [List.getElem?_set_ne (by omega), List.getElem?_set_ne (by omega)]; exact b
theorem DI.done {Q : List (Int × Value)} {i : Nat} {xs : List Value} (h : DI Q i Q.length xs) (hx : xs.length = Q.length * 2) : xs.take (i * 2) = cellsP (keepP Q) := by
  have hl := h.len
  have hij := h.lt
  have hf := h.front
  rw [List.take_length] at hl hf
  apply List.ext_getElem?
  intro m
  by_cases hm : m < i * 2
  · rw [List.getElem?_take, if_pos hm]
    obtain ⟨a, b⟩ := hf (m / 2) (by omega)
    obtain ⟨c, d⟩ := cellsP_at (keepP Q) (m / 2) (by omega)
    by_cases h2 : m % 2 = 0
    · rw [show m = m / 2 * 2 from by omega, a, c]
    · rw [show m = m / 2 * 2 + 1 from by omega, b, d]
  · rw [List.getElem?_eq_none (by rw [List.length_take]; omega), List.getElem?_eq_none (by rw [cellsP_length]; omega)]
theorem zeroF_length (n : Nat) : (Builtin.zeroCells (Value.agg #[.int .i64 0, .slice none 0 0]).cells n).toList.length = n * 2 := by
  rw [Array.length_toList, size_zeroCells]
  rfl
theorem zeroF_one (n : Nat) : ∀ v ∈ (Builtin.zeroCells (Value.agg #[.int .i64 0, .slice none 0 0]).cells n).toList, v.oneCell' = true := by
  intro v hv
  unfold Builtin.zeroCells at hv
  rw [Array.mem_toList_iff, Array.mem_map] at hv
  obtain ⟨j, -, rfl⟩ := hv
  show (#[Value.int .i64 0, Value.slice none 0 0][j % 2]!).oneCell' = true
  have h2 : j % 2 = 0 ∨ j % 2 = 1 := by omega
  rcases h2 with h2 | h2 <;> rw [h2] <;> rfl
/-- The elements from i on are made zero. -/
theorem run_clearF {w : World} {g n i c : Nat} {cur : Array Value} (hg : w.heap[g]? = some (.cells cur 37 (0, 0))) (hi : i < n) (hs : n * 2 ≤ cur.size) :
    ∃ w' cur', (∀ ty, (Builtin.clear_ #[28] ty #[.slice (some ⟨g, i * 2, none⟩) (n - i) c]).run Tryz.prog w = .ok (.tuple #[]) w') ∧ w'.heap[g]? = some (.cells cur' 37 (0, 0)) ∧ cur'.size = cur.size ∧ cur'.toList.take (i * 2) = cur.toList.take (i * 2) ∧ w.grownBy w' (some g) := by
  obtain ⟨m, hm⟩ : ∃ m, n - i = m + 1 := ⟨n - i - 1, by omega⟩
  have hst := run_storeT Tryz.prog g (i * 2) 37 (0, 0) (Builtin.zeroCells (Value.agg #[.int .i64 0, .slice none 0 0]).cells (m + 1)).toList 0 cur w hg (.inl rfl) (by rw [zeroF_length]; omega) (zeroF_one _)
  obtain ⟨C2, hC2⟩ : ∃ q, q = (cur.toList.take (i * 2 + 0) ++ (Builtin.zeroCells (Value.agg #[.int .i64 0, .slice none 0 0]).cells (m + 1)).toList ++ cur.toList.drop (i * 2 + 0 + (Builtin.zeroCells (Value.agg #[.int .i64 0, .slice none 0 0]).cells (m + 1)).toList.length)).toArray := ⟨_, rfl⟩
  rw [← hC2] at hst
  refine ⟨w.setRow g C2, C2, ?_, setRow_heap w g cur _ _ _ hg, ?_, ?_, ⟨rfl, rfl, rfl, by simp, fun k _ hk => setRow_other w g k _ (fun e => hk (by rw [e]))⟩⟩
  · intro ty
    rw [hm]
    simp [Builtin.clear_, run_underlying Tryz.underlying28, Tryz.zeroValue37, hst]
  · rw [hC2, List.size_toArray, List.length_append, List.length_append, List.length_take, List.length_drop, zeroF_length, Array.length_toList]
    omega
  · rw [hC2, Nat.add_zero, List.append_assoc, List.take_append_of_le_length (by rw [List.length_take, Array.length_toList]; omega), List.take_take, Nat.min_self]
end Go.Proofs.YtjkofmomoljelaaGreatDoor
namespace Go.Proofs.YtjkofmomoljelaaGreatDoor
open Go.RowKit
theorem row_P {w : World} {lo cap : Nat} {a : Option Addr} {Q : List (Int × Value)} (row : w.ownsRow lo 37 2 (.slice a Q.length cap) Q.length (cellsP Q)) : PAt2 w a Q := by
  intro i hi
  obtain ⟨c1, c2⟩ := cellsP_at Q i hi
  rcases row.2 with ⟨hv, hz⟩ | ⟨g, c, cur, hv, -⟩
  · omega
  · simp only [Value.slice.injEq] at hv
    obtain ⟨rfl, -, rfl⟩ := hv
    refine ⟨g, 0, rfl, ?_, ?_⟩
    · rw [Nat.zero_add, row.cellAt (i * 2) (by omega), c1]
    · rw [Nat.zero_add, row.cellAt (i * 2 + 1) (by omega), c2]
set_option maxRecDepth 100000 in
set_option maxHeartbeats 4000000 in
theorem deleteF_any (Q : List (Int × Value)) (hQ : Q.length ≤ 1048576) (hsl : ∀ j, j < Q.length → ∃ ai l ci, (Q.getD j (0, undef)).2 = .slice ai l ci) (v : Value) (lo gb gN : Nat) (w : World) (row : w.ownsRow lo 37 2 v Q.length (cellsP Q)) (hlo : lo ≤ w.heap.size) (hgb : gb < lo) (hgN : gN < lo)
    (cb : w.cell? ⟨gb, 0, none⟩ = some (.slice (some ⟨gN, 0, none⟩) 2 2)) (c0 : w.cell? ⟨gN, 0, none⟩ = some (.int .i64 64)) (c1 : w.cell? ⟨gN, 1, none⟩ = some (.int .i64 128)) :
    Calls Tryz.prog 57 #[v, .func (Fn.func 59) #[] #[.pointer (some ⟨gb, 0, none⟩)]] w fun e w' => (∃ v', e = .returned v' ∧ w'.ownsRow lo 37 2 v' (keepP Q).length (cellsP (keepP Q))) ∧ Below lo w w' := by
  obtain ⟨a, cap, rfl⟩ := ownR_shape row
  have HIX := hideT (indexW_any Q hQ a cap w (row_P row) gb gN cb c0 c1)
  have HCB := hideT (And.intro cb (And.intro c0 c1))
  have HSL := hideT hsl
  have hrow2 := row.2
  obtain ⟨n, hn⟩ : ∃ n, n = Q.length := ⟨_, rfl⟩
  have HN := hideT hn
  rw [← hn] at HIX hQ row hrow2 ⊢
  clear hn cb c0 c1 hsl
  go_enter Tryz.func57, Tryz.ntmps57
  go_wp2_with fail
  refine HIX.out.mono ?_
  rintro e w1 ⟨⟨r, rfl, hix⟩, b1⟩
  rcases hix with ⟨rfl, hall⟩ | ⟨k0, hk0, rfl, h1, h2⟩
  · have HALL := hideT hall
    clear hall hrow2
    go_wp2_with fail
    go_ret
    exact ⟨⟨_, rfl, by rw [keepP_all Q HALL.out, ← HN.out]; exact ownR_below row b1⟩, b1.mono hlo⟩
  · have HDI0 := hideT (DI.start hk0 h1 h2)
    have hk0n : k0 < n := by rw [HN.out]; exact hk0
    rcases hrow2 with ⟨-, hz⟩ | ⟨g, c, cur, hv, hglo, -, hnc, hcm, -⟩
    · omega
    simp only [Value.slice.injEq] at hv
    obtain ⟨rfl, -, rfl⟩ := hv
    have row1 := ownR_below row b1
    have bl1 := b1.mono hlo
    have hkI : ¬ (k0 : Int) = -1 := by omega
    have hkb : ((k0 : Int) == -1) = false := by rw [beq_eq_false_iff_ne]; exact hkI
    have hkw : IntKind.i64.wrap ((k0 : Int) + 1) = ((k0 + 1 : Nat) : Int) := by rw [IntKind.wrap_i64]; omega
    clear h1 h2 hk0 row b1 HIX
    go_wp2_with fail
    go_loopw [5, 6] (fun iv jv wr => ∃ (i j : Nat) (xs : List Value), j ≤ n ∧ iv = .int .i64 (i : Int) ∧ jv = .int .i64 (j : Int) ∧ wr.ownsRow lo 37 2 (.slice (some ⟨g, 0, none⟩) n cap) n xs ∧ Hid (DI Q i j xs) ∧ Below lo w wr) (fun _ jv _ => n - (intOf jv).toNat)
    case atStart => exact ⟨k0, k0 + 1, _, by omega, rfl, by go_num, row1, HDI0, bl1⟩
    case round =>
      clear row1 bl1 HDI0 hkI hkb hkw
      obtain ⟨i, j, xs, hj, rfl, rfl, row, HDI, hbel⟩ := hrel
      have hxl : xs.length = n * 2 := row.1
      have hij := HDI.out.lt
      by_cases hlt : j < n
      · have hltI : (j : Int) < (n : Int) := by omega
        have hjQ : j < Q.length := by rw [← HN.out]; exact hlt
        obtain ⟨p1, p2⟩ := HDI.out.back j (Nat.le_refl _) hjQ
        obtain ⟨ai, l, ci, hx⟩ := HSL.out j hjQ
        have c1 := (row.cellAt (j * 2) (by omega)).trans p1
        have c2 := (row.cellAt (j * 2 + 1) (by omega)).trans p2
        rw [hx] at c2
        have HDR := hideT (fun h => HDI.out.drop hjQ h)
        have HKE := hideT (fun h => HDI.out.keep hjQ (by rw [← HN.out]; exact hxl) h)
        rw [hx] at HKE
        obtain ⟨no, hno⟩ : ∃ m, m = (Q.getD j (0, undef)).1 := ⟨_, rfl⟩
        rw [← hno] at c1 HDR HKE
        obtain ⟨X, hX⟩ : ∃ y, y = wr.alloc (Obj.cells #[.int .i64 no, .slice ai l ci] 37) := ⟨_, rfl⟩
        obtain ⟨gV, hgV⟩ : ∃ q, q = wr.heap.size := ⟨_, rfl⟩
        have kV : Blk X gV 37 [.int .i64 no, .slice ai l ci] := by rw [hX, hgV]; exact Blk.new _ _ _
        have bX : Below wr.heap.size wr X := by rw [hX]; exact below_newT _ _
        have hwr : lo ≤ wr.heap.size := Nat.le_trans hlo hbel.size
        have belX := hbel.trans (bX.mono hwr)
        have rowX := ownR_below row bX
        have HCL := hideT (without1_any no (.slice ai l ci) gb gN X ((belX.cell (p := ⟨gb, 0, none⟩) hgb).trans HCB.out.1) ((belX.cell (p := ⟨gN, 0, none⟩) hgN).trans HCB.out.2.1) ((belX.cell (p := ⟨gN, 1, none⟩) hgN).trans HCB.out.2.2))
        have hgVr := (row.lt g rfl).2
        rw [← hgV] at hgVr
        have HX := hideT hX
        have HGV := hideT hgV
        have HXL := hideT hxl
        have HHX := hideT hx
        clear hX hgV hno hx p1 p2 hxl row hbel bX HDI
        go_upto_region 8 with fail
        rw [← show X = _ from HX, ← show gV = _ from HGV]
        clear HX HGV c1 c2
        have d0 := kV.cell 0 (by simp)
        have d1 := kV.cell 1 (by simp)
        obtain ⟨pb, hpb⟩ : ∃ m, m = macNo no := ⟨_, rfl⟩
        rw [← hpb] at HCL
        have HPB := hideT hpb
        clear hpb
        cases pb
        · have HK2 := hideT (HKE.out HPB.out.symm)
          clear HKE HDR
          go_upto_region 9 with (go_at_call 59; refine HCL.out.mono ?_; rintro e w2 ⟨rfl, b2⟩)
          have row2 := ownR_below rowX b2
          have k2 := kV.below b2 kV.lt
          have hbX : lo ≤ X.heap.size := Nat.le_trans hlo belX.size
          have bel2 := belX.trans (b2.mono hbX)
          clear rowX kV belX HCL b2 d0 d1
          have d0 := k2.cell 0 (by simp)
          have d1 := k2.cell 1 (by simp)
          have hf1 : w2.frozen? ⟨g, i * 2, none⟩ = false := row2.frozenAt _
          have hf2 : w2.frozen? ⟨g, i * 2 + 1, none⟩ = false := row2.frozenAt _
          obtain ⟨u1, hu1⟩ := own_some row2 (by omega : i * 2 < n * 2)
          obtain ⟨u2, hu2⟩ := own_some row2 (by omega : i * 2 + 1 < n * 2)
          have ro1 := (row2.stored (i * 2) (.int .i64 no)).1
          have ro2 := (ro1.stored (i * 2 + 1) (.slice ai l ci)).1
          have HRO := hideT ro2
          have bel3 := (bel2.setCell (p := ⟨g, i * 2, none⟩) hglo (.int .i64 no)).setCell (p := ⟨g, i * 2 + 1, none⟩) hglo (.slice ai l ci)
          have hin : (i : Int) < (n : Int) := by omega
          clear ro1 ro2 row2 bel2
          go_wp2_with fail
          go_roundw
          case rel => exact ⟨i + 1, j + 1, _, by omega, by go_num, by go_num, HRO.out, HK2, bel3⟩
          case measure => simp [intOf]; omega
        · have HD2 := hideT (HDR.out HPB.out.symm)
          clear HKE HDR
          have hbX : lo ≤ X.heap.size := Nat.le_trans hlo belX.size
          go_wp2_with (go_at_call 59; refine HCL.out.mono ?_; rintro e w2 ⟨rfl, b2⟩; have row2 := ownR_below rowX b2; have bel2 := belX.trans (b2.mono hbX); clear rowX b2 belX)
          go_roundw
          case rel => exact ⟨i, j + 1, _, by omega, rfl, by go_num, row2, HD2, bel2⟩
          case measure => simp [intOf]; omega
      · have hltI : ¬ (j : Int) < (n : Int) := by omega
        obtain rfl : j = n := by omega
        have HDO := hideT HDI.out
        have hrr := row.2
        rcases hrr with ⟨-, hz⟩ | ⟨g2, c2, cur, hv, -, hh, hnc2, -, hcs, htk⟩
        · omega
        simp only [Value.slice.injEq, Option.some.injEq, Addr.mk.injEq, and_true, true_and] at hv
        obtain ⟨rfl, rfl⟩ := hv
        obtain ⟨w5, cur5, hclr, hh5, hcs5, htk5, gr5⟩ := run_clearF (c := cap - i) hh hij (by omega)
        have hic : ¬ cap = i := by omega
        have hicI : (i : Int) ≤ (cap : Int) := by omega
        have hinI : (i : Int) ≤ (j : Int) := by omega
        have bel5 := hbel.grown gr5 (Nat.le_trans hlo hbel.size) (fun q hq => by cases hq; exact hglo)
        have HFIN : Hid (w5.ownsRow lo 37 2 (.slice (some ⟨g, 0, none⟩) i cap) i (xs.take (i * 2))) := by
          refine ⟨by rw [List.length_take, hxl]; omega, .inr ⟨g, cap, cur5, rfl, hglo, hh5, by omega, hcm, by rw [hcs5]; exact hcs, ?_⟩⟩
          rw [htk5, ← htk, List.take_take]
          congr 1
          omega
        have HXL := hideT hxl
        clear hh hcs htk hh5 hcs5 htk5 gr5 row hxl HDI hbel
        go_wp2_with fail
        go_ret
        refine ⟨⟨_, rfl, ?_⟩, bel5⟩
        have h := HFIN.out
        have hd := HDO.out
        rw [show j = Q.length from HN.out] at hd
        rw [hd.done (by rw [← HN.out]; exact HXL.out)] at h
        have hl := hd.len
        rw [List.take_length] at hl
        rw [hl]
        exact h
end Go.Proofs.YtjkofmomoljelaaGreatDoor
namespace Go.Proofs.YtjkofmomoljelaaGreatDoor
open Go.RowKit
/-- The slices vs hold the bytes of the fields L. -/
def Rws (w : World) (L : List (Int × List UInt8)) (vs : List Value) : Prop := ∀ i, i < L.length → ∃ ai ci, vs.getD i undef = .slice ai (L.getD i (0, [])).2.length ci ∧ RowAt w ai (L.getD i (0, [])).2
theorem Rws.below {w w' : World} {L : List (Int × List UInt8)} {vs : List Value} (h : Rws w L vs) (hb : Below w.heap.size w w') : Rws w' L vs := fun i hi => by
  obtain ⟨ai, ci, e, r⟩ := h i hi
  exact ⟨ai, ci, e, r.below hb⟩
structure Fv (w : World) (v : Value) (L : List (Int × List UInt8)) (vs : List Value) : Prop where
  len : vs.length = L.length
  sh : ∃ ao cap, v = .slice ao L.length cap
  at_ : ∀ i, i < L.length → ∃ g o cap, v = .slice (some ⟨g, o, none⟩) L.length cap ∧ w.cell? ⟨g, o + i * 2, none⟩ = some (.int .i64 (L.getD i (0, [])).1) ∧ w.cell? ⟨g, o + i * 2 + 1, none⟩ = some (vs.getD i undef)
theorem Fv.below {w w' : World} {v : Value} {L : List (Int × List UInt8)} {vs : List Value} (h : Fv w v L vs) (hb : Below w.heap.size w w') : Fv w' v L vs :=
  ⟨h.len, h.sh, fun i hi => by
    obtain ⟨g, o, cap, e, c1, c2⟩ := h.at_ i hi
    have hl := World.block_lt_of_cell? w _ c1
    exact ⟨g, o, cap, e, (hb.cell (p := ⟨g, o + i * 2, none⟩) hl).trans c1, (hb.cell (p := ⟨g, o + i * 2 + 1, none⟩) hl).trans c2⟩⟩
theorem Fr.vals {w : World} {v : Value} {L : List (Int × List UInt8)} (h : Fr w v L) : ∃ vs, Fv w v L vs ∧ Rws w L vs := by
  have each : ∀ i, i < L.length → ∃ x : Value, (∃ ai ci, x = .slice ai (L.getD i (0, [])).2.length ci ∧ RowAt w ai (L.getD i (0, [])).2) ∧ ∃ g o cap, v = .slice (some ⟨g, o, none⟩) L.length cap ∧ w.cell? ⟨g, o + i * 2, none⟩ = some (.int .i64 (L.getD i (0, [])).1) ∧ w.cell? ⟨g, o + i * 2 + 1, none⟩ = some x := by
    intro i hi
    obtain ⟨g, o, cap, ai, ci, e, c1, c2, r⟩ := h.at_ i hi
    exact ⟨_, ⟨ai, ci, rfl, r⟩, g, o, cap, e, c1, c2⟩
  obtain ⟨f, hf⟩ := Go.Deep.choose_lt each
  have hg : ∀ i, i < L.length → ((List.range L.length).map f).getD i undef = f i := fun i hi => by simp [List.getD_eq_getElem?_getD, hi]
  refine ⟨(List.range L.length).map f, ⟨by simp, h.sh, fun i hi => ?_⟩, fun i hi => ?_⟩
  · rw [hg i hi]; exact (hf i hi).2
  · rw [hg i hi]; exact (hf i hi).1
/-- The numbers of the fields beside their slices. -/
def pairsOf (L : List (Int × List UInt8)) (vs : List Value) : List (Int × Value) := (List.zip L vs).map (fun (p : (Int × List UInt8) × Value) => (p.1.1, p.2))
theorem cellsP_pairs (L : List (Int × List UInt8)) (vs : List Value) : cellsP (pairsOf L vs) = Z.fldCells L vs := by
  unfold cellsP pairsOf Z.fldCells
  rw [List.flatMap_map]
theorem pairsOf_length (L : List (Int × List UInt8)) (vs : List Value) (h : vs.length = L.length) : (pairsOf L vs).length = L.length := by
  unfold pairsOf; simp; omega
theorem pairsOf_snd (L : List (Int × List UInt8)) : ∀ (vs : List Value), vs.length = L.length → ∀ i, i < L.length → ((pairsOf L vs).getD i (0, undef)).2 = vs.getD i undef := by
  induction L with
  | nil => intro vs _ i h; simp at h
  | cons p r ih =>
    intro vs h i hi
    cases vs with
    | nil => simp at h
    | cons x t =>
      cases i with
      | zero => rfl
      | succ i => exact ih t (by simpa using h) i (by simpa using hi)
/-- The fields that are no MACs. -/
def keepF (L : List (Int × List UInt8)) : List (Int × List UInt8) := L.filter (fun p => !macNo p.1)
theorem keep_rel (w : World) (L : List (Int × List UInt8)) : ∀ (vs : List Value), vs.length = L.length → Rws w L vs → ∃ vs', vs'.length = (keepF L).length ∧ cellsP (keepP (pairsOf L vs)) = Z.fldCells (keepF L) vs' ∧ (keepP (pairsOf L vs)).length = (keepF L).length ∧ Rws w (keepF L) vs' := by
  induction L with
  | nil => intro vs h _; exact ⟨[], rfl, by cases vs <;> rfl, by cases vs <;> rfl, fun i hi => absurd hi (Nat.not_lt_zero i)⟩
  | cons p r ih =>
    intro vs h hR
    cases vs with
    | nil => simp at h
    | cons x t =>
      obtain ⟨vs', h1, h2, h3, h4⟩ := ih t (by simpa using h) (fun i hi => hR (i + 1) (by simpa using hi))
      have e1 : keepP (pairsOf (p :: r) (x :: t)) = if macNo p.1 = true then keepP (pairsOf r t) else (p.1, x) :: keepP (pairsOf r t) := by
        show List.filter _ ((p.1, x) :: pairsOf r t) = _
        rw [List.filter_cons]
        cases macNo p.1 <;> rfl
      have e2 : keepF (p :: r) = if macNo p.1 = true then keepF r else p :: keepF r := by
        show List.filter _ (p :: r) = _
        rw [List.filter_cons]
        cases macNo p.1 <;> rfl
      rw [e1, e2]
      by_cases hm : macNo p.1 = true
      · rw [if_pos hm, if_pos hm]; exact ⟨vs', h1, h2, h3, h4⟩
      · rw [if_neg hm, if_neg hm]
        refine ⟨x :: vs', by simp [h1], ?_, by simp [h3], fun i hi => ?_⟩
        · rw [cellsP_cons, h2]; rfl
        · cases i with
          | zero => exact hR 0 (by simp)
          | succ i => exact h4 i (by simpa using hi)
theorem Fv.news {w : World} {v : Value} {L : List (Int × List UInt8)} {vs : List Value} (h : Fv w v L vs) (a : Addr) (cap : Nat) (hv : v = .slice (some a) L.length cap) : ∀ j u, (Z.fldCells L vs)[j]? = some u → w.cell? (a.add j) = some u := by
  intro j u hu
  have hl := Z.fldCells_length L vs h.len
  have hj : j < L.length * 2 := by rw [← hl]; exact (List.getElem?_eq_some_iff.1 hu).1
  have hj2 : j / 2 < L.length := by omega
  obtain ⟨g, o, c, e, c1, c2⟩ := h.at_ (j / 2) hj2
  rw [hv] at e
  simp only [Value.slice.injEq, Option.some.injEq] at e
  obtain ⟨rfl, -, -⟩ := e
  obtain ⟨f1, f2⟩ := Z.fldCells_at L vs h.len (j / 2) hj2
  rw [Addr.add_mid]
  by_cases hm : j % 2 = 0
  · have ej : j = j / 2 * 2 := by omega
    rw [ej, f1] at hu
    rw [ej, c1]; exact hu
  · have ej : j = j / 2 * 2 + 1 := by omega
    rw [ej, f2] at hu
    rw [ej, show o + (j / 2 * 2 + 1) = o + j / 2 * 2 + 1 from by omega, c2]; exact hu
theorem fld_one {w : World} {L : List (Int × List UInt8)} {vs : List Value} (hl : vs.length = L.length) (hR : Rws w L vs) : ∀ u ∈ Z.fldCells L vs, u.oneCell' = true := by
  intro u hu
  obtain ⟨j, hj, rfl⟩ := List.getElem_of_mem hu
  have hlen := Z.fldCells_length L vs hl
  have hj2 : j / 2 < L.length := by omega
  obtain ⟨f1, f2⟩ := Z.fldCells_at L vs hl (j / 2) hj2
  by_cases hm : j % 2 = 0
  · have ej : j / 2 * 2 = j := by omega
    rw [ej, List.getElem?_eq_getElem hj] at f1
    rw [Option.some.inj f1]; rfl
  · have ej : j / 2 * 2 + 1 = j := by omega
    rw [ej, List.getElem?_eq_getElem hj] at f2
    obtain ⟨ai, ci, e, -⟩ := hR (j / 2) hj2
    rw [Option.some.inj f2, e]; rfl
set_option maxRecDepth 100000 in
set_option maxHeartbeats 4000000 in
theorem cloneF_any (L : List (Int × List UInt8)) (hL : L.length ≤ 1048576) (v : Value) (vs : List Value) (w : World) (F : Fv w v L vs) (hR : Rws w L vs) :
    Calls Tryz.prog 58 #[v] w fun e w' => (∃ v', e = .returned v' ∧ w'.ownsRow w.heap.size 37 2 v' L.length (Z.fldCells L vs)) ∧ Below w.heap.size w w' := by
  obtain ⟨i0, hi, hz0, hz1, hz2⟩ := info_parts Tryz.infoFz
  have q28 : ∀ (w : World) (a : Option Addr) (n c n' c' : Nat), (binOp .eql 28 (.slice a n c) (.slice none n' c')).run Tryz.prog w = .ok (.bool a.isNone) w := fun w a n c n' c' => Lib.run_eql_slice_nil w _ _ a n c n' c' Tryz.underlying28
  obtain ⟨ao, cap, rfl⟩ := F.sh
  cases ao with
  | none =>
    have h0 : L.length = 0 := by
      by_cases h : L.length = 0
      · exact h
      · obtain ⟨g, o, c, e, -⟩ := F.at_ 0 (by omega)
        simp at e
    obtain rfl : L = [] := List.length_eq_zero_iff.1 h0
    have hv := F.len
    obtain rfl : vs = [] := List.length_eq_zero_iff.1 hv
    clear F hR h0 hv
    go_enter Tryz.func58, Tryz.ntmps58
    go_wp2_with fail
    go_ret
    exact ⟨⟨_, rfl, World.ownsRow_nil _ _ _ _⟩, Below.refl _ _⟩
  | some a =>
    have HNW := hideT (fun (wx : World) (h : Fv wx (.slice (some a) L.length cap) L vs) => h.news a cap rfl)
    have HON := hideT (fld_one F.len hR)
    have HLN := hideT (Z.fldCells_length L vs F.len)
    obtain ⟨n, hn⟩ : ∃ n, n = L.length := ⟨_, rfl⟩
    rw [← hn] at hL F HNW HLN ⊢
    obtain ⟨xs, hxs⟩ : ∃ q, q = Z.fldCells L vs := ⟨_, rfl⟩
    rw [← hxs] at HNW HON HLN ⊢
    obtain ⟨W, hW⟩ : ∃ y, y = w.alloc (Obj.cells #[] 37) := ⟨_, rfl⟩
    have bW : Below w.heap.size w W := by rw [hW]; exact below_newT _ _
    have FW := F.below bW
    have HFW := hideT FW
    have rowW : W.ownsRow w.heap.size 37 2 (.slice (some ⟨w.heap.size, 0, none⟩) 0 0) 0 [] := by
      refine ⟨rfl, .inr ⟨w.heap.size, 0, #[], rfl, Nat.le_refl _, ?_, Nat.le_refl _, Nat.zero_le _, rfl, rfl⟩⟩
      rw [hW]
      exact heap_alloc_new w _
    have HW := hideT hW
    clear F FW hR hxs hW hn
    go_enter Tryz.func58, Tryz.ntmps58
    go_wp2_with (at_builtin; (rw [← show W = _ from HW]; refine wpList_append_own_at _ rfl _ _ 28 rfl w.heap.size 37 i0 (.agg #[.int .i64 0, .slice none 0 0]) 2 32 Tryz.underlying28 hi hz0 hz1 hz2 rfl (by decide) _ _ _ rfl rowW a n cap xs rfl HLN.out (HNW.out _ HFW.out) HON.out (by unfold maxLen; omega) (by omega) bW.size ?_; intro v5 w5 own5 gr5 _ _))
    go_ret
    rw [Nat.zero_add, List.nil_append] at own5
    exact ⟨⟨_, rfl, own5⟩, bW.grown gr5 bW.size (fun q hq => by cases hq; exact Nat.le_refl _)⟩
theorem fvPairs {L : List (Int × List UInt8)} {vs : List Value} {w : World} (hl : vs.length = L.length) (hR : Rws w L vs) : ∀ j, j < (pairsOf L vs).length → ∃ ai l ci, ((pairsOf L vs).getD j (0, undef)).2 = .slice ai l ci := by
  intro j hj
  rw [pairsOf_length L vs hl] at hj
  obtain ⟨ai, ci, e, -⟩ := hR j hj
  exact ⟨ai, _, ci, (pairsOf_snd L vs hl j hj).trans e⟩
set_option maxRecDepth 100000 in
set_option maxHeartbeats 4000000 in
theorem without_any (L : List (Int × List UInt8)) (hL : L.length ≤ 1048576) (v : Value) (gN : Nat) (w : World) (F : Fr w v L) (c0 : w.cell? ⟨gN, 0, none⟩ = some (.int .i64 64)) (c1 : w.cell? ⟨gN, 1, none⟩ = some (.int .i64 128)) :
    Calls Tryz.prog 30 #[v, .slice (some ⟨gN, 0, none⟩) 2 2] w fun e w' => (∃ v' vs', e = .returned v' ∧ w'.ownsRow w.heap.size 37 2 v' (keepF L).length (Z.fldCells (keepF L) vs') ∧ vs'.length = (keepF L).length ∧ Rws w (keepF L) vs') ∧ Below w.heap.size w w' := by
  obtain ⟨vs, FV, hR⟩ := F.vals
  obtain ⟨vs', k1, k2, k3, k4⟩ := keep_rel w L vs FV.len hR
  obtain ⟨W, hW⟩ : ∃ y, y = w.alloc (Obj.cells #[.slice (some ⟨gN, 0, none⟩) 2 2] 95) := ⟨_, rfl⟩
  have kW : Blk W w.heap.size 95 [.slice (some ⟨gN, 0, none⟩) 2 2] := by rw [hW]; exact Blk.new _ _ _
  have bW : Below w.heap.size w W := by rw [hW]; exact below_newT _ _
  have HCL := hideT (cloneF_any L hL v vs W (FV.below bW) (hR.below bW))
  have ln := World.block_lt_of_cell? w _ c0
  have d0 : W.cell? ⟨gN, 0, none⟩ = some (.int .i64 64) := (bW.cell (p := ⟨gN, 0, none⟩) ln).trans c0
  have d1 : W.cell? ⟨gN, 1, none⟩ = some (.int .i64 128) := (bW.cell (p := ⟨gN, 1, none⟩) ln).trans c1
  have HPL := hideT (pairsOf_length L vs FV.len)
  have HDE := hideT (fun (v1 : Value) (wx : World) row hlo hgb hgN cb e0 e1 => deleteF_any (pairsOf L vs) (by rw [pairsOf_length L vs FV.len]; exact hL) (fvPairs FV.len hR) v1 W.heap.size w.heap.size gN wx row hlo hgb hgN cb e0 e1)
  rw [HPL.out, cellsP_pairs] at HDE
  rw [k2, k3] at HDE
  have HD0 := hideT (And.intro d0 d1)
  have HW := hideT hW
  have HKK := hideT (And.intro k1 k4)
  have lnW : gN < W.heap.size := Nat.lt_of_lt_of_le ln bW.size
  have lbW := kW.lt
  clear hW c0 c1 d0 d1 k1 k2 k3 k4 F FV hR HPL
  go_enter Tryz.func30, Tryz.ntmps30
  go_upto_region 1 with fail
  rw [← show W = _ from HW]
  clear HW
  go_wp2_with fail
  refine HCL.out.mono ?_
  rintro e w1 ⟨⟨v1, rfl, row1⟩, b1⟩
  have cb := (kW.below b1 kW.lt).cell 0 (by simp)
  have e0 := (b1.cell (p := ⟨gN, 0, none⟩) lnW).trans HD0.out.1
  have e1 := (b1.cell (p := ⟨gN, 1, none⟩) lnW).trans HD0.out.2
  have HCC := hideT (HDE.out v1 w1 row1 b1.size lbW lnW cb e0 e1)
  clear HCL HDE row1 cb e0 e1
  go_wp2_with fail
  refine HCC.out.mono ?_
  rintro e w2 ⟨⟨v2, rfl, row2⟩, b2⟩
  go_wp2_with fail
  go_ret
  exact ⟨⟨_, vs', rfl, ownR_mono row2 bW.size, HKK.out.1, HKK.out.2⟩, bW.trans ((b1.trans b2).mono bW.size)⟩
end Go.Proofs.YtjkofmomoljelaaGreatDoor
