/-
  slices.Grow of nil, slices.Concat, impl.twoOf, impl.serialMask.
-/
import Derived.Test.YthjnalbgnjbdnaaXorImpl16
import Derived.Laws.AppendOwn
namespace Go.Proofs.Ythjnalbgnjbdnaa
open Go.RowKit

theorem run_append_zeros {P : Program} (w : World) (t u ty e : TypeId) (i : TypeInfo) (z : Value) (ht : P.underlying t = some (.slice e)) (hu : P.underlying u = some (.int .i64)) (hi : P.info? e = some i) (hz : i.zero = some z) (hs : i.size = 1) (hb : i.bytes = 1)
    (n : Nat) (h0 : 0 < n) (h63 : n ≤ 1048576) :
    (Builtin.append_ #[t, u] ty #[.slice none 0 0, .int .i64 (n : Int)]).run P w =
      .ok (.slice (some ⟨w.heap.size, 0, none⟩) n (grownCap w n 0 e)) (w.drew.alloc (.cells (Builtin.zeroCells z.cells n ++ Builtin.zeroCells z.cells (grownCap w n 0 e - n)) e)) := by
  have hn : n ≠ 0 := by omega
  have h1 : IntKind.i64.wrap (n : Int) = (n : Int) := by rw [IntKind.wrap_i64]; omega
  have h2 : ¬ ((n : Int) < 0) := by omega
  have h3 : ¬ (281474976710656 < (n : Int)) := by omega
  have h63' : ¬ (9223372036854775807 < (n : Int)) := by omega
  have h48' : ¬ (281474976710656 < Builtin.nextslicecap n 0) := by rw [nextslicecap_zero h0]; omega
  simp [Builtin.append_, run_underlying ht, run_underlying hu, sizeOf, typeInfo, zeroValue, asInt, asIntOf, hi, hz, hs, hb, h1, h2, h3, hn, h63', h48', Question.forced, run_firstCells_none, newRow, grownCap]

theorem OwnB.drew1 {w : World} {base : Nat} {v : Value} {l : List UInt8} (h : OwnB w base v l) : OwnB w.drew base v l := h
theorem wpList_append_zeros {P : Program} {w : World} {ops : Array Oper} {rest : List Oper} {o : Oper} {a : Act} {Q : Exit → Act → World → Prop} (hgd : o.guard = none) (s x : Operand) (t u : TypeId)
    (ho : o.op = .call { callee := .builtin .append, args := #[s, x], argTypes := #[t, u] }) (e : TypeId) (i : TypeInfo) (z : Value) (ht : P.underlying t = some (.slice e)) (hu : P.underlying u = some (.int .i64)) (hi : P.info? e = some i) (hz : i.zero = some z) (hs : i.size = 1) (hb : i.bytes = 1)
    (n : Nat) (h0 : 0 < n) (h63 : n ≤ 1048576) (hsv : a.eval s = .slice none 0 0) (hxv : a.eval x = .int .i64 (n : Int))
    (h : wpList P ops Q rest (a.put o.dst (.slice (some ⟨w.heap.size, 0, none⟩) n (grownCap w n 0 e))) (w.drew.alloc (.cells (Builtin.zeroCells z.cells n ++ Builtin.zeroCells z.cells (grownCap w n 0 e - n)) e))) : wpList P ops Q (o :: rest) a w :=
  wpList_plain hgd fun _ hK => by
    have hr := run_append_zeros (P := P) w t u o.type e i z ht hu hi hz hs hb n h0 h63
    unfold Oper.wp execOp
    simp only [ho, resolve, invoke, builtin, Sem.run_bind, Sem.run_pure, Result.andThen_ok, List.map_toArray, List.map_cons, List.map_nil, hsv, hxv, hr]
    exact hK _ _ h

set_option maxRecDepth 100000 in
set_option maxHeartbeats 1000000 in
theorem grow_any (n : Nat) (w : World) (hn : n ≤ 1048576) :
    Calls Try.prog 101 #[.slice none 0 0, .int .i64 (n : Int)] w fun e w' => ∃ v, e = .returned v ∧ OwnB w' w.heap.size v [] ∧ Below w.heap.size w w' := by
  obtain ⟨i0, hi, hz0, hz1, hz2⟩ := info_parts Try.info5
  by_cases h0 : 0 < n
  · have h1 : ¬ ((n : Int) < 0) := by omega
    have h2 : (0 : Int) < (n : Int) := by omega
    have hge := grownCap_ge w n 0 5
    have hle := grownCap_le_maxLen w n 0 5 (by unfold maxLen; omega)
    obtain ⟨c, hc⟩ : ∃ c, c = grownCap w n 0 5 := ⟨_, rfl⟩
    rw [← hc] at hge hle
    have hcI : (0 : Int) ≤ (c : Int) := by omega
    go_enter Try.func101, Try.ntmps101
    go_wp2_with (at_builtin; refine wpList_append_zeros rfl _ _ 22 3 rfl 5 i0 (.int .u8 0) Try.underlying22 Try.underlying3 hi hz0 hz1 hz2 n h0 hn rfl rfl ?_; rw [← hc])
    go_ret
    rw [← hc]
    refine ⟨_, rfl, OwnB.drew1 (w := w.alloc _) (World.ownsRow_made w _ c (Nat.le_refl _) hle ?_), ((Below.refl _ _).alloc (Nat.le_refl _) _).drew⟩
    rw [Array.size_append, size_zeroCells, size_zeroCells]
    show n * 1 + (c - n) * 1 = c * 1
    omega
  · obtain rfl : n = 0 := by omega
    go_enter Try.func101, Try.ntmps101
    go_wp2
    go_ret
    exact ⟨_, rfl, World.ownsRow_nil _ _ _ _, Below.refl _ _⟩

/-- A slice that is a row of bytes. -/
def Src (w : World) (v : Value) (bs : List UInt8) : Prop := ∃ b o c, v = .slice (some ⟨b, o, none⟩) bs.length c ∧ RowAt w (some ⟨b, o, none⟩) bs
theorem Src.below {w w' : World} {v : Value} {bs : List UInt8} (h : Src w v bs) (hb : Below w.heap.size w w') : Src w' v bs := by
  obtain ⟨b, o, c, rfl, hr⟩ := h
  exact ⟨b, o, c, rfl, hr.below hb⟩

theorem flat_snoc (bss : List (List UInt8)) (k : Nat) (h : k < bss.length) : (bss.take (k + 1)).flatten = (bss.take k).flatten ++ bss.getD k [] := by
  rw [take_snoc bss k h, List.flatten_append]; simp [h]
theorem flat_le (bss : List (List UInt8)) (k : Nat) : (bss.take k).flatten.length ≤ bss.flatten.length := by
  have h : bss.flatten = (bss.take k).flatten ++ (bss.drop k).flatten := by rw [← List.flatten_append, List.take_append_drop]
  rw [h, List.length_append]; omega

set_option maxRecDepth 100000 in
set_option maxHeartbeats 1000000 in
theorem concat_any (vs : List Value) (bss : List (List UInt8)) (g off cap m : Nat) (w : World) (hm : vs.length = m) (hm2 : bss.length = m) (hm3 : m ≤ 1048576) (ht : bss.flatten.length ≤ 1048576) (hv : w.rangeAt g off vs) (hs : ∀ k, k < m → Src w (vs.getD k undef) (bss.getD k [])) :
    Calls Try.prog 70 #[.slice (some ⟨g, off, none⟩) m cap] w fun e w' => ∃ v, e = .returned v ∧ OwnB w' w.heap.size v bss.flatten ∧ Below w.heap.size w w' := by
  obtain ⟨i0, hi, hz0, hz1, hz2⟩ := info_parts Try.info5
  have hcell : ∀ k, k < m → w.cell? ⟨g, off + k, none⟩ = some (vs.getD k undef) := fun k hk => hv k _ (by simp [show k < vs.length from by omega])
  go_enter Try.func70, Try.ntmps70
  go_wp2
  go_loop [3, 5, 11] (fun s _ i => ∃ k : Nat, k ≤ m ∧ i = .int .i64 k ∧ s = .int .i64 ((bss.take k).flatten.length : Nat)) (fun _ _ i => m - (intOf i).toNat)
  case atStart => exact ⟨0, Nat.zero_le _, rfl, by simp⟩
  case round =>
    obtain ⟨k, hk, rfl, rfl⟩ := hrel
    by_cases hlt : k < m
    · obtain ⟨b, o, c, hvk, hrow⟩ := hs k hlt
      have hck := hcell k hlt
      rw [hvk] at hck
      have HF : Hid ((bss.take (k + 1)).flatten.length = (bss.take k).flatten.length + (bss.getD k []).length) := by show _ = _; rw [flat_snoc bss k (by omega), List.length_append]
      have hF1 := flat_le bss (k + 1)
      rw [HF.out] at hF1
      obtain ⟨s, hs1⟩ : ∃ s, s = (bss.take k).flatten.length := ⟨_, rfl⟩
      obtain ⟨l, hl1⟩ : ∃ l, l = (bss.getD k []).length := ⟨_, rfl⟩
      rw [← hs1, ← hl1] at hF1
      rw [← hs1]
      rw [← hl1] at hck
      have hkI : (k : Int) < (m : Int) := by omega
      have hsl : ¬ ((s : Int) + (l : Int) < 0) := by omega
      have HF2 : Hid ((bss.take (k + 1)).flatten.length = s + l) := by show _ = _; rw [HF.out, hs1, hl1]
      clear hs hcell hv HF hs1 hl1 hvk hrow
      go_wp2
      go_round
      case rel => exact ⟨k + 1, by omega, by go_num, by rw [HF2.out]; go_num⟩
      case measure => simp [intOf]; omega
    · rw [show (bss.take k).flatten = bss.flatten from by rw [List.take_of_length_le (by omega)]]
      obtain ⟨N, hN⟩ : ∃ N, N = bss.flatten.length := ⟨_, rfl⟩
      rw [← hN] at ht ⊢
      have HC : Hid (∀ k, k < m → w.cell? ⟨g, off + k, none⟩ = some (vs.getD k undef)) := hcell
      have HV : Hid (∀ k, k < m → Src w (vs.getD k undef) (bss.getD k [])) := hs
      have HN : Hid (N = bss.flatten.length) := hN
      have hge : ¬ ((k : Int) < (m : Int)) := by omega
      clear hcell hs hv hN
      go_wp2_with fail
      refine (grow_any N _ ht).mono ?_
      rintro e w1 ⟨v1, rfl, own1, bel1⟩
      go_wp2_with fail
      go_loopw [6, 8, 27] (fun v _ i wr => ∃ k : Nat, k ≤ m ∧ i = .int .i64 k ∧ OwnB wr w.heap.size v (bss.take k).flatten ∧ Below w.heap.size w wr) (fun _ _ i _ => m - (intOf i).toNat)
      case atStart => exact ⟨0, Nat.zero_le _, rfl, by simpa using own1, bel1⟩
      case round =>
        clear own1 bel1
        obtain ⟨q, hq, rfl, hown, hbel⟩ := hrel
        by_cases hql : q < m
        · obtain ⟨b, o, c, hvk, hrow0⟩ := HV.out q hql
          have hck : wr.cell? ⟨g, off + q, none⟩ = some (vs.getD q undef) := (hbel.cell (p := ⟨g, off + q, none⟩) (World.block_lt_of_cell? w _ (HC.out q hql))).trans (HC.out q hql)
          rw [hvk] at hck
          have HF : Hid ((bss.take (q + 1)).flatten = (bss.take q).flatten ++ bss.getD q []) := flat_snoc bss q (by omega)
          have hF1 := flat_le bss (q + 1)
          rw [HF.out, List.length_append, ← HN.out] at hF1
          have hrow := hrow0.below hbel
          obtain ⟨L, hL⟩ : ∃ L, L = (bss.take q).flatten := ⟨_, rfl⟩
          obtain ⟨X, hX⟩ : ∃ X, X = bss.getD q [] := ⟨_, rfl⟩
          have HF2 : Hid ((bss.take (q + 1)).flatten = L ++ X) := by show _ = _; rw [HF.out, hL, hX]
          rw [← hL] at hown hF1
          rw [← hX] at hck hrow hF1
          have hnews : ∀ j u, (X.map byte)[j]? = some u → wr.cell? ((⟨b, o, none⟩ : Addr).add j) = some u := by
            intro j u hu
            obtain ⟨hj, he⟩ := List.getElem?_eq_some_iff.1 hu
            rw [List.length_map] at hj
            obtain ⟨b', o', he2, hc2⟩ := hrow.at hj
            cases he2
            rw [Addr.add_mid, hc2 j hj, ← he]
            simp [byte, hj]
          have hone : ∀ u ∈ X.map byte, u.oneCell' = true := by
            intro u hu
            obtain ⟨x, -, rfl⟩ := List.mem_map.1 hu
            rfl
          have hqI : (q : Int) < (m : Int) := by omega
          have hsz := hbel.size
          clear hvk hrow0 hrow hL hX HF
          go_wp2_with (at_builtin; refine wpList_append_own _ rfl _ _ 22 rfl w.heap.size 5 i0 (.int .u8 0) 1 1 Try.underlying22 hi hz0 hz1 hz2 rfl (by decide) _ _ _ rfl hown ⟨b, o, none⟩ X.length c (X.map byte) rfl (by rw [List.length_map, Nat.mul_one]) hnews hone (by unfold maxLen; omega) (by omega) hsz ?_; intro v1 w1 hown1 hgrow1 hnil1)
          have hown2 : OwnB w1 w.heap.size v1 (bss.take (q + 1)).flatten := by
            rw [HF2.out]; unfold OwnB; rw [List.map_append, List.length_append]; exact hown1
          have hbel2 := hbel.grown hgrow1 hsz (fun j hj => (hown.lt j hj).1)
          clear hown1 hown hbel hgrow1 hnil1 hnews hone hck
          go_wp2
          go_roundw
          case rel => exact ⟨q + 1, by omega, by go_num, hown2, hbel2⟩
          case measure => simp [intOf]; omega
        · rw [show (bss.take q).flatten = bss.flatten from by rw [List.take_of_length_le (by omega)]] at hown
          go_wp2
          go_ret
          exact ⟨_, rfl, hown, hbel⟩
end Go.Proofs.Ythjnalbgnjbdnaa
