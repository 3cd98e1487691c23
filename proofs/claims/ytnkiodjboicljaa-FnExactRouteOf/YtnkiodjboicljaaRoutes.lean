/-
  Routes in memory; the laws' toRoute, toRouteS.
-/
import Derived.Test.YtnkiodjboicljaaRows
import Derived.Test.YtnkiodjboicljaaBlk
import Derived.WalkLawsBesides
namespace Go.Proofs.Ytnkiodjboicljaa
open Go.RowKit

/-- A route: its prefix and its link. -/
abbrev Rt := ByteArray × Int

/-- From the address on lie the routes rs, two cells each. -/
def RtsAt (w : World) (ao : Option Addr) (rs : List Rt) : Prop :=
  rs = [] ∨ ∃ b off, ao = some ⟨b, off, none⟩ ∧ ∀ i r, rs[i]? = some r → w.cell? ⟨b, off + i * 2, none⟩ = some (.string r.1) ∧ w.cell? ⟨b, off + i * 2 + 1, none⟩ = some (.int .i64 r.2)

theorem RtsAt.at {w : World} {ao : Option Addr} {rs : List Rt} (h : RtsAt w ao rs) {k : Nat} (hk : k < rs.length) :
    ∃ b off, ao = some ⟨b, off, none⟩ ∧ ∀ i r, rs[i]? = some r → w.cell? ⟨b, off + i * 2, none⟩ = some (.string r.1) ∧ w.cell? ⟨b, off + i * 2 + 1, none⟩ = some (.int .i64 r.2) := by
  rcases h with rfl | h
  · simp at hk
  · exact h

theorem RtsAt.below {w w' : World} {ao : Option Addr} {rs : List Rt} (h : RtsAt w ao rs) (hb : Below w.heap.size w w') : RtsAt w' ao rs := by
  rcases h with rfl | ⟨b, off, rfl, hc⟩
  · exact .inl rfl
  · refine .inr ⟨b, off, rfl, fun i r hr => ?_⟩
    obtain ⟨h1, h2⟩ := hc i r hr
    exact ⟨by rw [hb.cell (p := ⟨b, off + i * 2, none⟩) (World.block_lt_of_cell? w _ h1)]; exact h1, by rw [hb.cell (p := ⟨b, off + i * 2 + 1, none⟩) (World.block_lt_of_cell? w _ h2)]; exact h2⟩

theorem RtsAt.take {w : World} {ao : Option Addr} {rs : List Rt} (h : RtsAt w ao rs) (n : Nat) : RtsAt w ao (rs.take n) := by
  rcases h with rfl | ⟨b, off, rfl, hc⟩
  · exact .inl (by simp)
  · refine .inr ⟨b, off, rfl, fun i r hr => hc i r ?_⟩
    rw [List.getElem?_take] at hr
    split at hr
    · exact hr
    · cases hr

theorem Try.infoR : (Try.prog.info? 32).map (fun i => (i.zero, i.size, i.bytes)) = some (some (.agg #[.string ByteArray.empty, .int .i64 0]), 2, 24) := by kernel_rfl

set_option maxHeartbeats 400000 in
theorem toRoute_any (r : Rt) (w : World) :
    Calls Try.prog 10 #[.agg #[.string r.1, .int .i64 r.2]] w fun e w' => e = .returned (.agg #[.string r.1, .int .i64 r.2]) ∧ Below w.heap.size w w' := by
  go_enter Try.func10, Try.ntmps10
  go_wp2
  exact bodyPost_ret (v := .agg [.string r.1, .int .i64 r.2].toArray) (results_blk Try.results10 _ _ rfl ((Blk.newAt (w.alloc _) 32 _ #[.string r.1, .int .i64 r.2] (by simp)).alloc _) Try.underlying32 rfl (by kernel_rfl)) rfl
    ⟨rfl, (((Below.refl _ w).alloc (by simp) _).alloc (by simp) _).alloc (by simp; omega) _⟩

set_option maxHeartbeats 400000 in
theorem toRouteS_any (ao : Option Addr) (cap : Nat) (rs : List Rt) (w : World) (hn : rs.length ≤ 1048576) (hr : RtsAt w ao rs) :
    Calls Try.prog 6 #[.slice ao rs.length cap] w fun e w' =>
      e = .returned (.slice (some ⟨w.heap.size, 0, none⟩) rs.length rs.length) ∧ RtsAt w' (some ⟨w.heap.size, 0, none⟩) rs ∧ Below w.heap.size w w' := by
  obtain ⟨i0, hi, hz0, hz1, hz2⟩ := info_parts Try.infoR
  go_enter Try.func6, Try.ntmps6
  go_wp2_with (at_make; refine wpList_make_full _ rfl _ _ 25 rfl w.heap.size 32 i0 (.agg #[.string ByteArray.empty, .int .i64 0]) 2 Try.underlying25 hi hz0 hz1 .i64 .i64 _ _ rs.length rfl rfl rfl rfl (by rw [hz2]; omega) (by unfold maxLen; omega) (Nat.le_refl _) ?_; intro w0 hown0 hgrow0)
  have hb0 := below_of_grown hgrow0
  clear hgrow0
  go_loopw [4] (fun i wr => ∃ (k : Nat) (xs : List Value), k ≤ rs.length ∧ i = .int .i64 k ∧ wr.ownsRow w.heap.size 32 2 (.slice (some ⟨w.heap.size, 0, none⟩) rs.length rs.length) rs.length xs ∧ (∀ i r, i < k → rs[i]? = some r → xs[i * 2]? = some (.string r.1) ∧ xs[i * 2 + 1]? = some (.int .i64 r.2)) ∧ Below w.heap.size w wr) (fun i _ => rs.length - (intOf i).toNat)
  case atStart => exact ⟨0, _, Nat.zero_le _, rfl, hown0, fun i r h => absurd h (Nat.not_lt_zero _), hb0⟩
  case round =>
    obtain ⟨k, xs, hk, rfl, hown, hxs, hbel⟩ := hrel
    clear hown0 hb0
    by_cases hlt : k < rs.length
    · obtain ⟨b, off, rfl, hc⟩ := hr.at hlt
      obtain ⟨r, hrk⟩ : ∃ r, rs[k]? = some r := ⟨rs[k], List.getElem?_eq_getElem hlt⟩
      obtain ⟨hc1, hc2⟩ := hc k r hrk
      have hx1 : wr.cell? ⟨b, off + k * 2, none⟩ = some (.string r.1) := (hbel.cell (World.block_lt_of_cell? w _ hc1)).trans hc1
      have hx2 : wr.cell? ⟨b, off + k * 2 + 1, none⟩ = some (.int .i64 r.2) := (hbel.cell (World.block_lt_of_cell? w _ hc2)).trans hc2
      have H : Hid (∀ i r, i < k → rs[i]? = some r → xs[i * 2]? = some (.string r.1) ∧ xs[i * 2 + 1]? = some (.int .i64 r.2)) := hxs
      have Hr : Hid (rs[k]? = some r) := hrk
      clear hc1 hc2 hc hxs hrk
      go_wp2_with (go_at_call 10; refine (toRoute_any r _).mono ?_; rintro e w1 ⟨rfl, bel1⟩; have hown1 := World.ownsRow.kept hown (grown_of_below bel1 none) (Or.inr (by simp [Value.ownBlock])); have hbel1 := hbel.trans (bel1.mono hbel.size); clear hown hbel hx1 hx2; have hf1 : w1.frozen? ⟨w.heap.size, k * 2, none⟩ = false := hown1.frozenAt _; have hf2 : w1.frozen? ⟨w.heap.size, k * 2 + 1, none⟩ = false := hown1.frozenAt _; obtain ⟨u1, hu1⟩ := own_some hown1 (by omega : k * 2 < rs.length * 2); obtain ⟨u2, hu2⟩ := own_some hown1 (by omega : k * 2 + 1 < rs.length * 2))
      go_roundw
      case rel =>
        have hl := hown1.1
        have h1 := (hown1.stored (k * 2) (.string r.1)).1
        have h2 := (h1.stored (k * 2 + 1) (.int .i64 r.2)).1
        refine ⟨k + 1, _, by omega, by go_num, h2, ?_, (hbel1.setCell (p := ⟨w.heap.size, k * 2, none⟩) (Nat.le_refl _) _).setCell (p := ⟨w.heap.size, k * 2 + 1, none⟩) (Nat.le_refl _) _⟩
        intro i r' hi hr'
        by_cases hik : i = k
        · subst hik
          rw [Hr.out] at hr'
          cases hr'
          refine ⟨?_, ?_⟩
          · rw [List.getElem?_set_ne (by omega), List.getElem?_set_self (by omega)]
          · rw [List.getElem?_set_self (by simp; omega)]
        · have hh := H.out i r' (by omega) hr'
          rw [List.getElem?_set_ne (by omega), List.getElem?_set_ne (by omega), List.getElem?_set_ne (by omega), List.getElem?_set_ne (by omega)]
          exact hh
      case measure => simp [intOf]; omega
    · go_wp2
      go_ret
      have hkl : k = rs.length := by omega
      subst hkl
      refine ⟨rfl, ?_, hbel⟩
      by_cases h0 : rs = []
      · exact .inl h0
      · refine .inr ⟨_, _, rfl, fun i r hr => ?_⟩
        have hi : i < rs.length := by rw [List.getElem?_eq_some_iff] at hr; exact hr.1
        obtain ⟨h1, h2⟩ := hxs i r hi hr
        rw [Nat.zero_add]
        exact ⟨(hown.cellAt (i * 2) (by omega)).trans h1, (hown.cellAt (i * 2 + 1) (by omega)).trans h2⟩
end Go.Proofs.Ytnkiodjboicljaa
