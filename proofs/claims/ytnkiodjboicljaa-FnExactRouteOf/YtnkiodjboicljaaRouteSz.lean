/-
  The laws' szRouteS, eqRouteS; strings.HasPrefix.
-/
import Derived.Test.YtnkiodjboicljaaRoutes
import Derived.WalkSpells
import Derived.Deep.RegionWith
namespace Go.Proofs.Ytnkiodjboicljaa
open Go.RowKit

set_option maxHeartbeats 400000 in
theorem szRoute_any (r : Rt) (l : Int) (w : World) (hs : r.1.size ≤ maxLen) (h0 : 0 ≤ l) (h1 : l ≤ 1048576) :
    Calls Try.prog 9 #[.agg #[.string r.1, .int .i64 r.2], .int .i64 l] w fun e w' =>
      e = .returned (.int .i64 (if l - r.1.size < 0 then -1 else l - r.1.size)) ∧ Below w.heap.size w w' := by
  unfold maxLen at hs
  have hb := (Below.refl w.heap.size w).alloc (by simp) (Obj.cells #[.string r.1, .int .i64 r.2] 31)
  by_cases hl : l - r.1.size < 0
  · have hl' : l < (r.1.size : Int) := by omega
    go_enter Try.func9, Try.ntmps9
    go_wp2
    go_ret
    exact ⟨rfl, hb⟩
  · have hl' : ¬ l < (r.1.size : Int) := by omega
    go_enter Try.func9, Try.ntmps9
    go_wp2
    go_ret
    exact ⟨by go_num, hb⟩

/-- A text begins with a prefix. -/
def preB (p s : ByteArray) : Bool := decide (p.size ≤ s.size) && (s.extract 0 p.size).toList == p.toList

set_option maxHeartbeats 400000 in
theorem hasPrefix0_any (s p : ByteArray) (w : World) :
    Calls Try.prog 13 #[.string s, .string p] w fun e w' => e = .returned (.bool (preB p s)) ∧ w' = w := by
  by_cases hl : p.size ≤ s.size
  · go_enter Try.func13, Try.ntmps13
    go_wp2
    go_ret
    exact ⟨by simp [preB, hl], rfl⟩
  · go_enter Try.func13, Try.ntmps13
    go_wp2
    go_ret
    exact ⟨by simp [preB, hl], rfl⟩

set_option maxHeartbeats 400000 in
theorem hasPrefix_any (s p : ByteArray) (w : World) :
    Calls Try.prog 11 #[.string s, .string p] w fun e w' => e = .returned (.bool (preB p s)) ∧ w' = w := by
  go_enter Try.func11, Try.ntmps11
  go_wp2_with (go_at_call 13; refine (hasPrefix0_any s p _).mono ?_; rintro e w' ⟨rfl, rfl⟩)
  go_ret
  exact ⟨rfl, rfl⟩

set_option maxHeartbeats 400000 in
theorem eqRoute_any (r : Rt) (w : World) :
    Calls Try.prog 12 #[.agg #[.string r.1, .int .i64 r.2], .agg #[.string r.1, .int .i64 r.2]] w fun e w' => e = .returned (.bool true) ∧ Below w.heap.size w w' := by
  have hb := ((Below.refl w.heap.size w).alloc (by simp) (Obj.cells #[.string r.1, .int .i64 r.2] 32)).alloc (by simp) (Obj.cells #[.string r.1, .int .i64 r.2] 32)
  go_enter Try.func12, Try.ntmps12
  go_wp2
  go_ret
  exact ⟨rfl, hb⟩

/-- szRouteS: below zero, or the routes are few and their prefixes short. -/
theorem szRouteS_any (ao : Option Addr) (cap : Nat) (rs : List Rt) (w : World) (hn : rs.length ≤ maxLen) (hs : ∀ r ∈ rs, r.1.size ≤ maxLen) (hr : RtsAt w ao rs) :
    Calls Try.prog 4 #[.slice ao rs.length cap, .int .i64 1048576] w fun e w' =>
      ∃ v : Int, e = .returned (.int .i64 v) ∧ (0 ≤ v → rs.length ≤ 1048576) ∧ -1 ≤ v ∧ v ≤ 1048576 ∧ Below w.heap.size w w' := by
  have hn' := hn
  unfold maxLen at hn'
  by_cases hl : rs.length ≤ 1048576
  · have hl2 : ¬ ((1048576 : Int) < (rs.length : Int)) := by omega
    have hl3 : ¬ ((1048576 : Int) - (rs.length : Int) < 0) := by omega
    go_enter Try.func4, Try.ntmps4
    go_wp2_with fail
    go_loopw [1, 5] (fun l i wr => ∃ (k : Nat) (v : Int), k ≤ rs.length ∧ i = .int .i64 k ∧ l = .int .i64 v ∧ 0 ≤ v ∧ v ≤ 1048576 ∧ Below w.heap.size w wr) (fun _ i _ => rs.length - (intOf i).toNat)
    case atStart => exact ⟨0, 1048576 - rs.length, Nat.zero_le _, rfl, by go_num, by omega, by omega, Below.refl _ _⟩
    case round =>
      obtain ⟨k, v, hk, rfl, rfl, hv0, hv1, hbel⟩ := hrel
      by_cases hlt : k < rs.length
      · obtain ⟨b, off, rfl, hc⟩ := hr.at hlt
        obtain ⟨r, hrk⟩ : ∃ r, rs[k]? = some r := ⟨rs[k], List.getElem?_eq_getElem hlt⟩
        have hsz : r.1.size ≤ maxLen := hs r (List.mem_of_getElem? hrk)
        obtain ⟨hc1, hc2⟩ := hc k r hrk
        have hx1 : wr.cell? ⟨b, off + k * 2, none⟩ = some (.string r.1) := (hbel.cell (World.block_lt_of_cell? w _ hc1)).trans hc1
        have hx2 : wr.cell? ⟨b, off + k * 2 + 1, none⟩ = some (.int .i64 r.2) := (hbel.cell (World.block_lt_of_cell? w _ hc2)).trans hc2
        clear hc1 hc2 hc hrk hs hr hl2 hl3
        obtain ⟨v', hv', hv1', hv2'⟩ : ∃ v' : Int, (if v - r.1.size < 0 then -1 else v - (r.1.size : Int)) = v' ∧ v' ≤ 1048576 ∧ -1 ≤ v' := ⟨_, rfl, by split <;> omega, by split <;> omega⟩
        by_cases hneg : v' < 0
        · go_wp2_with (go_at_call 9; refine (szRoute_any r v _ hsz hv0 hv1).mono ?_; rintro e w1 ⟨rfl, bel1⟩; rw [hv']; have hbel1 := hbel.trans (bel1.mono hbel.size); clear hbel hx1 hx2 hv')
          go_ret
          exact ⟨-1, rfl, by omega, by omega, by omega, hbel1⟩
        · go_wp2_with (go_at_call 9; refine (szRoute_any r v _ hsz hv0 hv1).mono ?_; rintro e w1 ⟨rfl, bel1⟩; rw [hv']; have hbel1 := hbel.trans (bel1.mono hbel.size); clear hbel hx1 hx2 hv')
          go_roundw
          case rel => exact ⟨k + 1, v', by omega, by go_num, rfl, by omega, by omega, hbel1⟩
          case measure => simp [intOf]; omega
      · go_wp2
        go_ret
        exact ⟨v, rfl, fun _ => hl, by omega, hv1, hbel⟩
  · have hl2 : ((1048576 : Int) < (rs.length : Int)) := by omega
    have hl3 : ((1048576 : Int) - (rs.length : Int) < 0) := by omega
    go_enter Try.func4, Try.ntmps4
    go_wp2
    go_ret
    exact ⟨-1, rfl, by omega, by omega, by omega, Below.refl _ _⟩

set_option maxHeartbeats 1000000 in
theorem eqRouteS_any (ao bo : Option Addr) (c1 c2 : Nat) (rs : List Rt) (w : World) (hn : rs.length ≤ 1048576) (ha : RtsAt w ao rs) (hb : RtsAt w bo rs) :
    Calls Try.prog 8 #[.slice ao rs.length c1, .slice bo rs.length c2] w fun e w' => e = .returned (.bool true) ∧ Below w.heap.size w w' := by
  go_enter Try.func8, Try.ntmps8
  go_wp2_with fail
  go_loopw [5] (fun i wr => ∃ (k : Nat), k ≤ rs.length ∧ i = .int .i64 k ∧ Below w.heap.size w wr) (fun i _ => rs.length - (intOf i).toNat)
  case atStart => exact ⟨0, Nat.zero_le _, rfl, Below.refl _ _⟩
  case round =>
    obtain ⟨k, hk, rfl, hbel⟩ := hrel
    by_cases hlt : k < rs.length
    · obtain ⟨b, off, rfl, hc⟩ := ha.at hlt
      obtain ⟨b', off', rfl, hd⟩ := hb.at hlt
      obtain ⟨r, hrk⟩ : ∃ r, rs[k]? = some r := ⟨rs[k], List.getElem?_eq_getElem hlt⟩
      obtain ⟨hc1, hc2⟩ := hc k r hrk
      obtain ⟨hd1, hd2⟩ := hd k r hrk
      have hx1 : wr.cell? ⟨b, off + k * 2, none⟩ = some (.string r.1) := (hbel.cell (World.block_lt_of_cell? w _ hc1)).trans hc1
      have hx2 : wr.cell? ⟨b, off + k * 2 + 1, none⟩ = some (.int .i64 r.2) := (hbel.cell (World.block_lt_of_cell? w _ hc2)).trans hc2
      have hy1 : wr.cell? ⟨b', off' + k * 2, none⟩ = some (.string r.1) := (hbel.cell (World.block_lt_of_cell? w _ hd1)).trans hd1
      have hy2 : wr.cell? ⟨b', off' + k * 2 + 1, none⟩ = some (.int .i64 r.2) := (hbel.cell (World.block_lt_of_cell? w _ hd2)).trans hd2
      clear hc1 hc2 hc hrk hd1 hd2 hd ha hb
      go_wp2_with fail
      go_region_with (go_at_call 12; refine (eqRoute_any r _).mono ?_; rintro e w1 ⟨rfl, bel1⟩)
      all_goals
        have hbel1 := hbel.drew.trans (bel1.mono hbel.size)
        clear hbel bel1 hx1 hx2 hy1 hy2
        go_wp2
        go_roundw
        case rel => exact ⟨k + 1, by omega, by go_num, hbel1⟩
        case measure => simp [intOf]; omega
    · go_wp2
      go_ret
      exact ⟨rfl, hbel⟩
end Go.Proofs.Ytnkiodjboicljaa
