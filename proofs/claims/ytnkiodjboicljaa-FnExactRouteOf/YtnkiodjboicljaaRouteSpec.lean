/-
  spec.RouteOf: ever shorter beginnings of the number are looked for.
-/
import Derived.Test.YtnkiodjboicljaaRouteImpl
namespace Go.Proofs.Ytnkiodjboicljaa
open Go.RowKit

theorem begin_iff (p s : ByteArray) (n : Nat) (hn : n ≤ s.size) : (p.toList == (s.extract 0 n).toList) = true ↔ preB p s = true ∧ p.size = n := by
  rw [beq_iff_eq]
  have hl : ∀ b : ByteArray, b.toList.length = b.size := fun b => by rw [Go.ByteArray.toList_eq]; rfl
  have he : (s.extract 0 n).size = n := by rw [ByteArray.size_extract]; omega
  constructor
  · intro h
    have h1 : p.size = n := by rw [← hl p, h, hl, he]
    refine ⟨?_, h1⟩
    unfold preB
    rw [h1, h]
    simp [hn]
  · rintro ⟨h, rfl⟩
    unfold preB at h
    rw [Bool.and_eq_true, beq_iff_eq] at h
    exact h.2.symm

theorem preB_le {p s : ByteArray} (h : preB p s = true) : p.size ≤ s.size := by
  unfold preB at h
  rw [Bool.and_eq_true, decide_eq_true_eq] at h
  exact h.1

/-- No route among the first k begins the number with just n bytes. -/
def NoneAt (L : List Rt) (pan : ByteArray) (n k : Nat) : Prop := ∀ j r, j < k → L[j]? = some r → (r.1.toList == (pan.extract 0 n).toList) = false
/-- Whatever route fits is no longer than z. -/
def AtMost (L : List Rt) (pan : ByteArray) (z : Int) : Prop := ∀ (j : Nat) (r : Rt), L[j]? = some r → preB r.1 pan = true → (r.1.size : Int) ≤ z

theorem NoneAt.step {L : List Rt} {pan : ByteArray} {n k : Nat} {r : Rt} (h : NoneAt L pan n k) (hr : L[k]? = some r) (hno : (r.1.toList == (pan.extract 0 n).toList) = false) : NoneAt L pan n (k + 1) := by
  intro j q hj hq
  by_cases hjk : j = k
  · subst hjk; rw [hr] at hq; cases hq; exact hno
  · exact h j q (by omega) hq

theorem AtMost.step {L : List Rt} {pan : ByteArray} {n : Nat} (h : AtMost L pan n) (hn : n ≤ pan.size) (g : NoneAt L pan n L.length) : AtMost L pan ((n : Int) - 1) := by
  intro j r hr hp
  have h1 := h j r hr hp
  have hj : j < L.length := (List.getElem?_eq_some_iff.1 hr).1
  have h2 := g j r hj hr
  have h3 : r.1.size ≠ n := fun hc => by
    have := (begin_iff r.1 pan n hn).2 ⟨hp, hc⟩
    rw [h2] at this; cases this
  omega

theorem AtMost.found {L : List Rt} {pan : ByteArray} {n k : Nat} {r : Rt} (h : AtMost L pan n) (hn : n ≤ pan.size) (g : NoneAt L pan n k) (hr : L[k]? = some r) (hy : (r.1.toList == (pan.extract 0 n).toList) = true) : BestOf L pan r.2 := by
  obtain ⟨hp, hz⟩ := (begin_iff r.1 pan n hn).1 hy
  have hk : k < L.length := (List.getElem?_eq_some_iff.1 hr).1
  refine ⟨r.1.size, .inr ⟨k, r, hk, hr, hp, rfl, rfl, fun j q _ hq hpq => ?_, fun j q hj hq hpq => ?_⟩⟩
  · have := h j q hq hpq; omega
  · have h1 := h j q hq hpq
    have h2 := g j q hj hq
    have h3 : q.1.size ≠ n := fun hc => by
      have := (begin_iff q.1 pan n hn).2 ⟨hpq, hc⟩
      rw [h2] at this; cases this
    omega

theorem AtMost.nothing {L : List Rt} {pan : ByteArray} {z : Int} (h : AtMost L pan z) (hz : z < 0) : BestOf L pan (-1) := by
  refine ⟨-1, .inl ⟨rfl, rfl, fun j r _ hr => ?_⟩⟩
  cases hp : preB r.1 pan
  · rfl
  · have := h j r hr hp; omega

/-- The prefixes of the first k routes are no longer than m. -/
def Longest (L : List Rt) (m k : Nat) : Prop := ∀ j r, j < k → L[j]? = some r → r.1.size ≤ m
theorem Longest.step {L : List Rt} {m m' k : Nat} {r : Rt} (h : Longest L m k) (hr : L[k]? = some r) (h1 : m ≤ m') (h2 : r.1.size ≤ m') : Longest L m' (k + 1) := by
  intro j q hj hq
  by_cases hjk : j = k
  · subst hjk; rw [hr] at hq; cases hq; exact h2
  · have := h j q (by omega) hq; omega
theorem Longest.atMost {L : List Rt} {pan : ByteArray} {m : Nat} (h : Longest L m L.length) : AtMost L pan (min m pan.size : Nat) := by
  intro j r hr hp
  have h1 := h j r (List.getElem?_eq_some_iff.1 hr).1 hr
  have h2 := preB_le hp
  omega

set_option maxHeartbeats 1000000 in
theorem routeS_few (ao : Option Addr) (cap n0 : Nat) (L : List Rt) (pan : ByteArray) (w : World) (hn : n0 ≤ 1048576) (_hc0 : n0 ≤ cap) (hpz : pan.size ≤ maxLen) (hs : ∀ r ∈ L, r.1.size ≤ maxLen) (hr : RtsAt w ao L) (hL : L.length = n0) (h20 : n0 ≤ 20) :
    Calls Try.prog 5 #[.slice ao n0 cap, .string pan] w fun e w' =>
      ∃ a, e = .returned (.int .i64 a) ∧ BestOf L pan a ∧ Below w.heap.size w w' := by
  unfold maxLen at hpz
  go_enter Try.func5, Try.ntmps5
  go_wp2_with fail
  go_loopw [5, 18] (fun mo i wr => ∃ (k m : Nat), k ≤ L.length ∧ i = .int .i64 k ∧ mo = .int .i64 m ∧ m ≤ maxLen ∧ Longest L m k ∧ Below w.heap.size w wr) (fun _ i _ => L.length - (intOf i).toNat)
  case atStart => exact ⟨0, 0, Nat.zero_le _, rfl, rfl, Nat.zero_le _, fun j _ h => absurd h (Nat.not_lt_zero j), Below.refl _ _⟩
  case round =>
    obtain ⟨k, m, hk, rfl, rfl, hm, hlo, hbel⟩ := hrel
    by_cases hlt : k < L.length
    · obtain ⟨g, off, rfl, hc⟩ := hr.at hlt
      obtain ⟨r, hrk⟩ : ∃ r, L[k]? = some r := ⟨L[k], List.getElem?_eq_getElem hlt⟩
      have hsz : r.1.size ≤ maxLen := hs r (List.mem_of_getElem? hrk)
      have hsz' := hsz
      have hm' := hm
      unfold maxLen at hsz' hm'
      obtain ⟨hc1, hc2⟩ := hc k r hrk
      have hx1 : wr.cell? ⟨g, off + k * 2, none⟩ = some (.string r.1) := (hbel.cell (World.block_lt_of_cell? w _ hc1)).trans hc1
      have hx2 : wr.cell? ⟨g, off + k * 2 + 1, none⟩ = some (.int .i64 r.2) := (hbel.cell (World.block_lt_of_cell? w _ hc2)).trans hc2
      have hlt' : (k : Int) < (n0 : Int) := by omega
      have Hr : Hid (L[k]? = some r) := hrk
      have HN : Hid (Longest L m k) := hlo
      have hbel1 := hbel.alloc hbel.size (Obj.cells #[.string r.1, .int .i64 r.2] 32)
      clear hc1 hc2 hc hrk hs hr hlo
      by_cases hl : m < r.1.size
      · go_wp2_with fail
        go_roundw
        case rel => exact ⟨k + 1, r.1.size, by omega, by go_num, rfl, hsz, HN.out.step Hr.out (by omega) (Nat.le_refl _), hbel1⟩
        case measure => simp [intOf]; omega
      · go_wp2_with fail
        go_roundw
        case rel => exact ⟨k + 1, m, by omega, by go_num, rfl, hm, HN.out.step Hr.out (Nat.le_refl _) (by omega), hbel1⟩
        case measure => simp [intOf]; omega
    · have hkl : k = L.length := by omega
      have hlt' : ¬ (k : Int) < (n0 : Int) := by omega
      have HM0 : Hid (AtMost L pan (min m pan.size : Nat)) := Longest.atMost (hkl ▸ hlo)
      have hm' := hm
      unfold maxLen at hm'
      clear hlo
      by_cases hmp : pan.size < m
      · have HM : Hid (AtMost L pan pan.size) := by have h := HM0.out; rw [Nat.min_eq_right (by omega)] at h; exact h
        clear HM0
        go_wp2_with fail
        go_loopw [8] (fun z wr => ∃ (v : Int), z = .int .i64 v ∧ -1 ≤ v ∧ v ≤ (pan.size : Int) ∧ AtMost L pan v ∧ Below w.heap.size w wr) (fun z _ => (intOf z + 1).toNat)
        case atStart => exact ⟨_, rfl, by omega, by omega, HM.out, hbel⟩
        case round =>
          obtain ⟨v, rfl, hv1, hv2, hat, hbel2⟩ := hrel
          clear hbel HM
          by_cases hv : 0 ≤ v
          · obtain ⟨n, rfl⟩ : ∃ n : Nat, v = (n : Int) := ⟨v.toNat, by omega⟩
            have hnp : n ≤ pan.size := by omega
            have HA : Hid (AtMost L pan n) := hat
            clear hat hv
            go_wp2_with fail
            go_loopw [44] (fun i wr => ∃ (k : Nat), k ≤ L.length ∧ i = .int .i64 k ∧ NoneAt L pan n k ∧ Below w.heap.size w wr) (fun i _ => L.length - (intOf i).toNat)
            case atStart => exact ⟨0, Nat.zero_le _, rfl, fun j _ h => absurd h (Nat.not_lt_zero j), hbel2⟩
            case round =>
              obtain ⟨k, hk, rfl, hno, hbel⟩ := hrel
              clear hbel2
              by_cases hlt : k < L.length
              · obtain ⟨g, off, rfl, hc⟩ := hr.at hlt
                obtain ⟨r, hrk⟩ : ∃ r, L[k]? = some r := ⟨L[k], List.getElem?_eq_getElem hlt⟩
                obtain ⟨hc1, hc2⟩ := hc k r hrk
                have hx1 : wr.cell? ⟨g, off + k * 2, none⟩ = some (.string r.1) := (hbel.cell (World.block_lt_of_cell? w _ hc1)).trans hc1
                have hx2 : wr.cell? ⟨g, off + k * 2 + 1, none⟩ = some (.int .i64 r.2) := (hbel.cell (World.block_lt_of_cell? w _ hc2)).trans hc2
                have hlt' : (k : Int) < (n0 : Int) := by omega
                have Hr : Hid (L[k]? = some r) := hrk
                have HN : Hid (NoneAt L pan n k) := hno
                have hbel1 := hbel.alloc hbel.size (Obj.cells #[.string r.1, .int .i64 r.2] 32)
                clear hc1 hc2 hc hrk hs hr hno
                cases hq : (r.1.toList == (pan.extract 0 n).toList)
                · go_wp2_with fail
                  go_region
                  all_goals
                    try rw [hq]
                    go_wp2_with fail
                    go_roundw
                    case rel => exact ⟨k + 1, by omega, by go_num, HN.out.step Hr.out hq, hbel1.drew⟩
                    case measure => simp [intOf]; omega
                · go_wp2_with fail
                  go_region
                  all_goals
                    try rw [hq]
                    go_wp2_with fail
                    go_ret
                    exact ⟨r.2, rfl, HA.out.found hnp HN.out Hr.out hq, hbel1.drew⟩
              · have hkl : k = L.length := by omega
                have hlt' : ¬ (k : Int) < (n0 : Int) := by omega
                have HN : Hid (NoneAt L pan n k) := hno
                clear hno
                go_wp2_with fail
                go_roundw
                case rel => exact ⟨(n : Int) - 1, by go_num, by omega, by omega, HA.out.step hnp (hkl ▸ HN.out), hbel⟩
                case measure => simp [intOf]
          · have HA : Hid (AtMost L pan v) := hat
            clear hat
            go_wp2_with fail
            go_ret
            exact ⟨-1, rfl, HA.out.nothing (by omega), hbel2⟩
      · have HM : Hid (AtMost L pan m) := by have h := HM0.out; rw [Nat.min_eq_left (by omega)] at h; exact h
        clear HM0
        go_wp2_with fail
        go_loopw [8] (fun z wr => ∃ (v : Int), z = .int .i64 v ∧ -1 ≤ v ∧ v ≤ (pan.size : Int) ∧ AtMost L pan v ∧ Below w.heap.size w wr) (fun z _ => (intOf z + 1).toNat)
        case atStart => exact ⟨_, rfl, by omega, by omega, HM.out, hbel⟩
        case round =>
          obtain ⟨v, rfl, hv1, hv2, hat, hbel2⟩ := hrel
          clear hbel HM
          by_cases hv : 0 ≤ v
          · obtain ⟨n, rfl⟩ : ∃ n : Nat, v = (n : Int) := ⟨v.toNat, by omega⟩
            have hnp : n ≤ pan.size := by omega
            have HA : Hid (AtMost L pan n) := hat
            clear hat hv
            go_wp2_with fail
            go_loopw [44] (fun i wr => ∃ (k : Nat), k ≤ L.length ∧ i = .int .i64 k ∧ NoneAt L pan n k ∧ Below w.heap.size w wr) (fun i _ => L.length - (intOf i).toNat)
            case atStart => exact ⟨0, Nat.zero_le _, rfl, fun j _ h => absurd h (Nat.not_lt_zero j), hbel2⟩
            case round =>
              obtain ⟨k, hk, rfl, hno, hbel⟩ := hrel
              clear hbel2
              by_cases hlt : k < L.length
              · obtain ⟨g, off, rfl, hc⟩ := hr.at hlt
                obtain ⟨r, hrk⟩ : ∃ r, L[k]? = some r := ⟨L[k], List.getElem?_eq_getElem hlt⟩
                obtain ⟨hc1, hc2⟩ := hc k r hrk
                have hx1 : wr.cell? ⟨g, off + k * 2, none⟩ = some (.string r.1) := (hbel.cell (World.block_lt_of_cell? w _ hc1)).trans hc1
                have hx2 : wr.cell? ⟨g, off + k * 2 + 1, none⟩ = some (.int .i64 r.2) := (hbel.cell (World.block_lt_of_cell? w _ hc2)).trans hc2
                have hlt' : (k : Int) < (n0 : Int) := by omega
                have Hr : Hid (L[k]? = some r) := hrk
                have HN : Hid (NoneAt L pan n k) := hno
                have hbel1 := hbel.alloc hbel.size (Obj.cells #[.string r.1, .int .i64 r.2] 32)
                clear hc1 hc2 hc hrk hs hr hno
                cases hq : (r.1.toList == (pan.extract 0 n).toList)
                · go_wp2_with fail
                  go_region
                  all_goals
                    try rw [hq]
                    go_wp2_with fail
                    go_roundw
                    case rel => exact ⟨k + 1, by omega, by go_num, HN.out.step Hr.out hq, hbel1.drew⟩
                    case measure => simp [intOf]; omega
                · go_wp2_with fail
                  go_region
                  all_goals
                    try rw [hq]
                    go_wp2_with fail
                    go_ret
                    exact ⟨r.2, rfl, HA.out.found hnp HN.out Hr.out hq, hbel1.drew⟩
              · have hkl : k = L.length := by omega
                have hlt' : ¬ (k : Int) < (n0 : Int) := by omega
                have HN : Hid (NoneAt L pan n k) := hno
                clear hno
                go_wp2_with fail
                go_roundw
                case rel => exact ⟨(n : Int) - 1, by go_num, by omega, by omega, HA.out.step hnp (hkl ▸ HN.out), hbel⟩
                case measure => simp [intOf]
          · have HA : Hid (AtMost L pan v) := hat
            clear hat
            go_wp2_with fail
            go_ret
            exact ⟨-1, rfl, HA.out.nothing (by omega), hbel2⟩
set_option maxHeartbeats 1000000 in
theorem routeS_many (ao : Option Addr) (cap n0 : Nat) (L : List Rt) (pan : ByteArray) (w : World) (hn : n0 ≤ 1048576) (hc0 : n0 ≤ cap) (hpz : pan.size ≤ maxLen) (hs : ∀ r ∈ L, r.1.size ≤ maxLen) (hr : RtsAt w ao L) (hL : L.length = 20) (h20 : 20 < n0) :
    Calls Try.prog 5 #[.slice ao n0 cap, .string pan] w fun e w' =>
      ∃ a, e = .returned (.int .i64 a) ∧ BestOf L pan a ∧ Below w.heap.size w w' := by
  unfold maxLen at hpz
  go_enter Try.func5, Try.ntmps5
  go_wp2_with fail
  go_loopw [5, 18] (fun mo i wr => ∃ (k m : Nat), k ≤ L.length ∧ i = .int .i64 k ∧ mo = .int .i64 m ∧ m ≤ maxLen ∧ Longest L m k ∧ Below w.heap.size w wr) (fun _ i _ => L.length - (intOf i).toNat)
  case atStart => exact ⟨0, 0, Nat.zero_le _, rfl, rfl, Nat.zero_le _, fun j _ h => absurd h (Nat.not_lt_zero j), Below.refl _ _⟩
  case round =>
    obtain ⟨k, m, hk, rfl, rfl, hm, hlo, hbel⟩ := hrel
    by_cases hlt : k < L.length
    · obtain ⟨g, off, rfl, hc⟩ := hr.at hlt
      obtain ⟨r, hrk⟩ : ∃ r, L[k]? = some r := ⟨L[k], List.getElem?_eq_getElem hlt⟩
      have hsz : r.1.size ≤ maxLen := hs r (List.mem_of_getElem? hrk)
      have hsz' := hsz
      have hm' := hm
      unfold maxLen at hsz' hm'
      obtain ⟨hc1, hc2⟩ := hc k r hrk
      have hx1 : wr.cell? ⟨g, off + k * 2, none⟩ = some (.string r.1) := (hbel.cell (World.block_lt_of_cell? w _ hc1)).trans hc1
      have hx2 : wr.cell? ⟨g, off + k * 2 + 1, none⟩ = some (.int .i64 r.2) := (hbel.cell (World.block_lt_of_cell? w _ hc2)).trans hc2
      have hlt' : (k : Int) < (20 : Int) := by omega
      have Hr : Hid (L[k]? = some r) := hrk
      have HN : Hid (Longest L m k) := hlo
      have hbel1 := hbel.alloc hbel.size (Obj.cells #[.string r.1, .int .i64 r.2] 32)
      clear hc1 hc2 hc hrk hs hr hlo
      by_cases hl : m < r.1.size
      · go_wp2_with fail
        go_roundw
        case rel => exact ⟨k + 1, r.1.size, by omega, by go_num, rfl, hsz, HN.out.step Hr.out (by omega) (Nat.le_refl _), hbel1⟩
        case measure => simp [intOf]; omega
      · go_wp2_with fail
        go_roundw
        case rel => exact ⟨k + 1, m, by omega, by go_num, rfl, hm, HN.out.step Hr.out (Nat.le_refl _) (by omega), hbel1⟩
        case measure => simp [intOf]; omega
    · have hkl : k = L.length := by omega
      have hlt' : ¬ (k : Int) < (20 : Int) := by omega
      have HM0 : Hid (AtMost L pan (min m pan.size : Nat)) := Longest.atMost (hkl ▸ hlo)
      have hm' := hm
      unfold maxLen at hm'
      clear hlo
      by_cases hmp : pan.size < m
      · have HM : Hid (AtMost L pan pan.size) := by have h := HM0.out; rw [Nat.min_eq_right (by omega)] at h; exact h
        clear HM0
        go_wp2_with fail
        go_loopw [8] (fun z wr => ∃ (v : Int), z = .int .i64 v ∧ -1 ≤ v ∧ v ≤ (pan.size : Int) ∧ AtMost L pan v ∧ Below w.heap.size w wr) (fun z _ => (intOf z + 1).toNat)
        case atStart => exact ⟨_, rfl, by omega, by omega, HM.out, hbel⟩
        case round =>
          obtain ⟨v, rfl, hv1, hv2, hat, hbel2⟩ := hrel
          clear hbel HM
          by_cases hv : 0 ≤ v
          · obtain ⟨n, rfl⟩ : ∃ n : Nat, v = (n : Int) := ⟨v.toNat, by omega⟩
            have hnp : n ≤ pan.size := by omega
            have HA : Hid (AtMost L pan n) := hat
            clear hat hv
            go_wp2_with fail
            go_loopw [44] (fun i wr => ∃ (k : Nat), k ≤ L.length ∧ i = .int .i64 k ∧ NoneAt L pan n k ∧ Below w.heap.size w wr) (fun i _ => L.length - (intOf i).toNat)
            case atStart => exact ⟨0, Nat.zero_le _, rfl, fun j _ h => absurd h (Nat.not_lt_zero j), hbel2⟩
            case round =>
              obtain ⟨k, hk, rfl, hno, hbel⟩ := hrel
              clear hbel2
              by_cases hlt : k < L.length
              · obtain ⟨g, off, rfl, hc⟩ := hr.at hlt
                obtain ⟨r, hrk⟩ : ∃ r, L[k]? = some r := ⟨L[k], List.getElem?_eq_getElem hlt⟩
                obtain ⟨hc1, hc2⟩ := hc k r hrk
                have hx1 : wr.cell? ⟨g, off + k * 2, none⟩ = some (.string r.1) := (hbel.cell (World.block_lt_of_cell? w _ hc1)).trans hc1
                have hx2 : wr.cell? ⟨g, off + k * 2 + 1, none⟩ = some (.int .i64 r.2) := (hbel.cell (World.block_lt_of_cell? w _ hc2)).trans hc2
                have hlt' : (k : Int) < (20 : Int) := by omega
                have Hr : Hid (L[k]? = some r) := hrk
                have HN : Hid (NoneAt L pan n k) := hno
                have hbel1 := hbel.alloc hbel.size (Obj.cells #[.string r.1, .int .i64 r.2] 32)
                clear hc1 hc2 hc hrk hs hr hno
                cases hq : (r.1.toList == (pan.extract 0 n).toList)
                · go_wp2_with fail
                  go_region
                  all_goals
                    try rw [hq]
                    go_wp2_with fail
                    go_roundw
                    case rel => exact ⟨k + 1, by omega, by go_num, HN.out.step Hr.out hq, hbel1.drew⟩
                    case measure => simp [intOf]; omega
                · go_wp2_with fail
                  go_region
                  all_goals
                    try rw [hq]
                    go_wp2_with fail
                    go_ret
                    exact ⟨r.2, rfl, HA.out.found hnp HN.out Hr.out hq, hbel1.drew⟩
              · have hkl : k = L.length := by omega
                have hlt' : ¬ (k : Int) < (20 : Int) := by omega
                have HN : Hid (NoneAt L pan n k) := hno
                clear hno
                go_wp2_with fail
                go_roundw
                case rel => exact ⟨(n : Int) - 1, by go_num, by omega, by omega, HA.out.step hnp (hkl ▸ HN.out), hbel⟩
                case measure => simp [intOf]
          · have HA : Hid (AtMost L pan v) := hat
            clear hat
            go_wp2_with fail
            go_ret
            exact ⟨-1, rfl, HA.out.nothing (by omega), hbel2⟩
      · have HM : Hid (AtMost L pan m) := by have h := HM0.out; rw [Nat.min_eq_left (by omega)] at h; exact h
        clear HM0
        go_wp2_with fail
        go_loopw [8] (fun z wr => ∃ (v : Int), z = .int .i64 v ∧ -1 ≤ v ∧ v ≤ (pan.size : Int) ∧ AtMost L pan v ∧ Below w.heap.size w wr) (fun z _ => (intOf z + 1).toNat)
        case atStart => exact ⟨_, rfl, by omega, by omega, HM.out, hbel⟩
        case round =>
          obtain ⟨v, rfl, hv1, hv2, hat, hbel2⟩ := hrel
          clear hbel HM
          by_cases hv : 0 ≤ v
          · obtain ⟨n, rfl⟩ : ∃ n : Nat, v = (n : Int) := ⟨v.toNat, by omega⟩
            have hnp : n ≤ pan.size := by omega
            have HA : Hid (AtMost L pan n) := hat
            clear hat hv
            go_wp2_with fail
            go_loopw [44] (fun i wr => ∃ (k : Nat), k ≤ L.length ∧ i = .int .i64 k ∧ NoneAt L pan n k ∧ Below w.heap.size w wr) (fun i _ => L.length - (intOf i).toNat)
            case atStart => exact ⟨0, Nat.zero_le _, rfl, fun j _ h => absurd h (Nat.not_lt_zero j), hbel2⟩
            case round =>
              obtain ⟨k, hk, rfl, hno, hbel⟩ := hrel
              clear hbel2
              by_cases hlt : k < L.length
              · obtain ⟨g, off, rfl, hc⟩ := hr.at hlt
                obtain ⟨r, hrk⟩ : ∃ r, L[k]? = some r := ⟨L[k], List.getElem?_eq_getElem hlt⟩
                obtain ⟨hc1, hc2⟩ := hc k r hrk
                have hx1 : wr.cell? ⟨g, off + k * 2, none⟩ = some (.string r.1) := (hbel.cell (World.block_lt_of_cell? w _ hc1)).trans hc1
                have hx2 : wr.cell? ⟨g, off + k * 2 + 1, none⟩ = some (.int .i64 r.2) := (hbel.cell (World.block_lt_of_cell? w _ hc2)).trans hc2
                have hlt' : (k : Int) < (20 : Int) := by omega
                have Hr : Hid (L[k]? = some r) := hrk
                have HN : Hid (NoneAt L pan n k) := hno
                have hbel1 := hbel.alloc hbel.size (Obj.cells #[.string r.1, .int .i64 r.2] 32)
                clear hc1 hc2 hc hrk hs hr hno
                cases hq : (r.1.toList == (pan.extract 0 n).toList)
                · go_wp2_with fail
                  go_region
                  all_goals
                    try rw [hq]
                    go_wp2_with fail
                    go_roundw
                    case rel => exact ⟨k + 1, by omega, by go_num, HN.out.step Hr.out hq, hbel1.drew⟩
                    case measure => simp [intOf]; omega
                · go_wp2_with fail
                  go_region
                  all_goals
                    try rw [hq]
                    go_wp2_with fail
                    go_ret
                    exact ⟨r.2, rfl, HA.out.found hnp HN.out Hr.out hq, hbel1.drew⟩
              · have hkl : k = L.length := by omega
                have hlt' : ¬ (k : Int) < (20 : Int) := by omega
                have HN : Hid (NoneAt L pan n k) := hno
                clear hno
                go_wp2_with fail
                go_roundw
                case rel => exact ⟨(n : Int) - 1, by go_num, by omega, by omega, HA.out.step hnp (hkl ▸ HN.out), hbel⟩
                case measure => simp [intOf]
          · have HA : Hid (AtMost L pan v) := hat
            clear hat
            go_wp2_with fail
            go_ret
            exact ⟨-1, rfl, HA.out.nothing (by omega), hbel2⟩
theorem routeS_any (ao : Option Addr) (cap : Nat) (rs : List Rt) (pan : ByteArray) (w : World) (hn : rs.length ≤ 1048576) (hc0 : rs.length ≤ cap) (hpz : pan.size ≤ maxLen) (hs : ∀ r ∈ rs, r.1.size ≤ maxLen) (hr : RtsAt w ao rs) :
    Calls Try.prog 5 #[.slice ao rs.length cap, .string pan] w fun e w' =>
      ∃ a, e = .returned (.int .i64 a) ∧ BestOf (rs.take 20) pan a ∧ Below w.heap.size w w' := by
  have hs' : ∀ r ∈ rs.take 20, r.1.size ≤ maxLen := fun r h => hs r (List.mem_of_mem_take h)
  by_cases h20 : rs.length ≤ 20
  · exact routeS_few ao cap rs.length (rs.take 20) pan w hn hc0 hpz hs' (hr.take 20) (by simp; omega) h20
  · exact routeS_many ao cap rs.length (rs.take 20) pan w hn hc0 hpz hs' (hr.take 20) (by simp; omega) (by omega)
end Go.Proofs.Ytnkiodjboicljaa
