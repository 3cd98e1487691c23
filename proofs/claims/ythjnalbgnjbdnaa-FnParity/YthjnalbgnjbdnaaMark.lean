/-
  Helpers of the laws: markByteS, heldByteS, eqByteS.
-/
import Derived.Test.YthjnalbgnjbdnaaCopy
import Derived.Deep.QuietTactic
import Derived.BigQuiet
namespace Go.Proofs.Ythjnalbgnjbdnaa
open Go.RowKit

/-- The marks k, k + 1, ..: n of them. -/
def marks (k n : Nat) : List UInt8 := (List.range n).map fun i => UInt8.ofNat (k + i)

theorem marks_length (k n : Nat) : (marks k n).length = n := by simp [marks]
theorem marks_get (k n i : Nat) (h : i < n) : (marks k n)[i]'(by rw [marks_length]; exact h) = UInt8.ofNat (k + i) := by simp [marks]
theorem marks_getD (k n i : Nat) (h : i < n) : (marks k n).getD i 0 = UInt8.ofNat (k + i) := by simp [marks, h]

def marked (bs : List UInt8) (k j : Nat) : List UInt8 := marks k j ++ bs.drop j

theorem marked_length (bs : List UInt8) (k j : Nat) (h : j ≤ bs.length) : (marked bs k j).length = bs.length := by simp [marked, marks_length]; omega
theorem marked_zero (bs : List UInt8) (k : Nat) : marked bs k 0 = bs := by simp [marked, marks]
theorem marked_all (bs : List UInt8) (k : Nat) : marked bs k bs.length = marks k bs.length := by simp [marked]
theorem marked_set (bs : List UInt8) (k j : Nat) (h : j < bs.length) : (marked bs k j).set j (UInt8.ofNat (k + j)) = marked bs k (j + 1) := by
  unfold marked
  rw [List.set_append_right _ _ (by rw [marks_length]; exact Nat.le_refl _), marks_length, Nat.sub_self, List.drop_eq_getElem_cons h, List.set_cons_zero]
  simp [marks, List.range_succ]

theorem byte_mark (n : Nat) : byte (UInt8.ofNat n) = .int .u8 ((n % 256 : Nat) : Int) := by
  unfold byte
  rw [UInt8.toNat_ofNat']

set_option maxHeartbeats 400000 in
theorem markByteS_any (base : Nat) (ao : Option Addr) (cap : Nat) (bs : List UInt8) (k : Nat) (w : World) (hn : bs.length ≤ 1048576) (hk : k ≤ 1099511627776) (hown : Own w base (.slice ao bs.length cap) bs) :
    Calls Try.prog 19 #[.slice ao bs.length cap, .int .i64 k] w fun e w' =>
      e = .returned (.int .i64 (k + bs.length : Nat)) ∧ Own w' base (.slice ao bs.length cap) (marks k bs.length) ∧ w.grownBy w' (Value.slice ao bs.length cap).ownBlock := by
  go_enter Try.func19, Try.ntmps19
  go_wp2
  go_loopw [1, 5] (fun kk i wr => ∃ j : Nat, j ≤ bs.length ∧ i = .int .i64 j ∧ kk = .int .i64 (k + j : Nat) ∧ Own wr base (.slice ao bs.length cap) (marked bs k j) ∧ w.grownBy wr (Value.slice ao bs.length cap).ownBlock) (fun _ i _ => bs.length - (intOf i).toNat)
  case atStart => exact ⟨0, Nat.zero_le _, rfl, rfl, by rw [marked_zero]; exact hown, World.grownBy.refl _ _⟩
  case round =>
    obtain ⟨j, hj, rfl, rfl, hown1, hgr⟩ := hrel
    clear hown
    by_cases hlt : j < bs.length
    · obtain ⟨ao', cap', hv, hrow, hg, -, -⟩ := hown1.shape
      simp only [Value.slice.injEq] at hv
      obtain ⟨rfl, hl, rfl⟩ := hv
      obtain ⟨b, off, rfl, hc⟩ := hrow.at (k := j) (by rw [marked_length _ _ _ hj]; exact hlt)
      obtain ⟨g, hg1, hg2, hg3⟩ := hg _ rfl
      simp only [Addr.mk.injEq, and_true] at hg1
      obtain ⟨rfl, rfl⟩ := hg1
      obtain ⟨t, hown2⟩ : ∃ t, wr.ownsRow base t 1 (.slice (some ⟨b, 0, none⟩) bs.length cap) bs.length ((marked bs k j).map byte) := by
        have h := hown1; unfold Own at h; rw [marked_length _ _ _ hj] at h; exact h
      have hfz : wr.frozen? ⟨b, j, none⟩ = false := hown2.frozenAt j
      obtain ⟨u, hu⟩ := own_some hown2 (by omega : j < bs.length * 1)
      have hst := hown2.stored j (.int .u8 (((k + j) % 256 : Nat) : Int))
      have hs2 : Own (wr.setCell ⟨b, j, none⟩ (.int .u8 (((k + j) % 256 : Nat) : Int))) base (.slice (some ⟨b, 0, none⟩) bs.length cap) (marked bs k (j + 1)) := by
        have h := hst.1
        rw [← byte_mark, ← List.map_set, marked_set _ _ _ hlt] at h
        unfold Own; rw [marked_length _ _ _ hlt, ← byte_mark]; exact ⟨t, h⟩
      have hg4 := grown_trans hgr hst.2
      clear hst hown1 hown2 hrow hc hg hgr hl
      go_wp2
      go_roundw
      case rel => exact ⟨j + 1, by omega, by go_num, by go_num, hs2, hg4⟩
      case measure => simp [intOf]; omega
    · go_wp2
      go_ret
      have hkl : j = bs.length := by omega
      subst hkl
      rw [marked_all] at hown1
      exact ⟨rfl, hown1, hgr⟩
set_option maxHeartbeats 400000 in
theorem heldByteS_any (ao : Option Addr) (cap n : Nat) (k : Nat) (w : World) (hn : n ≤ 1048576) (hk : k ≤ 1099511627776) (hr : RowAt w ao (marks k n)) :
    Calls Try.prog 20 #[.slice ao n cap, .int .i64 k] w fun e w' =>
      e = .returned (.int .i64 (k + n : Nat)) ∧ w' = w := by
  go_enter Try.func20, Try.ntmps20
  go_wp2
  go_loop [1, 5] (fun kk i => ∃ j : Nat, j ≤ n ∧ i = .int .i64 j ∧ kk = .int .i64 (k + j : Nat)) (fun _ i => n - (intOf i).toNat)
  case atStart => exact ⟨0, Nat.zero_le _, rfl, rfl⟩
  case round =>
    obtain ⟨j, hj, rfl, rfl⟩ := hrel
    by_cases hlt : j < n
    · obtain ⟨b, off, rfl, hc⟩ := hr.at (k := j) (by rw [marks_length]; exact hlt)
      have hcx : w.cell? ⟨b, off + j, none⟩ = some (.int .u8 (((k + j) % 256 : Nat) : Int)) := by
        rw [hc j (by rw [marks_length]; exact hlt), marks_getD _ _ _ hlt, UInt8.toNat_ofNat']
      clear hc hr
      go_wp2
      go_round
      case rel => exact ⟨j + 1, by omega, by go_num, by go_num⟩
      case measure => simp [intOf]; omega
    · go_wp2
      go_ret
      have hkl : j = n := by omega
      subst hkl
      exact ⟨rfl, rfl⟩

set_option maxHeartbeats 400000 in
theorem eqByteS_any (ao ao2 : Option Addr) (cap cap2 : Nat) (bs : List UInt8) (w : World) (hn : bs.length ≤ 1048576) (hr : RowAt w ao bs) (hr2 : RowAt w ao2 bs) :
    Calls Try.prog 18 #[.slice ao bs.length cap, .slice ao2 bs.length cap2] w fun e w' =>
      e = .returned (.bool true) ∧ ∃ m, w' = w.drewN m := by
  go_enter Try.func18, Try.ntmps18
  go_wp2
  go_loopw [5] (fun i wr => ∃ j m : Nat, j ≤ bs.length ∧ i = .int .i64 j ∧ wr = w.drewN m) (fun i _ => bs.length - (intOf i).toNat)
  case atStart => exact ⟨0, 0, Nat.zero_le _, rfl, rfl⟩
  case round =>
    obtain ⟨j, m, hj, rfl, rfl⟩ := hrel
    by_cases hlt : j < bs.length
    · obtain ⟨b, off, rfl, hc⟩ := hr.at hlt
      obtain ⟨b2, off2, rfl, hc2⟩ := hr2.at hlt
      have hcx : w.cell? ⟨b, off + j, none⟩ = some (.int .u8 (bs[j].toNat : Int)) := (hc j hlt).trans (by simp [hlt])
      have hcx2 : w.cell? ⟨b2, off2 + j, none⟩ = some (.int .u8 (bs[j].toNat : Int)) := (hc2 j hlt).trans (by simp [hlt])
      clear hc hr hc2 hr2
      go_wp2
      go_quiet (fail)
      go_wp2
      go_roundw
      case rel => exact ⟨j + 1, _, by omega, by go_num, rfl⟩
      case measure => simp [intOf]; omega
    · go_wp2
      go_ret
      exact ⟨rfl, m, rfl⟩
end Go.Proofs.Ythjnalbgnjbdnaa
