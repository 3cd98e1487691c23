/-
  Helpers of the laws: toByteS.
-/
import Derived.Test.YthjnalbgnjbdnaaRows
import Derived.Test.YthjnalbgnjbdnaaBase
import Derived.WalkLawsBesides
namespace Go.Proofs.Ythjnalbgnjbdnaa
open Go.RowKit

theorem Try.info5 : (Try.prog.info? 5).map (fun i => (i.zero, i.size, i.bytes)) = some (some (.int .u8 0), 1, 1) := by kernel_rfl

theorem made_zero (n : Nat) : (madeCells (Value.int .u8 0).cells (n * 1)).toList = List.replicate n (.int .u8 0) := by
  rw [Nat.mul_one]; exact toList_madeCells_one _ _

/-- Of n cells the first k are done. -/
def part (bs : List UInt8) (k : Nat) : List Value := (bs.take k).map byte ++ List.replicate (bs.length - k) (.int .u8 0)

theorem part_zero (bs : List UInt8) : part bs 0 = List.replicate bs.length (.int .u8 0) := by simp [part]
theorem part_all (bs : List UInt8) : part bs bs.length = bs.map byte := by simp [part]
theorem part_set (bs : List UInt8) (k : Nat) (h : k < bs.length) : (part bs k).set k (byte bs[k]) = part bs (k + 1) := by
  unfold part
  have hl : ((bs.take k).map byte).length = k := by simp; omega
  rw [List.set_append_right _ _ (by omega), hl, Nat.sub_self]
  obtain ⟨m, hm⟩ : ∃ m, bs.length - k = m + 1 := ⟨bs.length - k - 1, by omega⟩
  rw [hm, List.replicate_succ, List.set_cons_zero, take_snoc bs k h, show bs.length - (k + 1) = m from by omega]
  simp only [List.map_append, List.map_cons, List.map_nil, List.append_assoc, List.singleton_append]

set_option maxHeartbeats 400000 in
theorem toByteS_any (ao : Option Addr) (cap : Nat) (bs : List UInt8) (w : World) (hn : bs.length ≤ 1048576) (hr : RowAt w ao bs) :
    Calls Try.prog 16 #[.slice ao bs.length cap] w fun e w' =>
      e = .returned (.slice (some ⟨w.heap.size, 0, none⟩) bs.length bs.length) ∧ Own w' w.heap.size (.slice (some ⟨w.heap.size, 0, none⟩) bs.length bs.length) bs ∧ Below w.heap.size w w' := by
  obtain ⟨i0, hi, hz0, hz1, hz2⟩ := info_parts Try.info5
  go_enter Try.func16, Try.ntmps16
  go_wp2_with (at_make; refine wpList_make_full _ rfl _ _ 22 rfl w.heap.size 5 i0 (.int .u8 0) 1 Try.underlying22 hi hz0 hz1 .i64 .i64 _ _ bs.length rfl rfl rfl rfl (by rw [hz2]; omega) (by unfold maxLen; omega) (Nat.le_refl _) ?_; intro w0 hown0 hgrow0)
  have hstart : w0.ownsRow w.heap.size 5 1 (.slice (some ⟨w.heap.size, 0, none⟩) bs.length bs.length) bs.length (part bs 0) := by
    rw [part_zero, ← made_zero]; exact hown0
  have hb0 := below_of_grown hgrow0
  clear hown0 hgrow0
  go_loopw [4] (fun i wr => ∃ k : Nat, k ≤ bs.length ∧ i = .int .i64 k ∧ wr.ownsRow w.heap.size 5 1 (.slice (some ⟨w.heap.size, 0, none⟩) bs.length bs.length) bs.length (part bs k) ∧ Below w.heap.size w wr) (fun i _ => bs.length - (intOf i).toNat)
  case atStart => exact ⟨0, Nat.zero_le _, rfl, hstart, hb0⟩
  case round =>
    obtain ⟨k, hk, rfl, hown, hbel⟩ := hrel
    clear hstart hb0
    by_cases hlt : k < bs.length
    · obtain ⟨b, off, rfl, hc⟩ := hr.at hlt
      have hcx : wr.cell? ⟨b, off + k, none⟩ = some (.int .u8 (bs[k].toNat : Int)) := (hbel.cell (RowAt.lt hc hlt)).trans ((hc k hlt).trans (by simp [hlt]))
      have hfz : wr.frozen? ⟨w.heap.size, k, none⟩ = false := hown.frozenAt k
      obtain ⟨u, hu⟩ := own_some hown (by omega : k < bs.length * 1)
      have hst := (hown.stored k (byte bs[k])).1
      rw [part_set bs k hlt] at hst
      have hb2 := hbel.setCell (p := ⟨w.heap.size, k, none⟩) (Nat.le_refl _) (byte bs[k])
      clear hown hbel hc
      go_wp2
      go_roundw
      case rel => exact ⟨k + 1, by omega, by go_num, hst, hb2⟩
      case measure => simp [intOf]; omega
    · go_wp2
      go_ret
      have hkl : k = bs.length := by omega
      subst hkl
      rw [part_all] at hown
      exact ⟨rfl, ⟨_, hown⟩, hbel⟩
end Go.Proofs.Ythjnalbgnjbdnaa
