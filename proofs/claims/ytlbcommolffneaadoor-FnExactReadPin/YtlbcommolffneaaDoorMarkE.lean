/-
  Helpers of the laws: eqByteS.
-/
import Derived.Test.YtlbcommolffneaaDoorCopy
import Derived.Deep.QuietTactic
import Derived.BigQuiet
namespace Go.Proofs.YtlbcommolffneaaDoor
open Go.RowKit

set_option maxHeartbeats 400000 in
theorem eqByteS_any (ao ao2 : Option Addr) (cap cap2 : Nat) (bs : List UInt8) (w : World) (hn : bs.length ≤ 1048576) (hr : RowAt w ao bs) (hr2 : RowAt w ao2 bs) :
    Calls Tryd.prog 9 #[.slice ao bs.length cap, .slice ao2 bs.length cap2] w fun e w' =>
      e = .returned (.bool true) ∧ ∃ m, w' = w.drewN m := by
  go_enter Tryd.func9, Tryd.ntmps9
  go_wp2
  go_loopw [5] (fun i wr => ∃ j m : Nat, j ≤ bs.length ∧ i = .int .i64 j ∧ wr = w.drewN m) (fun i _ => bs.length - (intOf i).toNat)
  case atStart => exact ⟨0, 0, Nat.zero_le _, rfl, rfl⟩
  case round =>
    obtain ⟨j, m, hj, rfl, rfl⟩ := hrel
    by_cases hlt : j < bs.length
    · obtain ⟨b, off, rfl, hc⟩ := hr.at hlt
      obtain ⟨b2, off2, rfl, hc2⟩ := hr2.at hlt
      have hcx : w.cell? ⟨b, off + j, none⟩ = some (.int .u8 (bs[j].toNat : Int)) := (hc j hlt).trans (by simp [hlt])
      have hcx2 : w.cell? ⟨b2, off2 + j, none⟩ = some (.int .u8 (bs[j].toNat : Int)) := (hc2 j hlt).trans (by simp [hlt])
      clear hc hr hc2 hr2
      go_wp2
      go_quiet (fail)
      go_wp2
      go_roundw
      case rel => exact ⟨j + 1, _, by omega, by go_num, rfl⟩
      case measure => simp [intOf]; omega
    · go_wp2
      go_ret
      exact ⟨rfl, m, rfl⟩
end Go.Proofs.YtlbcommolffneaaDoor
