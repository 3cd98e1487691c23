/-
  impl.fieldTable.
-/
import Derived.Test.YtacgbajcdngokaaGreatDoorIsoTake
namespace Go.Proofs.YtacgbajcdngokaaGreatDoor
open Go.RowKit

theorem below_newT (w : World) (o : Obj) : Below w.heap.size w (w.alloc o) := (Below.refl _ w).alloc (Nat.le_refl _) o
/-- The cells of the table of fields: each its number and its kind. -/
def tabCells : List Value := [.int .i64 2, .iface 82 (.agg #[.int .i64 2, .int .i64 13, .int .i64 19]), .int .i64 3, .iface 85 (.agg #[.int .i64 6]), .int .i64 4, .iface 85 (.agg #[.int .i64 12]), .int .i64 7, .iface 85 (.agg #[.int .i64 10]), .int .i64 11, .iface 85 (.agg #[.int .i64 6]), .int .i64 37, .iface 88 (.agg #[.int .i64 12]), .int .i64 39, .iface 88 (.agg #[.int .i64 2]), .int .i64 41, .iface 88 (.agg #[.int .i64 8]), .int .i64 48, .iface 91 (.agg #[.int .i64 3, .int .i64 0, .int .i64 200]), .int .i64 52, .iface 93 (.agg #[.int .i64 8]), .int .i64 53, .iface 93 (.agg #[.int .i64 10]), .int .i64 64, .iface 93 (.agg #[.int .i64 8]), .int .i64 70, .iface 85 (.agg #[.int .i64 3]), .int .i64 128, .iface 93 (.agg #[.int .i64 8])]
set_option maxRecDepth 100000 in
set_option maxHeartbeats 4000000 in
theorem fieldTable_any (w : World) : Calls Tryz.prog 13 #[] w fun e w' => e = .returned (.slice (some ⟨w.heap.size, 0, none⟩) 14 14) ∧ Blk w' w.heap.size 50 tabCells ∧ Below w.heap.size w w' := by
  go_enter Tryz.func13, Tryz.ntmps13
  go_wp2
  go_ret
  exact ⟨rfl, Blk.new w _ _, below_newT _ _⟩
end Go.Proofs.YtacgbajcdngokaaGreatDoor
