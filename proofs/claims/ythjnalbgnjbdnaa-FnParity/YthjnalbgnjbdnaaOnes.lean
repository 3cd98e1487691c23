/-
  math/bits.OnesCount8, by its table.
-/
import Derived.Test.YthjnalbgnjbdnaaMark
namespace Go.Proofs.Ythjnalbgnjbdnaa
open Go.RowKit

/-- How many ones a byte has. -/
def pop8 (n : Nat) : Nat := n % 2 + n / 2 % 2 + n / 4 % 2 + n / 8 % 2 + n / 16 % 2 + n / 32 % 2 + n / 64 % 2 + n / 128 % 2

set_option maxRecDepth 100000 in
set_option maxHeartbeats 400000 in
theorem ones_any (n : Nat) (w : World) (h : n < 256) :
    Calls Try.prog 43 #[.int .u8 n] w fun e w' => e = .returned (.int .i64 (pop8 n : Nat)) ∧ w' = w := by
  go_enter Try.func43, Try.ntmps43
  go_wp2
  go_ret
  refine ⟨ret_int ?_, rfl⟩
  revert n
  decide +kernel
end Go.Proofs.Ythjnalbgnjbdnaa
