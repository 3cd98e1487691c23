/-
  impl.DukptInitial and spec.DukptInitial at every argument.
-/
import Derived.Test.YthjnalbgnjbdnaaDukImpl
namespace Go.Proofs.Ythjnalbgnjbdnaa
open Go.RowKit

set_option maxRecDepth 100000 in
set_option maxHeartbeats 1000000 in
theorem dinit_wrong (n m : Nat) (ak ab : Option Addr) (ck cb : Nat) (w : World) (_hn : n ≤ 1048576) (_hm : m ≤ 1048576) (h : ¬ (n = 16 ∧ m = 10)) :
    Calls Try.prog 32 #[.slice ak n ck, .slice ab m cb] w fun e w' => e = .returned (.slice none 0 0) ∧ w' = w := by
  by_cases h1 : n = 16
  · have h2 : ((m : Int) != 10) = true := by rw [bne_iff_ne]; omega
    subst h1
    go_enter Try.func32, Try.ntmps32
    go_wp2
    go_ret
    exact ⟨rfl, rfl⟩
  · have h2 : ((n : Int) != 16) = true := by rw [bne_iff_ne]; omega
    go_enter Try.func32, Try.ntmps32
    go_wp2
    go_ret
    exact ⟨rfl, rfl⟩
set_option maxRecDepth 100000 in
set_option maxHeartbeats 1000000 in
theorem dinitS_wrong (n m : Nat) (ak ab : Option Addr) (ck cb : Nat) (w : World) (_hn : n ≤ 1048576) (_hm : m ≤ 1048576) (h : ¬ (n = 16 ∧ m = 10)) :
    Calls Try.prog 31 #[.slice ak n ck, .slice ab m cb] w fun e w' => e = .returned (.slice none 0 0) ∧ w' = w := by
  by_cases h1 : n = 16
  · have h2 : ((m : Int) != 10) = true := by rw [bne_iff_ne]; omega
    subst h1
    go_enter Try.func31, Try.ntmps31
    go_wp2
    go_ret
    exact ⟨rfl, rfl⟩
  · have h2 : ((n : Int) != 16) = true := by rw [bne_iff_ne]; omega
    go_enter Try.func31, Try.ntmps31
    go_wp2
    go_ret
    exact ⟨rfl, rfl⟩

def dinitAll (bdk ksn : List UInt8) : List UInt8 := if bdk.length = 16 ∧ ksn.length = 10 then dinitL bdk ksn else []
theorem dinitAll_le (bdk ksn : List UInt8) (_ : bdk.length ≤ 1048576) (_ : ksn.length ≤ 1048576) : (dinitAll bdk ksn).length ≤ 1048576 := by
  unfold dinitAll
  split
  · rw [dinitL_length]; omega
  · simp
theorem dinit_all (bdk ksn : List UInt8) (ak ab : Option Addr) (ck cb : Nat) (w : World) (hn : bdk.length ≤ 1048576) (hm : ksn.length ≤ 1048576) (_hc : bdk.length ≤ ck) (hd : ksn.length ≤ cb) (rk : RowAt w ak bdk) (rb : RowAt w ab ksn) :
    Calls Try.prog 32 #[.slice ak bdk.length ck, .slice ab ksn.length cb] w fun e w' =>
      ∃ v, e = .returned v ∧ Own w' w.heap.size v (dinitAll bdk ksn) ∧ Below w.heap.size w w' := by
  unfold dinitAll
  by_cases h : bdk.length = 16 ∧ ksn.length = 10
  · rw [if_pos h]
    obtain ⟨kb, ko, rfl, hk⟩ := rk.range (by omega)
    obtain ⟨sb, so, rfl, hs⟩ := rb.range (by omega)
    have := dinit_ok bdk ksn kb ko sb so ck cb w h.1 h.2 (by omega) hk hs
    rw [h.1, h.2]
    exact this
  · rw [if_neg h]
    refine (dinit_wrong _ _ ak ab ck cb w hn hm h).mono ?_
    rintro e w' ⟨rfl, rfl⟩
    exact ⟨_, rfl, ⟨5, World.ownsRow_nil _ _ _ _⟩, Below.refl _ _⟩
theorem dinitS_all (bdk ksn : List UInt8) (ak ab : Option Addr) (ck cb : Nat) (w : World) (hn : bdk.length ≤ 1048576) (hm : ksn.length ≤ 1048576) (hc : bdk.length ≤ ck) (_hd : ksn.length ≤ cb) (rk : RowAt w ak bdk) (rb : RowAt w ab ksn) :
    Calls Try.prog 31 #[.slice ak bdk.length ck, .slice ab ksn.length cb] w fun e w' =>
      ∃ v, e = .returned v ∧ Own w' w.heap.size v (dinitAll bdk ksn) ∧ Below w.heap.size w w' := by
  unfold dinitAll
  by_cases h : bdk.length = 16 ∧ ksn.length = 10
  · rw [if_pos h]
    obtain ⟨kb, ko, rfl, -⟩ := rk.at (k := 0) (by omega)
    have := dinitS_ok bdk ksn kb ko ck cb ab w h.1 h.2 (by omega) rk rb
    rw [h.1, h.2]
    exact this
  · rw [if_neg h]
    refine (dinitS_wrong _ _ ak ab ck cb w hn hm h).mono ?_
    rintro e w' ⟨rfl, rfl⟩
    exact ⟨_, rfl, ⟨5, World.ownsRow_nil _ _ _ _⟩, Below.refl _ _⟩
end Go.Proofs.Ythjnalbgnjbdnaa
