/-
  impl.RetailMac and spec.RetailMac at every argument.
-/
import Derived.Test.YthjnalbgnjbdnaaRetailSpec2
namespace Go.Proofs.Ythjnalbgnjbdnaa
open Go.RowKit

set_option maxRecDepth 100000 in
set_option maxHeartbeats 1000000 in
theorem retail_wrong (n m : Nat) (ak ab : Option Addr) (ck cb : Nat) (w : World) (_hn : n ≤ 1048576) (_hm : m ≤ 1048576) (h : ¬ (n = 16 ∧ m ≤ 4096)) :
    Calls Try.prog 28 #[.slice ak n ck, .slice ab m cb] w fun e w' => e = .returned (.slice none 0 0) ∧ w' = w := by
  by_cases h1 : n = 16
  · have h2 : (4096 : Int) < (m : Int) := by omega
    subst h1
    go_enter Try.func28, Try.ntmps28
    go_wp2
    go_ret
    exact ⟨rfl, rfl⟩
  · have h2 : ((n : Int) != 16) = true := by rw [bne_iff_ne]; omega
    go_enter Try.func28, Try.ntmps28
    go_wp2
    go_ret
    exact ⟨rfl, rfl⟩
set_option maxRecDepth 100000 in
set_option maxHeartbeats 1000000 in
theorem retailS_wrong (n m : Nat) (ak ab : Option Addr) (ck cb : Nat) (w : World) (_hn : n ≤ 1048576) (_hm : m ≤ 1048576) (h : ¬ (n = 16 ∧ m ≤ 4096)) :
    Calls Try.prog 27 #[.slice ak n ck, .slice ab m cb] w fun e w' => e = .returned (.slice none 0 0) ∧ w' = w := by
  by_cases h1 : n = 16
  · have h2 : (4096 : Int) < (m : Int) := by omega
    subst h1
    go_enter Try.func27, Try.ntmps27
    go_wp2
    go_ret
    exact ⟨rfl, rfl⟩
  · have h2 : ((n : Int) != 16) = true := by rw [bne_iff_ne]; omega
    go_enter Try.func27, Try.ntmps27
    go_wp2
    go_ret
    exact ⟨rfl, rfl⟩
def retailL (key data : List UInt8) : List UInt8 := if key.length = 16 ∧ data.length ≤ 4096 then retailN key data else []
theorem retailL_le (key data : List UInt8) (_ : key.length ≤ 1048576) (_ : data.length ≤ 1048576) : (retailL key data).length ≤ 1048576 := by
  unfold retailL
  split
  · rw [retailN_length]; omega
  · simp
theorem retail_all (key data : List UInt8) (ak ab : Option Addr) (ck cb : Nat) (w : World) (hn : key.length ≤ 1048576) (hm : data.length ≤ 1048576) (_hc : key.length ≤ ck) (hd : data.length ≤ cb) (rk : RowAt w ak key) (rb : RowAt w ab data) :
    Calls Try.prog 28 #[.slice ak key.length ck, .slice ab data.length cb] w fun e w' =>
      ∃ v, e = .returned v ∧ Own w' w.heap.size v (retailL key data) ∧ Below w.heap.size w w' := by
  unfold retailL
  by_cases h : key.length = 16 ∧ data.length ≤ 4096
  · rw [if_pos h]
    obtain ⟨kb, ko, rfl, hk⟩ := rk.range (by omega)
    have := retail_some key data kb ko ck cb ab w h.1 h.2 hd hk rb
    rw [h.1]
    exact this
  · rw [if_neg h]
    refine (retail_wrong _ _ ak ab ck cb w hn hm h).mono ?_
    rintro e w' ⟨rfl, rfl⟩
    exact ⟨_, rfl, ⟨5, World.ownsRow_nil _ _ _ _⟩, Below.refl _ _⟩
theorem retailS_all (key data : List UInt8) (ak ab : Option Addr) (ck cb : Nat) (w : World) (hn : key.length ≤ 1048576) (hm : data.length ≤ 1048576) (hc : key.length ≤ ck) (_hd : data.length ≤ cb) (rk : RowAt w ak key) (rb : RowAt w ab data) :
    Calls Try.prog 27 #[.slice ak key.length ck, .slice ab data.length cb] w fun e w' =>
      ∃ v, e = .returned v ∧ Own w' w.heap.size v (retailL key data) ∧ Below w.heap.size w w' := by
  unfold retailL
  by_cases h : key.length = 16 ∧ data.length ≤ 4096
  · rw [if_pos h]
    obtain ⟨kb, ko, rfl, -⟩ := rk.at (k := 0) (by omega)
    have := retailS_some key data kb ko ck cb ab w h.1 (by omega) h.2 rk rb
    rw [h.1]
    exact this
  · rw [if_neg h]
    refine (retailS_wrong _ _ ak ab ck cb w hn hm h).mono ?_
    rintro e w' ⟨rfl, rfl⟩
    exact ⟨_, rfl, ⟨5, World.ownsRow_nil _ _ _ _⟩, Below.refl _ _⟩
end Go.Proofs.Ythjnalbgnjbdnaa
