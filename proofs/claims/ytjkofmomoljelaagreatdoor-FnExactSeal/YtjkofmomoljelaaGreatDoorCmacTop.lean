/-
  Both Cmac at every argument.
-/
import Derived.Test.YtjkofmomoljelaaGreatDoorCmacSpec
namespace Go.Proofs.YtjkofmomoljelaaGreatDoor
open Go.RowKit

def cmacL (key data : List UInt8) : List UInt8 := if key.length = 16 ∧ data.length ≤ 4096 then cmacN key data else []
theorem cmacL_le (key data : List UInt8) (_ : key.length ≤ 1048576) (_ : data.length ≤ 1048576) : (cmacL key data).length ≤ 1048576 := by
  unfold cmacL
  split
  · rename_i h; rw [cmacN_length key data h.1]; omega
  · simp

set_option maxHeartbeats 1000000 in
theorem cmac_wrong (n m : Nat) (ak ab : Option Addr) (ck cb : Nat) (w : World) (_hn : n ≤ 1048576) (_hm : m ≤ 1048576) (h : ¬ (n = 16 ∧ m ≤ 4096)) :
    Calls Tryz.prog 25 #[.slice ak n ck, .slice ab m cb] w fun e w' => e = .returned (.slice none 0 0) ∧ w' = w := by
  by_cases h1 : n = 16
  · have h2 : (4096 : Int) < (m : Int) := by omega
    subst h1
    go_enter Tryz.func25, Tryz.ntmps25
    go_wp2
    go_ret
    exact ⟨rfl, rfl⟩
  · have h2 : ((n : Int) != 16) = true := by rw [bne_iff_ne]; omega
    have h3 : ¬ ((n : Int) = 16) := by omega
    go_enter Tryz.func25, Tryz.ntmps25
    go_wp2
    go_ret
    exact ⟨rfl, rfl⟩
set_option maxHeartbeats 1000000 in
theorem cmacS_wrong (n m : Nat) (ak ab : Option Addr) (ck cb : Nat) (w : World) (_hn : n ≤ 1048576) (_hm : m ≤ 1048576) (h : ¬ (n = 16 ∧ m ≤ 4096)) :
    Calls Tryz.prog 125 #[.slice ak n ck, .slice ab m cb] w fun e w' => e = .returned (.slice none 0 0) ∧ w' = w := by
  by_cases h1 : n = 16
  · have h2 : (4096 : Int) < (m : Int) := by omega
    subst h1
    go_enter Tryz.func125, Tryz.ntmps125
    go_wp2
    go_ret
    exact ⟨rfl, rfl⟩
  · have h2 : ((n : Int) != 16) = true := by rw [bne_iff_ne]; omega
    have h3 : ¬ ((n : Int) = 16) := by omega
    go_enter Tryz.func125, Tryz.ntmps125
    go_wp2
    go_ret
    exact ⟨rfl, rfl⟩

theorem cmac_all (key data : List UInt8) (ak ab : Option Addr) (ck cb : Nat) (w : World) (hn : key.length ≤ 1048576) (hm : data.length ≤ 1048576) (_hc : key.length ≤ ck) (hd : data.length ≤ cb) (rk : RowAt w ak key) (rb : RowAt w ab data) :
    Calls Tryz.prog 25 #[.slice ak key.length ck, .slice ab data.length cb] w fun e w' => ∃ v, e = .returned v ∧ Own w' w.heap.size v (cmacL key data) ∧ Below w.heap.size w w' := by
  unfold cmacL
  by_cases h : key.length = 16 ∧ data.length ≤ 4096
  · rw [if_pos h, h.1]
    obtain ⟨kb, ko, rfl, hk⟩ := rk.range (by omega)
    exact cmac_some key data kb ko ck cb ab w h.1 h.2 hd hk rb
  · rw [if_neg h]
    refine (cmac_wrong _ _ ak ab ck cb w hn hm h).mono ?_
    rintro e w' ⟨rfl, rfl⟩
    exact ⟨_, rfl, ⟨5, World.ownsRow_nil _ _ _ _⟩, Below.refl _ _⟩
theorem cmacS_all (key data : List UInt8) (ak ab : Option Addr) (ck cb : Nat) (w : World) (hn : key.length ≤ 1048576) (hm : data.length ≤ 1048576) (_hc : key.length ≤ ck) (_hd : data.length ≤ cb) (rk : RowAt w ak key) (rb : RowAt w ab data) :
    Calls Tryz.prog 125 #[.slice ak key.length ck, .slice ab data.length cb] w fun e w' => ∃ v, e = .returned v ∧ Own w' w.heap.size v (cmacL key data) ∧ Below w.heap.size w w' := by
  unfold cmacL
  by_cases h : key.length = 16 ∧ data.length ≤ 4096
  · rw [if_pos h, h.1]
    refine (cmac_spec key data ak ab ck cb w h.1 h.2 rk rb).mono ?_
    rintro e w' ⟨v, rfl, own, bel⟩
    exact ⟨v, rfl, own.own, bel⟩
  · rw [if_neg h]
    refine (cmacS_wrong _ _ ak ab ck cb w hn hm h).mono ?_
    rintro e w' ⟨rfl, rfl⟩
    exact ⟨_, rfl, ⟨5, World.ownsRow_nil _ _ _ _⟩, Below.refl _ _⟩
end Go.Proofs.YtjkofmomoljelaaGreatDoor
