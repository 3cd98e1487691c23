/-
  Both Wrap at every argument; the laws' szKeyInfo, toKeyInfo, eqKeyInfo, markKeyInfo.
-/
import Derived.Test.YtjkofmomoljelaaGreatDoorWrapSpec
namespace Go.Proofs.YtjkofmomoljelaaGreatDoor
open Go.RowKit

def okW (master key : List UInt8) (u gen : Int) : Prop := master.length = 16 ∧ key.length = 16 ∧ 1 ≤ u ∧ u ≤ 3 ∧ 0 ≤ gen ∧ gen ≤ 255
instance (master key : List UInt8) (u gen : Int) : Decidable (okW master key u gen) := by unfold okW; infer_instance
def wrapL (master key : List UInt8) (u gen : Int) : List UInt8 := if okW master key u gen then wrapN master key u.toNat gen.toNat else []
theorem wrapN_length (master key : List UInt8) (u gen : Nat) (hm : master.length = 16) : (wrapN master key u gen).length = 36 := by
  unfold wrapN
  rw [List.length_append, List.length_append, show (tagN master key u gen).length = 16 from cmacN_length _ _ (cmacN_length master [77] hm), aesN_length _ _ _ (show (sealK master).length = 16 from cmacN_length master [69] hm)]
  rfl
theorem wrapL_le (master key : List UInt8) (u gen : Int) : (wrapL master key u gen).length ≤ 1048576 := by
  unfold wrapL
  split
  · rename_i h; rw [wrapN_length _ _ _ _ h.1]; omega
  · simp

set_option maxHeartbeats 2000000 in
theorem wrap_wrong (n m : Nat) (u gen : Int) (am ay : Option Addr) (cm cy : Nat) (w : World) (hn : n ≤ 1048576) (hm : m ≤ 1048576) (h : ¬ (n = 16 ∧ m = 16 ∧ 1 ≤ u ∧ u ≤ 3 ∧ 0 ≤ gen ∧ gen ≤ 255)) :
    Calls Tryz.prog 7 #[.slice am n cm, .agg #[.int .i64 u, .int .i64 gen, .slice ay m cy]] w fun e w' => e = .returned (.slice none 0 0) ∧ Below w.heap.size w w' := by
  have hb : Below w.heap.size w (w.alloc (.cells #[.int .i64 u, .int .i64 gen, .slice ay m cy] 26)) := below_new _ _
  have HUse := hid_of' (fun (wx : World) => isUse_any u wx)
  by_cases h1 : n = 16
  · subst h1
    by_cases h2 : m = 16
    · subst h2
      by_cases h3 : 1 ≤ u ∧ u ≤ 3
      · rw [show (decide (1 ≤ u) && decide (u ≤ 3)) = true from by simp [h3.1, h3.2]] at HUse
        by_cases h4 : gen < 0
        · go_enter Tryz.func7, Tryz.ntmps7
          go_wp2_with (go_at_call 24; refine (HUse.out _).mono ?_; rintro e wu ⟨rfl, rfl⟩)
          go_ret
          exact ⟨rfl, hb⟩
        · have h5 : 255 < gen := by omega
          go_enter Tryz.func7, Tryz.ntmps7
          go_wp2_with (go_at_call 24; refine (HUse.out _).mono ?_; rintro e wu ⟨rfl, rfl⟩)
          go_ret
          exact ⟨rfl, hb⟩
      · rw [show (decide (1 ≤ u) && decide (u ≤ 3)) = false from by simp; omega] at HUse
        clear h h3
        go_enter Tryz.func7, Tryz.ntmps7
        go_wp2_with (go_at_call 24; refine (HUse.out _).mono ?_; rintro e wu ⟨rfl, rfl⟩)
        go_ret
        exact ⟨rfl, hb⟩
    · have h3 : ((m : Int) != 16) = true := by rw [bne_iff_ne]; omega
      have h4 : ¬ ((m : Int) = 16) := by omega
      clear h
      go_enter Tryz.func7, Tryz.ntmps7
      go_wp2
      go_ret
      exact ⟨rfl, hb⟩
  · have h3 : ((n : Int) != 16) = true := by rw [bne_iff_ne]; omega
    have h4 : ¬ ((n : Int) = 16) := by omega
    clear h
    go_enter Tryz.func7, Tryz.ntmps7
    go_wp2
    go_ret
    exact ⟨rfl, hb⟩

set_option maxHeartbeats 2000000 in
theorem wrapS_wrong (n m : Nat) (u gen : Int) (am ay : Option Addr) (cm cy : Nat) (w : World) (hn : n ≤ 1048576) (hm : m ≤ 1048576) (h : ¬ (n = 16 ∧ m = 16 ∧ 1 ≤ u ∧ u ≤ 3 ∧ 0 ≤ gen ∧ gen ≤ 255)) :
    Calls Tryz.prog 126 #[.slice am n cm, .agg #[.int .i64 u, .int .i64 gen, .slice ay m cy]] w fun e w' => e = .returned (.slice none 0 0) ∧ Below w.heap.size w w' := by
  have hb : Below w.heap.size w (w.alloc (.cells #[.int .i64 u, .int .i64 gen, .slice ay m cy] 26)) := below_new _ _
  by_cases h1 : n = 16
  · subst h1
    by_cases h2 : m = 16
    · subst h2
      by_cases h3 : 1 ≤ u
      · by_cases h3' : u ≤ 3
        · have h6 : ¬ (u < 1) := by omega
          have h7 : ¬ (3 < u) := by omega
          by_cases h4 : gen < 0
          · clear h
            go_enter Tryz.func126, Tryz.ntmps126
            go_wp2
            go_ret
            exact ⟨rfl, hb⟩
          · have h5 : 255 < gen := by omega
            clear h
            go_enter Tryz.func126, Tryz.ntmps126
            go_wp2
            go_ret
            exact ⟨rfl, hb⟩
        · have h6 : ¬ (u < 1) := by omega
          have h7 : 3 < u := by omega
          clear h
          go_enter Tryz.func126, Tryz.ntmps126
          go_wp2
          go_ret
          exact ⟨rfl, hb⟩
      · have h6 : u < 1 := by omega
        clear h
        go_enter Tryz.func126, Tryz.ntmps126
        go_wp2
        go_ret
        exact ⟨rfl, hb⟩
    · have h3 : ((m : Int) != 16) = true := by rw [bne_iff_ne]; omega
      have h4 : ¬ ((m : Int) = 16) := by omega
      clear h
      go_enter Tryz.func126, Tryz.ntmps126
      go_wp2
      go_ret
      exact ⟨rfl, hb⟩
  · have h3 : ((n : Int) != 16) = true := by rw [bne_iff_ne]; omega
    have h4 : ¬ ((n : Int) = 16) := by omega
    clear h
    go_enter Tryz.func126, Tryz.ntmps126
    go_wp2
    go_ret
    exact ⟨rfl, hb⟩

theorem wrap_all (master key : List UInt8) (u gen : Int) (am ay : Option Addr) (cm cy : Nat) (w : World) (hn : master.length ≤ 1048576) (hm : key.length ≤ 1048576) (rm : RowAt w am master) (ry : RowAt w ay key) :
    Calls Tryz.prog 7 #[.slice am master.length cm, .agg #[.int .i64 u, .int .i64 gen, .slice ay key.length cy]] w fun e w' => ∃ v, e = .returned v ∧ Own w' w.heap.size v (wrapL master key u gen) ∧ Below w.heap.size w w' := by
  unfold wrapL
  by_cases h : okW master key u gen
  · rw [if_pos h, h.1, h.2.1]
    obtain ⟨h1, h2, h3, h4, h5, h6⟩ := h
    obtain ⟨kb, ko, rfl, hk⟩ := rm.range (by omega)
    obtain ⟨yb, yo, rfl, hy⟩ := ry.range (by omega)
    obtain ⟨u', rfl⟩ : ∃ u' : Nat, u = u' := ⟨u.toNat, by omega⟩
    obtain ⟨g', rfl⟩ : ∃ g' : Nat, gen = g' := ⟨gen.toNat, by omega⟩
    exact wrap_some master key u' g' kb ko cm yb yo cy w h1 h2 (by omega) (by omega) (by omega) hk hy
  · rw [if_neg h]
    refine (wrap_wrong _ _ u gen am ay cm cy w hn hm h).mono ?_
    rintro e w' ⟨rfl, bel⟩
    exact ⟨_, rfl, ⟨5, World.ownsRow_nil _ _ _ _⟩, bel⟩
theorem wrapS_all (master key : List UInt8) (u gen : Int) (am ay : Option Addr) (cm cy : Nat) (w : World) (hn : master.length ≤ 1048576) (hm : key.length ≤ 1048576) (rm : RowAt w am master) (ry : RowAt w ay key) :
    Calls Tryz.prog 126 #[.slice am master.length cm, .agg #[.int .i64 u, .int .i64 gen, .slice ay key.length cy]] w fun e w' => ∃ v, e = .returned v ∧ Own w' w.heap.size v (wrapL master key u gen) ∧ Below w.heap.size w w' := by
  unfold wrapL
  by_cases h : okW master key u gen
  · rw [if_pos h, h.1, h.2.1]
    obtain ⟨h1, h2, h3, h4, h5, h6⟩ := h
    obtain ⟨yb, yo, rfl, -⟩ := ry.range (by omega)
    obtain ⟨u', rfl⟩ : ∃ u' : Nat, u = u' := ⟨u.toNat, by omega⟩
    obtain ⟨g', rfl⟩ : ∃ g' : Nat, gen = g' := ⟨gen.toNat, by omega⟩
    exact wrapS_some master key u' g' cm yb yo cy am w h1 h2 (by omega) (by omega) (by omega) rm ry
  · rw [if_neg h]
    refine (wrapS_wrong _ _ u gen am ay cm cy w hn hm h).mono ?_
    rintro e w' ⟨rfl, bel⟩
    exact ⟨_, rfl, ⟨5, World.ownsRow_nil _ _ _ _⟩, bel⟩
end Go.Proofs.YtjkofmomoljelaaGreatDoor
