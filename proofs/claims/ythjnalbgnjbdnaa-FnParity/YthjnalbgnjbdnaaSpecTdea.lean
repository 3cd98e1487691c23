/-
  spec: Tdea.
-/
import Derived.Test.YthjnalbgnjbdnaaDesMath3
namespace Go.Proofs.Ythjnalbgnjbdnaa
open Go.RowKit

theorem desS_length (key block : List UInt8) (dec : Bool) : (desS key block dec).length = 8 := by
  unfold desS unbitsL
  rw [cellsU_length, putL_length]
def tdeaS (key block : List UInt8) (dec : Bool) : List UInt8 := desS (key.take 8) (desS (key.drop 8) (desS (key.take 8) block dec) (!dec)) dec
theorem tdeaS_length (key block : List UInt8) (dec : Bool) : (tdeaS key block dec).length = 8 := desS_length _ _ _

set_option maxRecDepth 100000 in
set_option maxHeartbeats 2000000 in
theorem tdea_spec (kb ko ck cb : Nat) (ab : Option Addr) (key block : List UInt8) (dec : Bool) (w : World) (hk : key.length = 16) (hck : 16 ≤ ck) (hb8 : block.length = 8) (rk : RowAt w (some ⟨kb, ko, none⟩) key) (rb : RowAt w ab block) :
    Calls Try.prog 23 #[.slice (some ⟨kb, ko, none⟩) 16 ck, .slice ab 8 cb, .bool dec] w fun e w' => ∃ v, e = .returned v ∧ OwnB w' w.heap.size v (tdeaS key block dec) ∧ Below w.heap.size w w' := by
  have r1 := (rk.take 8).drew1
  have r2 := (rk.drop 8).drew1
  have rb1 := rb.drew1
  have l1 : Hid ((key.take 8).length = 8) := by show _ = _; rw [List.length_take, hk]; rfl
  have l2 : Hid ((key.drop 8).length = 8) := by show _ = _; rw [List.length_drop, hk]
  have hcI : (16 : Int) ≤ (ck : Int) := by omega
  have h8I : (8 : Int) ≤ (ck : Int) := by omega
  have hcn : ¬ ck = 8 := by omega
  clear rk rb hk
  cases dec
  all_goals
    go_enter Try.func23, Try.ntmps23
    go_wp2_with fail
  · go_region_held3 (fun _ => True) (trivial) (first
      | (go_at_call 21; refine (des_spec _ _ _ _ (key.take 8) _ false _ l1.out (desS_length _ _ _) ((r1.below bel1).below bel2) row2).mono ?_; rintro e w3 ⟨v3, rfl, own3, bel3⟩)
      | (go_at_call 21; refine (des_spec _ _ _ _ (key.drop 8) _ true _ l2.out (desS_length _ _ _) (r2.below bel1) row1).mono ?_; rintro e w2 ⟨v2, rfl, own2, bel2⟩; obtain ⟨g2, c2, -, hv2, row2⟩ := own_at own2 (desS_length _ _ _) (by omega); subst hv2)
      | (go_at_call 21; refine (des_spec _ _ _ _ (key.take 8) block false _ l1.out hb8 r1 rb1).mono ?_; rintro e w1 ⟨v1, rfl, own1, bel1⟩; obtain ⟨g1, c1, -, hv1, row1⟩ := own_at own1 (desS_length _ _ _) (by omega); subst hv1))
    go_wp2
    go_ret
    have b1 : Below w.heap.size w w1 := below_drew bel1
    have b2 := b1.trans (bel2.mono b1.size)
    exact ⟨_, rfl, own3.mono b2.size, b2.trans (bel3.mono b2.size)⟩
  · go_region_held3 (fun _ => True) (trivial) (first
      | (go_at_call 21; refine (des_spec _ _ _ _ (key.take 8) _ true _ l1.out (desS_length _ _ _) ((r1.below bel1).below bel2) row2).mono ?_; rintro e w3 ⟨v3, rfl, own3, bel3⟩)
      | (go_at_call 21; refine (des_spec _ _ _ _ (key.drop 8) _ false _ l2.out (desS_length _ _ _) (r2.below bel1) row1).mono ?_; rintro e w2 ⟨v2, rfl, own2, bel2⟩; obtain ⟨g2, c2, -, hv2, row2⟩ := own_at own2 (desS_length _ _ _) (by omega); subst hv2)
      | (go_at_call 21; refine (des_spec _ _ _ _ (key.take 8) block true _ l1.out hb8 r1 rb1).mono ?_; rintro e w1 ⟨v1, rfl, own1, bel1⟩; obtain ⟨g1, c1, -, hv1, row1⟩ := own_at own1 (desS_length _ _ _) (by omega); subst hv1))
    go_wp2
    go_ret
    have b1 : Below w.heap.size w w1 := below_drew bel1
    have b2 := b1.trans (bel2.mono b1.size)
    exact ⟨_, rfl, own3.mono b2.size, b2.trans (bel3.mono b2.size)⟩

set_option maxHeartbeats 400000 in
theorem tdea_spec_wrong (n m : Nat) (ak ab : Option Addr) (ck cb : Nat) (dec : Bool) (w : World) (hn : n ≤ 1048576) (_hm : m ≤ 1048576) (h : ¬ (n = 16 ∧ m = 8)) :
    Calls Try.prog 23 #[.slice ak n ck, .slice ab m cb, .bool dec] w fun e w' => e = .returned (.slice none 0 0) ∧ w' = w := by
  by_cases h1 : n = 16
  · have h2 : ((m : Int) != 8) = true := by rw [bne_iff_ne]; omega
    subst h1
    go_enter Try.func23, Try.ntmps23
    go_wp2
    go_ret
    exact ⟨rfl, rfl⟩
  · have h2 : ((n : Int) != 16) = true := by rw [bne_iff_ne]; omega
    go_enter Try.func23, Try.ntmps23
    go_wp2
    go_ret
    exact ⟨rfl, rfl⟩
end Go.Proofs.Ythjnalbgnjbdnaa
