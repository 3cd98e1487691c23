/-
  spec.l3Half.
-/
import Derived.Test.YthjnalbgnjbdnaaHalfImpl
namespace Go.Proofs.Ythjnalbgnjbdnaa
open Go.RowKit

theorem dhalf_eq (key r : List UInt8) (hk : key.length = 16) (hr : r.length = 8) : dhalfN key r = xorL (desS (key.take 8) (xorL r (key.drop 8)) false) (key.drop 8) := by
  unfold dhalfN
  rw [enc_eq _ _ (take8 hk) (by rw [xorL_length _ _ (by rw [hr, drop8 hk]), hr])]

set_option maxRecDepth 100000 in
set_option maxHeartbeats 4000000 in
theorem halfS_any (key r : List UInt8) (kb ko ck cb : Nat) (ab : Option Addr) (w : World) (hk : key.length = 16) (hck : 16 ≤ ck) (hr : r.length = 8) (rk : RowAt w (some ⟨kb, ko, none⟩) key) (rr : RowAt w ab r) :
    Calls Try.prog 102 #[.slice (some ⟨kb, ko, none⟩) 16 ck, .slice ab 8 cb] w fun e w' => ∃ v, e = .returned v ∧ OwnB w' w.heap.size v (dhalfN key r) ∧ Below w.heap.size w w' := by
  have hal := take8 hk
  have hbl := drop8 hk
  have ra : RowAt w (some ⟨kb, ko, none⟩) (key.take 8) := rk.take 8
  have rb : RowAt w (some ⟨kb, ko + 8, none⟩) (key.drop 8) := rk.drop 8
  rw [dhalf_eq key r hk hr]
  have hxl : (xorL r (key.drop 8)).length = 8 := by rw [xorL_length _ _ (by rw [hr, hbl]), hr]
  have hyl := desS_length (key.take 8) (xorL r (key.drop 8)) false
  have hzl : (xorL (desS (key.take 8) (xorL r (key.drop 8)) false) (key.drop 8)).length = 8 := by rw [xorL_length _ _ (by rw [hyl, hbl]), hyl]
  have HX1 : Hid (∀ (cp : Nat) (wx : World), RowAt wx ab r → RowAt wx (some ⟨kb, ko + 8, none⟩) (key.drop 8) → Calls Try.prog 48 #[.slice ab 8 cb, .slice (some ⟨kb, ko + 8, none⟩) 8 cp] wx fun e w' => e = .returned (.slice (some ⟨wx.heap.size, 0, none⟩) 8 8) ∧ OwnB w' wx.heap.size (.slice (some ⟨wx.heap.size, 0, none⟩) 8 8) (xorL r (key.drop 8)) ∧ Below wx.heap.size wx w') := by
    intro cp wx h1 h2
    have := xor_any ab (some ⟨kb, ko + 8, none⟩) cb cp r (key.drop 8) wx (by omega) (by rw [hr, hbl]) h1 h2
    rw [hr, hbl] at this
    exact this
  have HD := hide (fun (g c : Nat) (wx : World) (h1 : RowAt wx (some ⟨kb, ko, none⟩) (key.take 8)) (h2 : RowAt wx (some ⟨g, 0, none⟩) (xorL r (key.drop 8))) => des_spec (some ⟨kb, ko, none⟩) (some ⟨g, 0, none⟩) ck c (key.take 8) _ false wx hal hxl h1 h2)
  have HX2 : Hid (∀ (g c cp : Nat) (wx : World), RowAt wx (some ⟨g, 0, none⟩) (desS (key.take 8) (xorL r (key.drop 8)) false) → RowAt wx (some ⟨kb, ko + 8, none⟩) (key.drop 8) → Calls Try.prog 48 #[.slice (some ⟨g, 0, none⟩) 8 c, .slice (some ⟨kb, ko + 8, none⟩) 8 cp] wx fun e w' => e = .returned (.slice (some ⟨wx.heap.size, 0, none⟩) 8 8) ∧ OwnB w' wx.heap.size (.slice (some ⟨wx.heap.size, 0, none⟩) 8 8) (xorL (desS (key.take 8) (xorL r (key.drop 8)) false) (key.drop 8)) ∧ Below wx.heap.size wx w') := by
    intro g c cp wx h1 h2
    have := xor_any (some ⟨g, 0, none⟩) (some ⟨kb, ko + 8, none⟩) c cp (desS (key.take 8) (xorL r (key.drop 8)) false) (key.drop 8) wx (by omega) (by rw [hyl, hbl]) h1 h2
    rw [hyl, hbl] at this
    exact this
  obtain ⟨z, hzE⟩ : ∃ z, z = xorL (desS (key.take 8) (xorL r (key.drop 8)) false) (key.drop 8) := ⟨_, rfl⟩
  rw [← hzE] at HX2 hzl ⊢
  obtain ⟨y, hyE⟩ : ∃ y, y = desS (key.take 8) (xorL r (key.drop 8)) false := ⟨_, rfl⟩
  rw [← hyE] at HX2 HD hyl
  obtain ⟨x, hxE⟩ : ∃ x, x = xorL r (key.drop 8) := ⟨_, rfl⟩
  rw [← hxE] at HX1 HD hxl
  obtain ⟨a, haE⟩ : ∃ a, a = key.take 8 := ⟨_, rfl⟩
  obtain ⟨b, hbE⟩ : ∃ b, b = key.drop 8 := ⟨_, rfl⟩
  rw [← haE] at HD ra
  rw [← hbE] at HX1 HX2 rb
  clear hzE hyE hxE haE hbE rk hk hal hbl
  have hcI : (8 : Int) ≤ (ck : Int) := by omega
  have hcI2 : (16 : Int) ≤ (ck : Int) := by omega
  have hcn : ¬ ck = 8 := by omega
  go_enter Try.func102, Try.ntmps102
  go_wp2_with fail
  obtain ⟨V, hV⟩ : ∃ V, V = w.drew := ⟨_, rfl⟩
  have bV : Below w.heap.size w V := by rw [hV]; exact (Below.refl _ _).drew
  have hwV := bV.size
  have b_0 : Below V.heap.size V V := Below.refl _ _
  have rowA : Hid (∀ {x}, Below V.heap.size V x → RowAt x (some ⟨kb, ko, none⟩) a) := fun h => (ra.below bV).below h
  have rowB : Hid (∀ {x}, Below V.heap.size V x → RowAt x (some ⟨kb, ko + 8, none⟩) b) := fun h => (rb.below bV).below h
  have rowR : Hid (∀ {x}, Below V.heap.size V x → RowAt x ab r) := fun h => (rr.below bV).below h
  have keep : Hid (∀ {B x}, Below B V x → True) := fun _ => trivial
  refine wp_region_held_drew (S := fun _ => True) (by kernel_rfl) trivial (fun hHeld => ?_)
  rw [← hV]
  clear hV
  refine wpAnyH_take (i := 0) (v := (.slice (some ⟨kb, ko, none⟩) 16 ck)) rfl (by kernel_rfl) (by kernel_rfl) (by kernel_rfl) (fun _ _ _ h => h) (Or.inl ⟨by rfl, ?_⟩) hHeld ?_
  · intro _ _; go_simp
  try dsimp only [Act.put]
  refine wpAnyH_take (i := 1) (v := (.slice (some ⟨kb, ko, none⟩) 8 ck)) rfl (by kernel_rfl) (by kernel_rfl) (by kernel_rfl) (fun _ _ _ h => h) (Or.inl ⟨by rfl, ?_⟩) hHeld ?_
  · intro _ _; go_simp
  try dsimp only [Act.put]
  refine wpAnyH_take (i := 2) (v := (.slice ab 8 cb)) rfl (by kernel_rfl) (by kernel_rfl) (by kernel_rfl) (fun _ _ _ h => h) (Or.inl ⟨by rfl, ?_⟩) hHeld ?_
  · intro _ _; go_simp
  try dsimp only [Act.put]
  refine wpAnyH_take (i := 3) (v := (.slice (some ⟨kb, ko + 8, none⟩) 8 (ck - 8))) rfl (by kernel_rfl) (by kernel_rfl) (by kernel_rfl) (fun _ _ _ h => h) (Or.inl ⟨by rfl, ?_⟩) hHeld ?_
  · intro _ _; go_simp
  try dsimp only [Act.put]
  refine wpAnyH_take (i := 6) (v := (.slice (some ⟨kb, ko + 8, none⟩) 8 (ck - 8))) rfl (by kernel_rfl) (by kernel_rfl) (by kernel_rfl) (fun _ _ _ h => h) (Or.inl ⟨by rfl, ?_⟩) hHeld ?_
  · intro _ _; go_simp
  try dsimp only [Act.put]
  refine wpAnyH_ready (rs := [4]) (by kernel_rfl) (by simp) ?_
  refine AllReadyH.cons rfl (fun K hK => ?_) (AllReadyH.nil)
  go_simp
  refine (HX1.out _ _ (rowR.out b_0) (rowB.out b_0)).mono ?_
  rintro e w_1 ⟨rfl, own_1, bel_1⟩
  have b_1 := below_step b_0 bel_1
  have rowx_1 : RowAt w_1 (some ⟨V.heap.size, 0, none⟩) x := (by obtain ⟨g', c', -, hv', row'⟩ := own_at own_1 hxl (by omega); cases hv'; exact row')
  go_wp2_with fail
  refine hK.out _ _ (keep.out b_1) (fun hHeld => ?_)
  clear hK K
  try dsimp only [Act.put]
  refine wpAnyH_ready (rs := [5]) (by kernel_rfl) (by simp) ?_
  refine AllReadyH.cons rfl (fun K hK => ?_) (AllReadyH.nil)
  go_simp
  refine (HD.out _ _ _ (rowA.out b_1) rowx_1).mono ?_
  rintro e w_2 ⟨v_2, rfl, own_2, bel_2⟩
  have x_2 := rowx_1.below bel_2
  have b_2 := below_step b_1 bel_2
  obtain ⟨gy, cy, -, hvy, rowy_2⟩ := own_at own_2 hyl (by omega)
  subst hvy
  go_wp2_with fail
  refine hK.out _ _ (keep.out b_2) (fun hHeld => ?_)
  clear hK K
  try dsimp only [Act.put]
  refine wpAnyH_ready (rs := [7]) (by kernel_rfl) (by simp) ?_
  refine AllReadyH.cons rfl (fun K hK => ?_) (AllReadyH.nil)
  go_simp
  refine (HX2.out _ _ _ _ rowy_2 (rowB.out b_2)).mono ?_
  rintro e w_3 ⟨rfl, own_3, bel_3⟩
  have x_3 := x_2.below bel_3
  have y_3 := rowy_2.below bel_3
  have b_3 := below_step b_2 bel_3
  have bq := b_3
  go_wp2_with fail
  refine hK.out _ _ (keep.out b_3) (fun hHeld => ?_)
  clear hK K
  try dsimp only [Act.put]
  refine wpAnyH_ready (rs := [8]) (by kernel_rfl) (by simp) ?_
  refine AllReadyH.cons rfl (fun K hK => ?_) (AllReadyH.nil)
  go_simp
  refine hK.out _ _ (keep.out b_3) (fun hHeld => ?_)
  clear hK K
  try dsimp only [Act.put]
  refine wpAnyH_done (by kernel_rfl) ?_ _
  go_wp2_with fail
  go_ret
  exact ⟨_, rfl, own_3.mono (Nat.le_trans hwV b_2.size), bV.trans (bq.mono hwV)⟩
end Go.Proofs.Ythjnalbgnjbdnaa
