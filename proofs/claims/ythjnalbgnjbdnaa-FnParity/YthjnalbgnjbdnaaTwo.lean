/-
  impl.twoOf, impl.serialMask.
-/
import Derived.Test.YthjnalbgnjbdnaaSteps
namespace Go.Proofs.Ythjnalbgnjbdnaa
open Go.RowKit

theorem row_range16 {w : World} {g : Nat} {l : List UInt8} (h : RowAt w (some ⟨g, 0, none⟩) l) (h16 : l.length = 16) : w.rangeAt g 0 (l.map byte) := by
  obtain ⟨b, off, e, hc⟩ := h.at (k := 0) (by omega)
  cases e
  exact row_range hc

set_option maxRecDepth 100000 in
set_option maxHeartbeats 1000000 in
theorem twoOf_any (m : List UInt8) (w : World) (hm : m.length = 8) :
    Calls Try.prog 75 #[.agg (m.map byte).toArray] w fun e w' => e = .returned (.agg ((m ++ m).map byte).toArray) ∧ Below w.heap.size w w' := by
  have hz := (zero_of_info Try.zero57).1
  have h2l : (m ++ m).length = 16 := by simp [hm]
  have h2f : [m, m].flatten = m ++ m := by simp
  have h2m : ((m ++ m).map byte).length = 16 := by rw [List.length_map, h2l]
  obtain ⟨W, hW⟩ : ∃ W, W = (w.alloc (.cells (m.map byte).toArray 50)).alloc (.cells (zerosOf 16 .u8).toArray 57) := ⟨_, rfl⟩
  have k1 : Blk W w.heap.size 50 (m.map byte) := by rw [hW]; exact (Blk.new w _ _).alloc _
  have k2 : Blk W (w.heap.size + 1) 57 (zerosOf 16 .u8) := by rw [hW]; exact Blk.new2 w _ _ _
  have bW : Below w.heap.size w W := by rw [hW]; exact ((Below.refl _ _).alloc (Nat.le_refl _) _).alloc (by simp) _
  have gW : Hid (W = (w.alloc (.cells (m.map byte).toArray 50)).alloc (.cells (zerosOf 16 .u8).toArray 57)) := hW
  clear hW
  go_enter Try.func75, Try.ntmps75
  go_wp2_with fail
  rw [← show W = _ from gW]
  clear gW
  obtain ⟨V, hV⟩ : ∃ V, V = W.drew := ⟨_, rfl⟩
  replace k1 : Blk V w.heap.size 50 (m.map byte) := by rw [hV]; exact k1.drew1
  replace k2 : Blk V (w.heap.size + 1) 57 (zerosOf 16 .u8) := by rw [hV]; exact k2.drew1
  have bV : Below w.heap.size w V := by rw [hV]; exact bW.drew
  have hwV := bV.size
  clear bW
  have b_0 : Below V.heap.size V V := Below.refl _ _
  have hsrc : ∀ {x}, Below V.heap.size V x → ∀ k, k < 2 → Src x ([Value.slice (some ⟨w.heap.size, 0, none⟩) 8 8, Value.slice (some ⟨w.heap.size, 0, none⟩) 8 8].getD k undef) ([m, m].getD k []) := by
    intro x hx k hk
    have hr : RowAt x (some ⟨w.heap.size, 0, none⟩) m := rowAt_block (k1.below hx k1.lt)
    match k, hk with
    | 0, _ => exact ⟨w.heap.size, 0, 8, by rw [show ([m, m].getD 0 []).length = 8 from hm]; rfl, hr⟩
    | 1, _ => exact ⟨w.heap.size, 0, 8, by rw [show ([m, m].getD 1 []).length = 8 from hm]; rfl, hr⟩
  have keep : ∀ {B x}, Below B V x → True := fun _ => trivial
  refine wp_region_held_drew (S := fun _ => True) (by kernel_rfl) trivial (fun hHeld => ?_)
  rw [← hV]
  clear hV
  refine wpAnyH_take (i := 0) (v := (.slice (some ⟨w.heap.size, 0, none⟩) 8 8)) rfl (by kernel_rfl) (by kernel_rfl) (by kernel_rfl) (fun _ _ _ h => h) (Or.inl ⟨by rfl, ?_⟩) hHeld ?_
  · intro _ _; go_simp
  try dsimp only [Act.put]
  refine wpAnyH_take (i := 1) (v := (.slice (some ⟨w.heap.size, 0, none⟩) 8 8)) rfl (by kernel_rfl) (by kernel_rfl) (by kernel_rfl) (fun _ _ _ h => h) (Or.inl ⟨by rfl, ?_⟩) hHeld ?_
  · intro _ _; go_simp
  try dsimp only [Act.put]
  refine wpAnyH_ready (rs := [2]) (by kernel_rfl) (by simp) ?_
  refine AllReadyH.cons rfl (fun K hK => ?_) (AllReadyH.nil)
  go_simp
  obtain ⟨w_1, hw_1⟩ : ∃ x, x = World.alloc V (.cells ([Value.slice (some ⟨w.heap.size, 0, none⟩) 8 8, Value.slice (some ⟨w.heap.size, 0, none⟩) 8 8]).toArray 22) := ⟨_, rfl⟩
  have bel_1 : Below V.heap.size V w_1 := by rw [hw_1]; exact below_new _ _
  have sl_1 : Blk w_1 V.heap.size 22 ([Value.slice (some ⟨w.heap.size, 0, none⟩) 8 8, Value.slice (some ⟨w.heap.size, 0, none⟩) 8 8]) := by rw [hw_1]; exact Blk.new _ _ _
  have le_sl_1 := b_0.size
  have res_1 := k2.below bel_1 k2.lt
  have b_1 := below_step b_0 bel_1
  rw [← hw_1]
  clear hw_1
  refine hK.out _ _ (keep b_1) (fun hHeld => ?_)
  clear hK K
  try dsimp only [Act.put]
  refine wpAnyH_ready (rs := [3]) (by kernel_rfl) (by simp) ?_
  refine AllReadyH.cons rfl (fun K hK => ?_) (AllReadyH.nil)
  go_simp
  refine (concat_any [Value.slice (some ⟨w.heap.size, 0, none⟩) 8 8, Value.slice (some ⟨w.heap.size, 0, none⟩) 8 8] [m, m] V.heap.size 0 2 2 _ rfl rfl (by omega) (by rw [h2f, h2l]; omega) (blk_whole sl_1) (hsrc b_1)).mono ?_
  rintro e w_2 ⟨v_2, rfl, own_2, bel_2⟩
  have res_2 := res_1.below bel_2 res_1.lt
  have sl_2 := sl_1.below bel_2 sl_1.lt
  have b_2 := below_step b_1 bel_2
  rw [h2f] at own_2
  obtain ⟨g_2, c_2, hcap_2, hv_2, row_2⟩ := own_at own_2 h2l (by omega)
  subst hv_2
  have hrg := row_range16 row_2 h2l
  have har := fun (wx : World) => run_arrayAt (P := Try.prog) (w := wx) 57 5 16 (some ⟨g_2, 0, none⟩) 16 c_2 Try.underlying57 (Nat.le_refl _)
  go_wp2_with fail
  refine hK.out _ _ (keep b_2) (fun hHeld => ?_)
  clear hK K
  try dsimp only [Act.put]
  refine wpAnyH_ready (rs := [4]) (by kernel_rfl) (by simp) ?_
  refine AllReadyH.cons rfl (fun K hK => ?_) (AllReadyH.nil)
  go_simp
  refine hK.out _ _ (keep b_2) (fun hHeld => ?_)
  clear hK K
  try dsimp only [Act.put]
  refine wpAnyH_ready (rs := [5]) (by kernel_rfl) (by simp) ?_
  refine AllReadyH.cons rfl (fun K hK => ?_) (AllReadyH.nil)
  rw [if_pos (by rfl)]
  refine wp_load_to (some 8) rfl 57 _ rfl _ 0 rfl ((m ++ m).map byte) _ hrg Try.underlying57 rfl (by rw [h2m]; kernel_rfl) ?_
  refine hK.out _ _ (keep b_2) (fun hHeld => ?_)
  clear hK K
  try dsimp only [Act.put]
  refine wpAnyH_ready (rs := [6]) (by kernel_rfl) (by simp) ?_
  refine AllReadyH.cons rfl (fun K hK => ?_) (AllReadyH.nil)
  rw [if_pos (by rfl)]
  refine wp_store_blk rfl 57 _ _ rfl (w.heap.size + 1) rfl rfl res_2 (by rw [h2m]; kernel_rfl) (by rw [h2m]; exact zerosOf_length _ _) (allOne_bytes _) ?_
  have res_5 := Blk.setRow res_2 ((m ++ m).map byte)
  have b_5 := below_setRow' (g := (w.heap.size + 1)) (b_2.mono hwV) (by omega) ((m ++ m).map byte).toArray
  refine hK.out _ _ (keep b_5) (fun hHeld => ?_)
  clear hK K
  try dsimp only [Act.put]
  refine wpAnyH_done (by kernel_rfl) ?_ _
  go_wp2_with fail
  exact bodyPost_ret (v := .agg ((m ++ m).map byte).toArray) (results_blk Try.results75 _ _ rfl res_5 Try.underlying57 rfl (by rw [h2m]; kernel_rfl)) rfl ⟨rfl, bV.trans b_5⟩

def serialL : List UInt8 := [192, 192, 192, 192, 0, 0, 0, 0, 192, 192, 192, 192, 0, 0, 0, 0]
theorem serialL_length : serialL.length = 16 := rfl
theorem twoOf_serial (w : World) : Calls Try.prog 75 #[.agg #[.int .u8 192, .int .u8 192, .int .u8 192, .int .u8 192, .int .u8 0, .int .u8 0, .int .u8 0, .int .u8 0]] w fun e w' => e = .returned (.agg (serialL.map byte).toArray) ∧ Below w.heap.size w w' :=
  twoOf_any [192, 192, 192, 192, 0, 0, 0, 0] w rfl
set_option maxRecDepth 100000 in
set_option maxHeartbeats 1000000 in
theorem serialMask_any (w : World) : Calls Try.prog 69 #[] w fun e w' => e = .returned (.agg (serialL.map byte).toArray) ∧ Below w.heap.size w w' := by
  have hz := (zero_of_info Try.zero57).1
  have hl : (serialL.map byte).length = 16 := rfl
  obtain ⟨L, hL⟩ : ∃ L, L = serialL.map byte := ⟨_, rfl⟩
  have hone := allOne_bytes serialL
  have HT := twoOf_serial
  rw [← hL] at hl hone HT ⊢
  clear hL
  go_enter Try.func69, Try.ntmps69
  go_wp2_with (first
    | (go_at_call 75; refine (HT _).mono ?_; rintro e w1 ⟨rfl, bel1⟩)
    | (refine store_blk rfl 57 _ _ rfl _ rfl rfl ((Blk.new w 57 _).below bel1 (Blk.new w 57 _).lt) (by rw [hl]; kernel_rfl) (by rw [hl]; exact zerosOf_length _ _) hone ?_; intro w2 hb2 hg2 hs2))
  have b1 := (below_new w _).trans (bel1.mono (below_new w _).size)
  exact bodyPost_ret (v := .agg L.toArray) (results_blk Try.results69 _ _ rfl hb2 Try.underlying57 rfl (by rw [hl]; kernel_rfl)) rfl ⟨rfl, b1.grown hg2 b1.size (by intro k hk; cases hk; exact Nat.le_refl _)⟩
end Go.Proofs.Ythjnalbgnjbdnaa
