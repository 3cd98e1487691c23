/-
  impl: newAes.
-/
import Derived.Test.YthjnalbgnjbdnaaAesCells
namespace Go.Proofs.Ythjnalbgnjbdnaa
open Go.RowKit

theorem wp_build_to {P : Program} {op : Oper} {a : Act} {w : World} {K : Act → World → Prop} {Q : Exit → Act → World → Prop} (d : Option Tmp) (hd : op.dst = d) (t : TypeId) (parts : Array (Nat × Operand)) (ho : op.op = .build t parts) (cs : List Value)
    (hf : P.built t (parts.map fun (i, x) => (i, a.eval x)).toList = some cs.toArray) (h : K (a.put d (.agg cs.toArray)) w) : op.wp P a w K Q := by
  subst hd
  exact wp_build t parts ho (by rw [hf]; rfl) (by rw [hf]; exact h)

set_option maxRecDepth 100000 in
set_option maxHeartbeats 2000000 in
theorem newAes_any (key : List UInt8) (w : World) (hk : key.length = 16) :
    Calls Try.prog 85 #[.agg (key.map byte).toArray] w fun e w' => ∃ S1 S2 S3 S4, e = .returned (.agg (aesCells ((keysUpto key 11).map byte) S1 S2 S3 S4).toArray) ∧ Blk w' S1 103 (subTab.map byte) ∧ Blk w' S2 103 (invTab.map byte) ∧ Blk w' S3 109 (tabCells mixT) ∧ Blk w' S4 109 (tabCells unmixT) ∧ Below w.heap.size w w' := by
  have hz := (zero_of_info Try.zero86).1
  have hz2 := (zero_of_info Try.zero103).1
  have hkl : (key.map byte).length = 16 := by rw [List.length_map, hk]
  have hsl : (subTab.map byte).length = 256 := by rw [List.length_map, subTab_length]
  have hks : ((keysUpto key 11).map byte).length = 176 := by rw [List.length_map, keysUpto_length key hk]
  go_enter Try.func85, Try.ntmps85
  go_wp2_with (first
    | (go_at_call 108; refine (subTable_any _).mono ?_; rintro e w1 ⟨rfl, bel1⟩)
    | (refine store_blk rfl 103 _ _ rfl _ rfl rfl (Blk.new w1 _ _) (by rw [hsl]; kernel_rfl) (by rw [zerosOf_length, hsl]) (allOne_bytes _) ?_; intro V KS hg2 hs2))
  have z1 := bel1.size
  simp only [World.size_alloc] at z1
  have K0 : Blk V w.heap.size 57 (key.map byte) := (((((Blk.new w _ _).alloc _).below bel1 (by simp; omega)).alloc _)).grown hg2 (by simp; omega)
  have K1 : Blk V (w.heap.size + 1) 86 zeroAes := ((((Blk.new2 w _ _ _).below bel1 (by simp)).alloc _)).grown hg2 (by simp; omega)
  have bV : Below w.heap.size w V := (((((Below.refl _ _).alloc (Nat.le_refl _) _).alloc (by simp) _).trans (bel1.mono (by simp; omega))).alloc (by omega) _).grown hg2 (by simp; omega) (by intro k hk; cases hk; omega)
  obtain ⟨GS, hGS⟩ : ∃ n, n = w1.heap.size := ⟨_, rfl⟩
  rw [← hGS] at KS z1 ⊢
  have zV : GS < V.heap.size := KS.lt
  clear hg2 hs2 bel1 hz hz2 hGS
  have keep : Hid (∀ {w'}, Below V.heap.size V w' → w'.rangeAt w.heap.size 0 (key.map byte) ∧ w'.rangeAt GS 0 (subTab.map byte)) := fun h => ⟨blk_whole (K0.below h K0.lt), blk_whole (KS.below h KS.lt)⟩
  dsimp only [Act.put]
  refine wp_region_held_drew (S := fun w' => w'.rangeAt w.heap.size 0 (key.map byte) ∧ w'.rangeAt GS 0 (subTab.map byte)) (by kernel_rfl) (keep.out (Below.refl _ _).drew) (fun hHeld => ?_)
  refine wpAnyH_take (i := 0) (v := .agg (key.map byte).toArray) rfl (by kernel_rfl) (by kernel_rfl) (by kernel_rfl) (fun _ _ _ h => h) (yieldsIf_load_mid (by rfl) 57 _ rfl w.heap.size 0 rfl (key.map byte) _ (fun _ h => h.1) Try.underlying57 rfl (by rw [hkl]; kernel_rfl)) hHeld ?_
  try dsimp only [Act.put]
  refine wpAnyH_take (i := 1) (v := .agg (subTab.map byte).toArray) rfl (by kernel_rfl) (by kernel_rfl) (by kernel_rfl) (fun _ _ _ h => h) (yieldsIf_load_mid (by rfl) 103 _ rfl GS 0 rfl (subTab.map byte) _ (fun _ h => h.2) Try.underlying103 rfl (by rw [hsl]; kernel_rfl)) hHeld ?_
  try dsimp only [Act.put]
  refine wpAnyH_take (i := 3) (v := .agg (subTab.map byte).toArray) rfl (by kernel_rfl) (by kernel_rfl) (by kernel_rfl) (fun _ _ _ h => h) (yieldsIf_load_mid (by rfl) 103 _ rfl GS 0 rfl (subTab.map byte) _ (fun _ h => h.2) Try.underlying103 rfl (by rw [hsl]; kernel_rfl)) hHeld ?_
  try dsimp only [Act.put]
  refine wpAnyH_take (i := 5) (v := .agg (subTab.map byte).toArray) rfl (by kernel_rfl) (by kernel_rfl) (by kernel_rfl) (fun _ _ _ h => h) (yieldsIf_load_mid (by rfl) 103 _ rfl GS 0 rfl (subTab.map byte) _ (fun _ h => h.2) Try.underlying103 rfl (by rw [hsl]; kernel_rfl)) hHeld ?_
  try dsimp only [Act.put]
  refine wpAnyH_take (i := 8) (v := .agg (subTab.map byte).toArray) rfl (by kernel_rfl) (by kernel_rfl) (by kernel_rfl) (fun _ _ _ h => h) (yieldsIf_load_mid (by rfl) 103 _ rfl GS 0 rfl (subTab.map byte) _ (fun _ h => h.2) Try.underlying103 rfl (by rw [hsl]; kernel_rfl)) hHeld ?_
  try dsimp only [Act.put]
  refine wpAnyH_ready (rs := [2]) (by kernel_rfl) (by simp) ?_
  refine AllReadyH.cons rfl (fun K hK => ?_) (AllReadyH.nil)
  go_simp
  refine (aesKeys_any key _ hk).mono ?_
  rintro e w_1 ⟨rfl, bel_1⟩
  have key_1 := K0.drew1.below bel_1 K0.drew1.lt
  have sub_1 := KS.drew1.below bel_1 KS.drew1.lt
  have res_1 := K1.drew1.below bel_1 K1.drew1.lt
  have b_1 := below_step (Below.refl V.heap.size V).drew bel_1
  have zz_1 := b_1.size
  go_wp2_with fail
  refine hK.out _ _ (keep.out b_1) (fun hHeld => ?_)
  clear hK K
  try dsimp only [Act.put]
  refine wpAnyH_ready (rs := [4]) (by kernel_rfl) (by simp) ?_
  refine AllReadyH.cons rfl (fun K hK => ?_) (AllReadyH.nil)
  go_simp
  refine (byteChanger_any subTab _).mono ?_
  rintro e w_2 ⟨Sfa_2, rfl, lfa_2, kfa_2, bel_2⟩
  have key_2 := key_1.below bel_2 key_1.lt
  have sub_2 := sub_1.below bel_2 sub_1.lt
  have res_2 := res_1.below bel_2 res_1.lt
  have b_2 := below_step b_1 bel_2
  have zfa_2 := b_2.size
  go_wp2_with fail
  refine hK.out _ _ (keep.out b_2) (fun hHeld => ?_)
  clear hK K
  try dsimp only [Act.put]
  refine wpAnyH_ready (rs := [6]) (by kernel_rfl) (by simp) ?_
  refine AllReadyH.cons rfl (fun K hK => ?_) (AllReadyH.nil)
  go_simp
  refine (inverseOf_any _).mono ?_
  rintro e w_3 ⟨rfl, bel_3⟩
  have key_3 := key_2.below bel_3 key_2.lt
  have sub_3 := sub_2.below bel_3 sub_2.lt
  have res_3 := res_2.below bel_3 res_2.lt
  have fa_3 := kfa_2.below bel_3 kfa_2.lt
  have b_3 := below_step b_2 bel_3
  have zz_3 := b_3.size
  go_wp2_with fail
  refine hK.out _ _ (keep.out b_3) (fun hHeld => ?_)
  clear hK K
  try dsimp only [Act.put]
  refine wpAnyH_ready (rs := [7]) (by kernel_rfl) (by simp) ?_
  refine AllReadyH.cons rfl (fun K hK => ?_) (AllReadyH.nil)
  go_simp
  refine (byteChanger_any invTab _).mono ?_
  rintro e w_4 ⟨Sfb_4, rfl, lfb_4, kfb_4, bel_4⟩
  have key_4 := key_3.below bel_4 key_3.lt
  have sub_4 := sub_3.below bel_4 sub_3.lt
  have res_4 := res_3.below bel_4 res_3.lt
  have fa_4 := fa_3.below bel_4 fa_3.lt
  have b_4 := below_step b_3 bel_4
  have zfb_4 := b_4.size
  go_wp2_with fail
  refine hK.out _ _ (keep.out b_4) (fun hHeld => ?_)
  clear hK K
  try dsimp only [Act.put]
  refine wpAnyH_ready (rs := [9]) (by kernel_rfl) (by simp) ?_
  refine AllReadyH.cons rfl (fun K hK => ?_) (AllReadyH.nil)
  go_simp
  refine (mixTable_any _).mono ?_
  rintro e w_5 ⟨rfl, bel_5⟩
  have key_5 := key_4.below bel_5 key_4.lt
  have sub_5 := sub_4.below bel_5 sub_4.lt
  have res_5 := res_4.below bel_5 res_4.lt
  have fa_5 := fa_4.below bel_5 fa_4.lt
  have fb_5 := kfb_4.below bel_5 kfb_4.lt
  have b_5 := below_step b_4 bel_5
  have zz_5 := b_5.size
  go_wp2_with fail
  refine hK.out _ _ (keep.out b_5) (fun hHeld => ?_)
  clear hK K
  try dsimp only [Act.put]
  refine wpAnyH_ready (rs := [10]) (by kernel_rfl) (by simp) ?_
  refine AllReadyH.cons rfl (fun K hK => ?_) (AllReadyH.nil)
  go_simp
  refine (columnMixer_any mixT _).mono ?_
  rintro e w_6 ⟨Sfc_6, rfl, lfc_6, kfc_6, bel_6⟩
  have key_6 := key_5.below bel_6 key_5.lt
  have sub_6 := sub_5.below bel_6 sub_5.lt
  have res_6 := res_5.below bel_6 res_5.lt
  have fa_6 := fa_5.below bel_6 fa_5.lt
  have fb_6 := fb_5.below bel_6 fb_5.lt
  have b_6 := below_step b_5 bel_6
  have zfc_6 := b_6.size
  go_wp2_with fail
  refine hK.out _ _ (keep.out b_6) (fun hHeld => ?_)
  clear hK K
  try dsimp only [Act.put]
  refine wpAnyH_ready (rs := [11]) (by kernel_rfl) (by simp) ?_
  refine AllReadyH.cons rfl (fun K hK => ?_) (AllReadyH.nil)
  go_simp
  refine (unmixTable_any _).mono ?_
  rintro e w_7 ⟨rfl, bel_7⟩
  have key_7 := key_6.below bel_7 key_6.lt
  have sub_7 := sub_6.below bel_7 sub_6.lt
  have res_7 := res_6.below bel_7 res_6.lt
  have fa_7 := fa_6.below bel_7 fa_6.lt
  have fb_7 := fb_6.below bel_7 fb_6.lt
  have fc_7 := kfc_6.below bel_7 kfc_6.lt
  have b_7 := below_step b_6 bel_7
  have zz_7 := b_7.size
  go_wp2_with fail
  refine hK.out _ _ (keep.out b_7) (fun hHeld => ?_)
  clear hK K
  try dsimp only [Act.put]
  refine wpAnyH_ready (rs := [12]) (by kernel_rfl) (by simp) ?_
  refine AllReadyH.cons rfl (fun K hK => ?_) (AllReadyH.nil)
  go_simp
  refine (columnMixer_any unmixT _).mono ?_
  rintro e w_8 ⟨Sfd_8, rfl, lfd_8, kfd_8, bel_8⟩
  have key_8 := key_7.below bel_8 key_7.lt
  have sub_8 := sub_7.below bel_8 sub_7.lt
  have res_8 := res_7.below bel_8 res_7.lt
  have fa_8 := fa_7.below bel_8 fa_7.lt
  have fb_8 := fb_7.below bel_8 fb_7.lt
  have fc_8 := fc_7.below bel_8 fc_7.lt
  have b_8 := below_step b_7 bel_8
  have zfd_8 := b_8.size
  go_wp2_with fail
  refine hK.out _ _ (keep.out b_8) (fun hHeld => ?_)
  clear hK K
  try dsimp only [Act.put]
  refine wpAnyH_ready (rs := [13]) (by kernel_rfl) (by simp) ?_
  refine AllReadyH.cons rfl (fun K hK => ?_) (AllReadyH.nil)
  rw [if_pos (by rfl)]
  refine wp_build_to (some 18) rfl 86 _ rfl (aesCells ((keysUpto key 11).map byte) Sfa_2 Sfb_4 Sfc_6 Sfd_8) ((congrArg (Try.prog.built 86) (show _ = [(0, .agg ((keysUpto key 11).map byte).toArray), (1, fnS Sfa_2), (2, fnS Sfb_4), (3, fnM Sfc_6), (4, fnM Sfd_8)] by kernel_rfl)).trans (built_aes _ _ _ _ _ hks)) ?_
  try dsimp only [Act.put]
  refine hK.out _ _ (keep.out b_8) (fun hHeld => ?_)
  clear hK K
  try dsimp only [Act.put]
  refine wpAnyH_ready (rs := [14]) (by kernel_rfl) (by simp) ?_
  refine AllReadyH.cons rfl (fun K hK => ?_) (AllReadyH.nil)
  rw [if_pos (by rfl)]
  have hcl := aesCells_length ((keysUpto key 11).map byte) Sfa_2 Sfb_4 Sfc_6 Sfd_8 hks
  refine wp_store_blk rfl 86 _ _ rfl (w.heap.size + 1) rfl rfl res_8 (by rw [hcl]; kernel_rfl) (by rw [hcl]; exact zeroAes_length) (allOne_aes _ _ _ _ _) ?_
  refine hK.out _ _ ⟨blk_whole (Blk.setRow_other key_8 (by omega)), blk_whole (Blk.setRow_other sub_8 (by omega))⟩ (fun hHeld => ?_)
  clear hK K
  try dsimp only [Act.put]
  refine wpAnyH_done (by kernel_rfl) ?_ _
  go_wp2_with fail
  exact bodyPost_ret (v := .agg (aesCells ((keysUpto key 11).map byte) Sfa_2 Sfb_4 Sfc_6 Sfd_8).toArray) (results_blk Try.results85 _ _ rfl (Blk.setRow res_8 _) Try.underlying86 rfl (by rw [hcl]; kernel_rfl)) rfl ⟨Sfa_2, Sfb_4, Sfc_6, Sfd_8, rfl, Blk.setRow_other fa_8 (by omega), Blk.setRow_other fb_8 (by omega), Blk.setRow_other fc_8 (by omega), Blk.setRow_other kfd_8 (by omega), below_setRow' (g := w.heap.size + 1) (bV.trans (b_8.mono bV.size)) (by omega) _⟩
end Go.Proofs.Ythjnalbgnjbdnaa
