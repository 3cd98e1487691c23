import Derived.Test.YtbkokcjolanpeaaGreatDoorRgR
namespace Go.Proofs.YtbkokcjolanpeaaGreatDoor
open Go.RowKit
theorem range_part' {w:World} {b o:Nat} {l:List UInt8} (h:w.rangeAt b o (l.map byte)) (k n:Nat):w.rangeAt b (o + k) (((l.drop k).take n).map byte):=range_partQ h k n
theorem rowAt_range {w:World} {g o:Nat} {l:List UInt8} (h:w.rangeAt g o (l.map byte)):RowAt w (some ⟨g,o,none⟩) l:=row_of h
set_option maxRecDepth 100000 in
set_option maxHeartbeats 4000000 in
theorem open_main (master block:List UInt8) (kb ko ck bb bo cb T1:Nat) (x1:Value) (w:World) (hm:master.length = 16) (hbl:block.length = 36) (hcb:36 ≤ cb) (hh:headOK block = true) (hg:w.cell? ⟨1,0,none⟩ = some (.iface T1 x1)) (rk:w.rangeAt kb ko (master.map byte)) (rb:w.rangeAt bb bo (block.map byte)) :
   Calls Tryz.prog 104 #[.slice (some ⟨kb,ko,none⟩) 16 ck,.slice (some ⟨bb,bo,none⟩) 36 cb] w fun e w' =>
     ((∃ g,e = .returned (.tuple #[.agg #[.int .i64 (uOf block:Nat),.int .i64 (gOf block:Nat),.slice (some ⟨g,0,none⟩) 16 16],.nilIface]) ∧ w.heap.size < g ∧ Blk w' g 88 ((unkeyN master block).map byte) ∧ tagOK master block = true) ∨
      (e = .returned (.tuple #[.agg zeroKI.toArray,.iface T1 x1]) ∧ tagOK master block = false)) ∧ Below w.heap.size w w':=by
 have hg0:=World.block_lt_of_cell? w _ hg
 have hz:=(zero_of_info Tryz.zeroKI).1
 have HG1:Hid (∀ {x},Below w.heap.size w x → x.cell? ⟨1,0,none⟩ = some (.iface T1 x1)):=fun h=>(h.cell (p:=⟨1,0,none⟩) hg0).trans hg
 have hz16:=(zero_of_info Tryz.z16).1
 have HSeal:=hide (fun (wx:World) (h:wx.rangeAt kb ko (master.map byte))=>sealing_any master kb ko ck wx hm h)
 have hEl:(sealK master).length = 16:=cmacN_length master [69] hm
 have hDl:(block.drop 20).length = 16:=by rw [List.length_drop,hbl]
 have hE4l:((block.drop 4).take 16).length = 16:=by rw [List.length_take,List.length_drop,hbl];rfl
 have rD:w.rangeAt bb (bo + 20) ((block.drop 20).map byte):=by have h:=range_part' rb 20 16;rwa [List.take_of_length_le (by omega)] at h
 have rE4:w.rangeAt bb (bo + 4) (((block.drop 4).take 16).map byte):=range_part' rb 4 16
 have rcell:∀ j,j < 36 → w.cell? ⟨bb,bo + j,none⟩ = some (.int .u8 ((block.getD j 0).toNat:Int)):=by
   intro j hj
   exact rb j _ (by simp [byte,show j < block.length from by omega])
 have r0:=rcell 0 (by omega)
 have r1:=rcell 1 (by omega)
 have r2:=rcell 2 (by omega)
 have r3:=rcell 3 (by omega)
 rw [Nat.add_zero] at r0
 have HHd:Hid ((block.getD 0 0).toNat = 75 ∧ (block.getD 3 0).toNat = 16 ∧ 1 ≤ (block.getD 1 0).toNat ∧ (block.getD 1 0).toNat ≤ 3):=by
   show _ ∧ _
   unfold headOK uOf at hh
   simpa [and_assoc] using hh
 have HUse:=hide (fun (wx:World)=>isUse_any (((block.getD 1 0).toNat:Nat):Int) wx)
 have hWl:=wrapN_length master (unkeyN master block) (uOf block) (gOf block) hm
 have HTG:Hid (tagOK master block = decide (wrapN master (unkeyN master block) (uOf block) (gOf block) = block)):=rfl
 have hgen:(block.getD 2 0).toNat ≤ 255:=by have:=UInt8.toNat_lt (block.getD 2 0);omega
 have hUk:unkeyN master block = xorL (aesN (sealK master) (block.drop 20) true) ((block.drop 4).take 16):=rfl
 show Calls Tryz.prog 104 _ w fun e w' =>
     ((∃ g,e = .returned (.tuple #[.agg #[.int .i64 (((block.getD 1 0).toNat:Nat):Int),.int .i64 (((block.getD 2 0).toNat:Nat):Int),.slice (some ⟨g,0,none⟩) 16 16],.nilIface]) ∧ w.heap.size < g ∧ Blk w' g 88 ((unkeyN master block).map byte) ∧ tagOK master block = true) ∨
      (e = .returned (.tuple #[.agg zeroKI.toArray,.iface T1 x1]) ∧ tagOK master block = false)) ∧ Below w.heap.size w w'
 change (wrapN master (unkeyN master block) (block.getD 1 0).toNat (block.getD 2 0).toNat).length = 36 at hWl
 change Hid (tagOK master block = decide (wrapN master (unkeyN master block) (block.getD 1 0).toNat (block.getD 2 0).toNat = block)) at HTG
 obtain ⟨y0,hy0⟩:∃ y,y = (block.getD 0 0).toNat:=⟨_,rfl⟩
 obtain ⟨y1,hy1⟩:∃ y,y = (block.getD 1 0).toNat:=⟨_,rfl⟩
 obtain ⟨y2,hy2⟩:∃ y,y = (block.getD 2 0).toNat:=⟨_,rfl⟩
 obtain ⟨y3,hy3⟩:∃ y,y = (block.getD 3 0).toNat:=⟨_,rfl⟩
 rw [← hy0] at r0 HHd
 rw [← hy1] at r1 HHd HUse hWl HTG ⊢
 rw [← hy2] at r2 hgen hWl HTG ⊢
 rw [← hy3] at r3 HHd
 clear hy0 hy1 hy2 hy3 hh rcell
 have q0:y0 = 75:=HHd.out.1
 have q3:y3 = 16:=HHd.out.2.1
 have q1:=HHd.out.2.2.1
 have q2:=HHd.out.2.2.2
 have q0b:((y0:Int) != 75) = false:=by rw [bne_eq_false_iff_eq];omega
 have q3b:((y3:Int) != 16) = false:=by rw [bne_eq_false_iff_eq];omega
 rw [show (decide (1 ≤ (y1:Int)) && decide ((y1:Int) ≤ 3)) = true from by simp;omega] at HUse
 clear q0 q3
 obtain ⟨E,hE⟩:∃ E,E = sealK master:=⟨_,rfl⟩
 rw [← hE] at HSeal hEl hUk
 obtain ⟨D,hD⟩:∃ D,D = block.drop 20:=⟨_,rfl⟩
 obtain ⟨E4,hE4⟩:∃ D,D = (block.drop 4).take 16:=⟨_,rfl⟩
 rw [← hD] at hDl rD hUk
 rw [← hE4] at hE4l rE4 hUk
 have HE:=hide (fun (S1 S2 S3 S4:Nat) (wx:World) (h:Tabs wx S1 S2 S3 S4)=>aes_run E D true S1 S2 S3 S4 wx hEl hDl h.t1 h.t2 h.t3 h.t4)
 have hMl:=aesN_length E D true hEl
 obtain ⟨M,hM⟩:∃ M,M = aesN E D true:=⟨_,rfl⟩
 rw [← hM] at HE hMl hUk
 replace HE:Hid (∀ S1 S2 S3 S4 wx,Tabs wx S1 S2 S3 S4 → Calls Tryz.prog 156 #[.agg (aesCells ((keysUpto E 11).map byte) S1 S2 S3 S4).toArray,.agg (D.map byte).toArray] wx fun e w'=>e = .returned (.agg (M.map byte).toArray) ∧ Below wx.heap.size wx w'):=HE
 have HX:=hide (fun (g c:Nat) (wx:World) (h:Blk wx g 88 (M.map byte ++ E4.map byte))=>xor16_two M E4 g c 88 wx hMl hE4l h)
 have hXl:(xorL M E4).length = 16:=by rw [xorL_length _ _ (by omega),hMl]
 rw [← hUk] at HX hXl
 obtain ⟨X,hX⟩:∃ X,X = unkeyN master block:=⟨_,rfl⟩
 rw [← hX] at HX hXl hWl HTG ⊢
 have HWr:=hide (fun (yb:Nat) (wx:World) (h1:wx.rangeAt kb ko (master.map byte)) (h2:wx.rangeAt yb 0 (X.map byte))=>wrap_some master X y1 y2 kb ko ck yb 0 16 wx hm hXl q1 q2 hgen h1 h2)
 obtain ⟨WN,hWN⟩:∃ x,x = wrapN master X y1 y2:=⟨_,rfl⟩
 rw [← hWN] at HWr hWl HTG
 have hDm:(D.map byte).length = 16:=by rw [List.length_map,hDl]
 have hE4m:(E4.map byte).length = 16:=by rw [List.length_map,hE4l]
 have hMm:(M.map byte).length = 16:=by rw [List.length_map,hMl]
 have hXm:(X.map byte).length = 16:=by rw [List.length_map,hXl]
 have HRB:Hid (w.rangeAt bb bo (block.map byte)):=rb
 clear hE hD hE4 hM hX hWN hUk HHd
 obtain ⟨W,hW⟩:∃ W,W = w.alloc (.cells zeroKI.toArray 55):=⟨_,rfl⟩
 have kW:Blk W w.heap.size 55 zeroKI:=by rw [hW];exact Blk.new w _ _
 have bW:Below w.heap.size w W:=by rw [hW];exact below_new _ _
 have lW:=kW.lt
 have HK:Hid (∀ {x},Below W.heap.size W x → Blk x w.heap.size 55 zeroKI ∧ x.cell? ⟨1,0,none⟩ = some (.iface T1 x1) ∧ x.rangeAt kb ko (master.map byte) ∧ x.rangeAt bb bo (block.map byte) ∧ x.rangeAt bb (bo + 20) (D.map byte) ∧ x.rangeAt bb (bo + 4) (E4.map byte) ∧ (x.cell? ⟨bb,bo + 1,none⟩ = some (.int .u8 (y1:Int)) ∧ x.cell? ⟨bb,bo + 2,none⟩ = some (.int .u8 (y2:Int))) ∧ Below w.heap.size w x):=by
   intro x hx
   have hb:Below w.heap.size w x:=bW.trans (hx.mono bW.size)
   have lb:bb < w.heap.size:=World.block_lt_of_cell? w _ r1
   exact ⟨kW.below hx kW.lt,(hb.cell (p:=⟨1,0,none⟩) hg0).trans hg,range_below rk hb,range_below HRB.out hb,range_below rD hb,range_below rE4 hb,⟨(hb.cell (p:=⟨bb,bo + 1,none⟩) lb).trans r1,(hb.cell (p:=⟨bb,bo + 2,none⟩) lb).trans r2⟩,hb⟩
 have lb0:bb < w.heap.size:=World.block_lt_of_cell? w _ r1
 have c0:=(bW.cell (p:=⟨bb,bo,none⟩) lb0).trans r0
 have c1:=(bW.cell (p:=⟨bb,bo + 1,none⟩) lb0).trans r1
 have c3:=(bW.cell (p:=⟨bb,bo + 3,none⟩) lb0).trans r3
 rw [hW] at c0 c1 c3
 have HW:=hide hW
 have bWW:Below W.heap.size W W:=Below.refl _ _
 clear hW r0 r1 r2 r3 rD rE4 rk rb hg kW bW
 have hwy1:IntKind.i64.wrap (y1:Int) = (y1:Int):=by rw [IntKind.wrap_i64];omega
 have hwy2:IntKind.i64.wrap (y2:Int) = (y2:Int):=by rw [IntKind.wrap_i64];omega
 have hc20:(20:Int) ≤ (cb:Int):=by omega
 have hc36:(36:Int) ≤ (cb:Int):=by omega
 have hn20:¬ cb = 20:=by omega
 have hn4:¬ cb = 4:=by omega
 have har:=fun (wx:World)=>run_arrayAt (P:=Tryz.prog) (w:=wx) 88 5 16 (some ⟨bb,bo + 20,none⟩) 16 (cb - 20) Tryz.underlying88 (Nat.le_refl _)
 have har4:=fun (wx:World)=>run_arrayAt (P:=Tryz.prog) (w:=wx) 88 5 16 (some ⟨bb,bo + 4,none⟩) 16 (cb - 4) Tryz.underlying88 (Nat.le_refl _)
 go_enter Tryz.func104,Tryz.ntmps104
 go_wp2_with (go_at_call 30;rw [← show W = _ from HW];refine (HUse.out _).mono ?_;rintro e wu ⟨rfl,hwu⟩;subst wu)
 clear c0 c1 c3 HW HUse
 go_cut [6] (fun p wx=>∃ G,p = .pointer (some ⟨G,0,none⟩) ∧ w.heap.size < G ∧ Blk wx G 88 (M.map byte) ∧ Below W.heap.size W wx)
 case first =>
   obtain ⟨V,hV⟩:∃ V,V = World.drew W:=⟨_,rfl⟩
   have b_0:Below W.heap.size W V:=by rw [hV];exact bWW.drew
   have keep:Hid (∀ {x},Below W.heap.size W x → x.rangeAt bb (bo + 20) (D.map byte)):=fun h=>(HK.out h).2.2.2.2.1
   have hWV:=b_0.size
   refine wp_region_held_drew (S:=fun x=>x.rangeAt bb (bo + 20) (D.map byte)) (by kernel_rfl) (by rw [← hV];exact keep.out b_0) (fun hHeld=>?_)
   rw [← hV] at hHeld ⊢
   clear hV
   refine tkA (i:=0) (v:=(.slice (some ⟨kb,ko,none⟩) 16 ck)) rfl hHeld ?_
   try dsimp only [Act.put]
   refine tkA (i:=2) (v:=(.slice (some ⟨bb,bo,none⟩) 36 cb)) rfl hHeld ?_
   dsimp only [Act.put,List.getElem_toArray,List.getElem_cons_zero,List.getElem_cons_succ]
   simp only [List.setIfInBounds_toArray,List.set_cons_succ,List.set_cons_zero]
   refine tkA (i:=3) (v:=(.slice (some ⟨bb,bo + 20,none⟩) 16 (cb - 20))) rfl hHeld ?_
   try dsimp only [Act.put]
   refine tkA (i:=4) (v:=(.pointer (some ⟨bb,bo + 20,none⟩))) rfl hHeld ?_
   dsimp only [Act.put,List.getElem_toArray,List.getElem_cons_zero,List.getElem_cons_succ]
   simp only [List.setIfInBounds_toArray,List.set_cons_succ,List.set_cons_zero]
   refine tk (i:=5) (v:=(.agg (D.map byte).toArray)) rfl (yieldsIf_load_mid (by rfl) 88 _ rfl bb (bo + 20) rfl (D.map byte) _ (fun _ h=>h) Tryz.underlying88 rfl (by rw [hDm];kernel_rfl)) hHeld ?_
   try dsimp only [Act.put]
   refine wpAnyH_ready (rs:=[1,7]) (by kernel_rfl) (by simp) ?_
   refine AllReadyH.cons rfl (fun K hK=>?_) (AllReadyH.cons rfl (fun K hK=>?_) (AllReadyH.nil))
   · go_simp
     refine (HSeal.out _ (HK.out b_0).2.2.1).mono ?_
     rintro e w_1 ⟨S1_1,S2_1,S3_1,S4_1,rfl,tb_1,bel_1⟩
     have b_1:=below_step b_0 bel_1
     go_wp2_with fail
     refine hK.out _ _ (keep.out b_1) (fun hHeld=>?_)
     clear hK K
     try dsimp only [Act.put]
     refine wpAnyH_ready (rs:=[6,7]) (by kernel_rfl) (by simp) ?_
     refine AllReadyH.cons rfl (fun K hK=>?_) (AllReadyH.cons rfl (fun K hK=>?_) (AllReadyH.nil))
     · go_simp
       refine (HE.out _ _ _ _ _ tb_1).mono ?_
       rintro e w_2 ⟨rfl,bel_2⟩
       have tbb_2:=tb_1.below bel_2
       have b_2:=below_step b_1 bel_2
       go_wp2_with fail
       refine hK.out _ _ (keep.out b_2) (fun hHeld=>?_)
       clear hK K
       try dsimp only [Act.put]
       refine rdy1 7 (fun K hK=>?_)
       go_simp
       obtain ⟨w_3,hw_3⟩:∃ x,x = World.alloc w_2 (.cells (zerosOf 16 .u8).toArray 88):=⟨_,rfl⟩
       have bel_3:Below w_2.heap.size w_2 w_3:=by rw [hw_3];exact below_new _ _
       have G_3:Blk w_3 w_2.heap.size 88 (zerosOf 16 .u8):=by rw [hw_3];exact Blk.new _ _ _
       have le_G_3:=b_2.size
       have lt_G_3:=G_3.lt
       have tbb_3:=tbb_2.below bel_3
       have b_3:=below_step b_2 bel_3
       rw [← hw_3]
       clear hw_3
       refine hK.out _ _ (keep.out b_3) (fun hHeld=>?_)
       clear hK K
       try dsimp only [Act.put]
       refine rdy1 8 (fun K hK=>?_)
       rw [if_pos (by rfl)]
       refine wp_store_blk rfl 88 _ _ rfl w_2.heap.size rfl rfl G_3 (by rw [hMm];kernel_rfl) (by rw [hMm];exact zerosOf_length _ _) (allOne_bytes _) ?_
       have G_4:=Blk.setRow G_3 (M.map byte)
       have b_4:=below_setRow' (g:=w_2.heap.size) b_3 le_G_3 (M.map byte).toArray
       refine hK.out _ _ (keep.out b_4) (fun hHeld=>?_)
       clear hK K
       try dsimp only [Act.put]
       refine wpAnyH_done (by kernel_rfl) ?_ _
       go_wp2_with fail
       go_meet
       case rel=>exact ⟨_,rfl,by omega,G_4,b_4⟩
     · go_simp
       obtain ⟨w_5,hw_5⟩:∃ x,x = World.alloc w_1 (.cells (zerosOf 16 .u8).toArray 88):=⟨_,rfl⟩
       have bel_5:Below w_1.heap.size w_1 w_5:=by rw [hw_5];exact below_new _ _
       have G_5:Blk w_5 w_1.heap.size 88 (zerosOf 16 .u8):=by rw [hw_5];exact Blk.new _ _ _
       have le_G_5:=b_1.size
       have lt_G_5:=G_5.lt
       have tbb_5:=tb_1.below bel_5
       have b_5:=below_step b_1 bel_5
       rw [← hw_5]
       clear hw_5
       refine hK.out _ _ (keep.out b_5) (fun hHeld=>?_)
       clear hK K
       try dsimp only [Act.put]
       refine rdy1 6 (fun K hK=>?_)
       go_simp
       refine (HE.out _ _ _ _ _ tbb_5).mono ?_
       rintro e w_6 ⟨rfl,bel_6⟩
       have tbb_6:=tbb_5.below bel_6
       have G_6:=G_5.below bel_6 G_5.lt
       have b_6:=below_step b_5 bel_6
       go_wp2_with fail
       refine hK.out _ _ (keep.out b_6) (fun hHeld=>?_)
       clear hK K
       try dsimp only [Act.put]
       refine rdy1 8 (fun K hK=>?_)
       rw [if_pos (by rfl)]
       refine wp_store_blk rfl 88 _ _ rfl w_1.heap.size rfl rfl G_6 (by rw [hMm];kernel_rfl) (by rw [hMm];exact zerosOf_length _ _) (allOne_bytes _) ?_
       have G_7:=Blk.setRow G_6 (M.map byte)
       have b_7:=below_setRow' (g:=w_1.heap.size) b_6 le_G_5 (M.map byte).toArray
       refine hK.out _ _ (keep.out b_7) (fun hHeld=>?_)
       clear hK K
       try dsimp only [Act.put]
       refine wpAnyH_done (by kernel_rfl) ?_ _
       go_wp2_with fail
       go_meet
       case rel=>exact ⟨_,rfl,by omega,G_7,b_7⟩
   · go_simp
     obtain ⟨w_8,hw_8⟩:∃ x,x = World.alloc V (.cells (zerosOf 16 .u8).toArray 88):=⟨_,rfl⟩
     have bel_8:Below V.heap.size V w_8:=by rw [hw_8];exact below_new _ _
     have G_8:Blk w_8 V.heap.size 88 (zerosOf 16 .u8):=by rw [hw_8];exact Blk.new _ _ _
     have le_G_8:=b_0.size
     have lt_G_8:=G_8.lt
     have b_8:=below_step b_0 bel_8
     rw [← hw_8]
     clear hw_8
     refine hK.out _ _ (keep.out b_8) (fun hHeld=>?_)
     clear hK K
     try dsimp only [Act.put]
     refine rdy1 1 (fun K hK=>?_)
     go_simp
     refine (HSeal.out _ (HK.out b_8).2.2.1).mono ?_
     rintro e w_9 ⟨S1_9,S2_9,S3_9,S4_9,rfl,tb_9,bel_9⟩
     have G_9:=G_8.below bel_9 G_8.lt
     have b_9:=below_step b_8 bel_9
     go_wp2_with fail
     refine hK.out _ _ (keep.out b_9) (fun hHeld=>?_)
     clear hK K
     try dsimp only [Act.put]
     refine rdy1 6 (fun K hK=>?_)
     go_simp
     refine (HE.out _ _ _ _ _ tb_9).mono ?_
     rintro e w_10 ⟨rfl,bel_10⟩
     have tbb_10:=tb_9.below bel_10
     have G_10:=G_9.below bel_10 G_9.lt
     have b_10:=below_step b_9 bel_10
     go_wp2_with fail
     refine hK.out _ _ (keep.out b_10) (fun hHeld=>?_)
     clear hK K
     try dsimp only [Act.put]
     refine rdy1 8 (fun K hK=>?_)
     rw [if_pos (by rfl)]
     refine wp_store_blk rfl 88 _ _ rfl V.heap.size rfl rfl G_10 (by rw [hMm];kernel_rfl) (by rw [hMm];exact zerosOf_length _ _) (allOne_bytes _) ?_
     have G_11:=Blk.setRow G_10 (M.map byte)
     have b_11:=below_setRow' (g:=V.heap.size) b_10 le_G_8 (M.map byte).toArray
     refine hK.out _ _ (keep.out b_11) (fun hHeld=>?_)
     clear hK K
     try dsimp only [Act.put]
     refine wpAnyH_done (by kernel_rfl) ?_ _
     go_wp2_with fail
     go_meet
     case rel=>exact ⟨_,rfl,by omega,G_11,b_11⟩
 case rest =>
   obtain ⟨GM,rfl,lGM,kM,bc⟩:=hcut
   go_wp2_with fail
   go_cut [7] (fun p wx=>∃ G,p = .pointer (some ⟨G,0,none⟩) ∧ w.heap.size < G ∧ Blk wx G 88 (X.map byte) ∧ Below W.heap.size W wx)
   case first =>
     obtain ⟨V,hV⟩:∃ V,V = World.drew wc:=⟨_,rfl⟩
     have b_0:Below W.heap.size W V:=by rw [hV];exact bc.drew
     have kMV:Blk V GM 88 (M.map byte):=by rw [hV];exact kM.drew1
     have hWV:=b_0.size
     have bVV:Below V.heap.size V V:=Below.refl _ _
     have keep:Hid (∀ {x},Below V.heap.size V x → x.rangeAt GM 0 (M.map byte) ∧ x.rangeAt bb (bo + 4) (E4.map byte)):=fun h=>⟨blk_whole (kMV.below h kMV.lt),(HK.out (b_0.trans (h.mono hWV))).2.2.2.2.2.1⟩
     refine wp_region_held_drew (S:=fun x=>x.rangeAt GM 0 (M.map byte) ∧ x.rangeAt bb (bo + 4) (E4.map byte)) (by kernel_rfl) (by rw [← hV];exact keep.out bVV) (fun hHeld=>?_)
     rw [← hV] at hHeld ⊢
     clear hV kM bc
     refine tk (i:=0) (v:=(.agg (M.map byte).toArray)) rfl (yieldsIf_load_mid (by rfl) 88 _ rfl GM 0 rfl (M.map byte) _ (fun _ h=>h.1) Tryz.underlying88 rfl (by rw [hMm];kernel_rfl)) hHeld ?_
     dsimp only [Act.put,List.getElem_toArray,List.getElem_cons_zero,List.getElem_cons_succ]
     simp only [List.setIfInBounds_toArray,List.set_cons_succ,List.set_cons_zero]
     refine tkA (i:=1) (v:=(.slice (some ⟨bb,bo,none⟩) 36 cb)) rfl hHeld ?_
     try dsimp only [Act.put]
     refine tkA (i:=2) (v:=(.slice (some ⟨bb,bo + 4,none⟩) 16 (cb - 4))) rfl hHeld ?_
     dsimp only [Act.put,List.getElem_toArray,List.getElem_cons_zero,List.getElem_cons_succ]
     simp only [List.setIfInBounds_toArray,List.set_cons_succ,List.set_cons_zero]
     refine tkA (i:=3) (v:=(.pointer (some ⟨bb,bo + 4,none⟩))) rfl hHeld ?_
     try dsimp only [Act.put]
     refine tk (i:=4) (v:=(.agg (E4.map byte).toArray)) rfl (yieldsIf_load_mid (by rfl) 88 _ rfl bb (bo + 4) rfl (E4.map byte) _ (fun _ h=>h.2) Tryz.underlying88 rfl (by rw [hE4m];kernel_rfl)) hHeld ?_
     dsimp only [Act.put,List.getElem_toArray,List.getElem_cons_zero,List.getElem_cons_succ]
     simp only [List.setIfInBounds_toArray,List.set_cons_succ,List.set_cons_zero]
     refine wpAnyH_ready (rs:=[5,7]) (by kernel_rfl) (by simp) ?_
     refine AllReadyH.cons rfl (fun K hK=>?_) (AllReadyH.cons rfl (fun K hK=>?_) (AllReadyH.nil))
     · rw [if_pos (by rfl)]
       refine wp_build2 (some 51) rfl 148 _ _ rfl 88 16 _ (M.map byte) (E4.map byte) rfl rfl Tryz.underlying148 Tryz.zero88 hMm hE4m (by omega) (by omega) ?_
       try dsimp only [Act.put]
       obtain ⟨w_1,hw_1⟩:∃ x,x = World.alloc V (.cells (M.map byte ++ E4.map byte).toArray 88):=⟨_,rfl⟩
       have bel_1:Below V.heap.size V w_1:=by rw [hw_1];exact below_new _ _
       have bs_1:Blk w_1 V.heap.size 88 (M.map byte ++ E4.map byte):=by rw [hw_1];exact Blk.new _ _ _
       have le_bs_1:=bVV.size
       have lt_bs_1:=bs_1.lt
       have b_1:=below_step bVV bel_1
       rw [← hw_1]
       clear hw_1
       refine hK.out _ _ (keep.out b_1) (fun hHeld=>?_)
       clear hK K
       try dsimp only [Act.put]
       refine wpAnyH_ready (rs:=[6,7]) (by kernel_rfl) (by simp) ?_
       refine AllReadyH.cons rfl (fun K hK=>?_) (AllReadyH.cons rfl (fun K hK=>?_) (AllReadyH.nil))
       · go_simp
         refine (HX.out V.heap.size 2 _ bs_1).mono ?_
         rintro e w_2 ⟨rfl,bel_2⟩
         have bs_2:=bs_1.below bel_2 bs_1.lt
         have b_2:=below_step b_1 bel_2
         go_wp2_with fail
         refine hK.out _ _ (keep.out b_2) (fun hHeld=>?_)
         clear hK K
         try dsimp only [Act.put]
         refine rdy1 7 (fun K hK=>?_)
         go_simp
         obtain ⟨w_3,hw_3⟩:∃ x,x = World.alloc w_2 (.cells (zerosOf 16 .u8).toArray 88):=⟨_,rfl⟩
         have bel_3:Below w_2.heap.size w_2 w_3:=by rw [hw_3];exact below_new _ _
         have G_3:Blk w_3 w_2.heap.size 88 (zerosOf 16 .u8):=by rw [hw_3];exact Blk.new _ _ _
         have le_G_3:=b_2.size
         have lt_G_3:=G_3.lt
         have bs_3:=bs_2.below bel_3 bs_2.lt
         have b_3:=below_step b_2 bel_3
         rw [← hw_3]
         clear hw_3
         refine hK.out _ _ (keep.out b_3) (fun hHeld=>?_)
         clear hK K
         try dsimp only [Act.put]
         refine rdy1 8 (fun K hK=>?_)
         rw [if_pos (by rfl)]
         refine wp_store_blk rfl 88 _ _ rfl w_2.heap.size rfl rfl G_3 (by rw [hXm];kernel_rfl) (by rw [hXm];exact zerosOf_length _ _) (allOne_bytes _) ?_
         have G_4:=Blk.setRow G_3 (X.map byte)
         have b_4:=below_setRow' (g:=w_2.heap.size) b_3 le_G_3 (X.map byte).toArray
         refine hK.out _ _ (keep.out b_4) (fun hHeld=>?_)
         clear hK K
         try dsimp only [Act.put]
         refine wpAnyH_done (by kernel_rfl) ?_ _
         go_wp2_with fail
         go_meet
         case rel=>exact ⟨_,rfl,by omega,G_4,b_0.trans (b_4.mono hWV)⟩
       · go_simp
         obtain ⟨w_5,hw_5⟩:∃ x,x = World.alloc w_1 (.cells (zerosOf 16 .u8).toArray 88):=⟨_,rfl⟩
         have bel_5:Below w_1.heap.size w_1 w_5:=by rw [hw_5];exact below_new _ _
         have G_5:Blk w_5 w_1.heap.size 88 (zerosOf 16 .u8):=by rw [hw_5];exact Blk.new _ _ _
         have le_G_5:=b_1.size
         have lt_G_5:=G_5.lt
         have bs_5:=bs_1.below bel_5 bs_1.lt
         have b_5:=below_step b_1 bel_5
         rw [← hw_5]
         clear hw_5
         refine hK.out _ _ (keep.out b_5) (fun hHeld=>?_)
         clear hK K
         try dsimp only [Act.put]
         refine rdy1 6 (fun K hK=>?_)
         go_simp
         refine (HX.out V.heap.size 2 _ bs_5).mono ?_
         rintro e w_6 ⟨rfl,bel_6⟩
         have bs_6:=bs_5.below bel_6 bs_5.lt
         have G_6:=G_5.below bel_6 G_5.lt
         have b_6:=below_step b_5 bel_6
         go_wp2_with fail
         refine hK.out _ _ (keep.out b_6) (fun hHeld=>?_)
         clear hK K
         try dsimp only [Act.put]
         refine rdy1 8 (fun K hK=>?_)
         rw [if_pos (by rfl)]
         refine wp_store_blk rfl 88 _ _ rfl w_1.heap.size rfl rfl G_6 (by rw [hXm];kernel_rfl) (by rw [hXm];exact zerosOf_length _ _) (allOne_bytes _) ?_
         have G_7:=Blk.setRow G_6 (X.map byte)
         have b_7:=below_setRow' (g:=w_1.heap.size) b_6 le_G_5 (X.map byte).toArray
         refine hK.out _ _ (keep.out b_7) (fun hHeld=>?_)
         clear hK K
         try dsimp only [Act.put]
         refine wpAnyH_done (by kernel_rfl) ?_ _
         go_wp2_with fail
         go_meet
         case rel=>exact ⟨_,rfl,by omega,G_7,b_0.trans (b_7.mono hWV)⟩
     · go_simp
       obtain ⟨w_8,hw_8⟩:∃ x,x = World.alloc V (.cells (zerosOf 16 .u8).toArray 88):=⟨_,rfl⟩
       have bel_8:Below V.heap.size V w_8:=by rw [hw_8];exact below_new _ _
       have G_8:Blk w_8 V.heap.size 88 (zerosOf 16 .u8):=by rw [hw_8];exact Blk.new _ _ _
       have le_G_8:=bVV.size
       have lt_G_8:=G_8.lt
       have b_8:=below_step bVV bel_8
       rw [← hw_8]
       clear hw_8
       refine hK.out _ _ (keep.out b_8) (fun hHeld=>?_)
       clear hK K
       try dsimp only [Act.put]
       refine rdy1 5 (fun K hK=>?_)
       rw [if_pos (by rfl)]
       refine wp_build2 (some 51) rfl 148 _ _ rfl 88 16 _ (M.map byte) (E4.map byte) rfl rfl Tryz.underlying148 Tryz.zero88 hMm hE4m (by omega) (by omega) ?_
       try dsimp only [Act.put]
       obtain ⟨w_9,hw_9⟩:∃ x,x = World.alloc w_8 (.cells (M.map byte ++ E4.map byte).toArray 88):=⟨_,rfl⟩
       have bel_9:Below w_8.heap.size w_8 w_9:=by rw [hw_9];exact below_new _ _
       have bs_9:Blk w_9 w_8.heap.size 88 (M.map byte ++ E4.map byte):=by rw [hw_9];exact Blk.new _ _ _
       have le_bs_9:=b_8.size
       have lt_bs_9:=bs_9.lt
       have G_9:=G_8.below bel_9 G_8.lt
       have b_9:=below_step b_8 bel_9
       rw [← hw_9]
       clear hw_9
       refine hK.out _ _ (keep.out b_9) (fun hHeld=>?_)
       clear hK K
       try dsimp only [Act.put]
       refine rdy1 6 (fun K hK=>?_)
       go_simp
       refine (HX.out w_8.heap.size 2 _ bs_9).mono ?_
       rintro e w_10 ⟨rfl,bel_10⟩
       have G_10:=G_9.below bel_10 G_9.lt
       have bs_10:=bs_9.below bel_10 bs_9.lt
       have b_10:=below_step b_9 bel_10
       go_wp2_with fail
       refine hK.out _ _ (keep.out b_10) (fun hHeld=>?_)
       clear hK K
       try dsimp only [Act.put]
       refine rdy1 8 (fun K hK=>?_)
       rw [if_pos (by rfl)]
       refine wp_store_blk rfl 88 _ _ rfl V.heap.size rfl rfl G_10 (by rw [hXm];kernel_rfl) (by rw [hXm];exact zerosOf_length _ _) (allOne_bytes _) ?_
       have G_11:=Blk.setRow G_10 (X.map byte)
       have b_11:=below_setRow' (g:=V.heap.size) b_10 le_G_8 (X.map byte).toArray
       refine hK.out _ _ (keep.out b_11) (fun hHeld=>?_)
       clear hK K
       try dsimp only [Act.put]
       refine wpAnyH_done (by kernel_rfl) ?_ _
       go_wp2_with fail
       go_meet
       case rel=>exact ⟨_,rfl,by omega,G_11,b_0.trans (b_11.mono hWV)⟩
   case rest =>
     clear kM bc
     obtain ⟨GX,rfl,lGX,kX,bc⟩:=hcut
     go_wp2_with fail
     go_cut [8] (fun p wx=>∃ G,p = .pointer (some ⟨G,0,none⟩) ∧ w.heap.size < G ∧ Blk wx G 55 [.int .i64 (y1:Int),.int .i64 (y2:Int),.slice (some ⟨GX,0,none⟩) 16 16] ∧ Blk wx GX 88 (X.map byte) ∧ Below W.heap.size W wx)
     case first =>
       obtain ⟨V,hV⟩:∃ V,V = World.drew wc:=⟨_,rfl⟩
       have b_0:Below W.heap.size W V:=by rw [hV];exact bc.drew
       have kXV:Blk V GX 88 (X.map byte):=by rw [hV];exact kX.drew1
       have hWV:=b_0.size
       have bVV:Below V.heap.size V V:=Below.refl _ _
       have keep:Hid (∀ {x},Below V.heap.size V x → x.cell? ⟨bb,bo + 1,none⟩ = some (.int .u8 (y1:Int)) ∧ x.cell? ⟨bb,bo + 2,none⟩ = some (.int .u8 (y2:Int))):=fun h=>(HK.out (b_0.trans (h.mono hWV))).2.2.2.2.2.2.1
       refine wp_region_held_drew (S:=fun x=>x.cell? ⟨bb,bo + 1,none⟩ = some (.int .u8 (y1:Int)) ∧ x.cell? ⟨bb,bo + 2,none⟩ = some (.int .u8 (y2:Int))) (by kernel_rfl) (by rw [← hV];exact keep.out bVV) (fun hHeld=>?_)
       rw [← hV] at hHeld ⊢
       clear hV kX bc
       refine tkA (i:=0) (v:=(.slice (some ⟨bb,bo,none⟩) 36 cb)) rfl hHeld ?_
       try dsimp only [Act.put]
       refine tkA (i:=1) (v:=(.pointer (some ⟨bb,bo + 1,none⟩))) rfl hHeld ?_
       dsimp only [Act.put,List.getElem_toArray,List.getElem_cons_zero,List.getElem_cons_succ]
       simp only [List.setIfInBounds_toArray,List.set_cons_succ,List.set_cons_zero]
       refine tk (i:=2) (v:=(.int .u8 (y1:Int))) rfl (Or.inl ⟨by rfl,fun w1 h=>by have hc:=h.1;go_simp⟩) hHeld ?_
       try dsimp only [Act.put]
       refine tkA (i:=3) (v:=(.int .i64 (y1:Int))) rfl hHeld ?_
       dsimp only [Act.put,List.getElem_toArray,List.getElem_cons_zero,List.getElem_cons_succ]
       simp only [List.setIfInBounds_toArray,List.set_cons_succ,List.set_cons_zero]
       refine tkA (i:=4) (v:=(.slice (some ⟨bb,bo,none⟩) 36 cb)) rfl hHeld ?_
       try dsimp only [Act.put]
       refine tkA (i:=5) (v:=(.pointer (some ⟨bb,bo + 2,none⟩))) rfl hHeld ?_
       dsimp only [Act.put,List.getElem_toArray,List.getElem_cons_zero,List.getElem_cons_succ]
       simp only [List.setIfInBounds_toArray,List.set_cons_succ,List.set_cons_zero]
       refine tk (i:=6) (v:=(.int .u8 (y2:Int))) rfl (Or.inl ⟨by rfl,fun w1 h=>by have hc:=h.2;go_simp⟩) hHeld ?_
       try dsimp only [Act.put]
       refine tkA (i:=7) (v:=(.int .i64 (y2:Int))) rfl hHeld ?_
       dsimp only [Act.put,List.getElem_toArray,List.getElem_cons_zero,List.getElem_cons_succ]
       simp only [List.setIfInBounds_toArray,List.set_cons_succ,List.set_cons_zero]
       refine tkA (i:=8) (v:=(.slice (some ⟨GX,0,none⟩) 16 16)) rfl hHeld ?_
       try dsimp only [Act.put]
       refine tk (i:=9) (v:=(.agg ([.int .i64 (y1:Int),.int .i64 (y2:Int),.slice (some ⟨GX,0,none⟩) 16 16]:List Value).toArray)) rfl (Or.inl ⟨by rfl,fun w1 h=>by go_simp⟩) hHeld ?_
       dsimp only [Act.put,List.getElem_toArray,List.getElem_cons_zero,List.getElem_cons_succ]
       simp only [List.setIfInBounds_toArray,List.set_cons_succ,List.set_cons_zero]
       refine rdy1 10 (fun K hK=>?_)
       go_simp
       obtain ⟨w_1,hw_1⟩:∃ x,x = World.alloc V (.cells (zeroKI).toArray 55):=⟨_,rfl⟩
       have bel_1:Below V.heap.size V w_1:=by rw [hw_1];exact below_new _ _
       have G_1:Blk w_1 V.heap.size 55 (zeroKI):=by rw [hw_1];exact Blk.new _ _ _
       have le_G_1:=bVV.size
       have lt_G_1:=G_1.lt
       have b_1:=below_step bVV bel_1
       rw [← hw_1]
       clear hw_1
       refine hK.out _ _ (keep.out b_1) (fun hHeld=>?_)
       clear hK K
       try dsimp only [Act.put]
       refine rdy1 11 (fun K hK=>?_)
       rw [if_pos (by rfl)]
       refine wp_store_blk rfl 55 _ _ rfl V.heap.size rfl rfl G_1 (by kernel_rfl) rfl (by kernel_rfl) ?_
       have G_2:=Blk.setRow G_1 ([.int .i64 (y1:Int),.int .i64 (y2:Int),.slice (some ⟨GX,0,none⟩) 16 16])
       have b_2:=below_setRow' (g:=V.heap.size) b_1 le_G_1 ([.int .i64 (y1:Int),.int .i64 (y2:Int),.slice (some ⟨GX,0,none⟩) 16 16]).toArray
       refine hK.out _ _ (keep.out b_2) (fun hHeld=>?_)
       clear hK K
       try dsimp only [Act.put]
       refine wpAnyH_done (by kernel_rfl) ?_ _
       go_wp2_with fail
       go_meet
       case rel=>exact ⟨_,rfl,by omega,G_2,(kXV.below b_2 kXV.lt),b_0.trans (b_2.mono hWV)⟩
     case rest =>
       clear kX bc
       obtain ⟨GK,rfl,lGK,kK,kX,bc⟩:=hcut
       go_wp2_with (refine load_blk rfl 55 _ rfl GK rfl kK Tryz.underlying55 rfl (by kernel_rfl) ?_)
       refine (HWr.out _ _ (HK.out bc).2.2.1 (blk_whole kX)).mono ?_
       rintro e w5 ⟨v5,rfl,own5,bel5⟩
       have b5:=below_step bc bel5
       have k5:=kX.below bel5 kX.lt
       have kK5:=kK.below bel5 kK.lt
       obtain ⟨ao5,c5,rfl,row5,-⟩:=own5.shape
       rw [hWl]
       have hcb5:=bytesEqual_any block WN (some ⟨bb,bo,none⟩) ao5 36 36 cb c5 w5 hbl hWl (rowAt_range (HK.out b5).2.2.2.1) row5
       have HBE:=hide hcb5
       clear own5 bel5 kX kK bc row5 hcb5
       go_wp2_with fail
       refine HBE.out.mono ?_
       rintro e w6 ⟨rfl,hw6⟩
       subst w6
       by_cases heq:block = WN
       · rw [decide_eq_true heq]
         have HTag:Hid (tagOK master block = true):=by show _ = _;rw [HTG.out];exact decide_eq_true heq.symm
         obtain ⟨hk0,-,-,-,-,-,-,hb0⟩:=HK.out b5
         clear heq HBE
         go_wp2_with (first
           | (refine load_blk rfl 55 _ rfl GK rfl kK5 Tryz.underlying55 rfl (by kernel_rfl) ?_)
           | (refine store_blk rfl 55 _ _ rfl w.heap.size rfl rfl hk0 (by kernel_rfl) rfl (by kernel_rfl) ?_;intro w7 hb7 hg7 hs7))
         exact ⟨rfl,_,results_blk_tmp Tryz.results104 _ _ rfl hb7 Tryz.underlying55 rfl (by kernel_rfl),⟨.inl ⟨GX,rfl,lGX,k5.grown hg7 (by simp;omega),HTag.out⟩,hb0.grown hg7 (Nat.le_of_lt hk0.lt) (by intro k hk;cases hk;exact Nat.le_refl _)⟩⟩
       · rw [decide_eq_false heq]
         have HTag:Hid (tagOK master block = false):=by show _ = _;rw [HTG.out];exact decide_eq_false (fun e=>heq e.symm)
         clear heq HBE
         go_wp2_with fail
         obtain ⟨V,hV⟩:∃ V,V = World.drew w5:=⟨_,rfl⟩
         have bV:Below W.heap.size W V:=by rw [hV];exact b5.drew
         obtain ⟨kV,gV,-,-,-,-,-,bwV⟩:=HK.out bV
         have keep9:Hid (∀ {x},Below w.heap.size w x → x.cell? ⟨1,0,none⟩ = some (.iface T1 x1)):=HG1
         refine wp_region_held_drew (S:=fun x=>x.cell? ⟨1,0,none⟩ = some (.iface T1 x1)) (by kernel_rfl) (by rw [← hV];exact gV) (fun hHeld=>?_)
         rw [← hV] at hHeld ⊢
         clear hV
         refine tk (i:=0) (v:=(.agg zeroKI.toArray)) rfl (Or.inl ⟨by rfl,fun w1 h=>by go_simp⟩) hHeld ?_
         try dsimp only [Act.put]
         refine tk (i:=1) (v:=(.iface T1 x1)) rfl (Or.inl ⟨by rfl,fun w1 h=>by have hc:=h;go_simp⟩) hHeld ?_
         dsimp only [Act.put,List.getElem_toArray,List.getElem_cons_zero,List.getElem_cons_succ]
         simp only [List.setIfInBounds_toArray,List.set_cons_succ,List.set_cons_zero]
         refine rdy1 2 (fun K hK=>?_)
         rw [if_pos (by rfl)]
         refine wp_store_blk rfl 55 _ _ rfl w.heap.size rfl rfl kV (by kernel_rfl) rfl (by kernel_rfl) ?_
         have k_1:=Blk.setRow kV zeroKI
         have b_1:=below_setRow' (g:=w.heap.size) bwV (Nat.le_refl _) zeroKI.toArray
         skip
         skip
         refine hK.out _ _ (keep9.out b_1) (fun hHeld=>?_)
         clear hK K
         try dsimp only [Act.put]
         refine rdy1 3 (fun K hK=>?_)
         go_simp
         refine hK.out _ _ (keep9.out b_1) (fun hHeld=>?_)
         clear hK K
         try dsimp only [Act.put]
         refine wpAnyH_done (by kernel_rfl) ?_ _
         go_wp2_with fail
         exact ⟨rfl,_,results_blk_tmp Tryz.results104 _ _ rfl k_1 Tryz.underlying55 rfl (by kernel_rfl),⟨.inr ⟨rfl,HTag.out⟩,b_1⟩⟩
end Go.Proofs.YtbkokcjolanpeaaGreatDoor
