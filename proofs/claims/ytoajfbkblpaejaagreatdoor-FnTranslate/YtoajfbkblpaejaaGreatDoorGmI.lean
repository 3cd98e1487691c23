import Derived.Test.YtoajfbkblpaejaaGreatDoorGmH
import Derived.Test.YtoajfbkblpaejaaGreatDoorGrG
namespace Go.Proofs.YtoajfbkblpaejaaGreatDoor
open Go.RowKit
def dhalfN (key r:List UInt8):List UInt8:=xorL (encN (key.take 8) (xorL r (key.drop 8))) (key.drop 8)
theorem dhalfN_length (key r:List UInt8) (hk:key.length = 16):(dhalfN key r).length = 8:=by
 unfold dhalfN
 rw [xorL_length _ _ (by rw [encN_length,drop8 hk]),encN_length]
set_option maxRecDepth 100000 in
set_option maxHeartbeats 4000000 in
theorem half_any (key r:List UInt8) (S:Nat) (w:World) (hk:key.length = 16) (hr:r.length = 8) (hS:Blk w S 150 mergedCells) :
   Calls Tryz.prog 137 #[.agg (key.map byte).toArray,.agg (r.map byte).toArray,roundF S] w fun e w'=>e = .returned (.agg ((dhalfN key r).map byte).toArray) ∧ Below w.heap.size w w':=by
 have hz:=(zero_of_info Tryz.zero79).1
 have hal:=take8 hk
 have hbl:=drop8 hk
 have hkab:key.map byte = (key.take 8).map byte ++ (key.drop 8).map byte:=by rw [← List.map_append,List.take_append_drop]
 have hzl:=dhalfN_length key r hk
 have HX1:=hide (fun (g:Nat) (wx:World) (h:Blk wx g 79 (r.map byte ++ (key.drop 8).map byte))=>xor8_two r (key.drop 8) g 2 79 wx hr hbl h)
 have HE:=hide (fun (wx:World) (h:Blk wx S 150 mergedCells)=>encrypt_any (key.take 8) (xorL r (key.drop 8)) S wx (by rw [xorL_length _ _ (by rw [hr,hbl]),hr]) h)
 have hyl:=encN_length (key.take 8) (xorL r (key.drop 8))
 have HX2:=hide (fun (g:Nat) (wx:World) (h:Blk wx g 79 ((encN (key.take 8) (xorL r (key.drop 8))).map byte ++ (key.drop 8).map byte))=>xor8_two (encN (key.take 8) (xorL r (key.drop 8))) (key.drop 8) g 2 79 wx hyl hbl h)
 change Hid (∀ (g:Nat) (wx:World),Blk wx g 79 ((encN (key.take 8) (xorL r (key.drop 8))).map byte ++ (key.drop 8).map byte) → Calls Tryz.prog 35 #[.slice (some ⟨g,0,none⟩) 2 2] wx fun e w'=>e = .returned (.agg ((dhalfN key r).map byte).toArray) ∧ Below wx.heap.size wx w') at HX2
 obtain ⟨z,hzE⟩:∃ z,z = dhalfN key r:=⟨_,rfl⟩
 rw [← hzE] at HX2 hzl ⊢
 obtain ⟨y,hyE⟩:∃ y,y = encN (key.take 8) (xorL r (key.drop 8)):=⟨_,rfl⟩
 rw [← hyE] at HX2 HE hyl
 obtain ⟨x,hxE⟩:∃ x,x = xorL r (key.drop 8):=⟨_,rfl⟩
 rw [← hxE] at HX1 HE
 obtain ⟨a,haE⟩:∃ a,a = key.take 8:=⟨_,rfl⟩
 obtain ⟨b,hbE⟩:∃ b,b = key.drop 8:=⟨_,rfl⟩
 rw [← haE] at HE hal hkab
 rw [← hbE] at HX1 HX2 hbl hkab
 rw [hkab]
 clear hzE hyE hxE haE hbE hkab hk
 have ham:(a.map byte).length = 8:=by rw [List.length_map,hal]
 have hbm:(b.map byte).length = 8:=by rw [List.length_map,hbl]
 have hrm:(r.map byte).length = 8:=by rw [List.length_map,hr]
 have hym:(y.map byte).length = 8:=by rw [List.length_map,hyl]
 have hzm:(z.map byte).length = 8:=by rw [List.length_map,hzl]
 obtain ⟨kc,hkc⟩:∃ kc,kc = a.map byte ++ b.map byte:=⟨_,rfl⟩
 have HKC:=hide hkc
 rw [← hkc]
 obtain ⟨W,hW⟩:∃ W,W = ((w.alloc (.cells kc.toArray 67)).alloc (.cells (r.map byte).toArray 79)).alloc (.cells (zerosOf 8 .u8).toArray 79):=⟨_,rfl⟩
 have k0:Blk W w.heap.size 67 kc:=by rw [hW];exact ((Blk.new w _ _).alloc _).alloc _
 have k1:Blk W (w.heap.size + 1) 79 (r.map byte):=by rw [hW];exact (Blk.new2 w _ _ _).alloc _
 have k2:Blk W (w.heap.size + 1 + 1) 79 (zerosOf 8 .u8):=by rw [hW];exact Blk.newAt _ _ _ _ (by simp)
 have kS:Blk W S 150 mergedCells:=by rw [hW];exact ((hS.alloc _).alloc _).alloc _
 have bW:Below w.heap.size w W:=by rw [hW];exact (((Below.refl _ _).alloc (Nat.le_refl _) _).alloc (by simp) _).alloc (by simp;omega) _
 have gW:Hid (W = ((w.alloc (.cells kc.toArray 67)).alloc (.cells (r.map byte).toArray 79)).alloc (.cells (zerosOf 8 .u8).toArray 79)):=hW
 clear hW hkc hS
 have har:=fun (c:Nat) (o:Nat) (wx:World)=>run_arrayAt (P:=Tryz.prog) (w:=wx) 79 5 8 (some ⟨w.heap.size,o,none⟩) 8 c Tryz.underlying79 (Nat.le_refl _)
 unfold roundF
 go_enter Tryz.func137,Tryz.ntmps137
 go_wp2_with fail
 rw [← show W = _ from gW]
 clear gW
 go_cut [7,8] (fun p q wx=>∃ GA GB,p = .pointer (some ⟨GA,0,none⟩) ∧ q = .pointer (some ⟨GB,0,none⟩) ∧ w.heap.size + 2 < GA ∧ w.heap.size + 2 < GB ∧ Blk wx GA 79 (a.map byte) ∧ Blk wx GB 79 (b.map byte) ∧ (Blk wx (w.heap.size + 1) 79 (r.map byte) ∧ Blk wx (w.heap.size + 1 + 1) 79 (zerosOf 8 .u8) ∧ Blk wx S 150 mergedCells) ∧ Below w.heap.size w wx)
 case first =>
   obtain ⟨V,hV⟩:∃ V,V = W.drew:=⟨_,rfl⟩
   replace k0:Blk V w.heap.size 67 kc:=by rw [hV];exact k0.drew1
   replace k1:Blk V (w.heap.size + 1) 79 (r.map byte):=by rw [hV];exact k1.drew1
   replace k2:Blk V (w.heap.size + 1 + 1) 79 (zerosOf 8 .u8):=by rw [hV];exact k2.drew1
   replace kS:Blk V S 150 mergedCells:=by rw [hV];exact kS.drew1
   have bV:Below w.heap.size w V:=by rw [hV];exact bW.drew
   have hwV:=bV.size
   have l2:=k2.lt
   clear bW
   have b_0:Below V.heap.size V V:=Below.refl _ _
   have restV:Hid (∀ {x},Below V.heap.size V x → Blk x (w.heap.size + 1) 79 (r.map byte) ∧ Blk x (w.heap.size + 1 + 1) 79 (zerosOf 8 .u8) ∧ Blk x S 150 mergedCells):=fun h=>⟨k1.below h k1.lt,k2.below h k2.lt,kS.below h kS.lt⟩
   have keep:Hid (∀ {x},Below V.heap.size V x → x.rangeAt w.heap.size 0 (a.map byte) ∧ x.rangeAt w.heap.size 8 (b.map byte)):=fun {x} h=>by
     have hx:Blk x w.heap.size 67 (a.map byte ++ b.map byte):=by rw [← HKC.out];exact k0.below h k0.lt
     exact ⟨blk_first hx,blk_second hx ham⟩
   refine wp_region_held_drew (S:=fun x=>x.rangeAt w.heap.size 0 (a.map byte) ∧ x.rangeAt w.heap.size 8 (b.map byte)) (by kernel_rfl) (by rw [← hV];exact keep.out b_0) (fun hHeld=>?_)
   rw [← hV] at hHeld ⊢
   clear hV k0 k1 k2 kS
   refine tk (i:=0) (v:=(.slice (some ⟨w.heap.size,0,none⟩) 8 16)) rfl (Or.inl ⟨by rfl,?_⟩) hHeld ?_
   · intro _ _;go_simp
   try dsimp only [Act.put]
   refine tk (i:=1) (v:=(.pointer (some ⟨w.heap.size,0,none⟩))) rfl (Or.inl ⟨by rfl,?_⟩) hHeld ?_
   · intro _ _;go_simp
   try dsimp only [Act.put]
   refine tk (i:=2) (v:=(.agg (a.map byte).toArray)) rfl (yieldsIf_load_mid (by rfl) 79 _ rfl w.heap.size 0 rfl (a.map byte) _ (fun _ h=>h.1) Tryz.underlying79 rfl (by rw [ham];kernel_rfl)) hHeld ?_
   try dsimp only [Act.put]
   refine tk (i:=3) (v:=(.slice (some ⟨w.heap.size,8,none⟩) 8 8)) rfl (Or.inl ⟨by rfl,?_⟩) hHeld ?_
   · intro _ _;go_simp
   try dsimp only [Act.put]
   refine tk (i:=4) (v:=(.pointer (some ⟨w.heap.size,8,none⟩))) rfl (Or.inl ⟨by rfl,?_⟩) hHeld ?_
   · intro _ _;go_simp
   try dsimp only [Act.put]
   refine tk (i:=5) (v:=(.agg (b.map byte).toArray)) rfl (yieldsIf_load_mid (by rfl) 79 _ rfl w.heap.size 8 rfl (b.map byte) _ (fun _ h=>h.2) Tryz.underlying79 rfl (by rw [hbm];kernel_rfl)) hHeld ?_
   try dsimp only [Act.put]
   refine wpAnyH_ready (rs:=[6,7]) (by kernel_rfl) (by simp) ?_
   refine AllReadyH.cons rfl (fun K hK=>?_) (AllReadyH.cons rfl (fun K hK=>?_) (AllReadyH.nil))
   · go_simp
     obtain ⟨w_1,hw_1⟩:∃ x,x = World.alloc V (.cells (zerosOf 8 .u8).toArray 79):=⟨_,rfl⟩
     have bel_1:Below V.heap.size V w_1:=by rw [hw_1];exact below_new _ _
     have GA_1:Blk w_1 V.heap.size 79 (zerosOf 8 .u8):=by rw [hw_1];exact Blk.new _ _ _
     have le_GA_1:=b_0.size
     have lt_GA_1:=GA_1.lt
     have b_1:=below_step b_0 bel_1
     rw [← hw_1]
     clear hw_1
     refine hK.out _ _ (keep.out b_1) (fun hHeld=>?_)
     clear hK K
     try dsimp only [Act.put]
     refine rdy1 7 (fun K hK=>?_)
     go_simp
     obtain ⟨w_2,hw_2⟩:∃ x,x = World.alloc w_1 (.cells (zerosOf 8 .u8).toArray 79):=⟨_,rfl⟩
     have bel_2:Below w_1.heap.size w_1 w_2:=by rw [hw_2];exact below_new _ _
     have GB_2:Blk w_2 w_1.heap.size 79 (zerosOf 8 .u8):=by rw [hw_2];exact Blk.new _ _ _
     have le_GB_2:=b_1.size
     have lt_GB_2:=GB_2.lt
     have GA_2:=GA_1.below bel_2 GA_1.lt
     have b_2:=below_step b_1 bel_2
     rw [← hw_2]
     clear hw_2
     refine hK.out _ _ (keep.out b_2) (fun hHeld=>?_)
     clear hK K
     try dsimp only [Act.put]
     refine rdy1 8 (fun K hK=>?_)
     rw [if_pos (by rfl)]
     refine wp_store_blk rfl 79 _ _ rfl V.heap.size rfl rfl GA_2 (by rw [ham];kernel_rfl) (by rw [ham];exact zerosOf_length _ _) (allOne_bytes _) ?_
     have GA_3:=Blk.setRow GA_2 (a.map byte)
     have b_3:=below_setRow' (g:=V.heap.size) b_2 le_GA_1 (a.map byte).toArray
     have GB_3:=Blk.setRow_other (g':=V.heap.size) (cs:=(a.map byte).toArray) GB_2 (by omega)
     refine hK.out _ _ (keep.out b_3) (fun hHeld=>?_)
     clear hK K
     try dsimp only [Act.put]
     refine rdy1 9 (fun K hK=>?_)
     rw [if_pos (by rfl)]
     refine wp_store_blk rfl 79 _ _ rfl w_1.heap.size rfl rfl GB_3 (by rw [hbm];kernel_rfl) (by rw [hbm];exact zerosOf_length _ _) (allOne_bytes _) ?_
     have GB_4:=Blk.setRow GB_3 (b.map byte)
     have b_4:=below_setRow' (g:=w_1.heap.size) b_3 le_GB_2 (b.map byte).toArray
     have GA_4:=Blk.setRow_other (g':=w_1.heap.size) (cs:=(b.map byte).toArray) GA_3 (by omega)
     refine hK.out _ _ (keep.out b_4) (fun hHeld=>?_)
     clear hK K
     try dsimp only [Act.put]
     refine wpAnyH_done (by kernel_rfl) ?_ _
     go_wp2_with fail
     go_meet
     case rel=>exact ⟨_,_,rfl,rfl,by omega,by omega,GA_4,GB_4,restV.out b_4,bV.trans (b_4.mono hwV)⟩
   · go_simp
     obtain ⟨w_5,hw_5⟩:∃ x,x = World.alloc V (.cells (zerosOf 8 .u8).toArray 79):=⟨_,rfl⟩
     have bel_5:Below V.heap.size V w_5:=by rw [hw_5];exact below_new _ _
     have GB_5:Blk w_5 V.heap.size 79 (zerosOf 8 .u8):=by rw [hw_5];exact Blk.new _ _ _
     have le_GB_5:=b_0.size
     have lt_GB_5:=GB_5.lt
     have b_5:=below_step b_0 bel_5
     rw [← hw_5]
     clear hw_5
     refine hK.out _ _ (keep.out b_5) (fun hHeld=>?_)
     clear hK K
     try dsimp only [Act.put]
     refine rdy1 6 (fun K hK=>?_)
     go_simp
     obtain ⟨w_6,hw_6⟩:∃ x,x = World.alloc w_5 (.cells (zerosOf 8 .u8).toArray 79):=⟨_,rfl⟩
     have bel_6:Below w_5.heap.size w_5 w_6:=by rw [hw_6];exact below_new _ _
     have GA_6:Blk w_6 w_5.heap.size 79 (zerosOf 8 .u8):=by rw [hw_6];exact Blk.new _ _ _
     have le_GA_6:=b_5.size
     have lt_GA_6:=GA_6.lt
     have GB_6:=GB_5.below bel_6 GB_5.lt
     have b_6:=below_step b_5 bel_6
     rw [← hw_6]
     clear hw_6
     refine hK.out _ _ (keep.out b_6) (fun hHeld=>?_)
     clear hK K
     try dsimp only [Act.put]
     refine rdy1 8 (fun K hK=>?_)
     rw [if_pos (by rfl)]
     refine wp_store_blk rfl 79 _ _ rfl w_5.heap.size rfl rfl GA_6 (by rw [ham];kernel_rfl) (by rw [ham];exact zerosOf_length _ _) (allOne_bytes _) ?_
     have GA_7:=Blk.setRow GA_6 (a.map byte)
     have b_7:=below_setRow' (g:=w_5.heap.size) b_6 le_GA_6 (a.map byte).toArray
     have GB_7:=Blk.setRow_other (g':=w_5.heap.size) (cs:=(a.map byte).toArray) GB_6 (by omega)
     refine hK.out _ _ (keep.out b_7) (fun hHeld=>?_)
     clear hK K
     try dsimp only [Act.put]
     refine rdy1 9 (fun K hK=>?_)
     rw [if_pos (by rfl)]
     refine wp_store_blk rfl 79 _ _ rfl V.heap.size rfl rfl GB_7 (by rw [hbm];kernel_rfl) (by rw [hbm];exact zerosOf_length _ _) (allOne_bytes _) ?_
     have GB_8:=Blk.setRow GB_7 (b.map byte)
     have b_8:=below_setRow' (g:=V.heap.size) b_7 le_GB_5 (b.map byte).toArray
     have GA_8:=Blk.setRow_other (g':=V.heap.size) (cs:=(b.map byte).toArray) GA_7 (by omega)
     refine hK.out _ _ (keep.out b_8) (fun hHeld=>?_)
     clear hK K
     try dsimp only [Act.put]
     refine wpAnyH_done (by kernel_rfl) ?_ _
     go_wp2_with fail
     go_meet
     case rel=>exact ⟨_,_,rfl,rfl,by omega,by omega,GA_8,GB_8,restV.out b_8,bV.trans (b_8.mono hwV)⟩
 case rest =>
   clear k0 k1 k2 kS bW W har
   obtain ⟨GA,GB,rfl,rfl,hGA,hGB,kA,kB,⟨k1,k2,kS⟩,bW⟩:=hcut
   go_wp2_with fail
   obtain ⟨V,hV⟩:∃ V,V = World.drew wc:=⟨_,rfl⟩
   replace kA:Blk V GA 79 (a.map byte):=by rw [hV];exact kA.drew1
   replace kB:Blk V GB 79 (b.map byte):=by rw [hV];exact kB.drew1
   replace k1:Blk V (w.heap.size + 1) 79 (r.map byte):=by rw [hV];exact k1.drew1
   replace k2:Blk V (w.heap.size + 1 + 1) 79 (zerosOf 8 .u8):=by rw [hV];exact k2.drew1
   replace kS:Blk V S 150 mergedCells:=by rw [hV];exact kS.drew1
   have bV:Below w.heap.size w V:=by rw [hV];exact bW.drew
   have hwV:=bV.size
   have l2:=k2.lt
   clear bW
   have b_0:Below V.heap.size V V:=Below.refl _ _
   have boxes:Hid (∀ {x},Below V.heap.size V x → Blk x S 150 mergedCells):=fun h=>kS.below h kS.lt
   have kR:Hid (∀ {x},Below V.heap.size V x → Blk x (w.heap.size + 1 + 1) 79 (zerosOf 8 .u8)):=fun h=>k2.below h k2.lt
   have keep:Hid (∀ {x},Below V.heap.size V x → x.rangeAt GA 0 (a.map byte) ∧ x.rangeAt GB 0 (b.map byte) ∧ x.rangeAt (w.heap.size + 1) 0 (r.map byte)):=fun h=>⟨blk_whole (kA.below h kA.lt),blk_whole (kB.below h kB.lt),blk_whole (k1.below h k1.lt)⟩
   have keepS:Hid (∀ {x:World},Below V.heap.size V x → (x.setRow (w.heap.size + 1 + 1) (z.map byte).toArray).rangeAt GA 0 (a.map byte) ∧ (x.setRow (w.heap.size + 1 + 1) (z.map byte).toArray).rangeAt GB 0 (b.map byte) ∧ (x.setRow (w.heap.size + 1 + 1) (z.map byte).toArray).rangeAt (w.heap.size + 1) 0 (r.map byte)):=fun h=>⟨blk_whole ((kA.below h kA.lt).setRow_other (by omega)),blk_whole ((kB.below h kB.lt).setRow_other (by omega)),blk_whole ((k1.below h k1.lt).setRow_other (by omega))⟩
   refine wp_region_held_drew (S:=fun x=>x.rangeAt GA 0 (a.map byte) ∧ x.rangeAt GB 0 (b.map byte) ∧ x.rangeAt (w.heap.size + 1) 0 (r.map byte)) (by kernel_rfl) (by rw [← hV];exact keep.out b_0) (fun hHeld=>?_)
   rw [← hV] at hHeld ⊢
   clear hV kA kB k1 k2 kS
   refine tk (i:=0) (v:=(.agg (a.map byte).toArray)) rfl (yieldsIf_load_mid (by rfl) 79 _ rfl GA 0 rfl (a.map byte) _ (fun _ h=>h.1) Tryz.underlying79 rfl (by rw [ham];kernel_rfl)) hHeld ?_
   try dsimp only [Act.put]
   refine tk (i:=1) (v:=(.func (.func 110) #[] #[.pointer (some ⟨S,0,none⟩)])) rfl (Or.inl ⟨by rfl,?_⟩) hHeld ?_
   · intro _ _;go_simp
   try dsimp only [Act.put]
   refine tk (i:=3) (v:=(.agg (r.map byte).toArray)) rfl (yieldsIf_load_mid (by rfl) 79 _ rfl (w.heap.size + 1) 0 rfl (r.map byte) _ (fun _ h=>h.2.2) Tryz.underlying79 rfl (by rw [hrm];kernel_rfl)) hHeld ?_
   try dsimp only [Act.put]
   refine tk (i:=4) (v:=(.agg (b.map byte).toArray)) rfl (yieldsIf_load_mid (by rfl) 79 _ rfl GB 0 rfl (b.map byte) _ (fun _ h=>h.2.1) Tryz.underlying79 rfl (by rw [hbm];kernel_rfl)) hHeld ?_
   try dsimp only [Act.put]
   refine tk (i:=8) (v:=(.agg (b.map byte).toArray)) rfl (yieldsIf_load_mid (by rfl) 79 _ rfl GB 0 rfl (b.map byte) _ (fun _ h=>h.2.1) Tryz.underlying79 rfl (by rw [hbm];kernel_rfl)) hHeld ?_
   try dsimp only [Act.put]
   refine wpAnyH_ready (rs:=[2,5]) (by kernel_rfl) (by simp) ?_
   refine AllReadyH.cons rfl (fun K hK=>?_) (AllReadyH.cons rfl (fun K hK=>?_) (AllReadyH.nil))
   · go_simp
     refine (newDes_any a S _ hal).mono ?_
     rintro e w_1 ⟨rfl,bel_1⟩
     have b_1:=below_step b_0 bel_1
     go_wp2_with fail
     refine hK.out _ _ (keep.out b_1) (fun hHeld=>?_)
     clear hK K
     try dsimp only [Act.put]
     refine rdy1 5 (fun K hK=>?_)
     rw [if_pos (by rfl)]
     refine wp_build2 (some 20) rfl 120 _ _ rfl 79 8 _ (r.map byte) (b.map byte) rfl rfl Tryz.underlying120 Tryz.zero79 hrm hbm (by omega) (by omega) ?_
     try dsimp only [Act.put]
     obtain ⟨w_2,hw_2⟩:∃ x,x = World.alloc w_1 (.cells (r.map byte ++ b.map byte).toArray 79):=⟨_,rfl⟩
     have bel_2:Below w_1.heap.size w_1 w_2:=by rw [hw_2];exact below_new _ _
     have s1_2:Blk w_2 w_1.heap.size 79 (r.map byte ++ b.map byte):=by rw [hw_2];exact Blk.new _ _ _
     have le_s1_2:=b_1.size
     have lt_s1_2:=s1_2.lt
     have b_2:=below_step b_1 bel_2
     rw [← hw_2]
     clear hw_2
     refine hK.out _ _ (keep.out b_2) (fun hHeld=>?_)
     clear hK K
     try dsimp only [Act.put]
     refine rdy1 6 (fun K hK=>?_)
     go_simp
     refine (HX1.out _ _ s1_2).mono ?_
     rintro e w_3 ⟨rfl,bel_3⟩
     have s1_3:=s1_2.below bel_3 s1_2.lt
     have b_3:=below_step b_2 bel_3
     go_wp2_with fail
     refine hK.out _ _ (keep.out b_3) (fun hHeld=>?_)
     clear hK K
     try dsimp only [Act.put]
     refine rdy1 7 (fun K hK=>?_)
     go_simp
     refine (HE.out _ (boxes.out b_3)).mono ?_
     rintro e w_4 ⟨rfl,bel_4⟩
     have s1_4:=s1_3.below bel_4 s1_3.lt
     have b_4:=below_step b_3 bel_4
     go_wp2_with fail
     refine hK.out _ _ (keep.out b_4) (fun hHeld=>?_)
     clear hK K
     try dsimp only [Act.put]
     refine rdy1 9 (fun K hK=>?_)
     rw [if_pos (by rfl)]
     refine wp_build2 (some 24) rfl 120 _ _ rfl 79 8 _ (y.map byte) (b.map byte) rfl rfl Tryz.underlying120 Tryz.zero79 hym hbm (by omega) (by omega) ?_
     try dsimp only [Act.put]
     obtain ⟨w_5,hw_5⟩:∃ x,x = World.alloc w_4 (.cells (y.map byte ++ b.map byte).toArray 79):=⟨_,rfl⟩
     have bel_5:Below w_4.heap.size w_4 w_5:=by rw [hw_5];exact below_new _ _
     have s2_5:Blk w_5 w_4.heap.size 79 (y.map byte ++ b.map byte):=by rw [hw_5];exact Blk.new _ _ _
     have le_s2_5:=b_4.size
     have lt_s2_5:=s2_5.lt
     have s1_5:=s1_4.below bel_5 s1_4.lt
     have b_5:=below_step b_4 bel_5
     rw [← hw_5]
     clear hw_5
     refine hK.out _ _ (keep.out b_5) (fun hHeld=>?_)
     clear hK K
     try dsimp only [Act.put]
     refine rdy1 10 (fun K hK=>?_)
     go_simp
     refine (HX2.out _ _ s2_5).mono ?_
     rintro e w_6 ⟨rfl,bel_6⟩
     have s1_6:=s1_5.below bel_6 s1_5.lt
     have s2_6:=s2_5.below bel_6 s2_5.lt
     have b_6:=below_step b_5 bel_6
     go_wp2_with fail
     refine hK.out _ _ (keep.out b_6) (fun hHeld=>?_)
     clear hK K
     try dsimp only [Act.put]
     refine rdy1 11 (fun K hK=>?_)
     rw [if_pos (by rfl)]
     have res:=kR.out b_6
     refine wp_store_blk rfl 79 _ _ rfl (w.heap.size + 1 + 1) rfl rfl res (by rw [hzm];kernel_rfl) (by rw [hzm];exact zerosOf_length _ _) (allOne_bytes _) ?_
     have res2:=Blk.setRow res (z.map byte)
     have bq:Below w.heap.size V _:=below_setRow' (g:=w.heap.size + 1 + 1) (b_6.mono hwV) (by omega) (z.map byte).toArray
     have kp:_ ∧ _ ∧ _:=keepS.out b_6
     refine hK.out _ _ kp (fun hHeld=>?_)
     clear hK K
     try dsimp only [Act.put]
     refine wpAnyH_done (by kernel_rfl) ?_ _
     go_wp2_with fail
     exact bodyPost_ret (v:=.agg (z.map byte).toArray) (results_blk Tryz.results137 _ _ rfl res2 Tryz.underlying79 rfl (by rw [hzm];kernel_rfl)) rfl ⟨rfl,bV.trans bq⟩
   · rw [if_pos (by rfl)]
     refine wp_build2 (some 20) rfl 120 _ _ rfl 79 8 _ (r.map byte) (b.map byte) rfl rfl Tryz.underlying120 Tryz.zero79 hrm hbm (by omega) (by omega) ?_
     try dsimp only [Act.put]
     obtain ⟨w_8,hw_8⟩:∃ x,x = World.alloc V (.cells (r.map byte ++ b.map byte).toArray 79):=⟨_,rfl⟩
     have bel_8:Below V.heap.size V w_8:=by rw [hw_8];exact below_new _ _
     have s1_8:Blk w_8 V.heap.size 79 (r.map byte ++ b.map byte):=by rw [hw_8];exact Blk.new _ _ _
     have le_s1_8:=b_0.size
     have lt_s1_8:=s1_8.lt
     have b_8:=below_step b_0 bel_8
     rw [← hw_8]
     clear hw_8
     refine hK.out _ _ (keep.out b_8) (fun hHeld=>?_)
     clear hK K
     try dsimp only [Act.put]
     refine rdy1 2 (fun K hK=>?_)
     go_simp
     refine (newDes_any a S _ hal).mono ?_
     rintro e w_9 ⟨rfl,bel_9⟩
     have s1_9:=s1_8.below bel_9 s1_8.lt
     have b_9:=below_step b_8 bel_9
     go_wp2_with fail
     refine hK.out _ _ (keep.out b_9) (fun hHeld=>?_)
     clear hK K
     try dsimp only [Act.put]
     refine rdy1 6 (fun K hK=>?_)
     go_simp
     refine (HX1.out _ _ s1_9).mono ?_
     rintro e w_10 ⟨rfl,bel_10⟩
     have s1_10:=s1_9.below bel_10 s1_9.lt
     have b_10:=below_step b_9 bel_10
     go_wp2_with fail
     refine hK.out _ _ (keep.out b_10) (fun hHeld=>?_)
     clear hK K
     try dsimp only [Act.put]
     refine rdy1 7 (fun K hK=>?_)
     go_simp
     refine (HE.out _ (boxes.out b_10)).mono ?_
     rintro e w_11 ⟨rfl,bel_11⟩
     have s1_11:=s1_10.below bel_11 s1_10.lt
     have b_11:=below_step b_10 bel_11
     go_wp2_with fail
     refine hK.out _ _ (keep.out b_11) (fun hHeld=>?_)
     clear hK K
     try dsimp only [Act.put]
     refine rdy1 9 (fun K hK=>?_)
     rw [if_pos (by rfl)]
     refine wp_build2 (some 24) rfl 120 _ _ rfl 79 8 _ (y.map byte) (b.map byte) rfl rfl Tryz.underlying120 Tryz.zero79 hym hbm (by omega) (by omega) ?_
     try dsimp only [Act.put]
     obtain ⟨w_12,hw_12⟩:∃ x,x = World.alloc w_11 (.cells (y.map byte ++ b.map byte).toArray 79):=⟨_,rfl⟩
     have bel_12:Below w_11.heap.size w_11 w_12:=by rw [hw_12];exact below_new _ _
     have s2_12:Blk w_12 w_11.heap.size 79 (y.map byte ++ b.map byte):=by rw [hw_12];exact Blk.new _ _ _
     have le_s2_12:=b_11.size
     have lt_s2_12:=s2_12.lt
     have s1_12:=s1_11.below bel_12 s1_11.lt
     have b_12:=below_step b_11 bel_12
     rw [← hw_12]
     clear hw_12
     refine hK.out _ _ (keep.out b_12) (fun hHeld=>?_)
     clear hK K
     try dsimp only [Act.put]
     refine rdy1 10 (fun K hK=>?_)
     go_simp
     refine (HX2.out _ _ s2_12).mono ?_
     rintro e w_13 ⟨rfl,bel_13⟩
     have s1_13:=s1_12.below bel_13 s1_12.lt
     have s2_13:=s2_12.below bel_13 s2_12.lt
     have b_13:=below_step b_12 bel_13
     go_wp2_with fail
     refine hK.out _ _ (keep.out b_13) (fun hHeld=>?_)
     clear hK K
     try dsimp only [Act.put]
     refine rdy1 11 (fun K hK=>?_)
     rw [if_pos (by rfl)]
     have res:=kR.out b_13
     refine wp_store_blk rfl 79 _ _ rfl (w.heap.size + 1 + 1) rfl rfl res (by rw [hzm];kernel_rfl) (by rw [hzm];exact zerosOf_length _ _) (allOne_bytes _) ?_
     have res2:=Blk.setRow res (z.map byte)
     have bq:Below w.heap.size V _:=below_setRow' (g:=w.heap.size + 1 + 1) (b_13.mono hwV) (by omega) (z.map byte).toArray
     have kp:_ ∧ _ ∧ _:=keepS.out b_13
     refine hK.out _ _ kp (fun hHeld=>?_)
     clear hK K
     try dsimp only [Act.put]
     refine wpAnyH_done (by kernel_rfl) ?_ _
     go_wp2_with fail
     exact bodyPost_ret (v:=.agg (z.map byte).toArray) (results_blk Tryz.results137 _ _ rfl res2 Tryz.underlying79 rfl (by rw [hzm];kernel_rfl)) rfl ⟨rfl,bV.trans bq⟩
def stepN (key r:List UInt8):List UInt8:=dhalfN (xorL key serialL) r ++ dhalfN key r
theorem xorS_length (key:List UInt8) (h:key.length = 16):(xorL key serialL).length = 16:=by rw [xorL_length _ _ (by rw [h];rfl),h]
theorem stepN_length (key r:List UInt8) (h:key.length = 16):(stepN key r).length = 16:=by
 unfold stepN
 rw [List.length_append,dhalfN_length _ _ (xorS_length _ h),dhalfN_length _ _ h]
def bitAt (j:Nat):Nat:=1048576 / 2 ^ j
def walkR (base c:Nat):Nat → Nat
 | 0=>base
 | j + 1=>if c / 2 ^ (20 - j) % 2 = 1 then walkR base c j + bitAt j else walkR base c j
def walkK (init:List UInt8) (base c:Nat):Nat → List UInt8
 | 0=>init
 | j + 1=>if c / 2 ^ (20 - j) % 2 = 1 then stepN (walkK init base c j) (blockN (walkR base c (j + 1))) else walkK init base c j
theorem walkK_length (init:List UInt8) (h:init.length = 16) (base c j:Nat):(walkK init base c j).length = 16:=by
 induction j with
 | zero=>exact h
 | succ j ih =>
   show (if _ then _ else _:List UInt8).length = 16
   split
   · exact stepN_length _ _ ih
   · exact ih
theorem bitAt_succ (j:Nat):bitAt (j + 1) = bitAt j / 2:=by unfold bitAt;rw [Nat.pow_succ,Nat.div_div_eq_div_mul]
theorem bitAt_pow (j:Nat) (h:j ≤ 20):bitAt j = 2 ^ (20 - j):=by
 unfold bitAt
 rw [show (1048576:Nat) = 2 ^ (20 - j) * 2 ^ j from by rw [← Nat.pow_add,Nat.sub_add_cancel h],Nat.mul_div_cancel _ (Nat.pow_pos (by omega))]
theorem walkR_spec (base c:Nat) (hc:c < 2097152) (j:Nat) (hj:j ≤ 21):walkR base c j = base + c / 2 ^ (21 - j) * 2 ^ (21 - j):=by
 induction j with
 | zero =>
   show base = _
   rw [Nat.div_eq_of_lt (by simpa using hc)];omega
 | succ j ih =>
   have h1:=ih (by omega)
   show (if c / 2 ^ (20 - j) % 2 = 1 then walkR base c j + bitAt j else walkR base c j) = _
   rw [h1,bitAt_pow j (by omega),show 21 - (j + 1) = 20 - j from by omega,show 21 - j = (20 - j) + 1 from by omega,Nat.pow_succ]
   have hp:0 < 2 ^ (20 - j):=Nat.pow_pos (by omega)
   obtain ⟨p,hpE⟩:∃ p,p = 2 ^ (20 - j):=⟨_,rfl⟩
   rw [← hpE] at hp ⊢
   rw [← Nat.div_div_eq_div_mul]
   obtain ⟨q,hq⟩:∃ q,q = c / p:=⟨_,rfl⟩
   rw [← hq]
   split
   · rename_i h
     have e:q = q / 2 * 2 + 1:=by omega
     have e2:q * p = q / 2 * (p * 2) + p:=by
       calc q * p = (q / 2 * 2 + 1) * p:=by rw [← e]
         _ = q / 2 * (p * 2) + p:=by rw [Nat.add_mul,Nat.one_mul,Nat.mul_assoc,Nat.mul_comm 2 p]
     omega
   · rename_i h
     have e:q = q / 2 * 2:=by omega
     have e2:q * p = q / 2 * (p * 2):=by
       calc q * p = (q / 2 * 2) * p:=by rw [← e]
         _ = q / 2 * (p * 2):=by rw [Nat.mul_assoc,Nat.mul_comm 2 p]
     omega
theorem and_bit (c p:Nat) (k:Nat) (hc:c < 18446744073709551616) (hk:k < 64) (hp:p = 2 ^ k):bits BinOp.and IntKind.u64 (c:Int) (p:Int) = ((if c / 2 ^ k % 2 = 1 then p else 0:Nat):Int):=by
 have hlt:p < 18446744073709551616:=by rw [hp];exact Nat.pow_lt_pow_right (by omega) hk
 rw [u64_and_nat _ _ hc hlt]
 congr 1
 rw [hp]
 apply Nat.eq_of_testBit_eq
 intro i
 rw [Nat.testBit_and,Nat.testBit_two_pow]
 split
 · rename_i h
   rw [Nat.testBit_two_pow]
   by_cases e:k = i
   · subst e;simp [Nat.testBit_eq_decide_div_mod_eq,h]
   · simp [e]
 · rename_i h
   by_cases e:k = i
   · subst e;simp [Nat.testBit_eq_decide_div_mod_eq,h]
   · simp [e]
theorem or_bit21 (r p k:Nat) (hr:r % 2 ^ (k + 1) = 0) (hr2:r < 18446744073709551616) (hk:k < 64) (hp:p = 2 ^ k):bits BinOp.or IntKind.u64 (r:Int) (p:Int) = ((r + p:Nat):Int):=by
 have hlt:p < 18446744073709551616:=by rw [hp];exact Nat.pow_lt_pow_right (by omega) hk
 rw [u64_or_nat _ _ hr2 hlt,nat_join (k + 1) r p hr (by rw [hp,Nat.pow_succ];have:=Nat.pow_pos (n:=k) (show 0 < 2 by omega);omega)]
theorem dhalf_eq (key r:List UInt8) (hk:key.length = 16) (hr:r.length = 8):dhalfN key r = xorL (desS (key.take 8) (xorL r (key.drop 8)) false) (key.drop 8):=by
 unfold dhalfN
 rw [enc_eq _ _ (take8 hk) (by rw [xorL_length _ _ (by rw [hr,drop8 hk]),hr])]
set_option maxRecDepth 100000 in
set_option maxHeartbeats 4000000 in
theorem halfS_any (key r:List UInt8) (kb ko ck cb:Nat) (ab:Option Addr) (w:World) (hk:key.length = 16) (hck:16 ≤ ck) (hr:r.length = 8) (rk:RowAt w (some ⟨kb,ko,none⟩) key) (rr:RowAt w ab r) :
   Calls Tryz.prog 126 #[.slice (some ⟨kb,ko,none⟩) 16 ck,.slice ab 8 cb] w fun e w'=>∃ v,e = .returned v ∧ OwnB w' w.heap.size v (dhalfN key r) ∧ Below w.heap.size w w':=by
 have hal:=take8 hk
 have hbl:=drop8 hk
 have ra:RowAt w (some ⟨kb,ko,none⟩) (key.take 8):=rk.take 8
 have rb:RowAt w (some ⟨kb,ko + 8,none⟩) (key.drop 8):=rk.drop 8
 rw [dhalf_eq key r hk hr]
 have hxl:(xorL r (key.drop 8)).length = 8:=by rw [xorL_length _ _ (by rw [hr,hbl]),hr]
 have hyl:=desS_length (key.take 8) (xorL r (key.drop 8)) false
 have hzl:(xorL (desS (key.take 8) (xorL r (key.drop 8)) false) (key.drop 8)).length = 8:=by rw [xorL_length _ _ (by rw [hyl,hbl]),hyl]
 have HX1:Hid (∀ (cp:Nat) (wx:World),RowAt wx ab r → RowAt wx (some ⟨kb,ko + 8,none⟩) (key.drop 8) → Calls Tryz.prog 86 #[.slice ab 8 cb,.slice (some ⟨kb,ko + 8,none⟩) 8 cp] wx fun e w'=>e = .returned (.slice (some ⟨wx.heap.size,0,none⟩) 8 8) ∧ OwnB w' wx.heap.size (.slice (some ⟨wx.heap.size,0,none⟩) 8 8) (xorL r (key.drop 8)) ∧ Below wx.heap.size wx w'):=by
   intro cp wx h1 h2
   have:=xor_any ab (some ⟨kb,ko + 8,none⟩) cb cp r (key.drop 8) wx (by omega) (by rw [hr,hbl]) h1 h2
   rw [hr,hbl] at this
   exact this
 have HD:=hide (fun (g c:Nat) (wx:World) (h1:RowAt wx (some ⟨kb,ko,none⟩) (key.take 8)) (h2:RowAt wx (some ⟨g,0,none⟩) (xorL r (key.drop 8)))=>des_spec (some ⟨kb,ko,none⟩) (some ⟨g,0,none⟩) ck c (key.take 8) _ false wx hal hxl h1 h2)
 have HX2:Hid (∀ (g c cp:Nat) (wx:World),RowAt wx (some ⟨g,0,none⟩) (desS (key.take 8) (xorL r (key.drop 8)) false) → RowAt wx (some ⟨kb,ko + 8,none⟩) (key.drop 8) → Calls Tryz.prog 86 #[.slice (some ⟨g,0,none⟩) 8 c,.slice (some ⟨kb,ko + 8,none⟩) 8 cp] wx fun e w'=>e = .returned (.slice (some ⟨wx.heap.size,0,none⟩) 8 8) ∧ OwnB w' wx.heap.size (.slice (some ⟨wx.heap.size,0,none⟩) 8 8) (xorL (desS (key.take 8) (xorL r (key.drop 8)) false) (key.drop 8)) ∧ Below wx.heap.size wx w'):=by
   intro g c cp wx h1 h2
   have:=xor_any (some ⟨g,0,none⟩) (some ⟨kb,ko + 8,none⟩) c cp (desS (key.take 8) (xorL r (key.drop 8)) false) (key.drop 8) wx (by omega) (by rw [hyl,hbl]) h1 h2
   rw [hyl,hbl] at this
   exact this
 obtain ⟨z,hzE⟩:∃ z,z = xorL (desS (key.take 8) (xorL r (key.drop 8)) false) (key.drop 8):=⟨_,rfl⟩
 rw [← hzE] at HX2 hzl ⊢
 obtain ⟨y,hyE⟩:∃ y,y = desS (key.take 8) (xorL r (key.drop 8)) false:=⟨_,rfl⟩
 rw [← hyE] at HX2 HD hyl
 obtain ⟨x,hxE⟩:∃ x,x = xorL r (key.drop 8):=⟨_,rfl⟩
 rw [← hxE] at HX1 HD hxl
 obtain ⟨a,haE⟩:∃ a,a = key.take 8:=⟨_,rfl⟩
 obtain ⟨b,hbE⟩:∃ b,b = key.drop 8:=⟨_,rfl⟩
 rw [← haE] at HD ra
 rw [← hbE] at HX1 HX2 rb
 clear hzE hyE hxE haE hbE rk hk hal hbl
 have hcI:(8:Int) ≤ (ck:Int):=by omega
 have hcI2:(16:Int) ≤ (ck:Int):=by omega
 have hcn:¬ ck = 8:=by omega
 go_enter Tryz.func126,Tryz.ntmps126
 go_wp2_with fail
 obtain ⟨V,hV⟩:∃ V,V = w.drew:=⟨_,rfl⟩
 have bV:Below w.heap.size w V:=by rw [hV];exact (Below.refl _ _).drew
 have hwV:=bV.size
 have b_0:Below V.heap.size V V:=Below.refl _ _
 have rowA:Hid (∀ {x},Below V.heap.size V x → RowAt x (some ⟨kb,ko,none⟩) a):=fun h=>(ra.below bV).below h
 have rowB:Hid (∀ {x},Below V.heap.size V x → RowAt x (some ⟨kb,ko + 8,none⟩) b):=fun h=>(rb.below bV).below h
 have rowR:Hid (∀ {x},Below V.heap.size V x → RowAt x ab r):=fun h=>(rr.below bV).below h
 have keep:Hid (∀ {B x},Below B V x → True):=fun _=>trivial
 refine wp_region_held_drew (S:=fun _=>True) (by kernel_rfl) trivial (fun hHeld=>?_)
 rw [← hV]
 clear hV
 refine tk (i:=0) (v:=(.slice (some ⟨kb,ko,none⟩) 16 ck)) rfl (Or.inl ⟨by rfl,?_⟩) hHeld ?_
 · intro _ _;go_simp
 try dsimp only [Act.put]
 refine tk (i:=1) (v:=(.slice (some ⟨kb,ko,none⟩) 8 ck)) rfl (Or.inl ⟨by rfl,?_⟩) hHeld ?_
 · intro _ _;go_simp
 try dsimp only [Act.put]
 refine tk (i:=2) (v:=(.slice ab 8 cb)) rfl (Or.inl ⟨by rfl,?_⟩) hHeld ?_
 · intro _ _;go_simp
 try dsimp only [Act.put]
 refine tk (i:=3) (v:=(.slice (some ⟨kb,ko + 8,none⟩) 8 (ck - 8))) rfl (Or.inl ⟨by rfl,?_⟩) hHeld ?_
 · intro _ _;go_simp
 try dsimp only [Act.put]
 refine tk (i:=6) (v:=(.slice (some ⟨kb,ko + 8,none⟩) 8 (ck - 8))) rfl (Or.inl ⟨by rfl,?_⟩) hHeld ?_
 · intro _ _;go_simp
 try dsimp only [Act.put]
 refine rdy1 4 (fun K hK=>?_)
 go_simp
 refine (HX1.out _ _ (rowR.out b_0) (rowB.out b_0)).mono ?_
 rintro e w_1 ⟨rfl,own_1,bel_1⟩
 have b_1:=below_step b_0 bel_1
 have rowx_1:RowAt w_1 (some ⟨V.heap.size,0,none⟩) x:=(by obtain ⟨g',c',-,hv',row'⟩:=own_at own_1 hxl (by omega);cases hv';exact row')
 go_wp2_with fail
 refine hK.out _ _ (keep.out b_1) (fun hHeld=>?_)
 clear hK K
 try dsimp only [Act.put]
 refine rdy1 5 (fun K hK=>?_)
 go_simp
 refine (HD.out _ _ _ (rowA.out b_1) rowx_1).mono ?_
 rintro e w_2 ⟨v_2,rfl,own_2,bel_2⟩
 have x_2:=rowx_1.below bel_2
 have b_2:=below_step b_1 bel_2
 obtain ⟨gy,cy,-,hvy,rowy_2⟩:=own_at own_2 hyl (by omega)
 subst hvy
 go_wp2_with fail
 refine hK.out _ _ (keep.out b_2) (fun hHeld=>?_)
 clear hK K
 try dsimp only [Act.put]
 refine rdy1 7 (fun K hK=>?_)
 go_simp
 refine (HX2.out _ _ _ _ rowy_2 (rowB.out b_2)).mono ?_
 rintro e w_3 ⟨rfl,own_3,bel_3⟩
 have x_3:=x_2.below bel_3
 have y_3:=rowy_2.below bel_3
 have b_3:=below_step b_2 bel_3
 have bq:=b_3
 go_wp2_with fail
 refine hK.out _ _ (keep.out b_3) (fun hHeld=>?_)
 clear hK K
 try dsimp only [Act.put]
 refine rdy1 8 (fun K hK=>?_)
 go_simp
 refine hK.out _ _ (keep.out b_3) (fun hHeld=>?_)
 clear hK K
 try dsimp only [Act.put]
 refine wpAnyH_done (by kernel_rfl) ?_ _
 go_wp2_with fail
 go_ret
 exact ⟨_,rfl,own_3.mono (Nat.le_trans hwV b_2.size),bV.trans (bq.mono hwV)⟩
theorem low_nat64 (q k:Nat) (hk:k < 63) (hn:2 ^ (k + 1) * q + 2 ^ k < 2 ^ 64):(2 ^ (k + 1) * q + 2 ^ k) &&& (2 ^ 64 - (2 ^ (k + 1) * q + 2 ^ k)) = 2 ^ k:=by
 have hp:0 < 2 ^ k:=Nat.pow_pos (by omega)
 have hlt:2 ^ k < 2 ^ (k + 1):=Nat.pow_lt_pow_right (by omega) (by omega)
 have hlt2:2 ^ k - 1 < 2 ^ (k + 1):=by omega
 have e:2 ^ 64 - (2 ^ (k + 1) * q + 2 ^ k) = 2 ^ 64 - ((2 ^ (k + 1) * q + (2 ^ k - 1)) + 1):=by
   rw [Nat.add_assoc,Nat.sub_add_cancel hp]
 rw [e]
 apply Nat.eq_of_testBit_eq
 intro i
 rw [Nat.testBit_and,Nat.testBit_two_pow_sub_succ (by omega),Nat.testBit_two_pow_mul_add _ hlt,Nat.testBit_two_pow_mul_add _ hlt2,Nat.testBit_two_pow]
 by_cases h:i < k + 1
 · rw [if_pos h,if_pos h,Nat.testBit_two_pow_sub_one]
   by_cases e2:k = i
   · subst e2;simp;omega
   · simp [e2]
 · rw [if_neg h,if_neg h]
   have:¬ k = i:=by omega
   simp [this]
   intro h1 _
   exact h1
theorem and_neg (n q k:Nat) (hk:k < 30) (hn:n = 2 ^ (k + 1) * q + 2 ^ k) (hb:n < 4294967296):bits BinOp.and IntKind.i64 (n:Int) (-(n:Int)) = ((2 ^ k:Nat):Int):=by
 show IntKind.i64.wrap ((BitVec.ofInt 64 (n:Int) &&& BitVec.ofInt 64 (-(n:Int))).toNat:Int) = _
 have hp:0 < 2 ^ k:=Nat.pow_pos (by omega)
 have h0:0 < n:=by omega
 have h1:(BitVec.ofInt 64 (-(n:Int))).toNat = 2 ^ 64 - n:=by
   rw [BitVec.toNat_ofInt]
   omega
 rw [BitVec.toNat_and,ofInt_u64 n (by omega),h1,hn,low_nat64 q k (by omega) (by omega),IntKind.wrap_i64]
 have:2 ^ k < 2 ^ 30:=Nat.pow_lt_pow_right (by omega) hk
 omega
theorem block_word (a b c d e f g h:UInt8):blockN (wordN [a,b,c,d,e,f,g,h]) = [a,b,c,d,e,f,g,h]:=by
 have ha:=a.toNat_lt;have hb:=b.toNat_lt;have hc:=c.toNat_lt;have hd:=d.toNat_lt
 have he:=e.toNat_lt;have hf:=f.toNat_lt;have hg:=g.toNat_lt;have hh:=h.toNat_lt
 have u:∀ (x:UInt8) (n:Nat),n % 256 = x.toNat → UInt8.ofNat n = x:=by
   intro x n hn
   apply UInt8.toNat.inj
   rw [UInt8.toNat_ofNat',hn]
 simp only [blockN,wordN,List.foldl_cons,List.foldl_nil,List.range,List.range.loop,List.map_cons,List.map_nil]
 simp only [List.cons.injEq,and_true]
 refine ⟨u _ _ ?_,u _ _ ?_,u _ _ ?_,u _ _ ?_,u _ _ ?_,u _ _ ?_,u _ _ ?_,u _ _ ?_⟩ <;> simp <;> omega
def rBytes (s2 s3 s4 s5 s6 s7:UInt8) (n:Nat):List UInt8:=[s2,s3,s4,s5,s6,UInt8.ofNat (s7.toNat / 32 * 32 + n / 65536),UInt8.ofNat (n / 256),UInt8.ofNat n]
theorem rBytes_block (s2 s3 s4 s5 s6 s7 s8 s9:UInt8) (n:Nat) (hn:n < 2097152):blockN (wordN [s2,s3,s4,s5,s6,s7,s8,s9] / 2097152 * 2097152 + n) = rBytes s2 s3 s4 s5 s6 s7 n:=by
 have h7:=s7.toNat_lt;have h8:=s8.toNat_lt;have h9:=s9.toNat_lt
 have e:wordN [s2,s3,s4,s5,s6,s7,s8,s9] / 2097152 * 2097152 + n = wordN (rBytes s2 s3 s4 s5 s6 s7 n):=by
   unfold rBytes
   simp only [wordN,List.foldl_cons,List.foldl_nil,UInt8.toNat_ofNat']
   omega
 rw [e]
 exact block_word _ _ _ _ _ _ _ _
theorem count_word (s0 s1 s2 s3 s4 s5 s6 s7 s8 s9:UInt8):wordN [s2,s3,s4,s5,s6,s7,s8,s9] % 2097152 = countN [s0,s1,s2,s3,s4,s5,s6,s7,s8,s9]:=by
 have h7:=s7.toNat_lt;have h8:=s8.toNat_lt;have h9:=s9.toNat_lt
 simp only [wordN,countN,List.foldl_cons,List.foldl_nil,List.getD_cons_succ,List.getD_cons_zero]
 omega
theorem or_seven (x n:Nat) (hx:x < 256) (hn:n < 32):bits BinOp.or IntKind.u8 ((x / 32 * 32:Nat):Int) (n:Int) = ((x / 32 * 32 + n:Nat):Int):=by
 rw [u8_or_nat _ _ (by omega) (by omega),nat_join 5 (x / 32 * 32) n (by omega) (by omega)]
theorem Own.at {w:World} {base n:Nat} {v:Value} {l:List UInt8} (h:Own w base v l) (hl:l.length = n) (h0:0 < n):∃ g cap,n ≤ cap ∧ v = .slice (some ⟨g,0,none⟩) n cap ∧ RowAt w (some ⟨g,0,none⟩) l:=by
 subst hl
 obtain ⟨ao,cap,rfl,row,-⟩:=h.shape
 obtain ⟨t,h⟩:=h
 rcases h.2 with ⟨-,hn⟩ | ⟨g,cap',cur,hv,hb,hh,hn,hm,hs,ht⟩
 · omega
 · simp only [Value.slice.injEq,true_and] at hv
   obtain ⟨rfl,rfl⟩:=hv
   exact ⟨g,cap,hn,rfl,row⟩
set_option maxRecDepth 100000 in
set_option maxHeartbeats 8000000 in
theorem walkS_step (bdk kk:List UInt8) (s0 s1 s2 s3 s4 s5 s6 s7 s8 s9:UInt8) (hkk:kk.length = 16) (n q k:Nat) (hn:n = 2 ^ (k + 1) * q + 2 ^ k) (hk:k < 21) (hb:n < 2097152) (kb ko ck sb so cs:Nat) (w:World) (rk:RowAt w (some ⟨kb,ko,none⟩) bdk) (rs:RowAt w (some ⟨sb,so,none⟩) [s0,s1,s2,s3,s4,s5,s6,s7,s8,s9])
   (HREC:∀ wx,RowAt wx (some ⟨kb,ko,none⟩) bdk → RowAt wx (some ⟨sb,so,none⟩) [s0,s1,s2,s3,s4,s5,s6,s7,s8,s9] → Calls Tryz.prog 91 #[.slice (some ⟨kb,ko,none⟩) 16 ck,.slice (some ⟨sb,so,none⟩) 10 cs,.int .i64 ((n - 2 ^ k:Nat):Int)] wx fun e w'=>∃ v,e = .returned v ∧ Own w' wx.heap.size v kk ∧ Below wx.heap.size wx w') :
   Calls Tryz.prog 91 #[.slice (some ⟨kb,ko,none⟩) 16 ck,.slice (some ⟨sb,so,none⟩) 10 cs,.int .i64 (n:Int)] w fun e w'=>∃ v,e = .returned v ∧ Own w' w.heap.size v (stepN kk (rBytes s2 s3 s4 s5 s6 s7 n)) ∧ Below w.heap.size w w':=by
 obtain ⟨i0,hi,hz0,hz1,hz2⟩:=info_parts Tryz.info5
 have hp0:0 < 2 ^ k:=Nat.pow_pos (by omega)
 have hple:2 ^ k ≤ n:=by omega
 have hand:=and_neg n q k (by omega) hn (by omega)
 have hn0:¬ ((n:Int) = 0):=by omega
 have hneg:IntKind.i64.wrap (-(n:Int)) = -(n:Int):=by rw [IntKind.wrap_i64];omega
 have hsub:IntKind.i64.wrap ((n:Int) - ((2 ^ k:Nat):Int)) = ((n - 2 ^ k:Nat):Int):=by rw [IntKind.wrap_i64];omega
 obtain ⟨p,hp⟩:∃ p,p = 2 ^ k:=⟨_,rfl⟩
 rw [← hp] at hand hsub HREC
 obtain ⟨m,hm⟩:∃ m,m = n - p:=⟨_,rfl⟩
 rw [← hm] at hsub HREC
 have HR:=hide HREC
 have HS:=hide rs
 have HK:=hide rk
 have HC:=hide (fun (wx:World) (h:RowAt wx (some ⟨sb,so,none⟩) [s0,s1,s2,s3,s4,s5,s6,s7,s8,s9])=>count_any [s0,s1,s2,s3,s4,s5,s6,s7,s8,s9] (some ⟨sb,so,none⟩) cs wx rfl h)
 obtain ⟨cn,hcn⟩:∃ c,c = countN [s0,s1,s2,s3,s4,s5,s6,s7,s8,s9]:=⟨_,rfl⟩
 rw [← hcn] at HC
 obtain ⟨ksn,hksn⟩:∃ l,l = [s0,s1,s2,s3,s4,s5,s6,s7,s8,s9]:=⟨_,rfl⟩
 have HCR:Hid ((countR ksn).map byte = [byte s0,byte s1,byte s2,byte s3,byte s4,byte s5,byte s6,.int .u8 ((s7.toNat / 32 * 32:Nat):Int),.int .u8 0,.int .u8 0]):=by
   rw [hksn,← byte_clr];rfl
 rw [← hksn] at HC HR HS
 obtain ⟨rl,hrl⟩:∃ l,l = (countR ksn).map byte:=⟨_,rfl⟩
 rw [← hrl] at HCR HC
 clear HREC hp hm hcn hksn hrl rs rk hn hp0 hple
 have hrBl:(rBytes s2 s3 s4 s5 s6 s7 n).length = 8:=rfl
 obtain ⟨rB,hrB⟩:∃ r,r = rBytes s2 s3 s4 s5 s6 s7 n:=⟨_,rfl⟩
 have HRB:=hide hrB
 rw [← hrB] at hrBl ⊢
 clear hrB
 have hXl:=xorS_length kk hkk
 have HX:Hid (∀ (g cp:Nat) (g1 c1:Nat) (wx:World),RowAt wx (some ⟨g1,0,none⟩) kk → RowAt wx (some ⟨g,0,none⟩) serialL → Calls Tryz.prog 86 #[.slice (some ⟨g1,0,none⟩) 16 c1,.slice (some ⟨g,0,none⟩) 16 cp] wx fun e w'=>e = .returned (.slice (some ⟨wx.heap.size,0,none⟩) 16 16) ∧ OwnB w' wx.heap.size (.slice (some ⟨wx.heap.size,0,none⟩) 16 16) (xorL kk serialL) ∧ Below wx.heap.size wx w'):=by
   intro g cp g1 c1 wx h1 h2
   have:=xor_any (some ⟨g1,0,none⟩) (some ⟨g,0,none⟩) c1 cp kk serialL wx (by omega) (by rw [hkk];rfl) h1 h2
   rw [hkk,serialL_length] at this
   exact this
 have HH1:=hide (fun (R g:Nat) (wx:World) (h1:RowAt wx (some ⟨g,0,none⟩) (xorL kk serialL)) (h2:RowAt wx (some ⟨R,2,none⟩) rB)=>halfS_any (xorL kk serialL) rB g 0 16 8 (some ⟨R,2,none⟩) wx hXl (by omega) hrBl h1 h2)
 have HH2:=hide (fun (R g1 c1:Nat) (hc1:16 ≤ c1) (wx:World) (h1:RowAt wx (some ⟨g1,0,none⟩) kk) (h2:RowAt wx (some ⟨R,2,none⟩) rB)=>halfS_any kk rB g1 0 c1 8 (some ⟨R,2,none⟩) wx hkk hc1 hrBl h1 h2)
 have hAl:=dhalfN_length (xorL kk serialL) rB hXl
 have hBl:=dhalfN_length kk rB hkk
 show Calls Tryz.prog 91 #[.slice (some ⟨kb,ko,none⟩) 16 ck,.slice (some ⟨sb,so,none⟩) 10 cs,.int .i64 (n:Int)] w fun e w'=>∃ v,e = .returned v ∧ Own w' w.heap.size v (dhalfN (xorL kk serialL) rB ++ dhalfN kk rB) ∧ Below w.heap.size w w'
 obtain ⟨A,hA⟩:∃ A,A = dhalfN (xorL kk serialL) rB:=⟨_,rfl⟩
 obtain ⟨B,hB⟩:∃ B,B = dhalfN kk rB:=⟨_,rfl⟩
 rw [← hA] at HH1 hAl ⊢
 rw [← hB] at HH2 hBl ⊢
 obtain ⟨X,hX⟩:∃ X,X = xorL kk serialL:=⟨_,rfl⟩
 rw [← hX] at HX HH1 hXl
 clear hA hB hX
 go_enter Tryz.func91,Tryz.ntmps91
 go_wp2_with (first
   | (go_at_call 91;refine (HR.out _ HK.out HS.out).mono ?_;rintro e1 w1 ⟨v1,rfl,own1,bel1⟩;obtain ⟨g1,c1,hc1,hv1,row1⟩:=own1.at hkk (by omega);subst hv1)
   | (go_at_call 90;refine (HC.out _ (HS.out.below bel1)).mono ?_;rintro e2 w2 ⟨rfl,kR,bel2⟩;have kR':=kR;rw [HCR.out] at kR';have d7:w2.cell? ⟨w1.heap.size,7,none⟩ = some (.int .u8 ((s7.toNat / 32 * 32:Nat):Int)):=(kR'.cell 7 (by simp));have d8:w2.cell? ⟨w1.heap.size,8,none⟩ = some (.int .u8 0):=(kR'.cell 8 (by simp));have d9:w2.cell? ⟨w1.heap.size,9,none⟩ = some (.int .u8 0):=(kR'.cell 9 (by simp));have f7:=kR.free 7;have f8:=kR.free 8;have f9:=kR.free 9))
 have e7:Value.int IntKind.u8 (bits BinOp.or IntKind.u8 ((s7.toNat:Int) / 32 * 32) ((n:Int) / 65536)) = byte (UInt8.ofNat (s7.toNat / 32 * 32 + n / 65536)):=by
   have h:=or_seven s7.toNat (n / 65536) s7.toNat_lt (by omega)
   have h7:=s7.toNat_lt
   unfold byte
   rw [UInt8.toNat_ofNat',show (s7.toNat:Int) / 32 * 32 = ((s7.toNat / 32 * 32:Nat):Int) from by omega,show (n:Int) / 65536 = ((n / 65536:Nat):Int) from by omega,h]
   congr 2
   omega
 have e8:Value.int IntKind.u8 ((n:Int) / 256 % 256) = byte (UInt8.ofNat (n / 256)):=by unfold byte;rw [UInt8.toNat_ofNat'];congr 1
 have e9:Value.int IntKind.u8 ((n:Int) % 256) = byte (UInt8.ofNat n):=by unfold byte;rw [UInt8.toNat_ofNat'];congr 1
 rw [e7,e8,e9]
 have kW:=((kR'.set 7 (byte (UInt8.ofNat (s7.toNat / 32 * 32 + n / 65536)))).set 8 (byte (UInt8.ofNat (n / 256)))).set 9 (byte (UInt8.ofNat n))
 have hls:((([byte s0,byte s1,byte s2,byte s3,byte s4,byte s5,byte s6,Value.int .u8 ((s7.toNat / 32 * 32:Nat):Int),Value.int .u8 0,Value.int .u8 0].set 7 (byte (UInt8.ofNat (s7.toNat / 32 * 32 + n / 65536)))).set 8 (byte (UInt8.ofNat (n / 256)))).set 9 (byte (UInt8.ofNat n))) = ([s0,s1] ++ rBytes s2 s3 s4 s5 s6 s7 n).map byte:=rfl
 rw [hls] at kW
 have be:=(((below_step bel1 bel2).setCell (p:=⟨w1.heap.size,7,none⟩) bel1.size (byte (UInt8.ofNat (s7.toNat / 32 * 32 + n / 65536)))).setCell (p:=⟨w1.heap.size,8,none⟩) bel1.size (byte (UInt8.ofNat (n / 256)))).setCell (p:=⟨w1.heap.size,9,none⟩) bel1.size (byte (UInt8.ofNat n))
 have be1:=((bel2.setCell (p:=⟨w1.heap.size,7,none⟩) (Nat.le_refl _) (byte (UInt8.ofNat (s7.toNat / 32 * 32 + n / 65536)))).setCell (p:=⟨w1.heap.size,8,none⟩) (Nat.le_refl _) (byte (UInt8.ofNat (n / 256)))).setCell (p:=⟨w1.heap.size,9,none⟩) (Nat.le_refl _) (byte (UInt8.ofNat n))
 have rowKW:=row1.below be1
 obtain ⟨W,hW⟩:∃ W,W = ((w2.setCell ⟨w1.heap.size,7,none⟩ (byte (UInt8.ofNat (s7.toNat / 32 * 32 + n / 65536)))).setCell ⟨w1.heap.size,8,none⟩ (byte (UInt8.ofNat (n / 256)))).setCell ⟨w1.heap.size,9,none⟩ (byte (UInt8.ofNat n)):=⟨_,rfl⟩
 rw [← hW] at kW be rowKW ⊢
 have kW2:Blk W w1.heap.size 5 (([s0,s1] ++ rB).map byte):=by rw [HRB.out];exact kW
 obtain ⟨R,hR⟩:∃ R,R = w1.heap.size:=⟨_,rfl⟩
 rw [← hR] at kW2 ⊢
 obtain ⟨V,hV⟩:∃ V,V = W.drew:=⟨_,rfl⟩
 have kV:Blk V R 5 (([s0,s1] ++ rB).map byte):=by rw [hV];exact kW2.drew1
 have rowKV:RowAt V (some ⟨g1,0,none⟩) kk:=by rw [hV];exact rowKW.drew1
 have bV:Below w.heap.size w V:=by rw [hV];exact be.drew
 have hwV:=bV.size
 replace HX:=hide (fun g cp=>HX.out g cp g1 c1)
 replace HH1:=hide (HH1.out R)
 replace HH2:=hide (HH2.out R g1 c1 hc1)
 clear hR hW kW kW2 be be1 rowKW hls e7 e8 e9 d7 d8 d9 f7 f8 f9 kR kR' bel1 bel2 own1 row1 HC HR HS HK HCR HRB hand hneg hsub
 have b_0:Below V.heap.size V V:=Below.refl _ _
 have rowK:Hid (∀ {x},Below V.heap.size V x → RowAt x (some ⟨g1,0,none⟩) kk):=fun h=>rowKV.below h
 have rowR:Hid (∀ {x},Below V.heap.size V x → RowAt x (some ⟨R,2,none⟩) rB):=fun {x} h=>by
   have hr:RowAt x (some ⟨R,0,none⟩) ([s0,s1] ++ rB):=rowAt_block (kV.below h kV.lt)
   exact hr.drop 2
 have keep:Hid (∀ {B x},Below B V x → True):=fun _=>trivial
 refine wp_region_held_drew (S:=fun _=>True) (by kernel_rfl) trivial (fun hHeld=>?_)
 rw [← hV]
 clear hV
 refine tk (i:=0) (v:=(.slice (some ⟨g1,0,none⟩) 16 c1)) rfl (Or.inl ⟨by rfl,?_⟩) hHeld ?_
 · intro _ _;go_simp
 try dsimp only [Act.put]
 refine tk (i:=3) (v:=(.slice (some ⟨R,0,none⟩) 10 10)) rfl (Or.inl ⟨by rfl,?_⟩) hHeld ?_
 · intro _ _;go_simp
 try dsimp only [Act.put]
 refine tk (i:=4) (v:=(.slice (some ⟨R,2,none⟩) 8 8)) rfl (Or.inl ⟨by rfl,?_⟩) hHeld ?_
 · intro _ _;go_simp
 try dsimp only [Act.put]
 refine tk (i:=6) (v:=(.slice (some ⟨g1,0,none⟩) 16 c1)) rfl (Or.inl ⟨by rfl,?_⟩) hHeld ?_
 · intro _ _;go_simp
 try dsimp only [Act.put]
 refine tk (i:=7) (v:=(.slice (some ⟨R,0,none⟩) 10 10)) rfl (Or.inl ⟨by rfl,?_⟩) hHeld ?_
 · intro _ _;go_simp
 try dsimp only [Act.put]
 refine tk (i:=8) (v:=(.slice (some ⟨R,2,none⟩) 8 8)) rfl (Or.inl ⟨by rfl,?_⟩) hHeld ?_
 · intro _ _;go_simp
 try dsimp only [Act.put]
 refine rdy1 1 (fun K hK=>?_)
 go_simp
 refine (c0_any _).mono ?_
 rintro e w_1 ⟨v_1,rfl,own_1,bel_1⟩
 have b_1:=below_step b_0 bel_1
 obtain ⟨gc,cc,-,hvc,rowc_1⟩:=own_at own_1 serialL_length (by omega)
 subst hvc
 go_wp2_with fail
 refine hK.out _ _ (keep.out b_1) (fun hHeld=>?_)
 clear hK K
 try dsimp only [Act.put]
 refine rdy1 2 (fun K hK=>?_)
 go_simp
 refine (HX.out gc cc _ (rowK.out b_1) rowc_1).mono ?_
 rintro e w_2 ⟨rfl,own_2,bel_2⟩
 have c0_2:=rowc_1.below bel_2
 have b_2:=below_step b_1 bel_2
 have rowx_2:RowAt w_2 (some ⟨w_1.heap.size,0,none⟩) X:=(by obtain ⟨g',c',-,hv',row'⟩:=own_at own_2 hXl (by omega);cases hv';exact row')
 go_wp2_with fail
 refine hK.out _ _ (keep.out b_2) (fun hHeld=>?_)
 clear hK K
 try dsimp only [Act.put]
 refine rdy1 5 (fun K hK=>?_)
 go_simp
 refine (HH1.out _ _ rowx_2 (rowR.out b_2)).mono ?_
 rintro e w_3 ⟨v_3,rfl,own_3,bel_3⟩
 have c0_3:=c0_2.below bel_3
 have x_3:=rowx_2.below bel_3
 have b_3:=below_step b_2 bel_3
 go_wp2_with fail
 refine hK.out _ _ (keep.out b_3) (fun hHeld=>?_)
 clear hK K
 try dsimp only [Act.put]
 refine rdy1 9 (fun K hK=>?_)
 go_simp
 refine (HH2.out _ (rowK.out b_3) (rowR.out b_3)).mono ?_
 rintro e w_4 ⟨v_4,rfl,own_4,bel_4⟩
 have c0_4:=c0_3.below bel_4
 have x_4:=x_3.below bel_4
 have A_4:=own_3.below bel_4
 have b_4:=below_step b_3 bel_4
 obtain ⟨gb,cb,hcb,hvb,rowb⟩:=own_at own_4 hBl (by omega)
 subst hvb
 go_wp2_with fail
 refine hK.out _ _ (keep.out b_4) (fun hHeld=>?_)
 clear hK K
 try dsimp only [Act.put]
 refine rdy1 10 (fun K hK=>?_)
 rw [if_pos (by rfl)]
 have oA:=A_4.mono (Nat.le_trans hwV b_2.size)
 refine wp_append_to (some 58) rfl _ _ 22 rfl w.heap.size 5 i0 (.int .u8 0) 1 1 Tryz.underlying22 hi hz0 hz1 hz2 rfl (by decide) _ 8 (A.map byte) rfl (by have h:=oA;unfold OwnB at h;rw [hAl] at h;exact h) ⟨gb,0,none⟩ 8 cb (B.map byte) rfl (by rw [List.length_map,hBl]) (row_news rowb) (all_one B) (by unfold maxLen;omega) (by omega) (Nat.le_trans hwV b_4.size) ?_
 rintro v_5 w_5 own_5 gr_5 -
 have bq:Below w.heap.size V w_5:=(b_4.mono hwV).grown gr_5 (Nat.le_trans hwV b_4.size) (fun j hj=>(oA.lt j hj).1)
 refine hK.out _ _ (keep.out bq) (fun hHeld=>?_)
 clear hK K
 try dsimp only [Act.put]
 refine rdy1 11 (fun K hK=>?_)
 go_simp
 refine hK.out _ _ (keep.out bq) (fun hHeld=>?_)
 clear hK K
 try dsimp only [Act.put]
 refine wpAnyH_done (by kernel_rfl) ?_ _
 go_wp2_with fail
 go_ret
 refine ⟨_,rfl,?_,bV.trans bq⟩
 have h:=own_5
 refine ⟨5,?_⟩
 rw [List.map_append,List.length_append,hAl,hBl]
 exact h
end Go.Proofs.YtoajfbkblpaejaaGreatDoor
