import Derived.Test.YtbkokcjolanpeaaGreatDoorRgO
namespace Go.Proofs.YtbkokcjolanpeaaGreatDoor
open Go.RowKit
theorem row_of {w:World} {g o:Nat} {l:List UInt8} (h:w.rangeAt g o (l.map byte)):RowAt w (some ⟨g,o,none⟩) l :=
 .inr ⟨g,o,rfl,fun i hi=>h i _ (by simp [byte,hi])⟩
def headL (u gen:Nat):List UInt8:=[75,UInt8.ofNat u,UInt8.ofNat gen,16]
def tagN (master key:List UInt8) (u gen:Nat):List UInt8:=cmacN (cmacN master [77]) (headL u gen ++ key)
def wrapN (master key:List UInt8) (u gen:Nat):List UInt8:=headL u gen ++ (tagN master key u gen ++ aesN (sealK master) (xorL key (tagN master key u gen)) false)
set_option maxRecDepth 100000 in
set_option maxHeartbeats 4000000 in
theorem wrap_some (master key:List UInt8) (u gen kb ko ck yb yo cy:Nat) (w:World) (hm:master.length = 16) (hy:key.length = 16) (hu1:1 ≤ u) (hu3:u ≤ 3) (hg:gen ≤ 255) (rk:w.rangeAt kb ko (master.map byte)) (ry:w.rangeAt yb yo (key.map byte)) :
   Calls Tryz.prog 10 #[.slice (some ⟨kb,ko,none⟩) 16 ck,.agg #[.int .i64 (u:Int),.int .i64 (gen:Int),.slice (some ⟨yb,yo,none⟩) 16 cy]] w fun e w' =>
     ∃ v,e = .returned v ∧ Own w' w.heap.size v (wrapN master key u gen) ∧ Below w.heap.size w w':=by
 have hz16:=(zero_of_info Tryz.z16).1
 have hym:(key.map byte).length = 16:=by rw [List.length_map,hy]
 have HUse:=hid_of' (fun (wx:World)=>isUse_any (u:Int) wx)
 have hdu:(decide (1 ≤ (u:Int)) && decide ((u:Int) ≤ 3)) = true:=by simp;omega
 rw [hdu] at HUse
 have hwu:IntKind.u8.wrap (u:Int) = (u:Int):=by rw [IntKind.wrap_u8];omega
 have hwg:IntKind.u8.wrap (gen:Int) = (gen:Int):=by rw [IntKind.wrap_u8];omega
 have hg0:¬ ((gen:Int) < 0):=by omega
 have hg1:¬ ((255:Int) < (gen:Int)):=by omega
 have hHl:(headL u gen).length = 4:=rfl
 have hHb:[Value.int .u8 75,Value.int .u8 (u:Int),Value.int .u8 (gen:Int),Value.int .u8 16] = (headL u gen).map byte:=by
   simp only [headL,List.map_cons,List.map_nil,byte,UInt8.toNat_ofNat']
   rw [Nat.mod_eq_of_lt (show u < 2 ^ 8 by omega),Nat.mod_eq_of_lt (show gen < 2 ^ 8 by omega)]
   rfl
 have HC1:=hid_of' (fun (c:Nat) (g:Nat) (wx:World) (hc:1 ≤ c) (h1:wx.rangeAt kb ko (master.map byte)) (h2:RowAt wx (some ⟨g,0,none⟩) [77])=>cmac_some master [77] kb ko ck c (some ⟨g,0,none⟩) wx hm (by simp) (by simpa using hc) h1 h2)
 have hMKl:=cmacN_length master [77] hm
 have HSeal:=hid_of' (fun (wx:World) (h:wx.rangeAt kb ko (master.map byte))=>sealing_any master kb ko ck wx hm h)
 have hEl:(sealK master).length = 16:=cmacN_length master [69] hm
 show Calls Tryz.prog 10 _ w fun e w'=>∃ v,e = .returned v ∧ Own w' w.heap.size v (headL u gen ++ (cmacN (cmacN master [77]) (headL u gen ++ key) ++ aesN (sealK master) (xorL key (cmacN (cmacN master [77]) (headL u gen ++ key))) false)) ∧ Below w.heap.size w w'
 obtain ⟨E,hE⟩:∃ E,E = sealK master:=⟨_,rfl⟩
 rw [← hE] at HSeal hEl ⊢
 obtain ⟨MK,hMK⟩:∃ MK,MK = cmacN master [77]:=⟨_,rfl⟩
 rw [← hMK] at HC1 hMKl ⊢
 obtain ⟨H,hH⟩:∃ H,H = headL u gen:=⟨_,rfl⟩
 rw [← hH] at hHb hHl ⊢
 obtain ⟨HK,hHK⟩:∃ HK,HK = H ++ key:=⟨_,rfl⟩
 have hHKl:HK.length = 20:=by rw [hHK,List.length_append,hHl,hy]
 have hHKf:[H,key].flatten = HK:=by rw [hHK];simp
 rw [← hHK]
 have HC2:=hid_of' (fun (g1 c1 g2 c2:Nat) (wx:World) (hc:20 ≤ c2) (h1:wx.rangeAt g1 0 (MK.map byte)) (h2:RowAt wx (some ⟨g2,0,none⟩) HK)=>cmac_some MK HK g1 0 c1 c2 (some ⟨g2,0,none⟩) wx hMKl (by omega) (by omega) h1 h2)
 rw [hHKl] at HC2
 have HCat:=hid_of' (fun (vs:List Value) (g off cap:Nat) (wx:World) (hv:wx.rangeAt g off vs) (hs:vs.length = 2 ∧ ∀ k,k < 2 → Src wx (vs.getD k undef) ([H,key].getD k []))=>concat_any vs [H,key] g off cap 2 wx hs.1 rfl (by omega) (by rw [hHKf,hHKl];omega) hv hs.2)
 rw [hHKf] at HCat
 have hTl:=cmacN_length MK HK hMKl
 obtain ⟨T,hT⟩:∃ T,T = cmacN MK HK:=⟨_,rfl⟩
 rw [← hT] at HC2 hTl ⊢
 have hTm:(T.map byte).length = 16:=by rw [List.length_map,hTl]
 have HX:=hid_of' (fun (g c:Nat) (wx:World) (h:Blk wx g 88 (key.map byte ++ T.map byte))=>xor16_two key T g c 88 wx hy hTl h)
 have hXl:(xorL key T).length = 16:=by rw [xorL_length _ _ (by omega),hy]
 obtain ⟨X,hX⟩:∃ X,X = xorL key T:=⟨_,rfl⟩
 rw [← hX] at HX hXl ⊢
 have hXm:(X.map byte).length = 16:=by rw [List.length_map,hXl]
 have HE:=hid_of' (fun (S1 S2 S3 S4:Nat) (wx:World) (h:Tabs wx S1 S2 S3 S4)=>aes_run E X false S1 S2 S3 S4 wx hEl hXl h.t1 h.t2 h.t3 h.t4)
 have hCl:=aesN_length E X false hEl
 obtain ⟨C,hC⟩:∃ C,C = aesN E X false:=⟨_,rfl⟩
 rw [← hC] at HE hCl ⊢
 replace HE:Hid (∀ S1 S2 S3 S4 wx,Tabs wx S1 S2 S3 S4 → Calls Tryz.prog 34 #[.agg (aesCells ((keysUpto E 11).map byte) S1 S2 S3 S4).toArray,.agg (X.map byte).toArray] wx fun e w'=>e = .returned (.agg (C.map byte).toArray) ∧ Below wx.heap.size wx w'):=HE
 have hCm:(C.map byte).length = 16:=by rw [List.length_map,hCl]
 have hfa:[H,T,C].flatten = H ++ (T ++ C):=by simp
 have hfl:[H,T,C].flatten.length ≤ 1048576:=by rw [hfa,List.length_append,List.length_append,hHl,hTl,hCl];omega
 clear hE hMK hH hHK hT hX hC hdu hHKf
 obtain ⟨W,hW⟩:∃ W,W = (w.alloc (.cells #[.int .i64 (u:Int),.int .i64 (gen:Int),.slice (some ⟨yb,yo,none⟩) 16 cy] 55)).alloc (.cells #[Value.int .u8 75,Value.int .u8 (u:Int),Value.int .u8 (gen:Int),Value.int .u8 16] 5):=⟨_,rfl⟩
 have kB:Blk W w.heap.size 55 [.int .i64 (u:Int),.int .i64 (gen:Int),.slice (some ⟨yb,yo,none⟩) 16 cy]:=by rw [hW];exact (Blk.new w _ _).alloc _
 have kH:Blk W (w.heap.size + 1) 5 (H.map byte):=by rw [hW,← hHb];exact Blk.new2 w _ _ _
 have bW:Below w.heap.size w W:=by rw [hW];exact ((Below.refl _ _).alloc (Nat.le_refl _) _).alloc (by simp) _
 have gW:=hid_of' hW
 clear hW hHb
 go_enter Tryz.func10,Tryz.ntmps10
 go_wp2_with (go_at_call 30;refine (HUse.out _).mono ?_;rintro e wu ⟨rfl,rfl⟩)
 rw [← show W = _ from gW]
 clear gW
 have har:=fun (wx:World)=>run_arrayAt (P:=Tryz.prog) (w:=wx) 88 5 16 (some ⟨yb,yo,none⟩) 16 cy Tryz.underlying88 (Nat.le_refl _)
 go_cut [6] (fun v wx=>∃ gT cT,v = .slice (some ⟨gT,0,none⟩) 16 cT ∧ wx.rangeAt gT 0 (T.map byte) ∧ w.heap.size + 1 < gT ∧ Blk wx w.heap.size 55 [.int .i64 (u:Int),.int .i64 (gen:Int),.slice (some ⟨yb,yo,none⟩) 16 cy] ∧ Blk wx (w.heap.size + 1) 5 (H.map byte) ∧ Below w.heap.size w wx)
 case first =>
   obtain ⟨V,hV⟩:∃ V,V = W.drew:=⟨_,rfl⟩
   replace kB:Blk V w.heap.size 55 [.int .i64 (u:Int),.int .i64 (gen:Int),.slice (some ⟨yb,yo,none⟩) 16 cy]:=by rw [hV];exact kB.drew1
   replace kH:Blk V (w.heap.size + 1) 5 (H.map byte):=by rw [hV];exact kH.drew1
   have bV:Below w.heap.size w V:=by rw [hV];exact bW.drew
   have hwV:=bV.size
   have lV:=kH.lt
   clear bW
   have b_0:Below V.heap.size V V:=Below.refl _ _
   have boxK:Hid (∀ {x},Below V.heap.size V x → Blk x w.heap.size 55 [.int .i64 (u:Int),.int .i64 (gen:Int),.slice (some ⟨yb,yo,none⟩) 16 cy]):=fun h=>kB.below h kB.lt
   have headK:Hid (∀ {x},Below V.heap.size V x → Blk x (w.heap.size + 1) 5 (H.map byte)):=fun h=>kH.below h kH.lt
   have rkV:Hid (∀ {x},Below V.heap.size V x → x.rangeAt kb ko (master.map byte)):=fun h=>range_below (range_below rk bV) h
   have hsrc:Hid (∀ {x},Below V.heap.size V x → [Value.slice (some ⟨w.heap.size + 1,0,none⟩) 4 4,Value.slice (some ⟨yb,yo,none⟩) 16 cy].length = 2 ∧ ∀ k,k < 2 → Src x ([Value.slice (some ⟨w.heap.size + 1,0,none⟩) 4 4,Value.slice (some ⟨yb,yo,none⟩) 16 cy].getD k undef) ([H,key].getD k [])):=by
     intro x hx
     refine ⟨rfl,?_⟩
     intro k hk
     match k,hk with
     | 0,_=>exact ⟨w.heap.size + 1,0,4,by rw [show ([H,key].getD 0 []).length = 4 from hHl];rfl,rowAt_block (headK.out hx)⟩
     | 1,_=>exact ⟨yb,yo,cy,by rw [show ([H,key].getD 1 []).length = 16 from hy];rfl,row_of (range_below (range_below ry bV) hx)⟩
   have keep:Hid (∀ {x},Below V.heap.size V x → x.cell? ⟨w.heap.size,2,none⟩ = some (.slice (some ⟨yb,yo,none⟩) 16 cy)):=fun h=>(boxK.out h).cell 2 (by simp)
   refine wp_region_held_drew (S:=fun x=>x.cell? ⟨w.heap.size,2,none⟩ = some (.slice (some ⟨yb,yo,none⟩) 16 cy)) (by kernel_rfl) (by rw [← hV];exact keep.out b_0) (fun hHeld=>?_)
   rw [← hV] at hHeld ⊢
   clear hV kB kH har
   refine tkA (i:=0) (v:=(.slice (some ⟨kb,ko,none⟩) 16 ck)) rfl hHeld ?_
   try dsimp only [Act.put]
   refine tkA (i:=3) (v:=(Value.slice (some ⟨w.heap.size + 1,0,none⟩) 4 4)) rfl hHeld ?_
   dsimp only [Act.put,List.getElem_toArray,List.getElem_cons_zero,List.getElem_cons_succ]
   simp only [List.setIfInBounds_toArray,List.set_cons_succ,List.set_cons_zero]
   refine tkA (i:=4) (v:=(.pointer (some ⟨w.heap.size,2,none⟩))) rfl hHeld ?_
   try dsimp only [Act.put]
   refine tk (i:=5) (v:=(Value.slice (some ⟨yb,yo,none⟩) 16 cy)) rfl (Or.inl ⟨by rfl,fun w1 h=>by have hc:=h;go_simp⟩) hHeld ?_
   dsimp only [Act.put,List.getElem_toArray,List.getElem_cons_zero,List.getElem_cons_succ]
   simp only [List.setIfInBounds_toArray,List.set_cons_succ,List.set_cons_zero]
   refine wpAnyH_ready (rs:=[1,6]) (by kernel_rfl) (by simp) ?_
   refine AllReadyH.cons rfl (fun K hK=>?_) (AllReadyH.cons rfl (fun K hK=>?_) (AllReadyH.nil))
   · go_simp
     obtain ⟨w_1,hw_1⟩:∃ x,x = World.alloc V (.cells ([.int .u8 77]).toArray 5):=⟨_,rfl⟩
     have bel_1:Below V.heap.size V w_1:=by rw [hw_1];exact below_new _ _
     have m_1:Blk w_1 V.heap.size 5 ([.int .u8 77]):=by rw [hw_1];exact Blk.new _ _ _
     have le_m_1:=b_0.size
     have lt_m_1:=m_1.lt
     have b_1:=below_step b_0 bel_1
     rw [← hw_1]
     clear hw_1
     refine hK.out _ _ (keep.out b_1) (fun hHeld=>?_)
     clear hK K
     try dsimp only [Act.put]
     refine wpAnyH_ready (rs:=[2,6]) (by kernel_rfl) (by simp) ?_
     refine AllReadyH.cons rfl (fun K hK=>?_) (AllReadyH.cons rfl (fun K hK=>?_) (AllReadyH.nil))
     · go_simp
       refine (HC1.out 1 V.heap.size _ (Nat.le_refl _) (rkV.out b_1) (rowAt_block (bs:=[77]) m_1)).mono ?_
       rintro e w_2 ⟨v_2,rfl,own_2,bel_2⟩
       have m_2:=m_1.below bel_2 m_1.lt
       have b_2:=below_step b_1 bel_2
       obtain ⟨gK_2,cK_2,hcK_2,rfl,mk_2,logK_2,-⟩:=Own.at' own_2 hMKl (by omega)
       clear own_2
       go_wp2_with fail
       refine hK.out _ _ (keep.out b_2) (fun hHeld=>?_)
       clear hK K
       try dsimp only [Act.put]
       refine rdy1 6 (fun K hK=>?_)
       go_simp
       obtain ⟨w_3,hw_3⟩:∃ x,x = World.alloc w_2 (.cells ([Value.slice (some ⟨w.heap.size + 1,0,none⟩) 4 4,Value.slice (some ⟨yb,yo,none⟩) 16 cy]).toArray 22):=⟨_,rfl⟩
       have bel_3:Below w_2.heap.size w_2 w_3:=by rw [hw_3];exact below_new _ _
       have sl_3:Blk w_3 w_2.heap.size 22 ([Value.slice (some ⟨w.heap.size + 1,0,none⟩) 4 4,Value.slice (some ⟨yb,yo,none⟩) 16 cy]):=by rw [hw_3];exact Blk.new _ _ _
       have le_sl_3:=b_2.size
       have lt_sl_3:=sl_3.lt
       have m_3:=m_2.below bel_3 m_2.lt
       have mk_3:=range_below mk_2 bel_3
       have b_3:=below_step b_2 bel_3
       rw [← hw_3]
       clear hw_3
       refine hK.out _ _ (keep.out b_3) (fun hHeld=>?_)
       clear hK K
       try dsimp only [Act.put]
       refine rdy1 7 (fun K hK=>?_)
       go_simp
       refine (HCat.out [Value.slice (some ⟨w.heap.size + 1,0,none⟩) 4 4,Value.slice (some ⟨yb,yo,none⟩) 16 cy] w_2.heap.size 0 2 _ (blk_whole sl_3) (hsrc.out b_3)).mono ?_
       rintro e w_4 ⟨v_4,rfl,own_4,bel_4⟩
       have m_4:=m_3.below bel_4 m_3.lt
       have mk_4:=range_below mk_3 bel_4
       have sl_4:=sl_3.below bel_4 sl_3.lt
       have b_4:=below_step b_3 bel_4
       obtain ⟨gH_4,cH_4,hcH_4,rfl,hk_4,logH_4,-⟩:=Own.at' own_4.own hHKl (by omega)
       clear own_4
       have szT:=b_4.size
       go_wp2_with fail
       refine hK.out _ _ (keep.out b_4) (fun hHeld=>?_)
       clear hK K
       try dsimp only [Act.put]
       refine rdy1 8 (fun K hK=>?_)
       go_simp
       refine (HC2.out _ _ _ _ _ hcH_4 mk_4 (row_of hk_4)).mono ?_
       rintro e w_5 ⟨v_5,rfl,own_5,bel_5⟩
       have m_5:=m_4.below bel_5 m_4.lt
       have mk_5:=range_below mk_4 bel_5
       have sl_5:=sl_4.below bel_5 sl_4.lt
       have hk_5:=range_below hk_4 bel_5
       have b_5:=below_step b_4 bel_5
       obtain ⟨gT_5,cT_5,hcT_5,rfl,t_5,logT_5,-⟩:=Own.at' own_5 hTl (by omega)
       clear own_5
       go_wp2_with fail
       refine hK.out _ _ (keep.out b_5) (fun hHeld=>?_)
       clear hK K
       try dsimp only [Act.put]
       refine rdy1 9 (fun K hK=>?_)
       go_simp
       refine hK.out _ _ (keep.out b_5) (fun hHeld=>?_)
       clear hK K
       try dsimp only [Act.put]
       refine wpAnyH_done (by kernel_rfl) ?_ _
       go_wp2_with fail
       go_meet
       case rel=>exact ⟨gT_5,cT_5,rfl,t_5,by omega,boxK.out b_5,headK.out b_5,bV.trans (b_5.mono hwV)⟩
     · go_simp
       obtain ⟨w_7,hw_7⟩:∃ x,x = World.alloc w_1 (.cells ([Value.slice (some ⟨w.heap.size + 1,0,none⟩) 4 4,Value.slice (some ⟨yb,yo,none⟩) 16 cy]).toArray 22):=⟨_,rfl⟩
       have bel_7:Below w_1.heap.size w_1 w_7:=by rw [hw_7];exact below_new _ _
       have sl_7:Blk w_7 w_1.heap.size 22 ([Value.slice (some ⟨w.heap.size + 1,0,none⟩) 4 4,Value.slice (some ⟨yb,yo,none⟩) 16 cy]):=by rw [hw_7];exact Blk.new _ _ _
       have le_sl_7:=b_1.size
       have lt_sl_7:=sl_7.lt
       have m_7:=m_1.below bel_7 m_1.lt
       have b_7:=below_step b_1 bel_7
       rw [← hw_7]
       clear hw_7
       refine hK.out _ _ (keep.out b_7) (fun hHeld=>?_)
       clear hK K
       try dsimp only [Act.put]
       refine rdy1 2 (fun K hK=>?_)
       go_simp
       refine (HC1.out 1 V.heap.size _ (Nat.le_refl _) (rkV.out b_7) (rowAt_block (bs:=[77]) m_7)).mono ?_
       rintro e w_8 ⟨v_8,rfl,own_8,bel_8⟩
       have m_8:=m_7.below bel_8 m_7.lt
       have sl_8:=sl_7.below bel_8 sl_7.lt
       have b_8:=below_step b_7 bel_8
       obtain ⟨gK_8,cK_8,hcK_8,rfl,mk_8,logK_8,-⟩:=Own.at' own_8 hMKl (by omega)
       clear own_8
       go_wp2_with fail
       refine hK.out _ _ (keep.out b_8) (fun hHeld=>?_)
       clear hK K
       try dsimp only [Act.put]
       refine rdy1 7 (fun K hK=>?_)
       go_simp
       refine (HCat.out [Value.slice (some ⟨w.heap.size + 1,0,none⟩) 4 4,Value.slice (some ⟨yb,yo,none⟩) 16 cy] w_1.heap.size 0 2 _ (blk_whole sl_8) (hsrc.out b_8)).mono ?_
       rintro e w_9 ⟨v_9,rfl,own_9,bel_9⟩
       have m_9:=m_8.below bel_9 m_8.lt
       have sl_9:=sl_8.below bel_9 sl_8.lt
       have mk_9:=range_below mk_8 bel_9
       have b_9:=below_step b_8 bel_9
       obtain ⟨gH_9,cH_9,hcH_9,rfl,hk_9,logH_9,-⟩:=Own.at' own_9.own hHKl (by omega)
       clear own_9
       have szT:=b_9.size
       go_wp2_with fail
       refine hK.out _ _ (keep.out b_9) (fun hHeld=>?_)
       clear hK K
       try dsimp only [Act.put]
       refine rdy1 8 (fun K hK=>?_)
       go_simp
       refine (HC2.out _ _ _ _ _ hcH_9 mk_9 (row_of hk_9)).mono ?_
       rintro e w_10 ⟨v_10,rfl,own_10,bel_10⟩
       have m_10:=m_9.below bel_10 m_9.lt
       have sl_10:=sl_9.below bel_10 sl_9.lt
       have mk_10:=range_below mk_9 bel_10
       have hk_10:=range_below hk_9 bel_10
       have b_10:=below_step b_9 bel_10
       obtain ⟨gT_10,cT_10,hcT_10,rfl,t_10,logT_10,-⟩:=Own.at' own_10 hTl (by omega)
       clear own_10
       go_wp2_with fail
       refine hK.out _ _ (keep.out b_10) (fun hHeld=>?_)
       clear hK K
       try dsimp only [Act.put]
       refine rdy1 9 (fun K hK=>?_)
       go_simp
       refine hK.out _ _ (keep.out b_10) (fun hHeld=>?_)
       clear hK K
       try dsimp only [Act.put]
       refine wpAnyH_done (by kernel_rfl) ?_ _
       go_wp2_with fail
       go_meet
       case rel=>exact ⟨gT_10,cT_10,rfl,t_10,by omega,boxK.out b_10,headK.out b_10,bV.trans (b_10.mono hwV)⟩
   · go_simp
     obtain ⟨w_12,hw_12⟩:∃ x,x = World.alloc V (.cells ([Value.slice (some ⟨w.heap.size + 1,0,none⟩) 4 4,Value.slice (some ⟨yb,yo,none⟩) 16 cy]).toArray 22):=⟨_,rfl⟩
     have bel_12:Below V.heap.size V w_12:=by rw [hw_12];exact below_new _ _
     have sl_12:Blk w_12 V.heap.size 22 ([Value.slice (some ⟨w.heap.size + 1,0,none⟩) 4 4,Value.slice (some ⟨yb,yo,none⟩) 16 cy]):=by rw [hw_12];exact Blk.new _ _ _
     have le_sl_12:=b_0.size
     have lt_sl_12:=sl_12.lt
     have b_12:=below_step b_0 bel_12
     rw [← hw_12]
     clear hw_12
     refine hK.out _ _ (keep.out b_12) (fun hHeld=>?_)
     clear hK K
     try dsimp only [Act.put]
     refine rdy1 1 (fun K hK=>?_)
     go_simp
     obtain ⟨w_13,hw_13⟩:∃ x,x = World.alloc w_12 (.cells ([.int .u8 77]).toArray 5):=⟨_,rfl⟩
     have bel_13:Below w_12.heap.size w_12 w_13:=by rw [hw_13];exact below_new _ _
     have m_13:Blk w_13 w_12.heap.size 5 ([.int .u8 77]):=by rw [hw_13];exact Blk.new _ _ _
     have le_m_13:=b_12.size
     have lt_m_13:=m_13.lt
     have sl_13:=sl_12.below bel_13 sl_12.lt
     have b_13:=below_step b_12 bel_13
     rw [← hw_13]
     clear hw_13
     refine hK.out _ _ (keep.out b_13) (fun hHeld=>?_)
     clear hK K
     try dsimp only [Act.put]
     refine rdy1 2 (fun K hK=>?_)
     go_simp
     refine (HC1.out 1 w_12.heap.size _ (Nat.le_refl _) (rkV.out b_13) (rowAt_block (bs:=[77]) m_13)).mono ?_
     rintro e w_14 ⟨v_14,rfl,own_14,bel_14⟩
     have sl_14:=sl_13.below bel_14 sl_13.lt
     have m_14:=m_13.below bel_14 m_13.lt
     have b_14:=below_step b_13 bel_14
     obtain ⟨gK_14,cK_14,hcK_14,rfl,mk_14,logK_14,-⟩:=Own.at' own_14 hMKl (by omega)
     clear own_14
     go_wp2_with fail
     refine hK.out _ _ (keep.out b_14) (fun hHeld=>?_)
     clear hK K
     try dsimp only [Act.put]
     refine rdy1 7 (fun K hK=>?_)
     go_simp
     refine (HCat.out [Value.slice (some ⟨w.heap.size + 1,0,none⟩) 4 4,Value.slice (some ⟨yb,yo,none⟩) 16 cy] V.heap.size 0 2 _ (blk_whole sl_14) (hsrc.out b_14)).mono ?_
     rintro e w_15 ⟨v_15,rfl,own_15,bel_15⟩
     have sl_15:=sl_14.below bel_15 sl_14.lt
     have m_15:=m_14.below bel_15 m_14.lt
     have mk_15:=range_below mk_14 bel_15
     have b_15:=below_step b_14 bel_15
     obtain ⟨gH_15,cH_15,hcH_15,rfl,hk_15,logH_15,-⟩:=Own.at' own_15.own hHKl (by omega)
     clear own_15
     have szT:=b_15.size
     go_wp2_with fail
     refine hK.out _ _ (keep.out b_15) (fun hHeld=>?_)
     clear hK K
     try dsimp only [Act.put]
     refine rdy1 8 (fun K hK=>?_)
     go_simp
     refine (HC2.out _ _ _ _ _ hcH_15 mk_15 (row_of hk_15)).mono ?_
     rintro e w_16 ⟨v_16,rfl,own_16,bel_16⟩
     have sl_16:=sl_15.below bel_16 sl_15.lt
     have m_16:=m_15.below bel_16 m_15.lt
     have mk_16:=range_below mk_15 bel_16
     have hk_16:=range_below hk_15 bel_16
     have b_16:=below_step b_15 bel_16
     obtain ⟨gT_16,cT_16,hcT_16,rfl,t_16,logT_16,-⟩:=Own.at' own_16 hTl (by omega)
     clear own_16
     go_wp2_with fail
     refine hK.out _ _ (keep.out b_16) (fun hHeld=>?_)
     clear hK K
     try dsimp only [Act.put]
     refine rdy1 9 (fun K hK=>?_)
     go_simp
     refine hK.out _ _ (keep.out b_16) (fun hHeld=>?_)
     clear hK K
     try dsimp only [Act.put]
     refine wpAnyH_done (by kernel_rfl) ?_ _
     go_wp2_with fail
     go_meet
     case rel=>exact ⟨gT_16,cT_16,rfl,t_16,by omega,boxK.out b_16,headK.out b_16,bV.trans (b_16.mono hwV)⟩
 case rest =>
   clear kB kH bW W
   obtain ⟨gT,cT,rfl,rT,hgT,kB,kH,bW⟩:=hcut
   have har2:=fun (wx:World)=>run_arrayAt (P:=Tryz.prog) (w:=wx) 88 5 16 (some ⟨gT,0,none⟩) 16 cT Tryz.underlying88 (Nat.le_refl _)
   go_wp2_with fail
   go_cut [7] (fun p wx=>∃ G,p = .pointer (some ⟨G,0,none⟩) ∧ w.heap.size + 1 < G ∧ Blk wx G 88 (X.map byte) ∧ wx.rangeAt gT 0 (T.map byte) ∧ Blk wx (w.heap.size + 1) 5 (H.map byte) ∧ Below w.heap.size w wx)
   case first =>
     obtain ⟨V,hV⟩:∃ V,V = wc.drew:=⟨_,rfl⟩
     replace kB:Blk V w.heap.size 55 [.int .i64 (u:Int),.int .i64 (gen:Int),.slice (some ⟨yb,yo,none⟩) 16 cy]:=by rw [hV];exact kB.drew1
     replace kH:Blk V (w.heap.size + 1) 5 (H.map byte):=by rw [hV];exact kH.drew1
     replace rT:V.rangeAt gT 0 (T.map byte):=by rw [hV];exact rT
     have bV:Below w.heap.size w V:=by rw [hV];exact bW.drew
     have hwV:=bV.size
     have lV:=kH.lt
     clear bW
     have b_0:Below V.heap.size V V:=Below.refl _ _
     have headK:Hid (∀ {x},Below V.heap.size V x → Blk x (w.heap.size + 1) 5 (H.map byte)):=fun h=>kH.below h kH.lt
     have tK:Hid (∀ {x},Below V.heap.size V x → x.rangeAt gT 0 (T.map byte)):=fun h=>range_below rT h
     have keep:Hid (∀ {x},Below V.heap.size V x → x.cell? ⟨w.heap.size,2,none⟩ = some (.slice (some ⟨yb,yo,none⟩) 16 cy) ∧ x.rangeAt yb yo (key.map byte) ∧ x.rangeAt gT 0 (T.map byte)):=fun h=>⟨(kB.below h kB.lt).cell 2 (by simp),range_below (range_below ry bV) h,range_below rT h⟩
     refine wp_region_held_drew (S:=fun x=>x.cell? ⟨w.heap.size,2,none⟩ = some (.slice (some ⟨yb,yo,none⟩) 16 cy) ∧ x.rangeAt yb yo (key.map byte) ∧ x.rangeAt gT 0 (T.map byte)) (by kernel_rfl) (by rw [← hV];exact keep.out b_0) (fun hHeld=>?_)
     rw [← hV] at hHeld ⊢
     clear hV kB kH
     refine tkA (i:=0) (v:=(.pointer (some ⟨w.heap.size,2,none⟩))) rfl hHeld ?_
     try dsimp only [Act.put]
     refine tk (i:=1) (v:=(Value.slice (some ⟨yb,yo,none⟩) 16 cy)) rfl (Or.inl ⟨by rfl,fun w1 h=>by have hc:=h.1;go_simp⟩) hHeld ?_
     dsimp only [Act.put,List.getElem_toArray,List.getElem_cons_zero,List.getElem_cons_succ]
     simp only [List.setIfInBounds_toArray,List.set_cons_succ,List.set_cons_zero]
     refine tkA (i:=2) (v:=(.pointer (some ⟨yb,yo,none⟩))) rfl hHeld ?_
     try dsimp only [Act.put]
     refine tk (i:=3) (v:=(.agg (key.map byte).toArray)) rfl (yieldsIf_load_mid (by rfl) 88 _ rfl yb yo rfl (key.map byte) _ (fun _ h=>h.2.1) Tryz.underlying88 rfl (by rw [hym];kernel_rfl)) hHeld ?_
     dsimp only [Act.put,List.getElem_toArray,List.getElem_cons_zero,List.getElem_cons_succ]
     simp only [List.setIfInBounds_toArray,List.set_cons_succ,List.set_cons_zero]
     refine tkA (i:=4) (v:=(.slice (some ⟨gT,0,none⟩) 16 cT)) rfl hHeld ?_
     try dsimp only [Act.put]
     refine tkA (i:=5) (v:=(.pointer (some ⟨gT,0,none⟩))) rfl hHeld ?_
     dsimp only [Act.put,List.getElem_toArray,List.getElem_cons_zero,List.getElem_cons_succ]
     simp only [List.setIfInBounds_toArray,List.set_cons_succ,List.set_cons_zero]
     refine tk (i:=6) (v:=(.agg (T.map byte).toArray)) rfl (yieldsIf_load_mid (by rfl) 88 _ rfl gT 0 rfl (T.map byte) _ (fun _ h=>h.2.2) Tryz.underlying88 rfl (by rw [hTm];kernel_rfl)) hHeld ?_
     try dsimp only [Act.put]
     refine wpAnyH_ready (rs:=[7,9]) (by kernel_rfl) (by simp) ?_
     refine AllReadyH.cons rfl (fun K hK=>?_) (AllReadyH.cons rfl (fun K hK=>?_) (AllReadyH.nil))
     · rw [if_pos (by rfl)]
       refine wp_build2 (some 57) rfl 148 _ _ rfl 88 16 _ (key.map byte) (T.map byte) rfl rfl Tryz.underlying148 Tryz.zero88 hym hTm (by omega) (by omega) ?_
       try dsimp only [Act.put]
       obtain ⟨w_1,hw_1⟩:∃ x,x = World.alloc V (.cells (key.map byte ++ T.map byte).toArray 88):=⟨_,rfl⟩
       have bel_1:Below V.heap.size V w_1:=by rw [hw_1];exact below_new _ _
       have bs_1:Blk w_1 V.heap.size 88 (key.map byte ++ T.map byte):=by rw [hw_1];exact Blk.new _ _ _
       have le_bs_1:=b_0.size
       have lt_bs_1:=bs_1.lt
       have b_1:=below_step b_0 bel_1
       rw [← hw_1]
       clear hw_1
       refine hK.out _ _ (keep.out b_1) (fun hHeld=>?_)
       clear hK K
       try dsimp only [Act.put]
       refine wpAnyH_ready (rs:=[8,9]) (by kernel_rfl) (by simp) ?_
       refine AllReadyH.cons rfl (fun K hK=>?_) (AllReadyH.cons rfl (fun K hK=>?_) (AllReadyH.nil))
       · go_simp
         refine (HX.out V.heap.size 2 _ bs_1).mono ?_
         rintro e w_2 ⟨rfl,bel_2⟩
         have bs_2:=bs_1.below bel_2 bs_1.lt
         have b_2:=below_step b_1 bel_2
         go_wp2_with fail
         refine hK.out _ _ (keep.out b_2) (fun hHeld=>?_)
         clear hK K
         try dsimp only [Act.put]
         refine rdy1 9 (fun K hK=>?_)
         go_simp
         obtain ⟨w_3,hw_3⟩:∃ x,x = World.alloc w_2 (.cells (zerosOf 16 .u8).toArray 88):=⟨_,rfl⟩
         have bel_3:Below w_2.heap.size w_2 w_3:=by rw [hw_3];exact below_new _ _
         have G_3:Blk w_3 w_2.heap.size 88 (zerosOf 16 .u8):=by rw [hw_3];exact Blk.new _ _ _
         have le_G_3:=b_2.size
         have lt_G_3:=G_3.lt
         have bs_3:=bs_2.below bel_3 bs_2.lt
         have b_3:=below_step b_2 bel_3
         rw [← hw_3]
         clear hw_3
         refine hK.out _ _ (keep.out b_3) (fun hHeld=>?_)
         clear hK K
         try dsimp only [Act.put]
         refine rdy1 10 (fun K hK=>?_)
         rw [if_pos (by rfl)]
         refine wp_store_blk rfl 88 _ _ rfl w_2.heap.size rfl rfl G_3 (by rw [hXm];kernel_rfl) (by rw [hXm];exact zerosOf_length _ _) (allOne_bytes _) ?_
         have G_4:=Blk.setRow G_3 (X.map byte)
         have b_4:=below_setRow' (g:=w_2.heap.size) b_3 le_G_3 (X.map byte).toArray
         refine hK.out _ _ (keep.out b_4) (fun hHeld=>?_)
         clear hK K
         try dsimp only [Act.put]
         refine wpAnyH_done (by kernel_rfl) ?_ _
         go_wp2_with fail
         go_meet
         case rel=>exact ⟨_,rfl,by omega,G_4,tK.out b_4,headK.out b_4,bV.trans (b_4.mono hwV)⟩
       · go_simp
         obtain ⟨w_5,hw_5⟩:∃ x,x = World.alloc w_1 (.cells (zerosOf 16 .u8).toArray 88):=⟨_,rfl⟩
         have bel_5:Below w_1.heap.size w_1 w_5:=by rw [hw_5];exact below_new _ _
         have G_5:Blk w_5 w_1.heap.size 88 (zerosOf 16 .u8):=by rw [hw_5];exact Blk.new _ _ _
         have le_G_5:=b_1.size
         have lt_G_5:=G_5.lt
         have bs_5:=bs_1.below bel_5 bs_1.lt
         have b_5:=below_step b_1 bel_5
         rw [← hw_5]
         clear hw_5
         refine hK.out _ _ (keep.out b_5) (fun hHeld=>?_)
         clear hK K
         try dsimp only [Act.put]
         refine rdy1 8 (fun K hK=>?_)
         go_simp
         refine (HX.out V.heap.size 2 _ bs_5).mono ?_
         rintro e w_6 ⟨rfl,bel_6⟩
         have bs_6:=bs_5.below bel_6 bs_5.lt
         have G_6:=G_5.below bel_6 G_5.lt
         have b_6:=below_step b_5 bel_6
         go_wp2_with fail
         refine hK.out _ _ (keep.out b_6) (fun hHeld=>?_)
         clear hK K
         try dsimp only [Act.put]
         refine rdy1 10 (fun K hK=>?_)
         rw [if_pos (by rfl)]
         refine wp_store_blk rfl 88 _ _ rfl w_1.heap.size rfl rfl G_6 (by rw [hXm];kernel_rfl) (by rw [hXm];exact zerosOf_length _ _) (allOne_bytes _) ?_
         have G_7:=Blk.setRow G_6 (X.map byte)
         have b_7:=below_setRow' (g:=w_1.heap.size) b_6 le_G_5 (X.map byte).toArray
         refine hK.out _ _ (keep.out b_7) (fun hHeld=>?_)
         clear hK K
         try dsimp only [Act.put]
         refine wpAnyH_done (by kernel_rfl) ?_ _
         go_wp2_with fail
         go_meet
         case rel=>exact ⟨_,rfl,by omega,G_7,tK.out b_7,headK.out b_7,bV.trans (b_7.mono hwV)⟩
     · go_simp
       obtain ⟨w_8,hw_8⟩:∃ x,x = World.alloc V (.cells (zerosOf 16 .u8).toArray 88):=⟨_,rfl⟩
       have bel_8:Below V.heap.size V w_8:=by rw [hw_8];exact below_new _ _
       have G_8:Blk w_8 V.heap.size 88 (zerosOf 16 .u8):=by rw [hw_8];exact Blk.new _ _ _
       have le_G_8:=b_0.size
       have lt_G_8:=G_8.lt
       have b_8:=below_step b_0 bel_8
       rw [← hw_8]
       clear hw_8
       refine hK.out _ _ (keep.out b_8) (fun hHeld=>?_)
       clear hK K
       try dsimp only [Act.put]
       refine rdy1 7 (fun K hK=>?_)
       rw [if_pos (by rfl)]
       refine wp_build2 (some 57) rfl 148 _ _ rfl 88 16 _ (key.map byte) (T.map byte) rfl rfl Tryz.underlying148 Tryz.zero88 hym hTm (by omega) (by omega) ?_
       try dsimp only [Act.put]
       obtain ⟨w_9,hw_9⟩:∃ x,x = World.alloc w_8 (.cells (key.map byte ++ T.map byte).toArray 88):=⟨_,rfl⟩
       have bel_9:Below w_8.heap.size w_8 w_9:=by rw [hw_9];exact below_new _ _
       have bs_9:Blk w_9 w_8.heap.size 88 (key.map byte ++ T.map byte):=by rw [hw_9];exact Blk.new _ _ _
       have le_bs_9:=b_8.size
       have lt_bs_9:=bs_9.lt
       have G_9:=G_8.below bel_9 G_8.lt
       have b_9:=below_step b_8 bel_9
       rw [← hw_9]
       clear hw_9
       refine hK.out _ _ (keep.out b_9) (fun hHeld=>?_)
       clear hK K
       try dsimp only [Act.put]
       refine rdy1 8 (fun K hK=>?_)
       go_simp
       refine (HX.out w_8.heap.size 2 _ bs_9).mono ?_
       rintro e w_10 ⟨rfl,bel_10⟩
       have G_10:=G_9.below bel_10 G_9.lt
       have bs_10:=bs_9.below bel_10 bs_9.lt
       have b_10:=below_step b_9 bel_10
       go_wp2_with fail
       refine hK.out _ _ (keep.out b_10) (fun hHeld=>?_)
       clear hK K
       try dsimp only [Act.put]
       refine rdy1 10 (fun K hK=>?_)
       rw [if_pos (by rfl)]
       refine wp_store_blk rfl 88 _ _ rfl V.heap.size rfl rfl G_10 (by rw [hXm];kernel_rfl) (by rw [hXm];exact zerosOf_length _ _) (allOne_bytes _) ?_
       have G_11:=Blk.setRow G_10 (X.map byte)
       have b_11:=below_setRow' (g:=V.heap.size) b_10 le_G_8 (X.map byte).toArray
       refine hK.out _ _ (keep.out b_11) (fun hHeld=>?_)
       clear hK K
       try dsimp only [Act.put]
       refine wpAnyH_done (by kernel_rfl) ?_ _
       go_wp2_with fail
       go_meet
       case rel=>exact ⟨_,rfl,by omega,G_11,tK.out b_11,headK.out b_11,bV.trans (b_11.mono hwV)⟩
   case rest =>
     clear kB kH bW rT har har2
     obtain ⟨GX,rfl,hGX,kX,rT,kH,bW⟩:=hcut
     go_wp2_with fail
     go_cut [8] (fun p wx=>∃ G,p = .pointer (some ⟨G,0,none⟩) ∧ w.heap.size + 1 < G ∧ Blk wx G 88 (C.map byte) ∧ wx.rangeAt gT 0 (T.map byte) ∧ Blk wx (w.heap.size + 1) 5 (H.map byte) ∧ Below w.heap.size w wx)
     case first =>
       obtain ⟨V,hV⟩:∃ V,V = wc.drew:=⟨_,rfl⟩
       replace kX:Blk V GX 88 (X.map byte):=by rw [hV];exact kX.drew1
       replace kH:Blk V (w.heap.size + 1) 5 (H.map byte):=by rw [hV];exact kH.drew1
       replace rT:V.rangeAt gT 0 (T.map byte):=by rw [hV];exact rT
       have bV:Below w.heap.size w V:=by rw [hV];exact bW.drew
       have hwV:=bV.size
       have lV:=kH.lt
       clear bW
       have b_0:Below V.heap.size V V:=Below.refl _ _
       have headK:Hid (∀ {x},Below V.heap.size V x → Blk x (w.heap.size + 1) 5 (H.map byte)):=fun h=>kH.below h kH.lt
       have tK:Hid (∀ {x},Below V.heap.size V x → x.rangeAt gT 0 (T.map byte)):=fun h=>range_below rT h
       have rkV:Hid (∀ {x},Below V.heap.size V x → x.rangeAt kb ko (master.map byte)):=fun h=>range_below (range_below rk bV) h
       have keep:Hid (∀ {x},Below V.heap.size V x → x.rangeAt GX 0 (X.map byte)):=fun h=>blk_whole (kX.below h kX.lt)
       refine wp_region_held_drew (S:=fun x=>x.rangeAt GX 0 (X.map byte)) (by kernel_rfl) (by rw [← hV];exact keep.out b_0) (fun hHeld=>?_)
       rw [← hV] at hHeld ⊢
       clear hV kX kH
       refine tkA (i:=0) (v:=(.slice (some ⟨kb,ko,none⟩) 16 ck)) rfl hHeld ?_
       dsimp only [Act.put,List.getElem_toArray,List.getElem_cons_zero,List.getElem_cons_succ]
       simp only [List.setIfInBounds_toArray,List.set_cons_succ,List.set_cons_zero]
       refine tk (i:=2) (v:=(.agg (X.map byte).toArray)) rfl (yieldsIf_load_mid (by rfl) 88 _ rfl GX 0 rfl (X.map byte) _ (fun _ h=>h) Tryz.underlying88 rfl (by rw [hXm];kernel_rfl)) hHeld ?_
       try dsimp only [Act.put]
       refine wpAnyH_ready (rs:=[1,4]) (by kernel_rfl) (by simp) ?_
       refine AllReadyH.cons rfl (fun K hK=>?_) (AllReadyH.cons rfl (fun K hK=>?_) (AllReadyH.nil))
       · go_simp
         refine (HSeal.out _ (rkV.out b_0)).mono ?_
         rintro e w_1 ⟨S1_1,S2_1,S3_1,S4_1,rfl,tb_1,bel_1⟩
         have b_1:=below_step b_0 bel_1
         go_wp2_with fail
         refine hK.out _ _ (keep.out b_1) (fun hHeld=>?_)
         clear hK K
         try dsimp only [Act.put]
         refine wpAnyH_ready (rs:=[3,4]) (by kernel_rfl) (by simp) ?_
         refine AllReadyH.cons rfl (fun K hK=>?_) (AllReadyH.cons rfl (fun K hK=>?_) (AllReadyH.nil))
         · go_simp
           refine (HE.out _ _ _ _ _ tb_1).mono ?_
           rintro e w_2 ⟨rfl,bel_2⟩
           have tbb_2:=tb_1.below bel_2
           have b_2:=below_step b_1 bel_2
           go_wp2_with fail
           refine hK.out _ _ (keep.out b_2) (fun hHeld=>?_)
           clear hK K
           try dsimp only [Act.put]
           refine rdy1 4 (fun K hK=>?_)
           go_simp
           obtain ⟨w_3,hw_3⟩:∃ x,x = World.alloc w_2 (.cells (zerosOf 16 .u8).toArray 88):=⟨_,rfl⟩
           have bel_3:Below w_2.heap.size w_2 w_3:=by rw [hw_3];exact below_new _ _
           have G_3:Blk w_3 w_2.heap.size 88 (zerosOf 16 .u8):=by rw [hw_3];exact Blk.new _ _ _
           have le_G_3:=b_2.size
           have lt_G_3:=G_3.lt
           have tbb_3:=tbb_2.below bel_3
           have b_3:=below_step b_2 bel_3
           rw [← hw_3]
           clear hw_3
           refine hK.out _ _ (keep.out b_3) (fun hHeld=>?_)
           clear hK K
           try dsimp only [Act.put]
           refine rdy1 5 (fun K hK=>?_)
           rw [if_pos (by rfl)]
           refine wp_store_blk rfl 88 _ _ rfl w_2.heap.size rfl rfl G_3 (by rw [hCm];kernel_rfl) (by rw [hCm];exact zerosOf_length _ _) (allOne_bytes _) ?_
           have G_4:=Blk.setRow G_3 (C.map byte)
           have b_4:=below_setRow' (g:=w_2.heap.size) b_3 le_G_3 (C.map byte).toArray
           refine hK.out _ _ (keep.out b_4) (fun hHeld=>?_)
           clear hK K
           try dsimp only [Act.put]
           refine wpAnyH_done (by kernel_rfl) ?_ _
           go_wp2_with fail
           go_meet
           case rel=>exact ⟨_,rfl,by omega,G_4,tK.out b_4,headK.out b_4,bV.trans (b_4.mono hwV)⟩
         · go_simp
           obtain ⟨w_5,hw_5⟩:∃ x,x = World.alloc w_1 (.cells (zerosOf 16 .u8).toArray 88):=⟨_,rfl⟩
           have bel_5:Below w_1.heap.size w_1 w_5:=by rw [hw_5];exact below_new _ _
           have G_5:Blk w_5 w_1.heap.size 88 (zerosOf 16 .u8):=by rw [hw_5];exact Blk.new _ _ _
           have le_G_5:=b_1.size
           have lt_G_5:=G_5.lt
           have tbb_5:=tb_1.below bel_5
           have b_5:=below_step b_1 bel_5
           rw [← hw_5]
           clear hw_5
           refine hK.out _ _ (keep.out b_5) (fun hHeld=>?_)
           clear hK K
           try dsimp only [Act.put]
           refine rdy1 3 (fun K hK=>?_)
           go_simp
           refine (HE.out _ _ _ _ _ tbb_5).mono ?_
           rintro e w_6 ⟨rfl,bel_6⟩
           have tbb_6:=tbb_5.below bel_6
           have G_6:=G_5.below bel_6 G_5.lt
           have b_6:=below_step b_5 bel_6
           go_wp2_with fail
           refine hK.out _ _ (keep.out b_6) (fun hHeld=>?_)
           clear hK K
           try dsimp only [Act.put]
           refine rdy1 5 (fun K hK=>?_)
           rw [if_pos (by rfl)]
           refine wp_store_blk rfl 88 _ _ rfl w_1.heap.size rfl rfl G_6 (by rw [hCm];kernel_rfl) (by rw [hCm];exact zerosOf_length _ _) (allOne_bytes _) ?_
           have G_7:=Blk.setRow G_6 (C.map byte)
           have b_7:=below_setRow' (g:=w_1.heap.size) b_6 le_G_5 (C.map byte).toArray
           refine hK.out _ _ (keep.out b_7) (fun hHeld=>?_)
           clear hK K
           try dsimp only [Act.put]
           refine wpAnyH_done (by kernel_rfl) ?_ _
           go_wp2_with fail
           go_meet
           case rel=>exact ⟨_,rfl,by omega,G_7,tK.out b_7,headK.out b_7,bV.trans (b_7.mono hwV)⟩
       · go_simp
         obtain ⟨w_8,hw_8⟩:∃ x,x = World.alloc V (.cells (zerosOf 16 .u8).toArray 88):=⟨_,rfl⟩
         have bel_8:Below V.heap.size V w_8:=by rw [hw_8];exact below_new _ _
         have G_8:Blk w_8 V.heap.size 88 (zerosOf 16 .u8):=by rw [hw_8];exact Blk.new _ _ _
         have le_G_8:=b_0.size
         have lt_G_8:=G_8.lt
         have b_8:=below_step b_0 bel_8
         rw [← hw_8]
         clear hw_8
         refine hK.out _ _ (keep.out b_8) (fun hHeld=>?_)
         clear hK K
         try dsimp only [Act.put]
         refine rdy1 1 (fun K hK=>?_)
         go_simp
         refine (HSeal.out _ (rkV.out b_8)).mono ?_
         rintro e w_9 ⟨S1_9,S2_9,S3_9,S4_9,rfl,tb_9,bel_9⟩
         have G_9:=G_8.below bel_9 G_8.lt
         have b_9:=below_step b_8 bel_9
         go_wp2_with fail
         refine hK.out _ _ (keep.out b_9) (fun hHeld=>?_)
         clear hK K
         try dsimp only [Act.put]
         refine rdy1 3 (fun K hK=>?_)
         go_simp
         refine (HE.out _ _ _ _ _ tb_9).mono ?_
         rintro e w_10 ⟨rfl,bel_10⟩
         have tbb_10:=tb_9.below bel_10
         have G_10:=G_9.below bel_10 G_9.lt
         have b_10:=below_step b_9 bel_10
         go_wp2_with fail
         refine hK.out _ _ (keep.out b_10) (fun hHeld=>?_)
         clear hK K
         try dsimp only [Act.put]
         refine rdy1 5 (fun K hK=>?_)
         rw [if_pos (by rfl)]
         refine wp_store_blk rfl 88 _ _ rfl V.heap.size rfl rfl G_10 (by rw [hCm];kernel_rfl) (by rw [hCm];exact zerosOf_length _ _) (allOne_bytes _) ?_
         have G_11:=Blk.setRow G_10 (C.map byte)
         have b_11:=below_setRow' (g:=V.heap.size) b_10 le_G_8 (C.map byte).toArray
         refine hK.out _ _ (keep.out b_11) (fun hHeld=>?_)
         clear hK K
         try dsimp only [Act.put]
         refine wpAnyH_done (by kernel_rfl) ?_ _
         go_wp2_with fail
         go_meet
         case rel=>exact ⟨_,rfl,by omega,G_11,tK.out b_11,headK.out b_11,bV.trans (b_11.mono hwV)⟩
     case rest =>
       clear kX rT kH bW
       obtain ⟨GC,rfl,hGC,kC,rT,kH,bW⟩:=hcut
       go_wp2_with fail
       obtain ⟨W2,hW2⟩:∃ x,x = World.alloc wc (.cells #[Value.slice (some ⟨w.heap.size + 1,0,none⟩) 4 4,Value.slice (some ⟨gT,0,none⟩) 16 cT,Value.slice (some ⟨GC,0,none⟩) 16 16] 22):=⟨_,rfl⟩
       have bel2:Below wc.heap.size wc W2:=by rw [hW2];exact below_new _ _
       have kL:Blk W2 wc.heap.size 22 [Value.slice (some ⟨w.heap.size + 1,0,none⟩) 4 4,Value.slice (some ⟨gT,0,none⟩) 16 cT,Value.slice (some ⟨GC,0,none⟩) 16 16]:=by rw [hW2];exact Blk.new _ _ _
       rw [← hW2]
       clear hW2
       have b2:=below_step bW bel2
       refine (concat_any [Value.slice (some ⟨w.heap.size + 1,0,none⟩) 4 4,Value.slice (some ⟨gT,0,none⟩) 16 cT,Value.slice (some ⟨GC,0,none⟩) 16 16] [H,T,C] wc.heap.size 0 3 3 W2 rfl rfl (by omega) hfl (blk_whole kL) (by
         intro k hk
         match k,hk with
         | 0,_=>exact ⟨w.heap.size + 1,0,4,by rw [show ([H,T,C].getD 0 []).length = 4 from hHl];rfl,rowAt_block (kH.below bel2 kH.lt)⟩
         | 1,_=>exact ⟨gT,0,cT,by rw [show ([H,T,C].getD 1 []).length = 16 from hTl];rfl,row_of (range_below rT bel2)⟩
         | 2,_=>exact ⟨GC,0,16,by rw [show ([H,T,C].getD 2 []).length = 16 from hCl];rfl,rowAt_block (kC.below bel2 kC.lt)⟩)).mono ?_
       rintro e w5 ⟨v5,rfl,own5,bel5⟩
       have b5:=below_step b2 bel5
       have o5:Own w5 w.heap.size v5 (H ++ (T ++ C)):=by rw [← hfa];exact (own5.mono b2.size).own
       clear own5 kL
       go_wp2_with fail
       go_ret
       exact ⟨_,rfl,o5,b5⟩
end Go.Proofs.YtbkokcjolanpeaaGreatDoor
