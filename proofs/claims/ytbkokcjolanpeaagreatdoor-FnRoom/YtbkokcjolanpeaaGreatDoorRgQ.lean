import Derived.Test.YtbkokcjolanpeaaGreatDoorRgP
import Derived.Lib.SlBytesConst
namespace Go.Proofs.YtbkokcjolanpeaaGreatDoor
open Go.RowKit
theorem row_marked (w:World) (l:List UInt8) (t:Nat) (fr:Nat × Nat):RowAt (w.alloc (.cells (l.map byte).toArray t fr)) (some ⟨w.heap.size,0,none⟩) l :=
 rowAt_block (t:=t) (fr:=fr) (by show (w.heap.push _)[w.heap.size]? = _;simp)
set_option maxRecDepth 100000 in
set_option maxHeartbeats 1000000 in
theorem tag_spec (master head key:List UInt8) (am:Option Addr) (cm hb ho ch yb yo cy:Nat) (w:World) (hm:master.length = 16) (hh:head.length = 4) (hy:key.length = 16) (rm:RowAt w am master) (rh:RowAt w (some ⟨hb,ho,none⟩) head) (ry:RowAt w (some ⟨yb,yo,none⟩) key) :
   Calls Tryz.prog 152 #[.slice am 16 cm,.slice (some ⟨hb,ho,none⟩) 4 ch,.slice (some ⟨yb,yo,none⟩) 16 cy] w fun e w'=>∃ v,e = .returned v ∧ OwnB w' w.heap.size v (cmacN (cmacN master [77]) (head ++ key)) ∧ Below w.heap.size w w':=by
 obtain ⟨i0,hi,hz0,hz1,hz2⟩:=info_parts Tryz.info5
 have HC1:=hid_of' (fun (c:Nat) (g:Nat) (wx:World) (h1:RowAt wx am master) (h2:RowAt wx (some ⟨g,0,none⟩) [77])=>cmac_spec master [77] am (some ⟨g,0,none⟩) cm c wx hm (by simp) h1 h2)
 have hMKl:=cmacN_length master [77] hm
 obtain ⟨MK,hMK⟩:∃ MK,MK = cmacN master [77]:=⟨_,rfl⟩
 rw [← hMK] at HC1 hMKl ⊢
 obtain ⟨HK,hHK⟩:∃ HK,HK = head ++ key:=⟨_,rfl⟩
 have hHKl:HK.length = 20:=by rw [hHK,List.length_append,hh,hy]
 have HHK:=hid_of' hHK
 rw [← hHK]
 have HC2:=hid_of' (fun (g1 c1 g2 c2:Nat) (wx:World) (h1:RowAt wx (some ⟨g1,0,none⟩) MK) (h2:RowAt wx (some ⟨g2,0,none⟩) HK)=>cmac_spec MK HK (some ⟨g1,0,none⟩) (some ⟨g2,0,none⟩) c1 c2 wx hMKl (by omega) h1 h2)
 rw [hHKl] at HC2
 obtain ⟨T,hT⟩:∃ T,T = cmacN MK HK:=⟨_,rfl⟩
 rw [← hT] at HC2 ⊢
 have HBy:=hid_of' (fun (wx:World) (h:RowAt wx (some ⟨hb,ho,none⟩) head)=>bytes_allQ head (some ⟨hb,ho,none⟩) ch wx (by omega) h)
 rw [hh] at HBy
 clear hMK hHK hT
 obtain ⟨w0,hw0⟩:∃ x,x = w.alloc (.cells #[.int .u8 77] 5 (1,2)):=⟨_,rfl⟩
 have b0:Below w.heap.size w w0:=by rw [hw0];exact below_new _ _
 have r77:RowAt w0 (some ⟨w.heap.size,0,none⟩) [77]:=by rw [hw0];exact row_marked w [77] _ _
 have kc:=fun (w:World) (C:Array Value) (n c:Nat)=>Lib.run_convert_bytes_const (P:=Tryz.prog) w 22 5 C n c Tryz.underlying22 Tryz.underlying5
 go_enter Tryz.func152,Tryz.ntmps152
 go_wp2_with fail
 rw [← hw0]
 clear hw0
 refine (HC1.out _ _ w0 (rm.below b0) r77).mono ?_
 rintro e w1 ⟨v1,rfl,own1,bel1⟩
 have b1:=below_step b0 bel1
 obtain ⟨g1,c1,-,rfl,row1⟩:=own_at own1 hMKl (by omega)
 clear own1 r77
 go_wp2_with fail
 refine (HBy.out w1 (rh.below b1)).mono ?_
 rintro e w2 ⟨v2,rfl,own2,bel2⟩
 have b2:=below_step b1 bel2
 have row2:=row1.below bel2
 have ry2:=ry.below b2
 have hl1:=b1.size
 have hl2:=bel2.size
 have hown2:w2.ownsRow w1.heap.size 5 1 v2 4 (head.map byte):=own_num own2 hh
 have hlt1:g1 < w1.heap.size:=row1.blk (by omega)
 clear own2
 go_wp2_with (at_builtin;refine wpList_append_own _ rfl _ _ 22 rfl w1.heap.size 5 i0 (.int .u8 0) 1 1 Tryz.underlying22 hi hz0 hz1 hz2 rfl (by decide) _ _ _ rfl hown2 ⟨yb,yo,none⟩ 16 cy (key.map byte) rfl (by rw [List.length_map,hy]) ry2.news (by intro u hu;obtain ⟨x,-,rfl⟩:=List.mem_map.1 hu;rfl) (by unfold maxLen;omega) (by omega) hl2 ?_;intro v3 w3 hown3 hgrow3 hnil3)
 have own3:OwnB w3 w1.heap.size v3 HK:=by rw [HHK.out];exact own_app16 hh hy hown3
 have row3:RowAt w3 (some ⟨g1,0,none⟩) MK:=RowAt.grown row2 hgrow3 (by intro a ha hc;cases ha;have:=(hown2.lt g1 hc).1;omega)
 have b3:Below w.heap.size w w3:=b2.grown hgrow3 b2.size (fun k hk=>by have:=(hown2.lt k hk).1;omega)
 obtain ⟨g3,c3,-,rfl,rowHK⟩:=own_at own3 hHKl (by omega)
 clear own3 hown3 hgrow3 hnil3 hown2
 go_wp2_with fail
 refine (HC2.out _ _ _ _ w3 row3 rowHK).mono ?_
 rintro e w4 ⟨v4,rfl,own4,bel4⟩
 have b4:=below_step b3 bel4
 have o4:=own4.mono b3.size
 clear own4
 go_wp2_with fail
 go_ret
 exact ⟨_,rfl,o4,b4⟩
theorem ownB_of_blk {w:World} {g base n:Nat} {bs:List UInt8} (h:Blk w g 5 (bs.map byte)) (hb:base ≤ g) (hn:bs.length = n) (hm:n ≤ maxLen):OwnB w base (.slice (some ⟨g,0,none⟩) n n) bs:=by
 subst hn
 exact ⟨by simp,.inr ⟨g,bs.length,(bs.map byte).toArray,rfl,hb,h,Nat.le_refl _,hm,by simp,by rw [List.take_of_length_le (by simp)]⟩⟩
set_option maxRecDepth 100000 in
set_option maxHeartbeats 4000000 in
theorem wrapS_some (master key:List UInt8) (u gen cm yb yo cy:Nat) (am:Option Addr) (w:World) (hm:master.length = 16) (hy:key.length = 16) (hu1:1 ≤ u) (hu3:u ≤ 3) (hg:gen ≤ 255) (rm:RowAt w am master) (ry:RowAt w (some ⟨yb,yo,none⟩) key) :
   Calls Tryz.prog 97 #[.slice am 16 cm,.agg #[.int .i64 (u:Int),.int .i64 (gen:Int),.slice (some ⟨yb,yo,none⟩) 16 cy]] w fun e w' =>
     ∃ v,e = .returned v ∧ Own w' w.heap.size v (wrapN master key u gen) ∧ Below w.heap.size w w':=by
 obtain ⟨i0,hi,hz0,hz1,hz2⟩:=info_parts Tryz.info5
 have hwu:IntKind.u8.wrap (u:Int) = (u:Int):=by rw [IntKind.wrap_u8];omega
 have hwg:IntKind.u8.wrap (gen:Int) = (gen:Int):=by rw [IntKind.wrap_u8];omega
 have hg0:¬ ((gen:Int) < 0):=by omega
 have hg1:¬ ((255:Int) < (gen:Int)):=by omega
 have hu0:¬ ((u:Int) < 1):=by omega
 have hu4:¬ ((3:Int) < (u:Int)):=by omega
 have hHl:(headL u gen).length = 4:=rfl
 have hHb:[Value.int .u8 75,Value.int .u8 (u:Int),Value.int .u8 (gen:Int),Value.int .u8 16] = (headL u gen).map byte:=by
   simp only [headL,List.map_cons,List.map_nil,byte,UInt8.toNat_ofNat']
   rw [Nat.mod_eq_of_lt (show u < 2 ^ 8 by omega),Nat.mod_eq_of_lt (show gen < 2 ^ 8 by omega)]
   rfl
 have HTag:=hid_of' (fun (g c:Nat) (wx:World) (h1:RowAt wx am master) (h2:RowAt wx (some ⟨g,0,none⟩) (headL u gen)) (h3:RowAt wx (some ⟨yb,yo,none⟩) key)=>tag_spec master (headL u gen) key am cm g 0 c yb yo cy wx hm rfl hy h1 h2 h3)
 have HC1:=hid_of' (fun (c:Nat) (g:Nat) (wx:World) (h1:RowAt wx am master) (h2:RowAt wx (some ⟨g,0,none⟩) [69])=>cmac_spec master [69] am (some ⟨g,0,none⟩) cm c wx hm (by simp) h1 h2)
 have hEl:(sealK master).length = 16:=cmacN_length master [69] hm
 show Calls Tryz.prog 97 _ w fun e w'=>∃ v,e = .returned v ∧ Own w' w.heap.size v (headL u gen ++ (cmacN (cmacN master [77]) (headL u gen ++ key) ++ aesN (sealK master) (xorL key (cmacN (cmacN master [77]) (headL u gen ++ key))) false)) ∧ Below w.heap.size w w'
 have hTl:(cmacN (cmacN master [77]) (headL u gen ++ key)).length = 16:=cmacN_length _ _ (cmacN_length master [77] hm)
 obtain ⟨E,hE⟩:∃ E,E = sealK master:=⟨_,rfl⟩
 have hE2:cmacN master [69] = E:=hE.symm
 rw [hE2] at HC1
 rw [← hE] at hEl ⊢
 obtain ⟨H,hH⟩:∃ H,H = headL u gen:=⟨_,rfl⟩
 rw [← hH] at hHb hHl HTag hTl ⊢
 obtain ⟨T,hT⟩:∃ T,T = cmacN (cmacN master [77]) (H ++ key):=⟨_,rfl⟩
 rw [← hT] at HTag hTl ⊢
 have HX:=hid_of' (fun (c:Nat) (gT cT:Nat) (wx:World) (h1:RowAt wx (some ⟨yb,yo,none⟩) key) (h2:RowAt wx (some ⟨gT,0,none⟩) T)=>xor16s key T yb yo c gT 0 cT wx hy hTl h1 h2)
 have hXl:(xorL key T).length = 16:=by rw [xorL_length _ _ (by omega),hy]
 obtain ⟨X,hX⟩:∃ X,X = xorL key T:=⟨_,rfl⟩
 rw [← hX] at HX hXl ⊢
 have HE:=hid_of' (fun (g c g2 c2:Nat) (wx:World) (h1:RowAt wx (some ⟨g,0,none⟩) E) (h2:RowAt wx (some ⟨g2,0,none⟩) X)=>aesE_spec E X (some ⟨g,0,none⟩) g2 0 c c2 wx hEl hXl h1 h2)
 have hCl:=aesN_length E X false hEl
 have hC2:encL (keyR E) X = aesN E X false:=rfl
 rw [hC2] at HE
 obtain ⟨C,hC⟩:∃ C,C = aesN E X false:=⟨_,rfl⟩
 rw [← hC] at HE hCl ⊢
 clear hE hE2 hH hT hX hC hC2
 obtain ⟨W,hW⟩:∃ W,W = (w.alloc (.cells #[.int .i64 (u:Int),.int .i64 (gen:Int),.slice (some ⟨yb,yo,none⟩) 16 cy] 55)).alloc (.cells #[Value.int .u8 75,Value.int .u8 (u:Int),Value.int .u8 (gen:Int),Value.int .u8 16] 5):=⟨_,rfl⟩
 have kB:Blk W w.heap.size 55 [.int .i64 (u:Int),.int .i64 (gen:Int),.slice (some ⟨yb,yo,none⟩) 16 cy]:=by rw [hW];exact (Blk.new w _ _).alloc _
 have kH:Blk W (w.heap.size + 1) 5 (H.map byte):=by rw [hW,← hHb];exact Blk.new2 w _ _ _
 have bW:Below w.heap.size w W:=by rw [hW];exact ((Below.refl _ _).alloc (Nat.le_refl _) _).alloc (by simp) _
 have cB:W.cell? ⟨w.heap.size,2,none⟩ = some (.slice (some ⟨yb,yo,none⟩) 16 cy):=kB.cell 2 (by simp)
 have gW:=hid_of' hW
 clear hW hHb
 have kc:=fun (w:World) (C:Array Value) (n c:Nat)=>Lib.run_convert_bytes_const (P:=Tryz.prog) w 22 5 C n c Tryz.underlying22 Tryz.underlying5
 go_enter Tryz.func97,Tryz.ntmps97
 go_upto_region 4 with fail
 rw [← show W = _ from gW]
 clear gW
 go_wp2_with fail
 refine (HTag.out _ _ W (rm.below bW) (rowAt_block kH) (ry.below bW)).mono ?_
 rintro e w1 ⟨v1,rfl,own1,bel1⟩
 have b1:=below_step bW bel1
 obtain ⟨gT,cT,-,rfl,rT⟩:=own_at own1 hTl (by omega)
 have loT:=own1.low gT rfl
 have ltH:=kH.lt
 replace kB:=kB.below bel1 kB.lt
 replace kH:=kH.below bel1 kH.lt
 clear own1 bel1 bW cB
 go_wp2_with fail
 obtain ⟨V,hV⟩:∃ V,V = w1.drew:=⟨_,rfl⟩
 replace kB:Blk V w.heap.size 55 [.int .i64 (u:Int),.int .i64 (gen:Int),.slice (some ⟨yb,yo,none⟩) 16 cy]:=by rw [hV];exact kB.drew1
 replace kH:Blk V (w.heap.size + 1) 5 (H.map byte):=by rw [hV];exact kH.drew1
 replace rT:RowAt V (some ⟨gT,0,none⟩) T:=by rw [hV];exact rT.drew1
 have bV:Below w.heap.size w V:=by rw [hV];exact b1.drew
 have hwV:=bV.size
 have lV:=kH.lt
 clear b1
 have b_0:Below V.heap.size V V:=Below.refl _ _
 have headK:Hid (∀ {x},Below V.heap.size V x → Blk x (w.heap.size + 1) 5 (H.map byte)):=fun h=>kH.below h kH.lt
 have rmV:Hid (∀ {x},Below V.heap.size V x → RowAt x am master):=fun h=>(rm.below bV).below h
 have ryV:Hid (∀ {x},Below V.heap.size V x → RowAt x (some ⟨yb,yo,none⟩) key):=fun h=>(ry.below bV).below h
 have rTV:Hid (∀ {x},Below V.heap.size V x → RowAt x (some ⟨gT,0,none⟩) T):=fun h=>rT.below h
 have keep:Hid (∀ {x},Below V.heap.size V x → x.cell? ⟨w.heap.size,2,none⟩ = some (.slice (some ⟨yb,yo,none⟩) 16 cy)):=fun h=>(kB.below h kB.lt).cell 2 (by simp)
 refine wp_region_held_drew (S:=fun x=>x.cell? ⟨w.heap.size,2,none⟩ = some (.slice (some ⟨yb,yo,none⟩) 16 cy)) (by kernel_rfl) (by rw [← hV];exact keep.out b_0) (fun hHeld=>?_)
 rw [← hV] at hHeld ⊢
 clear hV kB kH rT
 refine tkA (i:=0) (v:=(.slice am 16 cm)) rfl hHeld ?_
 try dsimp only [Act.put]
 refine tkA (i:=4) (v:=(.pointer (some ⟨w.heap.size,2,none⟩))) rfl hHeld ?_
 dsimp only [Act.put,List.getElem_toArray,List.getElem_cons_zero,List.getElem_cons_succ]
 simp only [List.setIfInBounds_toArray,List.set_cons_succ,List.set_cons_zero]
 refine tk (i:=5) (v:=(Value.slice (some ⟨yb,yo,none⟩) 16 cy)) rfl (Or.inl ⟨by rfl,fun w1 h=>by have hc:=h;go_simp⟩) hHeld ?_
 try dsimp only [Act.put]
 refine tkA (i:=6) (v:=(.slice (some ⟨gT,0,none⟩) 16 cT)) rfl hHeld ?_
 dsimp only [Act.put,List.getElem_toArray,List.getElem_cons_zero,List.getElem_cons_succ]
 simp only [List.setIfInBounds_toArray,List.set_cons_succ,List.set_cons_zero]
 refine rdy1 1 (fun K hK=>?_)
 go_simp
 have b_1:Below V.heap.size V (World.alloc V (.cells #[.int .u8 69] 5)):=below_new _ _
 refine hK.out _ _ (keep.out b_1) (fun hHeld=>?_)
 clear hK K
 try dsimp only [Act.put]
 refine rdy1 2 (fun K hK=>?_)
 go_simp
 obtain ⟨w_2,hw_2⟩:∃ x,x = World.alloc V (.cells #[.int .u8 69] 5 (1,2)):=⟨_,rfl⟩
 have r69:RowAt w_2 (some ⟨V.heap.size,0,none⟩) [69]:=by rw [hw_2];exact row_marked V [69] _ _
 have bel_2:Below V.heap.size V w_2:=by rw [hw_2];exact below_new _ _
 rw [← hw_2]
 clear hw_2
 have b_2:=below_step b_0 bel_2
 refine hK.out _ _ (keep.out b_2) (fun hHeld=>?_)
 clear hK K
 try dsimp only [Act.put]
 refine rdy1 3 (fun K hK=>?_)
 go_simp
 refine (HC1.out 1 _ _ (rmV.out b_2) r69).mono ?_
 rintro e w_3 ⟨v_3,rfl,own_3,bel_3⟩
 have b_3:=below_step b_2 bel_3
 obtain ⟨gE_3,cE_3,-,rfl,e_3⟩:=own_at own_3 hEl (by omega)
 clear own_3
 go_wp2_with fail
 refine hK.out _ _ (keep.out b_3) (fun hHeld=>?_)
 clear hK K
 try dsimp only [Act.put]
 refine rdy1 7 (fun K hK=>?_)
 go_simp
 refine (HX.out _ _ _ _ (ryV.out b_3) (rTV.out b_3)).mono ?_
 rintro e w_4 ⟨rfl,x_4,bel_4⟩
 have e_4:=e_3.below bel_4
 have b_4:=below_step b_3 bel_4
 go_wp2_with fail
 refine hK.out _ _ (keep.out b_4) (fun hHeld=>?_)
 clear hK K
 try dsimp only [Act.put]
 refine rdy1 8 (fun K hK=>?_)
 go_simp
 refine (HE.out _ _ _ _ _ e_4 (rowAt_block x_4)).mono ?_
 rintro e w_5 ⟨v_5,rfl,own_5,bel_5⟩
 have e_5:=e_4.below bel_5
 have x_5:=x_4.below bel_5 x_4.lt
 have b_5:=below_step b_4 bel_5
 obtain ⟨gC_5,cC_5,-,rfl,rC_5⟩:=own_at own_5 hCl (by omega)
 have loC:=own_5.low gC_5 rfl
 clear own_5
 go_wp2_with fail
 refine hK.out _ _ (keep.out b_5) (fun hHeld=>?_)
 clear hK K
 try dsimp only [Act.put]
 refine rdy1 9 (fun K hK=>?_)
 go_simp
 refine hK.out _ _ (keep.out b_5) (fun hHeld=>?_)
 clear hK K
 try dsimp only [Act.put]
 refine wpAnyH_done (by kernel_rfl) ?_ _
 have lC:=b_5.size
 have l4:=b_4.size
 have kH2:=headK.out b_5
 have rT2:=rTV.out b_5
 have ltC:w.heap.size + 1 < gC_5:=by omega
 have oH:OwnB w_5 w.heap.size (Value.slice (some ⟨w.heap.size + 1,0,none⟩) 4 4) H:=ownB_of_blk kH2 (by omega) hHl (by unfold maxLen;omega)
 have hownH:=own_num oH hHl
 have bw2:Below w.heap.size w w_5:=bV.trans (b_5.mono hwV)
 have lw2:=bw2.size
 clear oH hHeld keep rmV ryV rTV headK kH2 e_5 x_5 e_4 x_4 e_3 kc
 go_wp2_with (first
   | (at_builtin;refine wpList_append_own _ rfl _ _ 22 rfl w.heap.size 5 i0 (.int .u8 0) 1 1 Tryz.underlying22 hi hz0 hz1 hz2 rfl (by decide) _ _ _ rfl hownH ⟨gT,0,none⟩ 16 cT (T.map byte) rfl (by rw [List.length_map,hTl]) rT2.news (by intro u hu;obtain ⟨x,-,rfl⟩:=List.mem_map.1 hu;rfl) (by unfold maxLen;omega) (by omega) lw2 ?_;intro v6 w6 hown6 hgrow6 hnil6;replace hgrow6:World.grownBy _ w6 (some (w.heap.size + 1)):=hgrow6;have own6:OwnB w6 w.heap.size v6 (H ++ T):=(own_app16 hHl hTl hown6);have rC6:=RowAt.grown rC_5 hgrow6 (by intro a ha hc;cases ha;simp only [Option.some.injEq] at hc;omega);have b6:=bw2.grown hgrow6 lw2 (by intro k hk;cases hk;omega);have l6:=b6.size;have hl20:(H ++ T).length = 20:=(by rw [List.length_append,hHl,hTl]);obtain ⟨HT,hHT⟩:∃ x,x = H ++ T:=⟨_,rfl⟩;have HHT:=hid_of' hHT;rw [← hHT] at own6 hl20;have hown6':=own_num own6 hl20;clear hown6 hgrow6 hnil6 own6 hHT)
   | (at_builtin;refine wpList_append_own _ rfl _ _ 22 rfl w.heap.size 5 i0 (.int .u8 0) 1 1 Tryz.underlying22 hi hz0 hz1 hz2 rfl (by decide) _ _ _ rfl hown6' ⟨gC_5,0,none⟩ 16 cC_5 (C.map byte) rfl (by rw [List.length_map,hCl]) rC6.news (by intro u hu;obtain ⟨x,-,rfl⟩:=List.mem_map.1 hu;rfl) (by unfold maxLen;omega) (by omega) l6 ?_;intro v7 w7 hown7 hgrow7 hnil7))
 go_ret
 refine ⟨_,rfl,?_,b6.grown hgrow7 l6 (fun k hk=>(hown6'.lt k hk).1)⟩
 rw [← List.append_assoc,← HHT.out]
 exact (own_app16 hl20 hCl hown7).own
def okW (master key:List UInt8) (u gen:Int):Prop:=master.length = 16 ∧ key.length = 16 ∧ 1 ≤ u ∧ u ≤ 3 ∧ 0 ≤ gen ∧ gen ≤ 255
instance (master key:List UInt8) (u gen:Int):Decidable (okW master key u gen):=by unfold okW;infer_instance
def wrapL (master key:List UInt8) (u gen:Int):List UInt8:=if okW master key u gen then wrapN master key u.toNat gen.toNat else []
theorem wrapN_length (master key:List UInt8) (u gen:Nat) (hm:master.length = 16):(wrapN master key u gen).length = 36:=by
 unfold wrapN
 rw [List.length_append,List.length_append,show (tagN master key u gen).length = 16 from cmacN_length _ _ (cmacN_length master [77] hm),aesN_length _ _ _ (show (sealK master).length = 16 from cmacN_length master [69] hm)]
 rfl
set_option maxHeartbeats 2000000 in
theorem wrap_wrong (n m:Nat) (u gen:Int) (am ay:Option Addr) (cm cy:Nat) (w:World) (hn:n ≤ 1048576) (hm:m ≤ 1048576) (h:¬ (n = 16 ∧ m = 16 ∧ 1 ≤ u ∧ u ≤ 3 ∧ 0 ≤ gen ∧ gen ≤ 255)) :
   Calls Tryz.prog 10 #[.slice am n cm,.agg #[.int .i64 u,.int .i64 gen,.slice ay m cy]] w fun e w'=>e = .returned (.slice none 0 0) ∧ Below w.heap.size w w':=by
 have hb:Below w.heap.size w (w.alloc (.cells #[.int .i64 u,.int .i64 gen,.slice ay m cy] 55)):=below_new _ _
 have HUse:=hid_of' (fun (wx:World)=>isUse_any u wx)
 by_cases h1:n = 16
 · subst h1
   by_cases h2:m = 16
   · subst h2
     by_cases h3:1 ≤ u ∧ u ≤ 3
     · rw [show (decide (1 ≤ u) && decide (u ≤ 3)) = true from by simp [h3.1,h3.2]] at HUse
       by_cases h4:gen < 0
       · go_enter Tryz.func10,Tryz.ntmps10
         go_wp2_with (go_at_call 30;refine (HUse.out _).mono ?_;rintro e wu ⟨rfl,rfl⟩)
         go_ret
         exact ⟨rfl,hb⟩
       · have h5:255 < gen:=by omega
         go_enter Tryz.func10,Tryz.ntmps10
         go_wp2_with (go_at_call 30;refine (HUse.out _).mono ?_;rintro e wu ⟨rfl,rfl⟩)
         go_ret
         exact ⟨rfl,hb⟩
     · rw [show (decide (1 ≤ u) && decide (u ≤ 3)) = false from by simp;omega] at HUse
       clear h h3
       go_enter Tryz.func10,Tryz.ntmps10
       go_wp2_with (go_at_call 30;refine (HUse.out _).mono ?_;rintro e wu ⟨rfl,rfl⟩)
       go_ret
       exact ⟨rfl,hb⟩
   · have h3:((m:Int) != 16) = true:=by rw [bne_iff_ne];omega
     have h4:¬ ((m:Int) = 16):=by omega
     clear h
     go_enter Tryz.func10,Tryz.ntmps10
     go_wp2
     go_ret
     exact ⟨rfl,hb⟩
 · have h3:((n:Int) != 16) = true:=by rw [bne_iff_ne];omega
   have h4:¬ ((n:Int) = 16):=by omega
   clear h
   go_enter Tryz.func10,Tryz.ntmps10
   go_wp2
   go_ret
   exact ⟨rfl,hb⟩
set_option maxHeartbeats 2000000 in
theorem wrapS_wrong (n m:Nat) (u gen:Int) (am ay:Option Addr) (cm cy:Nat) (w:World) (hn:n ≤ 1048576) (hm:m ≤ 1048576) (h:¬ (n = 16 ∧ m = 16 ∧ 1 ≤ u ∧ u ≤ 3 ∧ 0 ≤ gen ∧ gen ≤ 255)) :
   Calls Tryz.prog 97 #[.slice am n cm,.agg #[.int .i64 u,.int .i64 gen,.slice ay m cy]] w fun e w'=>e = .returned (.slice none 0 0) ∧ Below w.heap.size w w':=by
 have hb:Below w.heap.size w (w.alloc (.cells #[.int .i64 u,.int .i64 gen,.slice ay m cy] 55)):=below_new _ _
 by_cases h1:n = 16
 · subst h1
   by_cases h2:m = 16
   · subst h2
     by_cases h3:1 ≤ u
     · by_cases h3':u ≤ 3
       · have h6:¬ (u < 1):=by omega
         have h7:¬ (3 < u):=by omega
         by_cases h4:gen < 0
         · clear h
           go_enter Tryz.func97,Tryz.ntmps97
           go_wp2
           go_ret
           exact ⟨rfl,hb⟩
         · have h5:255 < gen:=by omega
           clear h
           go_enter Tryz.func97,Tryz.ntmps97
           go_wp2
           go_ret
           exact ⟨rfl,hb⟩
       · have h6:¬ (u < 1):=by omega
         have h7:3 < u:=by omega
         clear h
         go_enter Tryz.func97,Tryz.ntmps97
         go_wp2
         go_ret
         exact ⟨rfl,hb⟩
     · have h6:u < 1:=by omega
       clear h
       go_enter Tryz.func97,Tryz.ntmps97
       go_wp2
       go_ret
       exact ⟨rfl,hb⟩
   · have h3:((m:Int) != 16) = true:=by rw [bne_iff_ne];omega
     have h4:¬ ((m:Int) = 16):=by omega
     clear h
     go_enter Tryz.func97,Tryz.ntmps97
     go_wp2
     go_ret
     exact ⟨rfl,hb⟩
 · have h3:((n:Int) != 16) = true:=by rw [bne_iff_ne];omega
   have h4:¬ ((n:Int) = 16):=by omega
   clear h
   go_enter Tryz.func97,Tryz.ntmps97
   go_wp2
   go_ret
   exact ⟨rfl,hb⟩
theorem wrap_all (master key:List UInt8) (u gen:Int) (am ay:Option Addr) (cm cy:Nat) (w:World) (hn:master.length ≤ 1048576) (hm:key.length ≤ 1048576) (rm:RowAt w am master) (ry:RowAt w ay key) :
   Calls Tryz.prog 10 #[.slice am master.length cm,.agg #[.int .i64 u,.int .i64 gen,.slice ay key.length cy]] w fun e w'=>∃ v,e = .returned v ∧ Own w' w.heap.size v (wrapL master key u gen) ∧ Below w.heap.size w w':=by
 unfold wrapL
 by_cases h:okW master key u gen
 · rw [if_pos h,h.1,h.2.1]
   obtain ⟨h1,h2,h3,h4,h5,h6⟩:=h
   obtain ⟨kb,ko,rfl,hk⟩:=rm.range (by omega)
   obtain ⟨yb,yo,rfl,hy⟩:=ry.range (by omega)
   obtain ⟨u',rfl⟩:∃ u':Nat,u = u':=⟨u.toNat,by omega⟩
   obtain ⟨g',rfl⟩:∃ g':Nat,gen = g':=⟨gen.toNat,by omega⟩
   exact wrap_some master key u' g' kb ko cm yb yo cy w h1 h2 (by omega) (by omega) (by omega) hk hy
 · rw [if_neg h]
   refine (wrap_wrong _ _ u gen am ay cm cy w hn hm h).mono ?_
   rintro e w' ⟨rfl,bel⟩
   exact ⟨_,rfl,⟨5,World.ownsRow_nil _ _ _ _⟩,bel⟩
theorem wrapS_all (master key:List UInt8) (u gen:Int) (am ay:Option Addr) (cm cy:Nat) (w:World) (hn:master.length ≤ 1048576) (hm:key.length ≤ 1048576) (rm:RowAt w am master) (ry:RowAt w ay key) :
   Calls Tryz.prog 97 #[.slice am master.length cm,.agg #[.int .i64 u,.int .i64 gen,.slice ay key.length cy]] w fun e w'=>∃ v,e = .returned v ∧ Own w' w.heap.size v (wrapL master key u gen) ∧ Below w.heap.size w w':=by
 unfold wrapL
 by_cases h:okW master key u gen
 · rw [if_pos h,h.1,h.2.1]
   obtain ⟨h1,h2,h3,h4,h5,h6⟩:=h
   obtain ⟨yb,yo,rfl,-⟩:=ry.range (by omega)
   obtain ⟨u',rfl⟩:∃ u':Nat,u = u':=⟨u.toNat,by omega⟩
   obtain ⟨g',rfl⟩:∃ g':Nat,gen = g':=⟨gen.toNat,by omega⟩
   exact wrapS_some master key u' g' cm yb yo cy am w h1 h2 (by omega) (by omega) (by omega) rm ry
 · rw [if_neg h]
   refine (wrapS_wrong _ _ u gen am ay cm cy w hn hm h).mono ?_
   rintro e w' ⟨rfl,bel⟩
   exact ⟨_,rfl,⟨5,World.ownsRow_nil _ _ _ _⟩,bel⟩
end Go.Proofs.YtbkokcjolanpeaaGreatDoor
