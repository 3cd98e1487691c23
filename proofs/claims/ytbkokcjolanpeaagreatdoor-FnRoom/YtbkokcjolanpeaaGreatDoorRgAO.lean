import Derived.Test.YtbkokcjolanpeaaGreatDoorRgAN
namespace Go.Proofs.YtbkokcjolanpeaaGreatDoor
open Go.RowKit
abbrev zeroAr:List Value:=[.int .i64 0,.string ByteArray.empty,.slice none 0 0,.string ByteArray.empty,.slice none 0 0]
theorem Tryz.zeroAr:(Tryz.prog.info? 219).map (fun i=>(i.zero,i.size)) = some (some (.agg zeroAr.toArray),5):=by kernel_rfl
set_option maxRecDepth 100000 in
set_option maxHeartbeats 4000000 in
theorem take_ask (s:SS) (w0:World) (gS:Nat) (x0 x1:Addr) (am:Option Addr) (cm:Nat) (master:List UInt8) (M:Mst w0 x0 x1 am master) (hm:s.mst = .slice am master.length cm) (l tl nx:Nat) (hnx:s.next = (nx:Int)) (hn6:nx < 1000000) (hc0:0 ≤ s.clock) (hc1:s.clock ≤ 1000000)
   (key:List UInt8) (ak:Option Addr) (ck:Nat) (hck:key.length ≤ ck) (rk:RowAt w0 ak key) (bv:Value) (hbv:∃ a n c,bv = .slice a n c) (key2:List UInt8) (ak2:Option Addr) (ck2:Nat) (hck2:key2.length ≤ ck2) (rk2:RowAt w0 ak2 key2) (gK nK cK:Nat) (hky:s.kys = .slice (some ⟨gK,0,none⟩) nK cK) (hl:l < nK) (hkey:w0.cell? ⟨gK,l * 2,none⟩ = some (.slice ak key.length ck)) (hbef:w0.cell? ⟨gK,l * 2 + 1,none⟩ = some bv) (hto:tl < nK) (hkey2:w0.cell? ⟨gK,tl * 2,none⟩ = some (.slice ak2 key2.length ck2))
   (ar:Option Addr) (cR:Nat) (rs:List Rt) (hrts:s.rts = .slice ar rs.length cR) (hrs:RtsAt w0 ar rs) (hrc:rs.length ≤ cR) (hrn:rs.length ≤ 1048576) (hrz:∀ r ∈ rs,r.1.size ≤ maxLen)
   (data:List UInt8) (ad:Option Addr) (cd:Nat) (hcd:data.length ≤ cd) (hn:data.length ≤ 1048576) (hop:opB master key data = true) (hC:dC data = 0) (hMt:dM data = ⟨#[48,49,48,48]⟩) (L:List (Int × List UInt8)) (hLd:L = castL (dL data)) (hsz:∀ p ∈ L,p.2.length ≤ 1048576) (hL:L.length ≤ 1048576) (h2:hasN 2 L = true) (h11:hasN 11 L = true) (h52:hasN 52 L = false) (h53:∀ j,j < L.length → ((L.getD j (0,[])).1 == 53) = false) (hbest:∀ a,BestOf (rs.take 20) ⟨(fldN 2 L).toArray⟩ a → a = (tl:Int)) (hst:(fldN 11 L).length ≤ 1048576)
   (w:World) (b0:Below w0.heap.size w0 w) (h:Ses w w0.heap.size gS (fun k=>w0.heap.size ≤ k) s) (hH:Hnd w s.hnd ⟨#[48,49,48,48]⟩ (.func (Fn.func 70) #[.pointer (some ⟨gS,0,none⟩)] #[])) (rd:RowAt w ad data) (hlS:s.S.length ≤ 1000000) (hlL:s.L.length ≤ 1000000) (hlW:s.W.length ≤ 1000000) :
   Calls Tryz.prog 74 #[.pointer (some ⟨gS,0,none⟩),.int .i64 (l:Int),.slice ad data.length cd] w fun e w' =>
     e = .returned (.tuple #[]) ∧ (∃ x,Ses w' w0.heap.size gS (fun k=>w0.heap.size ≤ k) (askS s (l:Int) tl nx ⟨(fldN 11 L).toArray⟩ x)) ∧ Below w0.heap.size w w' ∧ Sm sesT w w':=by
 have hz:=(zero_of_info Tryz.zeroAr).1
 have hlo:=b0.size
 have HD:=hideT (decode_any data ad cd w hn hcd rd)
 rw [hC,hMt] at HD
 have HKO:=hideT (fun (y:World) (hy:Below w.heap.size w y)=>keyOf_now s w0 gS (fun k=>w0.heap.size ≤ k) x0 x1 am cm master M hm l key ak ck hck rk bv hbv gK nK cK hky hl hkey hbef data ad cd hcd hn hop y (b0.trans (hy.mono hlo)) (h.below hy) (rd.below hy))
 obtain ⟨nD,hnD⟩:∃ n,n = data.length:=⟨_,rfl⟩
 obtain ⟨nk,hnk⟩:∃ n,n = key.length:=⟨_,rfl⟩
 obtain ⟨nL,hnL⟩:∃ n,n = L.length:=⟨_,rfl⟩
 obtain ⟨p,hp⟩:∃ n,n = dP data:=⟨_,rfl⟩
 obtain ⟨a,ha⟩:∃ n,n = dA data:=⟨_,rfl⟩
 have HNK:=hideT hnk
 have HNL:=hideT hnL
 have HLD:=hideT hLd
 have HST:Hid ((⟨(fldN 11 L).toArray⟩:ByteArray).size ≤ 1048576):=hst
 rw [← hnD,← hp,← ha] at HD
 rw [← hnD,← hnk] at HKO
 rw [← hnD]
 have HB0:=hideT b0
 obtain ⟨wv,sv,lv,ps,h⟩:=h
 have hV0:=hideT h
 have HSES:=hideT (fun (y:World) (hy:Below w.heap.size w y)=>h.sm (Sm.below hy))
 have HHND:=hideT (fun (y:World) (hy:Below w.heap.size w y)=>hH.sm (ts:=[]) (Sm.below hy))
 clear hnD hnk hnL hp ha hLd h hH rd b0 hop hbv hC hMt hst
 go_enter Tryz.func74,Tryz.ntmps74
 go_wp2_with fail
 refine HD.out.mono ?_
 rintro e X1 ⟨v,rfl,⟨vs,FS⟩,b1⟩
 obtain ⟨av,cv,hv⟩:=ownS FS.row
 have hlen:(dL data).length = nL:=by rw [HNL.out,HLD.out,castL_length]
 rw [hlen] at hv
 subst hv
 have HFS:=hideT (fun (y:World) (hy:Below X1.heap.size X1 y)=>FS.below hy)
 obtain ⟨gD,hgD⟩:∃ n,n = X1.heap.size:=⟨_,rfl⟩
 obtain ⟨X2,hX2⟩:∃ y,y = X1.alloc (Obj.cells #[.int .i64 0,.int .i64 (p:Int),.string ⟨#[48,49,48,48]⟩,.slice av nL cv,.int .i64 (a:Int)] 97):=⟨_,rfl⟩
 have b2:Below X1.heap.size X1 X2:=by rw [hX2];exact below_newS _ _
 have kD:Blk X2 gD 97 [.int .i64 0,.int .i64 (p:Int),.string ⟨#[48,49,48,48]⟩,.slice av nL cv,.int .i64 (a:Int)]:=by rw [hX2,hgD];exact Blk.new _ _ _
 have d0:=kD.cell 0 (by simp)
 have HX2:=hideT hX2
 have HGD:=hideT hgD
 clear hX2 hgD FS hlen HD
 go_upto_region 1 with fail
 rw [← show X2 = _ from HX2,← show gD = _ from HGD]
 clear HX2 HGD
 go_upto_region 3 with fail
 have bw2:=b1.trans (b2.mono b1.size)
 go_wp2_with fail
 refine (HKO.out X2 bw2).mono ?_
 rintro e X3 ⟨rfl,b3⟩
 go_upto_region 4 with fail
 obtain ⟨V,hV⟩:∃ V,V = World.drew X3:=⟨_,rfl⟩
 have b2V:Below X2.heap.size X2 V:=by rw [hV];exact b3.drew
 have b1V:Below X1.heap.size X1 V:=b2.trans (b2V.mono b2.size)
 have bwV:Below w.heap.size w V:=bw2.trans (b2V.mono bw2.size)
 have kDV:=kD.below b2V kD.lt
 have HFLD:=hideT (fun (y:World) (hy:Below V.heap.size V y)=>field_any 11 ⟨#[48,49,48,48]⟩ L hL (.slice av nL cv) y (by
   have f:=fs_fv (HFS.out y (b1V.trans (hy.mono b1V.size)))
   rw [← HLD.out] at f
   exact f.1.fr f.2))
 have keep:Hid (∀ {y},Below V.heap.size V y → y.rangeAt gD 2 [.string ⟨#[48,49,48,48]⟩,.slice av nL cv]):=fun hy j u hu=>by
   have k:=kDV.below hy kDV.lt
   cases j with
   | zero=>simp at hu;subst hu;exact k.cell 2 (by simp)
   | succ j =>
     cases j with
     | zero=>simp at hu;subst hu;exact k.cell 3 (by simp)
     | succ j=>simp at hu
 have b_0:Below V.heap.size V V:=Below.refl _ _
 have HV:=hideT hV
 clear hV b2V b2 b3 bw2 kD kDV d0 HKO
 refine wp_region_held_drew (S:=fun y=>y.rangeAt gD 2 [.string ⟨#[48,49,48,48]⟩,.slice av nL cv]) (by kernel_rfl) (by rw [← show V = _ from HV];exact keep.out b_0) (fun hHeld=>?_)
 rw [← show V = _ from HV] at hHeld ⊢
 clear HV
 refine tkA (i:=0) (v:=(.int .i64 (l:Int))) rfl hHeld ?_
 try dsimp only [Act.put]
 refine tkA (i:=1) (v:=(.pointer (some ⟨gD,2,none⟩))) rfl hHeld ?_
 dsimp only [Act.put,List.getElem_toArray,List.getElem_cons_zero,List.getElem_cons_succ]
 simp only [List.setIfInBounds_toArray,List.set_cons_succ,List.set_cons_zero]
 refine tk (i:=2) (v:=(.agg ([.string ⟨#[48,49,48,48]⟩,.slice av nL cv]:List Value).toArray)) rfl (yieldsIf_load_mid (by rfl) 32 _ rfl gD 2 rfl [.string ⟨#[48,49,48,48]⟩,.slice av nL cv] _ (fun _ h=>h) Tryz.underlying32 rfl (by kernel_rfl)) hHeld ?_
 try dsimp only [Act.put]
 refine tkA (i:=3) (v:=(.pointer (some ⟨gD,2,none⟩))) rfl hHeld ?_
 dsimp only [Act.put,List.getElem_toArray,List.getElem_cons_zero,List.getElem_cons_succ]
 simp only [List.setIfInBounds_toArray,List.set_cons_succ,List.set_cons_zero]
 refine tk (i:=4) (v:=(.agg ([.string ⟨#[48,49,48,48]⟩,.slice av nL cv]:List Value).toArray)) rfl (yieldsIf_load_mid (by rfl) 32 _ rfl gD 2 rfl [.string ⟨#[48,49,48,48]⟩,.slice av nL cv] _ (fun _ h=>h) Tryz.underlying32 rfl (by kernel_rfl)) hHeld ?_
 try dsimp only [Act.put]
 refine tkA (i:=7) (v:=(.slice ak nk ck)) rfl hHeld ?_
 dsimp only [Act.put,List.getElem_toArray,List.getElem_cons_zero,List.getElem_cons_succ]
 simp only [List.setIfInBounds_toArray,List.set_cons_succ,List.set_cons_zero]
 refine wpAnyH_ready (rs:=[5,9]) (by kernel_rfl) (by simp) ?_
 refine AllReadyH.cons rfl (fun K hK=>?_) (AllReadyH.cons rfl (fun K hK=>?_) (AllReadyH.nil))
 · go_simp
   refine (HFLD.out _ b_0).mono ?_
   rintro e w_1 ⟨⟨aF,cF,rfl,rF⟩,bel_1⟩
   have b_1:=below_step b_0 bel_1
   obtain ⟨nF,hnF⟩:∃ n,n = (fldN 11 L).length:=⟨_,rfl⟩
   rw [← hnF]
   have HNF:=hideT hnF
   clear hnF
   go_wp2_with fail
   refine hK.out _ _ (keep.out b_1) (fun hHeld=>?_)
   clear hK K
   try dsimp only [Act.put]
   refine wpAnyH_ready (rs:=[6,9]) (by kernel_rfl) (by simp) ?_
   refine AllReadyH.cons rfl (fun K hK=>?_) (AllReadyH.cons rfl (fun K hK=>?_) (AllReadyH.nil))
   · have hcv_2:=conv_any (fldN 11 L) aF nF cF w_1 HNF.out.symm rF
     go_simp
     refine hK.out _ _ (keep.out b_1) (fun hHeld=>?_)
     clear hK K
     try dsimp only [Act.put]
     refine tkA (i:=8) (v:=(.agg #[.int .i64 (l:Int),.string ⟨#[48,49,48,48]⟩,.slice av nL cv,.string ⟨(fldN 11 L).toArray⟩,.slice ak nk ck])) rfl hHeld ?_
     try dsimp only [Act.put]
     refine rdy1 9 (fun K hK=>?_)
     go_simp
     obtain ⟨w_3,hw_3⟩:∃ x,x = World.alloc w_1 (.cells (zeroAr).toArray 219):=⟨_,rfl⟩
     have bel_3:Below w_1.heap.size w_1 w_3:=by rw [hw_3];exact below_new _ _
     have A_3:Blk w_3 w_1.heap.size 219 (zeroAr):=by rw [hw_3];exact Blk.new _ _ _
     have le_A_3:=b_1.size
     have lt_A_3:=A_3.lt
     have rF_3:=rF.below bel_3
     have b_3:=below_step b_1 bel_3
     rw [← hw_3]
     clear hw_3
     refine hK.out _ _ (keep.out b_3) (fun hHeld=>?_)
     clear hK K
     try dsimp only [Act.put]
     refine rdy1 10 (fun K hK=>?_)
     rw [if_pos (by rfl)]
     refine wp_store_blk rfl 219 _ _ rfl w_1.heap.size rfl rfl A_3 (by kernel_rfl) rfl (by simp [Value.oneCell']) ?_
     have A_4:=Blk.setRow A_3 ([.int .i64 (l:Int),.string ⟨#[48,49,48,48]⟩,.slice av nL cv,.string ⟨(fldN 11 L).toArray⟩,.slice ak nk ck])
     have b_4:=below_setRow' (g:=w_1.heap.size) b_3 le_A_3 ([.int .i64 (l:Int),.string ⟨#[48,49,48,48]⟩,.slice av nL cv,.string ⟨(fldN 11 L).toArray⟩,.slice ak nk ck]).toArray
     refine hK.out _ _ (keep.out b_4) (fun hHeld=>?_)
     clear hK K
     try dsimp only [Act.put]
     refine wpAnyH_done (by kernel_rfl) ?_ _
     clear hHeld
     obtain ⟨Y,hY⟩:∃ y,y = (World.setRow w_3 w_1.heap.size ([.int .i64 (l:Int),.string ⟨#[48,49,48,48]⟩,.slice av nL cv,.string ⟨(fldN 11 L).toArray⟩,.slice ak nk ck]).toArray):=⟨_,rfl⟩
     obtain ⟨gA,hgA⟩:∃ n,n = w_1.heap.size:=⟨_,rfl⟩
     have bVY:Below V.heap.size V Y:=by rw [hY];exact b_4
     have kY:Blk Y gA 219 [.int .i64 (l:Int),.string ⟨#[48,49,48,48]⟩,.slice av nL cv,.string ⟨(fldN 11 L).toArray⟩,.slice ak nk ck]:=by rw [hY,hgA];exact A_4
     rw [← hY,← hgA]
     have HYY:=hideT (And.intro bVY kY)
     clear hY hgA bVY kY
     obtain ⟨bVY,kY⟩:=HYY.out
     go_upto_region 5 with fail
     obtain ⟨Z,hZ⟩:∃ Z,Z = World.drew Y:=⟨_,rfl⟩
     have bVZ:Below V.heap.size V Z:=by rw [hZ];exact bVY.drew
     have kZ:Blk Z gA 219 [.int .i64 (l:Int),.string ⟨#[48,49,48,48]⟩,.slice av nL cv,.string ⟨(fldN 11 L).toArray⟩,.slice ak nk ck]:=by rw [hZ];exact kY
     have bwZ:=bwV.trans (bVZ.mono bwV.size)
     have b1Z:=b1V.trans (bVZ.mono b1V.size)
     have b0Z:=HB0.out.trans (bwZ.mono hlo)
     have hSZ:=HSES.out Z bwZ
     have hHZ:=HHND.out Z bwZ
     have keep5:Hid (∀ {y},Below Z.heap.size Z y → y.cell? ⟨gS,5,none⟩ = some s.hnd ∧ y.cell? ⟨gA,1,none⟩ = some (.string ⟨#[48,49,48,48]⟩) ∧ Hnd y s.hnd ⟨#[48,49,48,48]⟩ (.func (Fn.func 70) #[.pointer (some ⟨gS,0,none⟩)] #[])):=fun hy=>⟨(hSZ.sm (Sm.below hy)).c5,(kZ.below hy kZ.lt).cell 1 (by simp),hHZ.sm (ts:=[]) (Sm.below hy)⟩
     have z_0:Below Z.heap.size Z Z:=Below.refl _ _
     have HAU:=hideT (authorize_ask s w0 gS (fun k=>(w0.heap.size ≤ k ∧ k < w.heap.size) ∨ Z.heap.size ≤ k) x0 x1 am cm master M hm (l:Int) ⟨(fldN 11 L).toArray⟩ HST.out tl nx hnx hn6 hc0 hc1 key ak ck hck key2 ak2 ck2 hck2 rk2 gK nK cK hky hto hkey2 ar cR rs hrts hrs hrc hrn hrz L hsz hL h2 h11 h52 h53 hbest av cv vs Z b0Z (fun k hk=>.inr hk)
       ⟨_,_,_,_,((hV0.out.weak (Q:=fun k=>w0.heap.size ≤ k ∧ k < w.heap.size) (fun k q1 q2 _=>⟨q1,q2⟩)).sm (Sm.below bwZ)).weak (fun k _ _ q=>.inl q)⟩
       (fun y hk hs=>by
         have f:=fs_fv (fs_kp (HFS.out Z b1Z) hk (fun g q1 q2 hq=>by
           rcases hq with ⟨_,q3⟩ | q3 <;> omega))
         rw [← HLD.out] at f
         rw [← HNL.out]
         exact f) (rk.below b0Z) hlS hlL hlW)
     rw [← HNK.out,← HNL.out] at HAU
     have HZ:=hideT hZ
     have HZB:=hideT (And.intro bwZ b0Z)
     clear hZ hSZ hHZ bVZ b1Z bwZ b0Z kY bVY
     refine wp_region_held_drew (S:=fun y=>y.cell? ⟨gS,5,none⟩ = some s.hnd ∧ y.cell? ⟨gA,1,none⟩ = some (.string ⟨#[48,49,48,48]⟩) ∧ Hnd y s.hnd ⟨#[48,49,48,48]⟩ (.func (Fn.func 70) #[.pointer (some ⟨gS,0,none⟩)] #[])) (by kernel_rfl) (by rw [← show Z = _ from HZ];exact keep5.out z_0) (fun hHeld=>?_)
     rw [← show Z = _ from HZ] at hHeld ⊢
     clear HZ
     refine tkA (i:=0) (v:=(.pointer (some ⟨gS,0,none⟩))) rfl hHeld ?_
     dsimp only [Act.put,List.getElem_toArray,List.getElem_cons_zero,List.getElem_cons_succ]
     simp only [List.setIfInBounds_toArray,List.set_cons_succ,List.set_cons_zero]
     refine tkA (i:=1) (v:=(.pointer (some ⟨gS,0,none⟩))) rfl hHeld ?_
     try dsimp only [Act.put]
     refine tkA (i:=2) (v:=(.pointer (some ⟨gS,5,none⟩))) rfl hHeld ?_
     dsimp only [Act.put,List.getElem_toArray,List.getElem_cons_zero,List.getElem_cons_succ]
     simp only [List.setIfInBounds_toArray,List.set_cons_succ,List.set_cons_zero]
     refine tk (i:=3) (v:=(s.hnd)) rfl (Or.inl ⟨by rfl,fun w1 h=>by have hc:=h.1;go_simp⟩) hHeld ?_
     try dsimp only [Act.put]
     refine tkA (i:=4) (v:=(.pointer (some ⟨gA,1,none⟩))) rfl hHeld ?_
     dsimp only [Act.put,List.getElem_toArray,List.getElem_cons_zero,List.getElem_cons_succ]
     simp only [List.setIfInBounds_toArray,List.set_cons_succ,List.set_cons_zero]
     refine tkA (i:=5) (v:=(.pointer (some ⟨gA,1,none⟩))) rfl hHeld ?_
     try dsimp only [Act.put]
     refine tk (i:=6) (v:=(.string ⟨#[48,49,48,48]⟩)) rfl (Or.inl ⟨by rfl,fun w1 h=>by have hc:=h.2.1;go_simp⟩) hHeld ?_
     dsimp only [Act.put,List.getElem_toArray,List.getElem_cons_zero,List.getElem_cons_succ]
     simp only [List.setIfInBounds_toArray,List.set_cons_succ,List.set_cons_zero]
     refine tk (i:=7) (v:=(.tuple #[.func (Fn.func 70) #[.pointer (some ⟨gS,0,none⟩)] #[],.bool true])) rfl (Or.inl ⟨by rfl,fun w1 h=>by have hc:=run_lookS h.2.2;go_simp⟩) hHeld ?_
     try dsimp only [Act.put]
     refine tkA (i:=8) (v:=(.tuple #[.func (Fn.func 70) #[.pointer (some ⟨gS,0,none⟩)] #[],.bool true])) rfl hHeld ?_
     dsimp only [Act.put,List.getElem_toArray,List.getElem_cons_zero,List.getElem_cons_succ]
     simp only [List.setIfInBounds_toArray,List.set_cons_succ,List.set_cons_zero]
     refine tkA (i:=9) (v:=(.func (Fn.func 70) #[.pointer (some ⟨gS,0,none⟩)] #[])) rfl hHeld ?_
     try dsimp only [Act.put]
     refine tkA (i:=10) (v:=(.bool true)) rfl hHeld ?_
     dsimp only [Act.put,List.getElem_toArray,List.getElem_cons_zero,List.getElem_cons_succ]
     simp only [List.setIfInBounds_toArray,List.set_cons_succ,List.set_cons_zero]
     refine rdy1 11 (fun K hK=>?_)
     go_simp
     refine hK.out _ _ (keep5.out z_0) (fun hHeld=>?_)
     clear hK K
     try dsimp only [Act.put]
     refine rdy1 12 (fun K hK=>?_)
     go_simp
     refine hK.out _ _ (keep5.out z_0) (fun hHeld=>?_)
     clear hK K
     try dsimp only [Act.put]
     refine wpAnyH_done (by kernel_rfl) ?_ _
     clear hHeld
     clear keep5 z_0
     go_wp2_with (refine load_blk rfl 219 _ rfl gA rfl kZ Tryz.underlying219 rfl (by kernel_rfl) ?_)
     refine HAU.out.mono ?_
     rintro e Y2 ⟨rfl,⟨x,hS⟩,bY2,sY2,pY2⟩
     go_wp2_with fail
     go_end0
     have hbz:=HZB.out.1.size
     refine ⟨rfl,⟨x,hS.weak (fun k q1 _ _=>q1)⟩,(HZB.out.1.mono hlo).trans bY2,(Sm.below HZB.out.1).trans sY2⟩
   · go_simp
     obtain ⟨w_5,hw_5⟩:∃ x,x = World.alloc w_1 (.cells (zeroAr).toArray 219):=⟨_,rfl⟩
     have bel_5:Below w_1.heap.size w_1 w_5:=by rw [hw_5];exact below_new _ _
     have A_5:Blk w_5 w_1.heap.size 219 (zeroAr):=by rw [hw_5];exact Blk.new _ _ _
     have le_A_5:=b_1.size
     have lt_A_5:=A_5.lt
     have rF_5:=rF.below bel_5
     have b_5:=below_step b_1 bel_5
     rw [← hw_5]
     clear hw_5
     refine hK.out _ _ (keep.out b_5) (fun hHeld=>?_)
     clear hK K
     try dsimp only [Act.put]
     refine rdy1 6 (fun K hK=>?_)
     have hcv_6:=conv_any (fldN 11 L) aF nF cF w_5 HNF.out.symm rF_5
     go_simp
     refine hK.out _ _ (keep.out b_5) (fun hHeld=>?_)
     clear hK K
     try dsimp only [Act.put]
     refine tkA (i:=8) (v:=(.agg #[.int .i64 (l:Int),.string ⟨#[48,49,48,48]⟩,.slice av nL cv,.string ⟨(fldN 11 L).toArray⟩,.slice ak nk ck])) rfl hHeld ?_
     try dsimp only [Act.put]
     refine rdy1 10 (fun K hK=>?_)
     rw [if_pos (by rfl)]
     refine wp_store_blk rfl 219 _ _ rfl w_1.heap.size rfl rfl A_5 (by kernel_rfl) rfl (by simp [Value.oneCell']) ?_
     have A_7:=Blk.setRow A_5 ([.int .i64 (l:Int),.string ⟨#[48,49,48,48]⟩,.slice av nL cv,.string ⟨(fldN 11 L).toArray⟩,.slice ak nk ck])
     have b_7:=below_setRow' (g:=w_1.heap.size) b_5 le_A_5 ([.int .i64 (l:Int),.string ⟨#[48,49,48,48]⟩,.slice av nL cv,.string ⟨(fldN 11 L).toArray⟩,.slice ak nk ck]).toArray
     refine hK.out _ _ (keep.out b_7) (fun hHeld=>?_)
     clear hK K
     try dsimp only [Act.put]
     refine wpAnyH_done (by kernel_rfl) ?_ _
     clear hHeld
     obtain ⟨Y,hY⟩:∃ y,y = (World.setRow w_5 w_1.heap.size ([.int .i64 (l:Int),.string ⟨#[48,49,48,48]⟩,.slice av nL cv,.string ⟨(fldN 11 L).toArray⟩,.slice ak nk ck]).toArray):=⟨_,rfl⟩
     obtain ⟨gA,hgA⟩:∃ n,n = w_1.heap.size:=⟨_,rfl⟩
     have bVY:Below V.heap.size V Y:=by rw [hY];exact b_7
     have kY:Blk Y gA 219 [.int .i64 (l:Int),.string ⟨#[48,49,48,48]⟩,.slice av nL cv,.string ⟨(fldN 11 L).toArray⟩,.slice ak nk ck]:=by rw [hY,hgA];exact A_7
     rw [← hY,← hgA]
     have HYY:=hideT (And.intro bVY kY)
     clear hY hgA bVY kY
     obtain ⟨bVY,kY⟩:=HYY.out
     go_upto_region 5 with fail
     obtain ⟨Z,hZ⟩:∃ Z,Z = World.drew Y:=⟨_,rfl⟩
     have bVZ:Below V.heap.size V Z:=by rw [hZ];exact bVY.drew
     have kZ:Blk Z gA 219 [.int .i64 (l:Int),.string ⟨#[48,49,48,48]⟩,.slice av nL cv,.string ⟨(fldN 11 L).toArray⟩,.slice ak nk ck]:=by rw [hZ];exact kY
     have bwZ:=bwV.trans (bVZ.mono bwV.size)
     have b1Z:=b1V.trans (bVZ.mono b1V.size)
     have b0Z:=HB0.out.trans (bwZ.mono hlo)
     have hSZ:=HSES.out Z bwZ
     have hHZ:=HHND.out Z bwZ
     have keep5:Hid (∀ {y},Below Z.heap.size Z y → y.cell? ⟨gS,5,none⟩ = some s.hnd ∧ y.cell? ⟨gA,1,none⟩ = some (.string ⟨#[48,49,48,48]⟩) ∧ Hnd y s.hnd ⟨#[48,49,48,48]⟩ (.func (Fn.func 70) #[.pointer (some ⟨gS,0,none⟩)] #[])):=fun hy=>⟨(hSZ.sm (Sm.below hy)).c5,(kZ.below hy kZ.lt).cell 1 (by simp),hHZ.sm (ts:=[]) (Sm.below hy)⟩
     have z_0:Below Z.heap.size Z Z:=Below.refl _ _
     have HAU:=hideT (authorize_ask s w0 gS (fun k=>(w0.heap.size ≤ k ∧ k < w.heap.size) ∨ Z.heap.size ≤ k) x0 x1 am cm master M hm (l:Int) ⟨(fldN 11 L).toArray⟩ HST.out tl nx hnx hn6 hc0 hc1 key ak ck hck key2 ak2 ck2 hck2 rk2 gK nK cK hky hto hkey2 ar cR rs hrts hrs hrc hrn hrz L hsz hL h2 h11 h52 h53 hbest av cv vs Z b0Z (fun k hk=>.inr hk)
       ⟨_,_,_,_,((hV0.out.weak (Q:=fun k=>w0.heap.size ≤ k ∧ k < w.heap.size) (fun k q1 q2 _=>⟨q1,q2⟩)).sm (Sm.below bwZ)).weak (fun k _ _ q=>.inl q)⟩
       (fun y hk hs=>by
         have f:=fs_fv (fs_kp (HFS.out Z b1Z) hk (fun g q1 q2 hq=>by
           rcases hq with ⟨_,q3⟩ | q3 <;> omega))
         rw [← HLD.out] at f
         rw [← HNL.out]
         exact f) (rk.below b0Z) hlS hlL hlW)
     rw [← HNK.out,← HNL.out] at HAU
     have HZ:=hideT hZ
     have HZB:=hideT (And.intro bwZ b0Z)
     clear hZ hSZ hHZ bVZ b1Z bwZ b0Z kY bVY
     refine wp_region_held_drew (S:=fun y=>y.cell? ⟨gS,5,none⟩ = some s.hnd ∧ y.cell? ⟨gA,1,none⟩ = some (.string ⟨#[48,49,48,48]⟩) ∧ Hnd y s.hnd ⟨#[48,49,48,48]⟩ (.func (Fn.func 70) #[.pointer (some ⟨gS,0,none⟩)] #[])) (by kernel_rfl) (by rw [← show Z = _ from HZ];exact keep5.out z_0) (fun hHeld=>?_)
     rw [← show Z = _ from HZ] at hHeld ⊢
     clear HZ
     refine tkA (i:=0) (v:=(.pointer (some ⟨gS,0,none⟩))) rfl hHeld ?_
     dsimp only [Act.put,List.getElem_toArray,List.getElem_cons_zero,List.getElem_cons_succ]
     simp only [List.setIfInBounds_toArray,List.set_cons_succ,List.set_cons_zero]
     refine tkA (i:=1) (v:=(.pointer (some ⟨gS,0,none⟩))) rfl hHeld ?_
     try dsimp only [Act.put]
     refine tkA (i:=2) (v:=(.pointer (some ⟨gS,5,none⟩))) rfl hHeld ?_
     dsimp only [Act.put,List.getElem_toArray,List.getElem_cons_zero,List.getElem_cons_succ]
     simp only [List.setIfInBounds_toArray,List.set_cons_succ,List.set_cons_zero]
     refine tk (i:=3) (v:=(s.hnd)) rfl (Or.inl ⟨by rfl,fun w1 h=>by have hc:=h.1;go_simp⟩) hHeld ?_
     try dsimp only [Act.put]
     refine tkA (i:=4) (v:=(.pointer (some ⟨gA,1,none⟩))) rfl hHeld ?_
     dsimp only [Act.put,List.getElem_toArray,List.getElem_cons_zero,List.getElem_cons_succ]
     simp only [List.setIfInBounds_toArray,List.set_cons_succ,List.set_cons_zero]
     refine tkA (i:=5) (v:=(.pointer (some ⟨gA,1,none⟩))) rfl hHeld ?_
     try dsimp only [Act.put]
     refine tk (i:=6) (v:=(.string ⟨#[48,49,48,48]⟩)) rfl (Or.inl ⟨by rfl,fun w1 h=>by have hc:=h.2.1;go_simp⟩) hHeld ?_
     dsimp only [Act.put,List.getElem_toArray,List.getElem_cons_zero,List.getElem_cons_succ]
     simp only [List.setIfInBounds_toArray,List.set_cons_succ,List.set_cons_zero]
     refine tk (i:=7) (v:=(.tuple #[.func (Fn.func 70) #[.pointer (some ⟨gS,0,none⟩)] #[],.bool true])) rfl (Or.inl ⟨by rfl,fun w1 h=>by have hc:=run_lookS h.2.2;go_simp⟩) hHeld ?_
     try dsimp only [Act.put]
     refine tkA (i:=8) (v:=(.tuple #[.func (Fn.func 70) #[.pointer (some ⟨gS,0,none⟩)] #[],.bool true])) rfl hHeld ?_
     dsimp only [Act.put,List.getElem_toArray,List.getElem_cons_zero,List.getElem_cons_succ]
     simp only [List.setIfInBounds_toArray,List.set_cons_succ,List.set_cons_zero]
     refine tkA (i:=9) (v:=(.func (Fn.func 70) #[.pointer (some ⟨gS,0,none⟩)] #[])) rfl hHeld ?_
     try dsimp only [Act.put]
     refine tkA (i:=10) (v:=(.bool true)) rfl hHeld ?_
     dsimp only [Act.put,List.getElem_toArray,List.getElem_cons_zero,List.getElem_cons_succ]
     simp only [List.setIfInBounds_toArray,List.set_cons_succ,List.set_cons_zero]
     refine rdy1 11 (fun K hK=>?_)
     go_simp
     refine hK.out _ _ (keep5.out z_0) (fun hHeld=>?_)
     clear hK K
     try dsimp only [Act.put]
     refine rdy1 12 (fun K hK=>?_)
     go_simp
     refine hK.out _ _ (keep5.out z_0) (fun hHeld=>?_)
     clear hK K
     try dsimp only [Act.put]
     refine wpAnyH_done (by kernel_rfl) ?_ _
     clear hHeld
     clear keep5 z_0
     go_wp2_with (refine load_blk rfl 219 _ rfl gA rfl kZ Tryz.underlying219 rfl (by kernel_rfl) ?_)
     refine HAU.out.mono ?_
     rintro e Y2 ⟨rfl,⟨x,hS⟩,bY2,sY2,pY2⟩
     go_wp2_with fail
     go_end0
     have hbz:=HZB.out.1.size
     refine ⟨rfl,⟨x,hS.weak (fun k q1 _ _=>q1)⟩,(HZB.out.1.mono hlo).trans bY2,(Sm.below HZB.out.1).trans sY2⟩
 · go_simp
   obtain ⟨w_8,hw_8⟩:∃ x,x = World.alloc V (.cells (zeroAr).toArray 219):=⟨_,rfl⟩
   have bel_8:Below V.heap.size V w_8:=by rw [hw_8];exact below_new _ _
   have A_8:Blk w_8 V.heap.size 219 (zeroAr):=by rw [hw_8];exact Blk.new _ _ _
   have le_A_8:=b_0.size
   have lt_A_8:=A_8.lt
   have b_8:=below_step b_0 bel_8
   rw [← hw_8]
   clear hw_8
   refine hK.out _ _ (keep.out b_8) (fun hHeld=>?_)
   clear hK K
   try dsimp only [Act.put]
   refine rdy1 5 (fun K hK=>?_)
   go_simp
   refine (HFLD.out _ b_8).mono ?_
   rintro e w_9 ⟨⟨aF,cF,rfl,rF⟩,bel_9⟩
   have A_9:=A_8.below bel_9 A_8.lt
   have b_9:=below_step b_8 bel_9
   obtain ⟨nF,hnF⟩:∃ n,n = (fldN 11 L).length:=⟨_,rfl⟩
   rw [← hnF]
   have HNF:=hideT hnF
   clear hnF
   go_wp2_with fail
   refine hK.out _ _ (keep.out b_9) (fun hHeld=>?_)
   clear hK K
   try dsimp only [Act.put]
   refine rdy1 6 (fun K hK=>?_)
   have hcv_10:=conv_any (fldN 11 L) aF nF cF w_9 HNF.out.symm rF
   go_simp
   refine hK.out _ _ (keep.out b_9) (fun hHeld=>?_)
   clear hK K
   try dsimp only [Act.put]
   refine tkA (i:=8) (v:=(.agg #[.int .i64 (l:Int),.string ⟨#[48,49,48,48]⟩,.slice av nL cv,.string ⟨(fldN 11 L).toArray⟩,.slice ak nk ck])) rfl hHeld ?_
   try dsimp only [Act.put]
   refine rdy1 10 (fun K hK=>?_)
   rw [if_pos (by rfl)]
   refine wp_store_blk rfl 219 _ _ rfl V.heap.size rfl rfl A_9 (by kernel_rfl) rfl (by simp [Value.oneCell']) ?_
   have A_11:=Blk.setRow A_9 ([.int .i64 (l:Int),.string ⟨#[48,49,48,48]⟩,.slice av nL cv,.string ⟨(fldN 11 L).toArray⟩,.slice ak nk ck])
   have b_11:=below_setRow' (g:=V.heap.size) b_9 le_A_8 ([.int .i64 (l:Int),.string ⟨#[48,49,48,48]⟩,.slice av nL cv,.string ⟨(fldN 11 L).toArray⟩,.slice ak nk ck]).toArray
   refine hK.out _ _ (keep.out b_11) (fun hHeld=>?_)
   clear hK K
   try dsimp only [Act.put]
   refine wpAnyH_done (by kernel_rfl) ?_ _
   clear hHeld
   obtain ⟨Y,hY⟩:∃ y,y = (World.setRow w_9 V.heap.size ([.int .i64 (l:Int),.string ⟨#[48,49,48,48]⟩,.slice av nL cv,.string ⟨(fldN 11 L).toArray⟩,.slice ak nk ck]).toArray):=⟨_,rfl⟩
   obtain ⟨gA,hgA⟩:∃ n,n = V.heap.size:=⟨_,rfl⟩
   have bVY:Below V.heap.size V Y:=by rw [hY];exact b_11
   have kY:Blk Y gA 219 [.int .i64 (l:Int),.string ⟨#[48,49,48,48]⟩,.slice av nL cv,.string ⟨(fldN 11 L).toArray⟩,.slice ak nk ck]:=by rw [hY,hgA];exact A_11
   rw [← hY,← hgA]
   have HYY:=hideT (And.intro bVY kY)
   clear hY hgA bVY kY
   obtain ⟨bVY,kY⟩:=HYY.out
   go_upto_region 5 with fail
   obtain ⟨Z,hZ⟩:∃ Z,Z = World.drew Y:=⟨_,rfl⟩
   have bVZ:Below V.heap.size V Z:=by rw [hZ];exact bVY.drew
   have kZ:Blk Z gA 219 [.int .i64 (l:Int),.string ⟨#[48,49,48,48]⟩,.slice av nL cv,.string ⟨(fldN 11 L).toArray⟩,.slice ak nk ck]:=by rw [hZ];exact kY
   have bwZ:=bwV.trans (bVZ.mono bwV.size)
   have b1Z:=b1V.trans (bVZ.mono b1V.size)
   have b0Z:=HB0.out.trans (bwZ.mono hlo)
   have hSZ:=HSES.out Z bwZ
   have hHZ:=HHND.out Z bwZ
   have keep5:Hid (∀ {y},Below Z.heap.size Z y → y.cell? ⟨gS,5,none⟩ = some s.hnd ∧ y.cell? ⟨gA,1,none⟩ = some (.string ⟨#[48,49,48,48]⟩) ∧ Hnd y s.hnd ⟨#[48,49,48,48]⟩ (.func (Fn.func 70) #[.pointer (some ⟨gS,0,none⟩)] #[])):=fun hy=>⟨(hSZ.sm (Sm.below hy)).c5,(kZ.below hy kZ.lt).cell 1 (by simp),hHZ.sm (ts:=[]) (Sm.below hy)⟩
   have z_0:Below Z.heap.size Z Z:=Below.refl _ _
   have HAU:=hideT (authorize_ask s w0 gS (fun k=>(w0.heap.size ≤ k ∧ k < w.heap.size) ∨ Z.heap.size ≤ k) x0 x1 am cm master M hm (l:Int) ⟨(fldN 11 L).toArray⟩ HST.out tl nx hnx hn6 hc0 hc1 key ak ck hck key2 ak2 ck2 hck2 rk2 gK nK cK hky hto hkey2 ar cR rs hrts hrs hrc hrn hrz L hsz hL h2 h11 h52 h53 hbest av cv vs Z b0Z (fun k hk=>.inr hk)
     ⟨_,_,_,_,((hV0.out.weak (Q:=fun k=>w0.heap.size ≤ k ∧ k < w.heap.size) (fun k q1 q2 _=>⟨q1,q2⟩)).sm (Sm.below bwZ)).weak (fun k _ _ q=>.inl q)⟩
     (fun y hk hs=>by
       have f:=fs_fv (fs_kp (HFS.out Z b1Z) hk (fun g q1 q2 hq=>by
         rcases hq with ⟨_,q3⟩ | q3 <;> omega))
       rw [← HLD.out] at f
       rw [← HNL.out]
       exact f) (rk.below b0Z) hlS hlL hlW)
   rw [← HNK.out,← HNL.out] at HAU
   have HZ:=hideT hZ
   have HZB:=hideT (And.intro bwZ b0Z)
   clear hZ hSZ hHZ bVZ b1Z bwZ b0Z kY bVY
   refine wp_region_held_drew (S:=fun y=>y.cell? ⟨gS,5,none⟩ = some s.hnd ∧ y.cell? ⟨gA,1,none⟩ = some (.string ⟨#[48,49,48,48]⟩) ∧ Hnd y s.hnd ⟨#[48,49,48,48]⟩ (.func (Fn.func 70) #[.pointer (some ⟨gS,0,none⟩)] #[])) (by kernel_rfl) (by rw [← show Z = _ from HZ];exact keep5.out z_0) (fun hHeld=>?_)
   rw [← show Z = _ from HZ] at hHeld ⊢
   clear HZ
   refine tkA (i:=0) (v:=(.pointer (some ⟨gS,0,none⟩))) rfl hHeld ?_
   dsimp only [Act.put,List.getElem_toArray,List.getElem_cons_zero,List.getElem_cons_succ]
   simp only [List.setIfInBounds_toArray,List.set_cons_succ,List.set_cons_zero]
   refine tkA (i:=1) (v:=(.pointer (some ⟨gS,0,none⟩))) rfl hHeld ?_
   try dsimp only [Act.put]
   refine tkA (i:=2) (v:=(.pointer (some ⟨gS,5,none⟩))) rfl hHeld ?_
   dsimp only [Act.put,List.getElem_toArray,List.getElem_cons_zero,List.getElem_cons_succ]
   simp only [List.setIfInBounds_toArray,List.set_cons_succ,List.set_cons_zero]
   refine tk (i:=3) (v:=(s.hnd)) rfl (Or.inl ⟨by rfl,fun w1 h=>by have hc:=h.1;go_simp⟩) hHeld ?_
   try dsimp only [Act.put]
   refine tkA (i:=4) (v:=(.pointer (some ⟨gA,1,none⟩))) rfl hHeld ?_
   dsimp only [Act.put,List.getElem_toArray,List.getElem_cons_zero,List.getElem_cons_succ]
   simp only [List.setIfInBounds_toArray,List.set_cons_succ,List.set_cons_zero]
   refine tkA (i:=5) (v:=(.pointer (some ⟨gA,1,none⟩))) rfl hHeld ?_
   try dsimp only [Act.put]
   refine tk (i:=6) (v:=(.string ⟨#[48,49,48,48]⟩)) rfl (Or.inl ⟨by rfl,fun w1 h=>by have hc:=h.2.1;go_simp⟩) hHeld ?_
   dsimp only [Act.put,List.getElem_toArray,List.getElem_cons_zero,List.getElem_cons_succ]
   simp only [List.setIfInBounds_toArray,List.set_cons_succ,List.set_cons_zero]
   refine tk (i:=7) (v:=(.tuple #[.func (Fn.func 70) #[.pointer (some ⟨gS,0,none⟩)] #[],.bool true])) rfl (Or.inl ⟨by rfl,fun w1 h=>by have hc:=run_lookS h.2.2;go_simp⟩) hHeld ?_
   try dsimp only [Act.put]
   refine tkA (i:=8) (v:=(.tuple #[.func (Fn.func 70) #[.pointer (some ⟨gS,0,none⟩)] #[],.bool true])) rfl hHeld ?_
   dsimp only [Act.put,List.getElem_toArray,List.getElem_cons_zero,List.getElem_cons_succ]
   simp only [List.setIfInBounds_toArray,List.set_cons_succ,List.set_cons_zero]
   refine tkA (i:=9) (v:=(.func (Fn.func 70) #[.pointer (some ⟨gS,0,none⟩)] #[])) rfl hHeld ?_
   try dsimp only [Act.put]
   refine tkA (i:=10) (v:=(.bool true)) rfl hHeld ?_
   dsimp only [Act.put,List.getElem_toArray,List.getElem_cons_zero,List.getElem_cons_succ]
   simp only [List.setIfInBounds_toArray,List.set_cons_succ,List.set_cons_zero]
   refine rdy1 11 (fun K hK=>?_)
   go_simp
   refine hK.out _ _ (keep5.out z_0) (fun hHeld=>?_)
   clear hK K
   try dsimp only [Act.put]
   refine rdy1 12 (fun K hK=>?_)
   go_simp
   refine hK.out _ _ (keep5.out z_0) (fun hHeld=>?_)
   clear hK K
   try dsimp only [Act.put]
   refine wpAnyH_done (by kernel_rfl) ?_ _
   clear hHeld
   clear keep5 z_0
   go_wp2_with (refine load_blk rfl 219 _ rfl gA rfl kZ Tryz.underlying219 rfl (by kernel_rfl) ?_)
   refine HAU.out.mono ?_
   rintro e Y2 ⟨rfl,⟨x,hS⟩,bY2,sY2,pY2⟩
   go_wp2_with fail
   go_end0
   have hbz:=HZB.out.1.size
   refine ⟨rfl,⟨x,hS.weak (fun k q1 _ _=>q1)⟩,(HZB.out.1.mono hlo).trans bY2,(Sm.below HZB.out.1).trans sY2⟩
end Go.Proofs.YtbkokcjolanpeaaGreatDoor
