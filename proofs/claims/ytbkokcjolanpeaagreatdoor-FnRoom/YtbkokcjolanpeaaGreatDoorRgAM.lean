import Derived.Test.YtbkokcjolanpeaaGreatDoorRgAK
import Derived.Test.YtbkokcjolanpeaaGreatDoorRgAL
namespace Go.Proofs.YtbkokcjolanpeaaGreatDoor
open Go.RowKit
theorem msg_range {w:World} {gA t:Nat} {a b c d e:Value} (kA:Blk w gA t [a,b,c,d,e]):w.rangeAt gA 1 [b,c]:=fun j u hu=>by
 cases j with
 | zero=>simp at hu;subst hu;exact kA.cell 1 (by simp)
 | succ j =>
   cases j with
   | zero=>simp at hu;subst hu;exact kA.cell 2 (by simp)
   | succ j=>simp at hu
theorem Fv.fr {w:World} {v:Value} {L:List (Int × List UInt8)} {vs:List Value} (h:Fv w v L vs) (hR:Rws w L vs):Fr w v L:=by
 refine ⟨h.sh,fun i hi=>?_⟩
 obtain ⟨g,o,cap,e,c1,c2⟩:=h.at_ i hi
 obtain ⟨ai,ci,e2,r⟩:=hR i hi
 exact ⟨g,o,cap,ai,ci,e,c1,by rw [c2,e2],r⟩
set_option maxRecDepth 100000 in
set_option maxHeartbeats 1000000 in
theorem movePin_none (gS:Nat) (link to_:Int) (mt stan:ByteArray) (kv:Value) (L:List (Int × List UInt8)) (hL:L.length ≤ 1048576) (h53:∀ j,j < L.length → ((L.getD j (0,[])).1 == 53) = false) (h52:hasN 52 L = false) (v:Value) (vs:List Value) (w:World) (FV:Fv w v L vs) (hR:Rws w L vs) :
   Calls Tryz.prog 121 #[.pointer (some ⟨gS,0,none⟩),.agg #[.int .i64 link,.string mt,v,.string stan,kv],.int .i64 to_] w fun e w' =>
     (∃ v',e = .returned (.tuple #[v',.int .i64 0]) ∧ w'.ownsRow w.heap.size 29 2 v' L.length (Z.fldCells L vs)) ∧ Below w.heap.size w w':=by
 obtain ⟨av,cv,rfl⟩:=FV.sh
 obtain ⟨gA,hgA⟩:∃ n,n = w.heap.size:=⟨_,rfl⟩
 obtain ⟨W,hW⟩:∃ y,y = w.alloc (Obj.cells #[.int .i64 link,.string mt,.slice av L.length cv,.string stan,kv] 219):=⟨_,rfl⟩
 have bW:Below w.heap.size w W:=by rw [hW];exact below_newS _ _
 have kA:Blk W gA 219 [.int .i64 link,.string mt,.slice av L.length cv,.string stan,kv]:=by rw [hW,hgA];exact Blk.new _ _ _
 obtain ⟨gN,hgN⟩:∃ n,n = W.heap.size:=⟨_,rfl⟩
 obtain ⟨W1,hW1⟩:∃ y,y = W.alloc (Obj.cells #[.int .i64 53] 3):=⟨_,rfl⟩
 have bW1:Below W.heap.size W W1:=by rw [hW1];exact below_newS _ _
 have kN1:Blk W1 gN 3 [.int .i64 53]:=by rw [hW1,hgN];exact Blk.new _ _ _
 have bw1:=bW.trans (bW1.mono bW.size)
 have HWO:=hideT (withoutN_no 53 L hL h53 _ vs gN W1 (FV.below bw1) (hR.below bw1) (kN1.cell 0 (by simp)))
 have hc2:=kA.cell 2 (by simp)
 have HA:=hideT (fun (y:World) (hy:Below W.heap.size W y)=>kA.below hy kA.lt)
 have HF:=hideT (fun (y:World) (hy:Below w.heap.size w y)=>(FV.below hy).fr (hR.below hy))
 obtain ⟨nL,hnL⟩:∃ n,n = L.length:=⟨_,rfl⟩
 have HW:=hideT hW
 have HW1:=hideT hW1
 have HGA:=hideT hgA
 have HGN:=hideT hgN
 clear hW hW1 hgA hgN FV hR kN1 h53
 go_enter Tryz.func121,Tryz.ntmps121
 go_upto_region 1 with fail
 rw [← show W = _ from HW,← show gA = _ from HGA]
 go_wp2_with fail
 rw [← show W1 = _ from HW1,← show gN = _ from HGN]
 refine HWO.out.mono ?_
 rintro e X2 ⟨⟨v2,rfl,row2⟩,b2⟩
 have bX2:Below W.heap.size W X2:=bW1.trans (b2.mono bW1.size)
 have bw2:=bw1.trans (b2.mono bw1.size)
 obtain ⟨gM,hgM⟩:∃ n,n = X2.heap.size:=⟨_,rfl⟩
 obtain ⟨X3,hX3⟩:∃ y,y = X2.alloc (Obj.cells #[.int .i64 52] 3):=⟨_,rfl⟩
 have b3:Below X2.heap.size X2 X3:=by rw [hX3];exact below_newS _ _
 have k3:Blk X3 gM 3 [.int .i64 52]:=by rw [hX3,hgM];exact Blk.new _ _ _
 have bw3:=bw2.trans (b3.mono bw2.size)
 have HHAS:=hideT (has_any [52] (by decide) gM mt L hL _ X3 (HF.out X3 bw3) (fun i hi=>by
   obtain rfl:i = 0:=by simp at hi;omega
   exact k3.cell 0 (by simp)))
 rw [show ([52]:List Int).all (fun n=>hasN n L) = false from by simp [h52]] at HHAS
 have HR2:=hideT row2
 have HMSG:=hideT (msg_range (HA.out X2 bX2))
 have HX3:=hideT hX3
 have HGM:=hideT hgM
 clear hX3 hgM k3 row2 HWO hc2
 go_wp2_with (refine wpList_load_mid rfl 32 _ rfl gA 1 rfl [.string mt,.slice av L.length cv] _ HMSG.out Tryz.underlying32 rfl (by kernel_rfl) ?_)
 rw [← show X3 = _ from HX3,← show gM = _ from HGM]
 refine HHAS.out.mono ?_
 rintro e X4 ⟨rfl,b4⟩
 have b24:=b3.trans (b4.mono b3.size)
 go_wp2_with fail
 go_ret2
 exact ⟨⟨_,rfl,ownR_mono (own_sm (ts:=[]) HR2.out (Sm.below b24) (by simp)) bw1.size⟩,bw2.trans (b24.mono bw2.size)⟩
def askS (s:SS) (link:Int) (tl nx:Nat) (stan:ByteArray) (x:Value):SS :=
 if s.room ≤ (s.W.length:Int) then { s with S:=s.S ++ [(link,x)],L:=s.L ++ [(91,link,stan)] }
 else { s with next:=((nx + 1:Nat):Int),W:=s.W ++ [((tl:Int),numB nx,link,stan,s.clock + 30)],S:=s.S ++ [((tl:Int),x)],L:=s.L ++ [(0,link,stan)] }
set_option maxRecDepth 100000 in
set_option maxHeartbeats 2000000 in
theorem authorize_ask (s:SS) (w0:World) (gS:Nat) (P:Nat → Prop) (x0 x1:Addr) (am:Option Addr) (cm:Nat) (master:List UInt8) (M:Mst w0 x0 x1 am master) (hm:s.mst = .slice am master.length cm) (link:Int) (stan:ByteArray) (hst:stan.size ≤ 1048576) (tl nx:Nat) (hnx:s.next = (nx:Int)) (hn6:nx < 1000000) (hc0:0 ≤ s.clock) (hc1:s.clock ≤ 1000000)
   (key:List UInt8) (ak:Option Addr) (ck:Nat) (hck:key.length ≤ ck) (key2:List UInt8) (ak2:Option Addr) (ck2:Nat) (hck2:key2.length ≤ ck2) (rk2:RowAt w0 ak2 key2) (gK nK cK:Nat) (hky:s.kys = .slice (some ⟨gK,0,none⟩) nK cK) (hto:tl < nK) (hkey:w0.cell? ⟨gK,tl * 2,none⟩ = some (.slice ak2 key2.length ck2))
   (ar:Option Addr) (cR:Nat) (rs:List Rt) (hrts:s.rts = .slice ar rs.length cR) (hrs:RtsAt w0 ar rs) (hrc:rs.length ≤ cR) (hrn:rs.length ≤ 1048576) (hrz:∀ r ∈ rs,r.1.size ≤ maxLen)
   (L:List (Int × List UInt8)) (hsz:∀ p ∈ L,p.2.length ≤ 1048576) (hL:L.length ≤ 1048576) (h2:hasN 2 L = true) (h11:hasN 11 L = true) (h52:hasN 52 L = false) (h53:∀ j,j < L.length → ((L.getD j (0,[])).1 == 53) = false) (hbest:∀ a,BestOf (rs.take 20) ⟨(fldN 2 L).toArray⟩ a → a = (tl:Int))
   (av:Option Addr) (cv:Nat) (vs:List Value) (w:World) (b0:Below w0.heap.size w0 w) (hP:∀ k,w.heap.size ≤ k → P k) (h:Ses w w0.heap.size gS P s) (FVK:∀ y,Kp P w y → w.heap.size ≤ y.heap.size → Fv y (.slice av L.length cv) L vs ∧ Rws y L vs) (rk:RowAt w ak key) (hlS:s.S.length ≤ 1000000) (hlL:s.L.length ≤ 1000000) (hlW:s.W.length ≤ 1000000) :
   Calls Tryz.prog 70 #[.pointer (some ⟨gS,0,none⟩),.agg #[.int .i64 link,.string ⟨#[48,49,48,48]⟩,.slice av L.length cv,.string stan,.slice ak key.length ck]] w fun e w' =>
     e = .returned (.tuple #[]) ∧ (∃ x,Ses w' w0.heap.size gS P (askS s link tl nx stan x)) ∧ Below w0.heap.size w w' ∧ Sm sesT w w' ∧ Kp P w w':=by
 obtain ⟨F0,R0⟩:=FVK w (fun _ _ _=>rfl) (Nat.le_refl _)
 obtain ⟨nL,hnL⟩:∃ n,n = L.length:=⟨_,rfl⟩
 obtain ⟨nR,hnR⟩:∃ n,n = rs.length:=⟨_,rfl⟩
 obtain ⟨gA,hgA⟩:∃ n,n = w.heap.size:=⟨_,rfl⟩
 have hlo:=b0.size
 obtain ⟨W,hW⟩:∃ y,y = w.alloc (Obj.cells #[.int .i64 link,.string ⟨#[48,49,48,48]⟩,.slice av nL cv,.string stan,.slice ak key.length ck] 219):=⟨_,rfl⟩
 have bW:Below w.heap.size w W:=by rw [hW];exact below_newS _ _
 have kA:Blk W gA 219 [.int .i64 link,.string ⟨#[48,49,48,48]⟩,.slice av nL cv,.string stan,.slice ak key.length ck]:=by rw [hW,hgA];exact Blk.new _ _ _
 obtain ⟨gN,hgN⟩:∃ n,n = W.heap.size:=⟨_,rfl⟩
 obtain ⟨W1,hW1⟩:∃ y,y = W.alloc (Obj.cells #[.int .i64 2,.int .i64 11] 3):=⟨_,rfl⟩
 have bW1:Below W.heap.size W W1:=by rw [hW1];exact below_newS _ _
 have kN1:Blk W1 gN 3 [.int .i64 2,.int .i64 11]:=by rw [hW1,hgN];exact Blk.new _ _ _
 have bw1:=bW.trans (bW1.mono bW.size)
 have HHAS:=hideT (has_any [2,11] (by decide) gN ⟨#[48,49,48,48]⟩ L hL _ W1 ((F0.below bw1).fr (R0.below bw1)) (fun i hi=>by
   have hi2:i = 0 ∨ i = 1:=by simp at hi;omega
   rcases hi2 with rfl | rfl
   · exact kN1.cell 0 (by simp)
   · exact kN1.cell 1 (by simp)))
 rw [show ([2,11]:List Int).all (fun n=>hasN n L) = true from by simp [h2,h11],← hnL] at HHAS
 have HA:=hideT (fun (y:World) (hy:Below W.heap.size W y)=>kA.below hy kA.lt)
 have HMSG:=hideT (msg_range kA)
 have HFR:=hideT (fun (y:World) (hy:Below w.heap.size w y)=>And.intro (F0.below hy) (R0.below hy))
 have HW:=hideT hW
 have HW1:=hideT hW1
 have HGA:=hideT hgA
 have HGN:=hideT hgN
 obtain ⟨wv,sv,lv,ps,h⟩:=h
 obtain ⟨aW,cW,rfl⟩:=ownS h.wrow
 obtain ⟨nW,hnW⟩:∃ n,n = s.W.length:=⟨_,rfl⟩
 rw [← hnW] at h
 have HNW:=hideT hnW
 have HSES:=hideT (fun (y:World) (hy:Below w.heap.size w y)=>h.sm (Sm.below hy))
 have HB0:=hideT b0
 rw [← hnL]
 have HNL:=hideT hnL
 have HNR:=hideT hnR
 clear hW hW1 hgA hgN kN1 hnW F0 R0 b0 hnL hnR
 go_enter Tryz.func70,Tryz.ntmps70
 go_upto_region 1 with fail
 rw [← show W = _ from HW,← show gA = _ from HGA]
 go_wp2_with (refine wpList_load_mid rfl 32 _ rfl gA 1 rfl [.string ⟨#[48,49,48,48]⟩,.slice av nL cv] _ HMSG.out Tryz.underlying32 rfl (by kernel_rfl) ?_)
 rw [← show W1 = _ from HW1,← show gN = _ from HGN]
 refine HHAS.out.mono ?_
 rintro e X2 ⟨rfl,b2⟩
 have bX2:Below W.heap.size W X2:=bW1.trans (b2.mono bW1.size)
 clear HHAS HMSG HW HW1 HGA HGN
 go_upto_region 3 with fail
 obtain ⟨V,hV⟩:∃ V,V = World.drew X2:=⟨_,rfl⟩
 have bWV:Below W.heap.size W V:=by rw [hV];exact bX2.drew
 have bwV:=bW.trans (bWV.mono bW.size)
 have b0V:=HB0.out.trans (bwV.mono hlo)
 have kV:=HA.out V bWV
 have HFLD:=hideT (field_any 2 ⟨#[48,49,48,48]⟩ L hL _ V ((HFR.out V bwV).1.fr (HFR.out V bwV).2))
 rw [← HNL.out] at HFLD
 have HRT:=hideT (fun (y:World) (hy:Below V.heap.size V y)=>routeI_any ar cR rs ⟨(fldN 2 L).toArray⟩ y hrn hrc hrz (hrs.below (b0V.trans (hy.mono b0V.size))))
 rw [← HNR.out] at HRT
 have HBEST:=hideT hbest
 have hSV:=HSES.out V bwV
 have cr:V.cell? ⟨gS,2,none⟩ = some (.slice ar nR cR):=by rw [HNR.out,← hrts];exact hSV.blk.cell 2 (by simp [sesC])
 have keep:Hid (∀ {y},Below V.heap.size V y → y.cell? ⟨gS,2,none⟩ = some (.slice ar nR cR) ∧ y.rangeAt gA 1 [.string ⟨#[48,49,48,48]⟩,.slice av nL cv]):=fun hy=>⟨(hy.cell (p:=⟨gS,2,none⟩) hSV.blk.lt).trans cr,msg_range (kV.below hy kV.lt)⟩
 have b_0:Below V.heap.size V V:=Below.refl _ _
 have HV:=hideT hV
 clear hV kV hSV cr hbest
 refine wp_region_held_drew (S:=fun y=>y.cell? ⟨gS,2,none⟩ = some (.slice ar nR cR) ∧ y.rangeAt gA 1 [.string ⟨#[48,49,48,48]⟩,.slice av nL cv]) (by kernel_rfl) (by rw [← show V = _ from HV];exact keep.out b_0) (fun hHeld=>?_)
 rw [← show V = _ from HV] at hHeld ⊢
 clear HV
 refine tkA (i:=0) (v:=(.pointer (some ⟨gS,0,none⟩))) rfl hHeld ?_
 try dsimp only [Act.put]
 refine tkA (i:=1) (v:=(.pointer (some ⟨gS,0,none⟩))) rfl hHeld ?_
 dsimp only [Act.put,List.getElem_toArray,List.getElem_cons_zero,List.getElem_cons_succ]
 simp only [List.setIfInBounds_toArray,List.set_cons_succ,List.set_cons_zero]
 refine tkA (i:=2) (v:=(.pointer (some ⟨gS,0,none⟩))) rfl hHeld ?_
 try dsimp only [Act.put]
 refine tkA (i:=3) (v:=(.pointer (some ⟨gS,2,none⟩))) rfl hHeld ?_
 dsimp only [Act.put,List.getElem_toArray,List.getElem_cons_zero,List.getElem_cons_succ]
 simp only [List.setIfInBounds_toArray,List.set_cons_succ,List.set_cons_zero]
 refine tk (i:=4) (v:=(.slice ar nR cR)) rfl (Or.inl ⟨by rfl,fun w1 h=>by have hc:=h.1;go_simp⟩) hHeld ?_
 try dsimp only [Act.put]
 refine tkA (i:=5) (v:=(.pointer (some ⟨gA,1,none⟩))) rfl hHeld ?_
 dsimp only [Act.put,List.getElem_toArray,List.getElem_cons_zero,List.getElem_cons_succ]
 simp only [List.setIfInBounds_toArray,List.set_cons_succ,List.set_cons_zero]
 refine tk (i:=6) (v:=(.agg ([.string ⟨#[48,49,48,48]⟩,.slice av nL cv]:List Value).toArray)) rfl (yieldsIf_load_mid (by rfl) 32 _ rfl gA 1 rfl [.string ⟨#[48,49,48,48]⟩,.slice av nL cv] _ (fun _ h=>h.2) Tryz.underlying32 rfl (by kernel_rfl)) hHeld ?_
 try dsimp only [Act.put]
 refine rdy1 7 (fun K hK=>?_)
 go_simp
 refine HFLD.out.mono ?_
 rintro e U1 ⟨⟨aF,cF,rfl,rF⟩,bU1⟩
 obtain ⟨nF,hnF⟩:∃ n,n = (fldN 2 L).length:=⟨_,rfl⟩
 have hcv:=conv_any (fldN 2 L) aF nF cF U1 hnF.symm rF
 rw [← hnF]
 clear hnF
 go_wp2_with fail
 refine hK.out _ _ (keep.out bU1) (fun hHeld=>?_)
 clear hK K
 try dsimp only [Act.put]
 refine rdy1 8 (fun K hK=>?_)
 go_simp
 refine hK.out _ _ (keep.out bU1) (fun hHeld=>?_)
 clear hK K
 try dsimp only [Act.put]
 refine rdy1 9 (fun K hK=>?_)
 go_simp
 refine (HRT.out U1 bU1).mono ?_
 rintro e U2 ⟨a2,rfl,hb2,bU2x⟩
 have e2:=HBEST.out a2 hb2
 subst e2
 have bU2:=bU1.trans (bU2x.mono bU1.size)
 go_wp2_with fail
 refine hK.out _ _ (keep.out bU2) (fun hHeld=>?_)
 clear hK K
 try dsimp only [Act.put]
 refine rdy1 10 (fun K hK=>?_)
 go_simp
 refine hK.out _ _ (keep.out bU2) (fun hHeld=>?_)
 clear hK K
 try dsimp only [Act.put]
 refine wpAnyH_done (by kernel_rfl) ?_ _
 clear hHeld
 have hneg:¬ (tl:Int) < 0:=by omega
 have bWU:Below W.heap.size W U2:=bWV.trans (bU2.mono bWV.size)
 clear HFLD HRT HBEST keep b_0 hcv rF bU1 bU2x bU2 hb2
 go_upto_region 6 with fail
 obtain ⟨Z,hZ⟩:∃ Z,Z = World.drew U2:=⟨_,rfl⟩
 have bWZ:Below W.heap.size W Z:=by rw [hZ];exact bWU.drew
 have bwZ:=bW.trans (bWZ.mono bW.size)
 have b0Z:=HB0.out.trans (bwZ.mono hlo)
 have kZ:=HA.out Z bWZ
 have hSZ:=HSES.out Z bwZ
 have c9:Z.cell? ⟨gS,9,none⟩ = some (.slice aW nW cW):=hSZ.c9
 have c3:Z.cell? ⟨gS,3,none⟩ = some (.int .i64 s.room):=hSZ.blk.cell 3 (by simp [sesC])
 have keep6:Hid (∀ {y},Below Z.heap.size Z y → y.cell? ⟨gS,9,none⟩ = some (.slice aW nW cW) ∧ y.cell? ⟨gS,3,none⟩ = some (.int .i64 s.room)):=fun hy=>⟨(hy.cell (p:=⟨gS,9,none⟩) hSZ.blk.lt).trans c9,(hy.cell (p:=⟨gS,3,none⟩) hSZ.blk.lt).trans c3⟩
 have z_0:Below Z.heap.size Z Z:=Below.refl _ _
 have HZ:=hideT hZ
 have HSZ:=hideT hSZ
 clear hZ hSZ bWU c9 c3
 refine wp_region_held_drew (S:=fun y=>y.cell? ⟨gS,9,none⟩ = some (.slice aW nW cW) ∧ y.cell? ⟨gS,3,none⟩ = some (.int .i64 s.room)) (by kernel_rfl) (by rw [← show Z = _ from HZ];exact keep6.out z_0) (fun hHeld=>?_)
 rw [← show Z = _ from HZ] at hHeld ⊢
 clear HZ
 by_cases hfull:s.room ≤ (nW:Int)
 · have HASK:=hideT (fun x=>(show askS s link tl nx stan x = { s with S:=s.S ++ [(link,x)],L:=s.L ++ [(91,link,stan)] } from by unfold askS;rw [if_pos (by rw [← HNW.out];exact hfull)]))
   refine tkA (i:=0) (v:=(.pointer (some ⟨gS,0,none⟩))) rfl hHeld ?_
   dsimp only [Act.put,List.getElem_toArray,List.getElem_cons_zero,List.getElem_cons_succ]
   simp only [List.setIfInBounds_toArray,List.set_cons_succ,List.set_cons_zero]
   refine tkA (i:=1) (v:=(.pointer (some ⟨gS,0,none⟩))) rfl hHeld ?_
   try dsimp only [Act.put]
   refine tkA (i:=2) (v:=(.pointer (some ⟨gS,9,none⟩))) rfl hHeld ?_
   dsimp only [Act.put,List.getElem_toArray,List.getElem_cons_zero,List.getElem_cons_succ]
   simp only [List.setIfInBounds_toArray,List.set_cons_succ,List.set_cons_zero]
   refine tk (i:=3) (v:=(.slice aW nW cW)) rfl (Or.inl ⟨by rfl,fun w1 h=>by have hc:=h.1;go_simp⟩) hHeld ?_
   try dsimp only [Act.put]
   refine tkA (i:=4) (v:=(.int .i64 (nW:Int))) rfl hHeld ?_
   dsimp only [Act.put,List.getElem_toArray,List.getElem_cons_zero,List.getElem_cons_succ]
   simp only [List.setIfInBounds_toArray,List.set_cons_succ,List.set_cons_zero]
   refine tkA (i:=5) (v:=(.pointer (some ⟨gS,0,none⟩))) rfl hHeld ?_
   try dsimp only [Act.put]
   refine tkA (i:=6) (v:=(.pointer (some ⟨gS,0,none⟩))) rfl hHeld ?_
   dsimp only [Act.put,List.getElem_toArray,List.getElem_cons_zero,List.getElem_cons_succ]
   simp only [List.setIfInBounds_toArray,List.set_cons_succ,List.set_cons_zero]
   refine tkA (i:=7) (v:=(.pointer (some ⟨gS,0,none⟩))) rfl hHeld ?_
   try dsimp only [Act.put]
   refine tkA (i:=8) (v:=(.pointer (some ⟨gS,3,none⟩))) rfl hHeld ?_
   dsimp only [Act.put,List.getElem_toArray,List.getElem_cons_zero,List.getElem_cons_succ]
   simp only [List.setIfInBounds_toArray,List.set_cons_succ,List.set_cons_zero]
   refine tk (i:=9) (v:=(.int .i64 s.room)) rfl (Or.inl ⟨by rfl,fun w1 h=>by have hc:=h.2;go_simp⟩) hHeld ?_
   try dsimp only [Act.put]
   refine tkA (i:=10) (v:=(.bool true)) rfl hHeld ?_
   dsimp only [Act.put,List.getElem_toArray,List.getElem_cons_zero,List.getElem_cons_succ]
   simp only [List.setIfInBounds_toArray,List.set_cons_succ,List.set_cons_zero]
   refine wpAnyH_done (by kernel_rfl) ?_ _
   clear hHeld
   clear keep6 z_0
   have HAN:=hideT (answer_ask s w0 gS P x0 x1 am cm master M hm link 91 (by decide) stan hst key ak ck hck L hL h11 (.slice av nL cv) Z b0Z (fun k hk=>hP k (Nat.le_trans bwZ.size hk)) ⟨_,_,_,_,HSZ.out⟩ (by rw [HNL.out];exact (HFR.out Z bwZ).1.fr (HFR.out Z bwZ).2) (rk.below bwZ) hlS hlL)
   go_wp2_with (refine load_blk rfl 219 _ rfl gA rfl kZ Tryz.underlying219 rfl (by kernel_rfl) ?_)
   refine HAN.out.mono ?_
   rintro e Y ⟨rfl,⟨x,hS⟩,bY,sY,pY⟩
   go_wp2_with fail
   refine bodyPost_ret (results_none rfl _ _ _) rfl ⟨rfl,⟨x,?_⟩,(bwZ.mono hlo).trans bY,(Sm.below bwZ).trans sY,(Kp.below bwZ).trans bwZ.size pY⟩
   rw [HASK.out]
   exact hS
 · have HASK:=hideT (fun x=>(show askS s link tl nx stan x = { s with next:=((nx + 1:Nat):Int),W:=s.W ++ [((tl:Int),numB nx,link,stan,s.clock + 30)],S:=s.S ++ [((tl:Int),x)],L:=s.L ++ [(0,link,stan)] } from by unfold askS;rw [if_neg (by rw [← HNW.out];exact hfull)]))
   refine tkA (i:=0) (v:=(.pointer (some ⟨gS,0,none⟩))) rfl hHeld ?_
   try dsimp only [Act.put]
   refine tkA (i:=1) (v:=(.pointer (some ⟨gS,0,none⟩))) rfl hHeld ?_
   dsimp only [Act.put,List.getElem_toArray,List.getElem_cons_zero,List.getElem_cons_succ]
   simp only [List.setIfInBounds_toArray,List.set_cons_succ,List.set_cons_zero]
   refine tkA (i:=2) (v:=(.pointer (some ⟨gS,9,none⟩))) rfl hHeld ?_
   try dsimp only [Act.put]
   refine tk (i:=3) (v:=(.slice aW nW cW)) rfl (Or.inl ⟨by rfl,fun w1 h=>by have hc:=h.1;go_simp⟩) hHeld ?_
   dsimp only [Act.put,List.getElem_toArray,List.getElem_cons_zero,List.getElem_cons_succ]
   simp only [List.setIfInBounds_toArray,List.set_cons_succ,List.set_cons_zero]
   refine tkA (i:=4) (v:=(.int .i64 (nW:Int))) rfl hHeld ?_
   try dsimp only [Act.put]
   refine tkA (i:=5) (v:=(.pointer (some ⟨gS,0,none⟩))) rfl hHeld ?_
   dsimp only [Act.put,List.getElem_toArray,List.getElem_cons_zero,List.getElem_cons_succ]
   simp only [List.setIfInBounds_toArray,List.set_cons_succ,List.set_cons_zero]
   refine tkA (i:=6) (v:=(.pointer (some ⟨gS,0,none⟩))) rfl hHeld ?_
   try dsimp only [Act.put]
   refine tkA (i:=7) (v:=(.pointer (some ⟨gS,0,none⟩))) rfl hHeld ?_
   dsimp only [Act.put,List.getElem_toArray,List.getElem_cons_zero,List.getElem_cons_succ]
   simp only [List.setIfInBounds_toArray,List.set_cons_succ,List.set_cons_zero]
   refine tkA (i:=8) (v:=(.pointer (some ⟨gS,3,none⟩))) rfl hHeld ?_
   try dsimp only [Act.put]
   refine tk (i:=9) (v:=(.int .i64 s.room)) rfl (Or.inl ⟨by rfl,fun w1 h=>by have hc:=h.2;go_simp⟩) hHeld ?_
   dsimp only [Act.put,List.getElem_toArray,List.getElem_cons_zero,List.getElem_cons_succ]
   simp only [List.setIfInBounds_toArray,List.set_cons_succ,List.set_cons_zero]
   refine tkA (i:=10) (v:=(.bool false)) rfl hHeld ?_
   try dsimp only [Act.put]
   refine wpAnyH_done (by kernel_rfl) ?_ _
   clear hHeld
   clear keep6 z_0
   have HMP:=hideT (movePin_none gS link (tl:Int) ⟨#[48,49,48,48]⟩ stan (.slice ak key.length ck) L hL h53 h52 _ vs Z (HFR.out Z bwZ).1 (HFR.out Z bwZ).2)
   rw [← HNL.out] at HMP
   go_wp2_with (refine load_blk rfl 219 _ rfl gA rfl kZ Tryz.underlying219 rfl (by kernel_rfl) ?_)
   refine HMP.out.mono ?_
   rintro e Y1 ⟨⟨v1,rfl,row1⟩,bY1⟩
   obtain ⟨a1,c1,rfl⟩:=ownS row1
   have bwY:=bwZ.trans (bY1.mono bwZ.size)
   have b0Y:=HB0.out.trans (bwY.mono hlo)
   have kY:=kZ.below bY1 kZ.lt
   have HSO:=hideT (sendOn_any s w0 gS (fun k=>(P k ∧ k < w.heap.size) ∨ Y1.heap.size ≤ k) x0 x1 am cm master M hm link ⟨#[48,49,48,48]⟩ stan (.slice av nL cv) (.slice ak key.length ck) tl nx hnx hn6 hc0 hc1 key2 ak2 ck2 hck2 rk2 gK nK cK hky hto hkey L hsz hL a1 c1 Y1 b0Y (fun k hk=>.inr hk)
     ⟨_,_,_,_,((h.weak (Q:=fun k=>P k ∧ k < w.heap.size) (fun k _ h1 h2=>⟨h2,h1⟩)).sm (Sm.below bwY)).weak (fun k _ _ h2=>.inl h2)⟩
     (fun y hk hs=>by
       have hKw:Kp P w y:=fun k hkk hp=>(hk k (Nat.lt_of_lt_of_le hkk bwY.size) (fun hq=>by
         rcases hq with ⟨q1,_⟩ | q1
         · exact hp q1
         · have:=bwY.size;omega)).trans (bwY.block k hkk)
       have hv:=FVK y hKw (Nat.le_trans bwY.size hs)
       rw [HNL.out] at row1
       exact Fr.ofRow (own_kp row1 hk (fun g hg=>by
         have h3:=row1.lt g hg
         have h4:=bwZ.size
         intro hq
         rcases hq with ⟨_,q2⟩ | q2 <;> omega)) hv.1.len hv.2) hlS hlL hlW)
   rw [← HNL.out] at HSO
   clear row1 HMP
   go_wp2_with (refine load_blk rfl 219 _ rfl gA rfl kY Tryz.underlying219 rfl (by kernel_rfl) ?_)
   refine HSO.out.mono ?_
   rintro e Y ⟨rfl,⟨x,hS⟩,bY,sY,pY⟩
   go_wp2_with fail
   go_end0
   refine ⟨rfl,⟨x,?_⟩,(bwY.mono hlo).trans bY,(Sm.below bwY).trans sY,(Kp.below bwY).trans bwY.size (pY.weak (fun k _ hq=>by
     rcases hq with ⟨q1,_⟩ | q1
     · exact q1
     · exact hP k (Nat.le_trans bwY.size q1)))⟩
   rw [HASK.out]
   exact hS.weak (fun k _ _ hq=>by
     rcases hq with ⟨q1,_⟩ | q1
     · exact q1
     · exact hP k (Nat.le_trans bwY.size q1))
end Go.Proofs.YtbkokcjolanpeaaGreatDoor
