import Derived.Test.YtbkokcjolanpeaaGreatDoorRgAR
import Derived.Deep.RegionWith
import Derived.Lib.SlBytesConst
namespace Go.Proofs.YtbkokcjolanpeaaGreatDoor
open Go.RowKit
abbrev zeroOut:List Value:=[.int .i64 0,.slice none 0 0,.slice none 0 0,.int .i64 0,.slice none 0 0]
theorem Tryz.zeroOut:(Tryz.prog.info? 44).map (fun i=>(i.zero,i.size)) = some (some (.agg zeroOut.toArray),5):=by kernel_rfl
def evC (l:Nat) (dv:Value):Ev → List Value
 | .msg=>[.int .i64 1,.int .i64 (l:Int),.int .i64 0,dv]
 | .tick n=>[.int .i64 2,.int .i64 0,.int .i64 n,.slice none 0 0]
def evG:Ev → Prop
 | .msg=>True
 | .tick n=>0 ≤ n ∧ n ≤ 1000
theorem evC_ok {l n:Nat} {ad:Option Addr} {nd cd:Nat} (hnd:nd ≤ 4096) (hl:l < n) (e:Ev) (h:evG e):EvOk n (evC l (.slice ad nd cd) e):=by
 cases e with
 | msg=>exact ⟨1,_,_,_,_,_,rfl,hnd,.inl ⟨rfl,by omega,by omega⟩⟩
 | tick m=>exact ⟨2,_,_,_,_,_,rfl,by omega,.inr ⟨rfl,h.1,h.2⟩⟩
set_option maxRecDepth 100000 in
set_option maxHeartbeats 2000000 in
theorem run_script (master:List UInt8) (hm16:master.length = 16) (ls:List Lk) (hls:ls.length ≤ 8) (hne:0 < ls.length) (hok:∀ i,i < ls.length → KeysOk master (ls.getD i ([],[],0))) (QL QR:List (List Value)) (hQLn:QL.length = ls.length) (rs:List Rt) (hQRn:QR.length = rs.length) (hr20:rs.length ≤ 20) (room:Int) (hr0:0 ≤ room) (hr1:room ≤ 20)
   (hql:∀ i,i < QL.length → ∃ v0 v1 f,QL.getD i [] = [v0,v1,.int .i64 f] ∧ (f = 0 ∨ f = 3)) (hqr:∀ i,i < QR.length → ∃ t l,QR.getD i [] = [.string t,.int .i64 l] ∧ 0 < t.size ∧ t.size ≤ 19 ∧ digs t = true ∧ 0 ≤ l ∧ l < (QL.length:Int))
   (am al ar ae:Option Addr) (cm cl cR ce:Nat) (x0 x1:Addr) (l tl:Nat) (data:List UInt8) (ad:Option Addr) (cd:Nat) (hd4:data.length ≤ 4096) (L:List (Int × List UInt8)) (evs:List Ev) (hev:evs.length ≤ 60) (heg:∀ e ∈ evs,evG e) (hl:l < ls.length)
   (w:World) (hs:Sents w x0 x1) (hT:∀ w',Below w.heap.size w w' → Lib.TabIs Tryz.prog w' "internal/strconv.uint64pow10" .u64 Lib.pow10Tab) (rm:RowAt w am master) (hlk:LksAt w al ls) (hPL:EltAt 3 w al QL) (hPR:EltAt 2 w ar QR) (hEv:EltAt 4 w ae (evs.map (evC l (.slice ad data.length cd))))
   (hCx:∀ y gK,Below w.heap.size w y → KysAt y gK ls → Cx y x0 x1 am master l tl gK ls ar cR rs data ad cd L) :
   Calls Tryz.prog 8 #[.agg #[.slice am 16 cm,.slice al ls.length cl,.slice ar rs.length cR,.int .i64 room],.slice ae evs.length ce] w fun e w' =>
     (∃ (B gK cK gM:Nat) (t:SS) (aS aL aG:Option Addr) (cS cL nG cG:Nat),e = .returned (.agg #[.int .i64 0,.slice aS t.S.length cS,.slice aL t.L.length cL,.int .i64 (t.W.length:Int),.slice aG nG cG]) ∧ RunR l tl ⟨(fldN 11 L).toArray⟩ (ses0 (.slice am 16 cm) (.slice al ls.length cl) (.slice ar rs.length cR) (.slice (some ⟨gK,0,none⟩) ls.length cK) room gM) evs t ∧ w'.ownsRow B 49 2 (.slice aS t.S.length cS) t.S.length (t.S.flatMap sentC) ∧ w'.ownsRow B 47 3 (.slice aL t.L.length cL) t.L.length (t.L.flatMap lineC)) ∧ Below w.heap.size w w':=by
 have hz:=(zero_of_info Tryz.zeroOut).1
 obtain ⟨nl,hnl⟩:∃ n,n = ls.length:=⟨_,rfl⟩
 obtain ⟨nr,hnr⟩:∃ n,n = rs.length:=⟨_,rfl⟩
 obtain ⟨ne,hnev⟩:∃ n,n = evs.length:=⟨_,rfl⟩
 obtain ⟨gC,hgC⟩:∃ n,n = w.heap.size:=⟨_,rfl⟩
 obtain ⟨W,hW⟩:∃ y,y = w.alloc (Obj.cells #[.slice am 16 cm,.slice al nl cl,.slice ar nr cR,.int .i64 room] 26):=⟨_,rfl⟩
 have bW:Below w.heap.size w W:=by rw [hW];exact below_newS _ _
 have kC:Blk W gC 26 [.slice am 16 cm,.slice al nl cl,.slice ar nr cR,.int .i64 room]:=by rw [hW,hgC];exact Blk.new _ _ _
 obtain ⟨gO,hgO⟩:∃ n,n = w.heap.size + 1:=⟨_,rfl⟩
 have hWs:gO = W.heap.size:=by rw [hgO,hW];simp
 obtain ⟨W1,hW1⟩:∃ y,y = W.alloc (Obj.cells zeroOut.toArray 44):=⟨_,rfl⟩
 have bW1:Below W.heap.size W W1:=by rw [hW1];exact below_newS _ _
 have kO:Blk W1 gO 44 zeroOut:=by rw [hW1];exact Blk.newAt _ _ _ _ hWs
 have lgO:w.heap.size ≤ gO:=by omega
 have bw1:=bW.trans (bW1.mono bW.size)
 have kC1:=kC.below bW1 kC.lt
 have hE:∀ (sz:Nat) (ao:Option Addr) (Q:List (List Value)) (y:World),EltAt sz w ao Q → Below w.heap.size w y → EltAt sz y ao Q:=fun sz ao Q y hP hy i hi=>by
   obtain ⟨g,o,e,h1,h2⟩:=hP i hi
   exact ⟨g,o,e,h1,fun j hj=>(hy.cell (p:=⟨g,o + i * sz + j,none⟩) (World.block_lt_of_cell? w _ (h2 j hj))).trans (h2 j hj)⟩
 have HIC:=hideT (isConfig_ok QL QR (by omega) (by omega) room hr0 hr1 hql hqr am al ar cm cl cR W1 (hE _ _ _ W1 hPL bw1) (hE _ _ _ W1 hPR bw1))
 have HAE:=hideT (fun (y:World) (hy:Below w.heap.size w y)=>areEvents_ok ls.length (evs.map (evC l (.slice ad data.length cd))) (by rw [List.length_map];exact hev) (fun i hi=>by
   rw [List.length_map] at hi
   rw [List.getD_eq_getElem?_getD,List.getElem?_map,List.getElem?_eq_getElem hi]
   exact evC_ok hd4 hl _ (heg _ (List.getElem_mem hi))) ae ce y (hE _ _ _ y hEv hy))
 have HOL:=hideT (fun (y:World) (hy:Below w.heap.size w y)=>openLinks_ok master ls hls hne hok am al cm cl x0 x1 y (hs.below hy) (rm.below hy) (hlk.below hy))
 rw [hQLn,hQRn,← hnl,← hnr] at HIC
 rw [List.length_map,← hnl,← hnev] at HAE
 rw [hm16,← hnl] at HOL
 have HNL:=hideT hnl
 have HNR:=hideT hnr
 have HNE:=hideT hnev
 have HEV:=hideT hEv
 have HCX:=hideT hCx
 have HEG:=hideT heg
 have HSN:=hideT (And.intro hs (And.intro hT rm))
 rw [← hnl,← hnr,← hnev]
 rw [← hnev] at hev
 have HW:=hideT hW
 have HW1:=hideT hW1
 have HGC:=hideT hgC
 have HGO:=hideT hgO
 clear hWs hW hW1 hgC hgO hnl hnr hnev hEv hCx heg hs hT rm hlk hPL hPR hql hqr hok hE hQLn hQRn kC
 go_enter Tryz.func8,Tryz.ntmps8
 go_upto_region 1 with fail
 rw [← show gO = _ from HGO,← show W = _ from HW,← show gC = _ from HGC,← show W1 = _ from HW1]
 clear HW HW1 HGC HGO
 have HKC:=hideT (fun (y:World) (hy:Below W1.heap.size W1 y)=>kC1.below hy kC1.lt)
 have HKO:=hideT (fun (y:World) (hy:Below W1.heap.size W1 y)=>kO.below hy kO.lt)
 go_wp2_with (refine load_blk rfl 26 _ rfl gC rfl kC1 Tryz.underlying26 rfl (by kernel_rfl) ?_)
 refine HIC.out.mono ?_
 rintro e X1 ⟨rfl,b1⟩
 have bwX1:=bw1.trans (b1.mono bw1.size)
 have y1:=(HKC.out X1 b1).cell 1 (by simp)
 go_wp2_with fail
 refine (HAE.out X1 bwX1).mono ?_
 rintro e X2 ⟨rfl,b2⟩
 have b12:=b1.trans (b2.mono b1.size)
 have bwX2:=bwX1.trans (b2.mono bwX1.size)
 have z0:=(HKC.out X2 b12).cell 0 (by simp)
 have z1:=(HKC.out X2 b12).cell 1 (by simp)
 go_wp2_with fail
 refine (HOL.out X2 bwX2).mono ?_
 rintro e X3 ⟨⟨gK,cK,rfl,hky⟩,b3⟩
 have b13:=b12.trans (b3.mono b12.size)
 have bwX3:=bwX2.trans (b3.mono bwX2.size)
 have kC3:=HKC.out X3 b13
 have HKY:=hideT hky
 have CX:=hideT (HCX.out X3 gK bwX3 hky)
 clear hky z0 z1 y1 HIC HAE HOL
 go_wp2_with (refine load_blk rfl 26 _ rfl gC rfl kC3 Tryz.underlying26 rfl (by kernel_rfl) ?_)
 refine (newSession_any am al ar (some ⟨gK,0,none⟩) 16 cm nl cl nr cR nl cK room X3).mono ?_
 rintro e X4 ⟨gS,gM,rfl,hS4,hH4,-,b4⟩
 have HS4:=hideT hS4
 have HH4:=hideT hH4
 clear hS4 hH4 kC3
 go_wp2_with fail
 go_loopw [38] (fun i wr=>∃ (k:Nat) (t:SS),k ≤ ne ∧ i = .int .i64 (k:Int) ∧ Hid (RunR l tl ⟨(fldN 11 L).toArray⟩ (ses0 (.slice am 16 cm) (.slice al nl cl) (.slice ar nr cR) (.slice (some ⟨gK,0,none⟩) nl cK) room gM) (evs.take k) t) ∧ Hid (Bnd k t) ∧ Hid (Cs t am cm master gK cK ls ar cR rs (.map (some gM)) room) ∧ Hid (Ses wr X3.heap.size gS (fun q=>X3.heap.size ≤ q) t) ∧ Hid (Hnd wr (.map (some gM)) ⟨#[48,49,48,48]⟩ (hFn gS 70)) ∧ Below X3.heap.size X3 wr) (fun i _=>ne - (intOf i).toNat)
 case atStart=>exact ⟨0,_,Nat.zero_le _,rfl,RunR.nil,⟨⟨1,rfl,by omega⟩,(by show (0:Int) ≤ 0;decide),(by show (0:Int) ≤ 1000 * 0;decide),Nat.le_refl _,Nat.le_refl _,Nat.zero_le _⟩,⟨by rw [hm16];rfl,by rw [← HNL.out];rfl,by rw [← HNR.out];rfl,rfl,rfl⟩,HS4.out,HH4.out,b4⟩
 case round =>
   clear HS4 HH4 b4
   obtain ⟨k,t,hk,rfl,HRR,HBN,HCS,HSE,HHN,hbel⟩:=hrel
   by_cases hlt:k < ne
   · have hltI:(k:Int) < (ne:Int):=by omega
     have hkE:k < evs.length:=by rw [← HNE.out];exact hlt
     obtain ⟨g,o,rfl,hlen,hc⟩:=HEV.out k (by rw [List.length_map];exact hkE)
     have hgd:(evs.map (evC l (.slice ad data.length cd))).getD k [] = evC l (.slice ad data.length cd) (evs[k]):=by
       rw [List.getD_eq_getElem?_getD,List.getElem?_map,List.getElem?_eq_getElem hkE];rfl
     rw [hgd] at hc
     have htake:evs.take (k + 1) = evs.take k ++ [evs[k]]:=take_snoc evs k hkE
     have hge:=HEG.out _ (List.getElem_mem hkE)
     have b0w:=bwX3.trans (hbel.mono bwX3.size)
     have hcell:∀ j,j < 4 → wr.cell? ⟨g,o + k * 4 + j,none⟩ = some ((evC l (.slice ad data.length cd) (evs[k])).getD j undef):=fun j hj=>(b0w.cell (p:=⟨g,o + k * 4 + j,none⟩) (World.block_lt_of_cell? w _ (hc j hj))).trans (hc j hj)
     clear hc hgd hlen
     obtain ⟨ev,hev2⟩:∃ e,e = evs[k]:=⟨_,rfl⟩
     rw [← hev2] at htake hge hcell
     have HTK:=hideT htake
     clear htake hev2
     cases ev with
     | msg =>
       have d0:wr.cell? ⟨g,o + k * 4,none⟩ = some (.int .i64 1):=hcell 0 (by omega)
       have d1:wr.cell? ⟨g,o + k * 4 + 1,none⟩ = some (.int .i64 (l:Int)):=hcell 1 (by omega)
       have d2:wr.cell? ⟨g,o + k * 4 + 2,none⟩ = some (.int .i64 0):=hcell 2 (by omega)
       have d3:wr.cell? ⟨g,o + k * 4 + 3,none⟩ = some (.slice ad data.length cd):=hcell 3 (by omega)
       obtain ⟨nD,hnD⟩:∃ n,n = data.length:=⟨_,rfl⟩
       rw [← hnD] at d3
       obtain ⟨gE,hgE⟩:∃ n,n = wr.heap.size:=⟨_,rfl⟩
       obtain ⟨W5,hW5⟩:∃ y,y = wr.alloc (Obj.cells #[.int .i64 1,.int .i64 (l:Int),.int .i64 0,.slice ad nD cd] 38):=⟨_,rfl⟩
       have b5:Below wr.heap.size wr W5:=by rw [hW5];exact below_newS _ _
       have kE:Blk W5 gE 38 [.int .i64 1,.int .i64 (l:Int),.int .i64 0,.slice ad nD cd]:=by rw [hW5,hgE];exact Blk.new _ _ _
       have HPA:=hideT (play_ask CX.out t HCS.out k HBN.out (by omega) gS 0 W5 (hbel.trans (b5.mono hbel.size)) (HSE.out.below b5) (HHN.out.sm (ts:=[]) (Sm.below b5)))
       rw [← hnD] at HPA
       have HW5:=hideT hW5
       have HGE:=hideT hgE
       clear hW5 hgE hcell hnD
       go_upto_region 10 with fail
       rw [← show W5 = _ from HW5,← show gE = _ from HGE]
       clear HW5 HGE d0 d1 d2 d3
       go_wp2_with (refine load_blk rfl 38 _ rfl gE rfl kE Tryz.underlying38 rfl (by kernel_rfl) ?_)
       refine HPA.out.mono ?_
       rintro e Y ⟨rfl,⟨x,nx,hnx,hSY⟩,bY,hHY⟩
       have HY:=hideT (And.intro hnx (And.intro hSY hHY))
       clear hnx hSY hHY HPA
       go_wp2_with fail
       go_roundw
       case rel=>exact ⟨k + 1,_,by omega,by go_num,by rw [HTK.out];exact RunR.msg x HRR.out HY.out.1,HBN.out.ask _ _ _ HY.out.1 _ _,HCS.out.ask _ _ _ _ _,HY.out.2.1,HY.out.2.2,hbel.trans ((b5.mono hbel.size).trans bY)⟩
       case measure=>simp [intOf];omega
     | tick n =>
       have d0:wr.cell? ⟨g,o + k * 4,none⟩ = some (.int .i64 2):=hcell 0 (by omega)
       have d1:wr.cell? ⟨g,o + k * 4 + 1,none⟩ = some (.int .i64 0):=hcell 1 (by omega)
       have d2:wr.cell? ⟨g,o + k * 4 + 2,none⟩ = some (.int .i64 n):=hcell 2 (by omega)
       have d3:wr.cell? ⟨g,o + k * 4 + 3,none⟩ = some (.slice none 0 0):=hcell 3 (by omega)
       obtain ⟨gE,hgE⟩:∃ n,n = wr.heap.size:=⟨_,rfl⟩
       obtain ⟨W5,hW5⟩:∃ y,y = wr.alloc (Obj.cells #[.int .i64 2,.int .i64 0,.int .i64 n,.slice none 0 0] 38):=⟨_,rfl⟩
       have b5:Below wr.heap.size wr W5:=by rw [hW5];exact below_newS _ _
       have kE:Blk W5 gE 38 [.int .i64 2,.int .i64 0,.int .i64 n,.slice none 0 0]:=by rw [hW5,hgE];exact Blk.new _ _ _
       have HPA:=hideT (play_tk (w0:=X3) t k HBN.out (by omega) gS 0 n hge.1 hge.2 (.slice none 0 0) (.map (some gM)) W5 (hbel.trans (b5.mono hbel.size)) (HSE.out.below b5) (HHN.out.sm (ts:=[]) (Sm.below b5)))
       have HGG:=hideT hge
       have HW5:=hideT hW5
       have HGE:=hideT hgE
       clear hW5 hgE hcell hge
       go_upto_region 10 with fail
       rw [← show W5 = _ from HW5,← show gE = _ from HGE]
       clear HW5 HGE d0 d1 d2 d3
       go_wp2_with (refine load_blk rfl 38 _ rfl gE rfl kE Tryz.underlying38 rfl (by kernel_rfl) ?_)
       refine HPA.out.mono ?_
       rintro e Y ⟨rfl,hSY,bY,hHY⟩
       have HY:=hideT (And.intro hSY hHY)
       clear hSY hHY HPA
       go_wp2_with fail
       go_roundw
       case rel=>exact ⟨k + 1,_,by omega,by go_num,by rw [HTK.out];exact RunR.tick n HRR.out,HBN.out.tick n HGG.out.1 HGG.out.2,⟨HCS.out.hm,HCS.out.hky,HCS.out.hrts,HCS.out.hh,HCS.out.hroom⟩,HY.out.1,HY.out.2,hbel.trans ((b5.mono hbel.size).trans bY)⟩
       case measure=>simp [intOf];omega
   · obtain rfl:k = ne:=by omega
     have hltI:¬ (k:Int) < (k:Int):=by omega
     have hall:evs.take k = evs:=by rw [HNE.out];exact List.take_length
     have hRR:=HRR.out
     rw [hall] at hRR
     have HRR2:=hideT hRR
     obtain ⟨wv,sv,lv,ps,hSE⟩:=HSE.out
     obtain ⟨aW,cW,rfl⟩:=ownS hSE.wrow
     obtain ⟨aS,cS,rfl⟩:=ownS hSE.srow
     obtain ⟨aL,cL,rfl⟩:=ownS hSE.lrow
     obtain ⟨nW,hnW⟩:∃ n,n = t.W.length:=⟨_,rfl⟩
     obtain ⟨nS,hnS⟩:∃ n,n = t.S.length:=⟨_,rfl⟩
     obtain ⟨nL,hnL⟩:∃ n,n = t.L.length:=⟨_,rfl⟩
     rw [← hnW,← hnS,← hnL] at hSE
     have HSV:=hideT hSE
     have HNN:=hideT (And.intro hnW (And.intro hnS hnL))
     clear hRR hall hSE hnW hnS hnL
     go_upto_region 12 with fail
     obtain ⟨V,hV⟩:∃ V,V = World.drew wr:=⟨_,rfl⟩
     have bwr:Below wr.heap.size wr V:=by rw [hV];exact (Below.refl _ _).drew
     have b3V:Below X3.heap.size X3 V:=hbel.trans (bwr.mono hbel.size)
     have HBV:=hideT (bwX3.trans (b3V.mono bwX3.size))
     have hwV:w.heap.size ≤ V.heap.size:=HBV.out.size
     have KO:=hideT (HKO.out V (b13.trans (b3V.mono b13.size)))
     have hSV:=HSV.out.sm (Sm.below bwr)
     have lOS:gO < gS:=Nat.lt_of_lt_of_le (HKO.out X3 b13).lt hSV.lo
     have HGN:=hideT (gens_any t X3.heap.size gS _ x0 x1 am cm master HCS.out.hm gK cK ls hls HCS.out.hky V (HSN.out.1.below HBV.out) (HSN.out.2.2.below HBV.out) ⟨_,_,_,_,by
       have h8:=hSV
       rw [HNN.out.1,HNN.out.2.1,HNN.out.2.2] at h8
       exact h8⟩ (fun i hi=>by
       obtain ⟨a,c,h1,h2,h3,h4⟩:=HKY.out i hi
       have hlw:=World.block_lt_of_cell? X3 _ h1
       exact ⟨a,c,(b3V.cell (p:=⟨gK,i * 2,none⟩) hlw).trans h1,(b3V.cell (p:=⟨gK,i * 2 + 1,none⟩) hlw).trans h2,h3,h4.below b3V⟩))
     obtain ⟨nG,hnG⟩:∃ n,n = ls.length:=⟨_,rfl⟩
     rw [← hnG] at HGN
     have keep:Hid (∀ {y},Below V.heap.size V y → y.cell? ⟨gS,10,none⟩ = some (.slice aS nS cS) ∧ y.cell? ⟨gS,11,none⟩ = some (.slice aL nL cL) ∧ y.cell? ⟨gS,9,none⟩ = some (.slice aW nW cW)):=fun hy=>by
       have h9:=hSV.sm (Sm.below hy)
       exact ⟨h9.c10,h9.blk.cell 11 (by simp [sesC]),h9.c9⟩
     have KEEP:Hid (∀ (y:World),Below V.heap.size V y → ∀ arr:Array Value,(y.setRow gO arr).cell? ⟨gS,10,none⟩ = some (.slice aS nS cS) ∧ (y.setRow gO arr).cell? ⟨gS,11,none⟩ = some (.slice aL nL cL) ∧ (y.setRow gO arr).cell? ⟨gS,9,none⟩ = some (.slice aW nW cW)):=fun y hy arr=>by
       have h9:=keep.out hy
       have hb:(y.setRow gO arr).heap[gS]? = y.heap[gS]?:=setRow_other y gO gS arr (by omega)
       exact ⟨(World.cell?_of_block (a:=⟨gS,10,none⟩) hb).trans h9.1,(World.cell?_of_block (a:=⟨gS,11,none⟩) hb).trans h9.2.1,(World.cell?_of_block (a:=⟨gS,9,none⟩) hb).trans h9.2.2⟩
     have HROWS:Hid (∀ (y:World),Below V.heap.size V y → ∀ arr:Array Value,(y.setRow gO arr).ownsRow X3.heap.size 49 2 (.slice aS nS cS) nS (t.S.flatMap sentC) ∧ (y.setRow gO arr).ownsRow X3.heap.size 47 3 (.slice aL nL cL) nL (t.L.flatMap lineC)):=fun y hy arr=>by
       have h9:=hSV.sm (Sm.below hy)
       have hkp:Kp (fun q=>q = gO) y (y.setRow gO arr):=fun i _ hp=>setRow_other y gO i arr hp
       have hOX:=(HKO.out X3 b13).lt
       have r1:=own_kp h9.srow hkp (fun g hg e=>by have:=(h9.srow.lt g hg).1;omega)
       have r2:=own_kp h9.lrow hkp (fun g hg e=>by have:=(h9.lrow.lt g hg).1;omega)
       rw [← HNN.out.2.1] at r1
       rw [← HNN.out.2.2] at r2
       exact ⟨r1,r2⟩
     have b_0:Below V.heap.size V V:=Below.refl _ _
     have HV:=hideT hV
     clear hV hSV hnG bwr b3V
     refine wp_region_held_drew (S:=fun y=>y.cell? ⟨gS,10,none⟩ = some (.slice aS nS cS) ∧ y.cell? ⟨gS,11,none⟩ = some (.slice aL nL cL) ∧ y.cell? ⟨gS,9,none⟩ = some (.slice aW nW cW)) (by kernel_rfl) (by rw [← show V = _ from HV];exact keep.out b_0) (fun hHeld=>?_)
     rw [← show V = _ from HV] at hHeld ⊢
     clear HV
     refine tkA (i:=0) (v:=(.pointer (some ⟨gS,0,none⟩))) rfl hHeld ?_
     dsimp only [Act.put,List.getElem_toArray,List.getElem_cons_zero,List.getElem_cons_succ]
     simp only [List.setIfInBounds_toArray,List.set_cons_succ,List.set_cons_zero]
     refine tkA (i:=1) (v:=(.pointer (some ⟨gS,0,none⟩))) rfl hHeld ?_
     dsimp only [Act.put,List.getElem_toArray,List.getElem_cons_zero,List.getElem_cons_succ]
     simp only [List.setIfInBounds_toArray,List.set_cons_succ,List.set_cons_zero]
     refine tkA (i:=2) (v:=(.pointer (some ⟨gS,10,none⟩))) rfl hHeld ?_
     dsimp only [Act.put,List.getElem_toArray,List.getElem_cons_zero,List.getElem_cons_succ]
     simp only [List.setIfInBounds_toArray,List.set_cons_succ,List.set_cons_zero]
     refine tk (i:=3) (v:=(.slice aS nS cS)) rfl (Or.inl ⟨by rfl,fun w1 h=>by have hc:=h.1;go_simp⟩) hHeld ?_
     dsimp only [Act.put,List.getElem_toArray,List.getElem_cons_zero,List.getElem_cons_succ]
     simp only [List.setIfInBounds_toArray,List.set_cons_succ,List.set_cons_zero]
     refine tkA (i:=4) (v:=(.pointer (some ⟨gS,0,none⟩))) rfl hHeld ?_
     dsimp only [Act.put,List.getElem_toArray,List.getElem_cons_zero,List.getElem_cons_succ]
     simp only [List.setIfInBounds_toArray,List.set_cons_succ,List.set_cons_zero]
     refine tkA (i:=5) (v:=(.pointer (some ⟨gS,0,none⟩))) rfl hHeld ?_
     dsimp only [Act.put,List.getElem_toArray,List.getElem_cons_zero,List.getElem_cons_succ]
     simp only [List.setIfInBounds_toArray,List.set_cons_succ,List.set_cons_zero]
     refine tkA (i:=6) (v:=(.pointer (some ⟨gS,11,none⟩))) rfl hHeld ?_
     dsimp only [Act.put,List.getElem_toArray,List.getElem_cons_zero,List.getElem_cons_succ]
     simp only [List.setIfInBounds_toArray,List.set_cons_succ,List.set_cons_zero]
     refine tk (i:=7) (v:=(.slice aL nL cL)) rfl (Or.inl ⟨by rfl,fun w1 h=>by have hc:=h.2.1;go_simp⟩) hHeld ?_
     dsimp only [Act.put,List.getElem_toArray,List.getElem_cons_zero,List.getElem_cons_succ]
     simp only [List.setIfInBounds_toArray,List.set_cons_succ,List.set_cons_zero]
     refine tkA (i:=8) (v:=(.pointer (some ⟨gS,0,none⟩))) rfl hHeld ?_
     dsimp only [Act.put,List.getElem_toArray,List.getElem_cons_zero,List.getElem_cons_succ]
     simp only [List.setIfInBounds_toArray,List.set_cons_succ,List.set_cons_zero]
     refine tkA (i:=9) (v:=(.pointer (some ⟨gS,0,none⟩))) rfl hHeld ?_
     dsimp only [Act.put,List.getElem_toArray,List.getElem_cons_zero,List.getElem_cons_succ]
     simp only [List.setIfInBounds_toArray,List.set_cons_succ,List.set_cons_zero]
     refine tkA (i:=10) (v:=(.pointer (some ⟨gS,9,none⟩))) rfl hHeld ?_
     dsimp only [Act.put,List.getElem_toArray,List.getElem_cons_zero,List.getElem_cons_succ]
     simp only [List.setIfInBounds_toArray,List.set_cons_succ,List.set_cons_zero]
     refine tk (i:=11) (v:=(.slice aW nW cW)) rfl (Or.inl ⟨by rfl,fun w1 h=>by have hc:=h.2.2;go_simp⟩) hHeld ?_
     dsimp only [Act.put,List.getElem_toArray,List.getElem_cons_zero,List.getElem_cons_succ]
     simp only [List.setIfInBounds_toArray,List.set_cons_succ,List.set_cons_zero]
     refine tkA (i:=12) (v:=(.int .i64 (nW:Int))) rfl hHeld ?_
     dsimp only [Act.put,List.getElem_toArray,List.getElem_cons_zero,List.getElem_cons_succ]
     simp only [List.setIfInBounds_toArray,List.set_cons_succ,List.set_cons_zero]
     refine tkA (i:=13) (v:=(.pointer (some ⟨gS,0,none⟩))) rfl hHeld ?_
     dsimp only [Act.put,List.getElem_toArray,List.getElem_cons_zero,List.getElem_cons_succ]
     simp only [List.setIfInBounds_toArray,List.set_cons_succ,List.set_cons_zero]
     refine rdy1 14 (fun K hK=>?_)
     go_simp
     refine HGN.out.mono ?_
     rintro e U1 ⟨⟨aG,cG,rfl⟩,bU1⟩
     go_wp2_with fail
     refine hK.out _ _ (keep.out bU1) (fun hHeld=>?_)
     clear hK K
     try dsimp only [Act.put]
     refine tkA (i:=15) (v:=(.agg #[.int .i64 0,.slice aS nS cS,.slice aL nL cL,.int .i64 (nW:Int),.slice aG nG cG])) rfl hHeld ?_
     dsimp only [Act.put,List.getElem_toArray,List.getElem_cons_zero,List.getElem_cons_succ]
     simp only [List.setIfInBounds_toArray,List.set_cons_succ,List.set_cons_zero]
     refine rdy1 16 (fun K hK=>?_)
     rw [if_pos (by rfl)]
     have kO1:=KO.out.below bU1 KO.out.lt
     refine wp_store_blk rfl 44 _ _ rfl gO rfl rfl kO1 (by kernel_rfl) rfl (by simp [Value.oneCell']) ?_
     have kO2:=Blk.setRow kO1 [.int .i64 0,.slice aS nS cS,.slice aL nL cL,.int .i64 (nW:Int),.slice aG nG cG]
     have bO2:=below_setRow' (g:=gO) (HBV.out.trans (bU1.mono hwV)) lgO ([.int .i64 0,.slice aS nS cS,.slice aL nL cL,.int .i64 (nW:Int),.slice aG nG cG]:List Value).toArray
     have K3:=KEEP.out U1 bU1 ([.int .i64 0,.slice aS nS cS,.slice aL nL cL,.int .i64 (nW:Int),.slice aG nG cG]:List Value).toArray
     refine hK.out _ _ K3 (fun hHeld=>?_)
     clear hK K
     try dsimp only [Act.put]
     refine wpAnyH_done (by kernel_rfl) ?_ _
     clear hHeld
     have hro:=HROWS.out U1 bU1 #[.int .i64 0,.slice aS nS cS,.slice aL nL cL,.int .i64 (nW:Int),.slice aG nG cG]
     go_wp2_with fail
     refine bodyPost_ret (results_blk Tryz.results8 _ _ rfl kO2 Tryz.underlying44 rfl (by kernel_rfl)) rfl ⟨⟨X3.heap.size,gK,cK,gM,t,aS,aL,aG,cS,cL,nG,cG,?_,HRR2.out,?_,?_⟩,bO2⟩
     · rw [← HNN.out.1,← HNN.out.2.1,← HNN.out.2.2]
     · rw [← HNN.out.2.1];exact hro.1
     · rw [← HNN.out.2.2];exact hro.2
def Rd (w:World) (R:Nat) (ao:Option Addr) (cap:Nat) (code:List UInt8) (i:Nat):Prop:=Blk w R 62 [.slice ao code.length cap,.int .i64 (i:Int)]
theorem Rd.cells {w:World} {R:Nat} {ao:Option Addr} {cap:Nat} {code:List UInt8} {i:Nat} (h:Rd w R ao cap code i):w.cell? ⟨R,0,none⟩ = some (.slice ao code.length cap) ∧ w.cell? ⟨R,1,none⟩ = some (.int .i64 (i:Int)) ∧ w.frozen? ⟨R,1,none⟩ = false :=
 ⟨Blk.cell h 0 (by simp),Blk.cell h 1 (by simp),Blk.free h 1⟩
set_option maxHeartbeats 1000000 in
theorem next_any (R:Nat) (ao:Option Addr) (cap:Nat) (code:List UInt8) (i:Nat) (w:World) (hn:code.length ≤ 1048576) (hi:i ≤ code.length) (hr:RowAt w ao code) (hR:Rd w R ao cap code i) :
   Calls Tryz.prog 42 #[.pointer (some ⟨R,0,none⟩)] w fun e w'=>∃ c i':Nat,e = .returned (.int .i64 (c:Int)) ∧ c < 256 ∧ i' ≤ code.length ∧ Rd w' R ao cap code i' ∧ w.grownBy w' (some R) ∧ w'.heap.size = w.heap.size:=by
 obtain ⟨n,hnl⟩:∃ n,n = code.length:=⟨_,rfl⟩
 obtain ⟨c0,c1,f1⟩:=hR.cells
 rw [← hnl] at c0
 by_cases hlt:i < code.length
 · obtain ⟨b,off,rfl,hc⟩:=hr.at hlt
   have hcx:w.cell? ⟨b,off + i,none⟩ = some (.int .u8 (code[i].toNat:Int)):=(hc i hlt).trans (by simp [hlt])
   have hx:=code[i].toNat_lt
   obtain ⟨x,hxe⟩:∃ x,x = code[i].toNat:=⟨_,rfl⟩
   rw [← hxe] at hcx hx
   have HR:=hide hR
   have hge:¬ ((n:Int) ≤ (i:Int)):=by omega
   have hltI:(i:Int) < (n:Int):=by omega
   clear hc hxe hR hr
   go_enter Tryz.func42,Tryz.ntmps42
   go_wp2_with fail
   go_region
   all_goals
     go_wp2_with fail
     go_region
     all_goals
       go_wp2_with fail
       go_ret
       refine ⟨x,i + 1,rfl,hx,by omega,?_,⟨rfl,rfl,rfl,by simp,fun k _ hk=>(heap_setCell_other _ ⟨R,1,none⟩ k _ (fun e=>hk (by simp [e])))⟩,by simp⟩
       have h:=Blk.set (w:=w.drew.drew) HR.out 1 (.int .i64 ((i + 1:Nat):Int))
       exact h
 · have hge:(n:Int) ≤ (i:Int):=by omega
   have HR:=hide hR
   clear hR hr
   go_enter Tryz.func42,Tryz.ntmps42
   go_wp2_with fail
   go_region
   all_goals
     go_wp2_with fail
     go_ret
     exact ⟨0,i,rfl,by omega,hi,HR.out,⟨rfl,rfl,rfl,Nat.le_refl _,fun _ _ _=>rfl⟩,rfl⟩
def masterL:List UInt8:=[48,49,50,51,52,53,54,55,56,57,109,97,115,116,101,114]
set_option maxRecDepth 100000 in
set_option maxHeartbeats 1000000 in
theorem master_any (w:World):Calls Tryz.prog 43 #[] w fun e w'=>∃ g,e = .returned (.slice (some ⟨g,0,none⟩) 16 16) ∧ w.heap.size ≤ g ∧ g < w'.heap.size ∧ RowAt w' (some ⟨g,0,none⟩) masterL ∧ Below w.heap.size w w':=by
 have kc:=fun (w:World) (C:Array Value) (n c:Nat)=>Lib.run_convert_bytes_const (P:=Tryz.prog) w 22 5 C n c Tryz.underlying22 Tryz.underlying5
 have hrow:=fun (fr:Nat × Nat)=>row_marked w masterL 5 fr
 have hb:=fun (o:Obj)=>below_new w o
 go_enter Tryz.func43,Tryz.ntmps43
 go_wp2_with fail
 go_ret
 exact ⟨w.heap.size,rfl,Nat.le_refl _,by simp,hrow _,hb _⟩
theorem row_cellQ {w:World} {g:Nat} {l:List UInt8} (h:RowAt w (some ⟨g,0,none⟩) l) (j:Nat) (hj:j < l.length):w.cell? ⟨g,j,none⟩ = some (.int .u8 ((l.getD j 0).toNat:Int)):=by
 obtain ⟨b,o,he,hc⟩:=h.at hj
 cases he
 have:=hc j hj
 rwa [Nat.zero_add] at this
theorem row_setQ {w:World} {g:Nat} {l:List UInt8} (h:RowAt w (some ⟨g,0,none⟩) l) (j:Nat) (hj:j < l.length) (y:UInt8):RowAt (w.setCell ⟨g,j,none⟩ (byte y)) (some ⟨g,0,none⟩) (l.set j y):=by
 refine .inr ⟨g,0,rfl,fun i hi=>?_⟩
 rw [List.length_set] at hi
 rw [Nat.zero_add]
 by_cases e:i = j
 · subst e
   rw [World.cell?_setCell_same w _ _ (row_cellQ h i hi)]
   simp [byte,hi]
 · rw [World.cell?_setCell_other w ⟨g,j,none⟩ ⟨g,i,none⟩ (byte y) (by intro h2;cases h2;exact e rfl),row_cellQ h i hi]
   simp only [List.getD_eq_getElem?_getD,List.getElem?_set]
   rw [if_neg (fun h=>e h.symm)]
def keyT:List UInt8:=[107,101,121,32,111,102,32,97,32,108,105,110,107,32,48,48]
def keyQ (n u g:Nat):List UInt8:=(keyT.set 14 (UInt8.ofNat (48 + n))).set 15 (UInt8.ofNat (48 + (4 * g + u)))
def blkN (n u g:Nat):List UInt8:=wrapL masterL (keyQ n u g) (u:Int) (g:Int)
set_option maxRecDepth 100000 in
set_option maxHeartbeats 1000000 in
theorem l7Key_any (n u g:Nat) (hn:n ≤ 2) (hug:(u = 1 ∧ g = 0) ∨ (u = 2 ∧ g = 1) ∨ (u = 3 ∧ g = 0)) (w:World) :
   Calls Tryz.prog 44 #[.int .i64 (n:Int),.int .i64 (u:Int),.int .i64 (g:Int)] w fun e w'=>(∃ a c,e = .returned (.slice a (blkN n u g).length c) ∧ (blkN n u g).length ≤ c ∧ RowAt w' a (blkN n u g) ∧ ∀ p,a = some p → w.heap.size ≤ p.block ∧ p.block < w'.heap.size) ∧ Below w.heap.size w w':=by
 have kc:=fun (w:World) (C:Array Value) (n c:Nat)=>Lib.run_convert_bytes_const (P:=Tryz.prog) w 22 5 C n c Tryz.underlying22 Tryz.underlying5
 obtain ⟨gK,hgK⟩:∃ n,n = w.heap.size:=⟨_,rfl⟩
 obtain ⟨W1,hW1⟩:∃ y,y = w.alloc (Obj.cells #[.int .u8 107,.int .u8 101,.int .u8 121,.int .u8 32,.int .u8 111,.int .u8 102,.int .u8 32,.int .u8 97,.int .u8 32,.int .u8 108,.int .u8 105,.int .u8 110,.int .u8 107,.int .u8 32,.int .u8 48,.int .u8 48] 5 (16,17)):=⟨_,rfl⟩
 have r1:RowAt W1 (some ⟨gK,0,none⟩) keyT:=by rw [hW1,hgK];exact row_marked w keyT 5 (16,17)
 have b1:Below w.heap.size w W1:=by rw [hW1];exact below_newS _ _
 have g1:W1.heap[gK]? = some (Obj.cells #[.int .u8 107,.int .u8 101,.int .u8 121,.int .u8 32,.int .u8 111,.int .u8 102,.int .u8 32,.int .u8 97,.int .u8 32,.int .u8 108,.int .u8 105,.int .u8 110,.int .u8 107,.int .u8 32,.int .u8 48,.int .u8 48] 5 (16,17)):=by rw [hW1,hgK];exact heap_alloc_new _ _
 have f14:W1.frozen? ⟨gK,14,none⟩ = false:=by simp [World.frozen?,g1]
 obtain ⟨X,hX⟩:∃ x:UInt8,x = UInt8.ofNat (48 + n):=⟨_,rfl⟩
 obtain ⟨Y,hY⟩:∃ x:UInt8,x = UInt8.ofNat (48 + (4 * g + u)):=⟨_,rfl⟩
 obtain ⟨W2,hW2⟩:∃ y,y = W1.setCell ⟨gK,14,none⟩ (byte X):=⟨_,rfl⟩
 have c14:W1.cell? ⟨gK,14,none⟩ = some (.int .u8 48):=row_cellQ r1 14 (by decide)
 have r2:RowAt W2 (some ⟨gK,0,none⟩) (keyT.set 14 X):=by rw [hW2];exact row_setQ r1 14 (by decide) X
 have c15:W2.cell? ⟨gK,15,none⟩ = some (.int .u8 48):=by
   have:=row_cellQ r2 15 (by rw [List.length_set];decide)
   rw [this];rfl
 have g2:∃ cs,W2.heap[gK]? = some (Obj.cells cs 5 (16,17)):=by
   rw [hW2]
   have e:(W1.setCell ⟨gK,14,none⟩ (byte X)).heap[gK]? = (W1.heap[gK]?).map (fun o=>match o with | .cells c t f=>Obj.cells (c.setIfInBounds 14 (byte X)) t f | o=>o):=by
     show (W1.heap.modify gK _)[gK]? = _
     rw [Array.getElem?_modify,if_pos rfl]
     rfl
   rw [e,g1]
   exact ⟨_,rfl⟩
 have f15:W2.frozen? ⟨gK,15,none⟩ = false:=by
   obtain ⟨cs,hcs⟩:=g2
   simp [World.frozen?,hcs]
 obtain ⟨W3,hW3⟩:∃ y,y = W2.setCell ⟨gK,15,none⟩ (byte Y):=⟨_,rfl⟩
 have r3:RowAt W3 (some ⟨gK,0,none⟩) (keyQ n u g):=by
   have:=row_setQ r2 15 (by rw [List.length_set];decide) Y
   rw [← hW3] at this
   unfold keyQ
   rw [← hX,← hY]
   exact this
 have b3:Below w.heap.size w W3:=by
   rw [hW3,hW2]
   exact (b1.setCell (by rw [hgK];exact Nat.le_refl _) _).setCell (by rw [hgK];exact Nat.le_refl _) _
 have hl16:(keyQ n u g).length = 16:=by unfold keyQ;rw [List.length_set,List.length_set];rfl
 have HM:=hideT (master_any W3)
 have HWR:=hideT (fun (y:World) (gM:Nat) (hy:Below w.heap.size w y) (rM:RowAt y (some ⟨gM,0,none⟩) masterL) (rK:RowAt y (some ⟨gK,0,none⟩) (keyQ n u g))=>wrapS_all masterL (keyQ n u g) (u:Int) (g:Int) (some ⟨gM,0,none⟩) (some ⟨gK,0,none⟩) 16 16 y (by decide) (by rw [hl16];decide) rM rK)
 rw [hl16] at HWR
 have hx1:IntKind.u8.wrap (n:Int) = (n:Int):=by rw [show IntKind.u8.wrap (n:Int) = (n:Int) % 256 from rfl];omega
 obtain ⟨xN,hxN⟩:∃ q,q = X.toNat:=⟨_,rfl⟩
 obtain ⟨yN,hyN⟩:∃ q,q = Y.toNat:=⟨_,rfl⟩
 have hx2:IntKind.u8.wrap (48 + (n:Int)) = (xN:Int):=by
   rw [hxN,hX]
   rw [show IntKind.u8.wrap (48 + (n:Int)) = (48 + (n:Int)) % 256 from rfl,UInt8.toNat_ofNat']
   try omega
 have hy0:IntKind.i64.wrap (4 * (g:Int)) = 4 * (g:Int):=by rw [IntKind.wrap_i64];omega
 have hy1:IntKind.i64.wrap (4 * (g:Int) + (u:Int)) = 4 * (g:Int) + (u:Int):=by rw [IntKind.wrap_i64];omega
 have hy2:IntKind.u8.wrap (4 * (g:Int) + (u:Int)) = 4 * (g:Int) + (u:Int):=by rw [show IntKind.u8.wrap (4 * (g:Int) + (u:Int)) = (4 * (g:Int) + (u:Int)) % 256 from rfl];omega
 have hy3:IntKind.u8.wrap (48 + (4 * (g:Int) + (u:Int))) = (yN:Int):=by
   rw [hyN,hY]
   rw [show IntKind.u8.wrap (48 + (4 * (g:Int) + (u:Int))) = (48 + (4 * (g:Int) + (u:Int))) % 256 from rfl,UInt8.toNat_ofNat']
   try omega
 have HW1:=hideT hW1
 have HW2:Hid (W2 = W1.setCell ⟨gK,14,none⟩ (.int .u8 (xN:Int))):=by rw [hxN];exact hW2
 have HW3:Hid (W3 = W2.setCell ⟨gK,15,none⟩ (.int .u8 (yN:Int))):=by rw [hyN];exact hW3
 have HGK:=hideT hgK
 clear hW1 hW2 hW3 hgK r1 r2 g1 g2 hX hY hug hn hl16 hxN hyN b1
 go_enter Tryz.func44,Tryz.ntmps44
 go_upto_region 2 with fail
 rw [show w.alloc _ = W1 from HW1.out.symm,← show gK = _ from HGK]
 go_upto_region 3 with fail
 rw [← show W2 = _ from HW2]
 go_upto_region 4 with fail
 rw [← show W3 = _ from HW3]
 go_wp2_with fail
 refine HM.out.mono ?_
 rintro e X4 ⟨gM,rfl,-,-,rM,b4⟩
 have bw4:=b3.trans (b4.mono b3.size)
 have HW4:=hideT (HWR.out X4 gM bw4 rM (r3.below b4))
 clear rM r3 HWR HM
 go_wp2_with fail
 refine HW4.out.mono ?_
 rintro e X5 ⟨v,rfl,own5,b5⟩
 obtain ⟨a5,c5,rfl,r5,-⟩:=own5.shape
 go_wp2_with fail
 go_ret
 exact ⟨⟨a5,c5,rfl,own_cap own5,r5,fun p hp=>by
   have h:=own_lt own5 p.block (by rw [hp];rfl)
   exact ⟨Nat.le_trans bw4.size h.1,h.2⟩⟩,bw4.trans (b5.mono bw4.size)⟩
end Go.Proofs.YtbkokcjolanpeaaGreatDoor
