import Derived.Test.YtbkokcjolanpeaaGreatDoorRgAJ
namespace Go.Proofs.YtbkokcjolanpeaaGreatDoor
open Go.RowKit
theorem wp_append_Pe {w:World} {o:Oper} {a:Act} {K:Act → World → Prop} {Q:Exit → Act → World → Prop} (s x:Operand)
   (ho:o.op = .call { callee:=.builtin .append,args:=#[s,x],argTypes:=#[82,82] }) (base:Nat) (v:Value) (n:Nat) (xs:List Value) (hs:a.eval s = v) (hown:w.ownsRow base 229 1 v n xs)
   (ad:Addr) (m c:Nat) (news:List Value) (hx:a.eval x = .slice (some ad) m c) (hl:news.length = m * 1) (hnews:∀ j u,news[j]? = some u → w.cell? (ad.add j) = some u) (h1:∀ u ∈ news,u.oneCell' = true)
   (h63:n + m ≤ maxLen) (hbytes:(n + m) * 8 ≤ 140737488355328) (hbase:base ≤ w.heap.size)
   (h:∀ v' w',w'.ownsRow base 229 1 v' (n + m) (xs ++ news) → w.grownBy w' v.ownBlock → (v'.ownBlock = v.ownBlock ∨ v'.ownBlock = some w.heap.size) → K (a.put o.dst v') w'):o.wp Tryz.prog a w K Q:=by
 obtain ⟨i0,hi,hz0,hz1,hz2⟩:=info_parts Tryz.infoPe
 obtain ⟨v',w',hr,h2,h3,-,h5⟩:=run_append_own_at (P:=Tryz.prog) w base 82 o.type 229 i0 (.pointer none) 1 8 Tryz.underlying82 hi hz0 hz1 hz2 rfl (by decide) v n xs hown ad m c news hl hnews h1 h63 hbytes hbase
 unfold Oper.wp execOp
 simp only [ho,resolve,invoke,builtin,Sem.run_bind,Sem.run_pure,Result.andThen_ok,List.map_toArray,List.map_cons,List.map_nil,hs,hx,hr]
 exact h v' w' h2 h3 h5
theorem SesV.drew {w:World} {B gS:Nat} {P:Nat → Prop} {s:SS} {wv sv lv:Value} {ps:List Nat} (h:SesV w B gS P s wv sv lv ps):SesV w.drew B gS P s wv sv lv ps:=⟨h.lo,h.blk,h.ents,h.wrow,h.srow,h.lrow,h.pS,h.pw,h.pv,h.pl⟩
theorem SesV.c4 {w:World} {B gS:Nat} {P:Nat → Prop} {s:SS} {wv sv lv:Value} {ps:List Nat} (h:SesV w B gS P s wv sv lv ps):w.cell? ⟨gS,4,none⟩ = some s.kys:=h.blk.cell 4 (by simp [sesC])
theorem SesV.c6 {w:World} {B gS:Nat} {P:Nat → Prop} {s:SS} {wv sv lv:Value} {ps:List Nat} (h:SesV w B gS P s wv sv lv ps):w.cell? ⟨gS,6,none⟩ = some (.int .i64 s.clock):=h.blk.cell 6 (by simp [sesC])
theorem SesV.c8 {w:World} {B gS:Nat} {P:Nat → Prop} {s:SS} {wv sv lv:Value} {ps:List Nat} (h:SesV w B gS P s wv sv lv ps):w.cell? ⟨gS,8,none⟩ = some (.int .i64 s.next):=h.blk.cell 8 (by simp [sesC])
theorem SesV.c9 {w:World} {B gS:Nat} {P:Nat → Prop} {s:SS} {wv sv lv:Value} {ps:List Nat} (h:SesV w B gS P s wv sv lv ps):w.cell? ⟨gS,9,none⟩ = some wv:=h.blk.cell 9 (by simp [sesC])
theorem SesV.next {w:World} {B gS:Nat} {P:Nat → Prop} {s:SS} {wv sv lv:Value} {ps:List Nat} (h:SesV w B gS P s wv sv lv ps) (k:Int):SesV (w.setCell ⟨gS,8,none⟩ (.int .i64 k)) B gS P { s with next:=k } wv sv lv ps ∧ Below B w (w.setCell ⟨gS,8,none⟩ (.int .i64 k)) ∧ Sm sesT w (w.setCell ⟨gS,8,none⟩ (.int .i64 k)) ∧ Kp P w (w.setCell ⟨gS,8,none⟩ (.int .i64 k)):=by
 have sm:=Sm.setCell (ts:=[84]) h.blk (by simp) 8 (.int .i64 k)
 exact ⟨⟨h.lo,h.blk.set 8 _,h.ents.sm sm (by decide),own_sm h.wrow sm (by decide),own_sm h.srow sm (by decide),own_sm h.lrow sm (by decide),h.pS,h.pw,h.pv,h.pl⟩,(Below.refl _ _).setCell h.lo _,sm.mono (by decide),Kp.setCell w h.pS 8 _⟩
theorem EntsAt.snoc {w:World} {B gE:Nat} {ps:List Nat} {W:List Ent} {e:Ent} (h:EntsAt w B ps W) (hE:B ≤ gE) (k:Blk w gE 231 (entC e)):EntsAt w B (ps ++ [gE]) (W ++ [e]):=by
 refine ⟨by rw [List.length_append,List.length_append,h.1];rfl,fun i hi=>?_⟩
 rw [List.length_append] at hi
 by_cases hc:i < W.length
 · rw [getD_left _ _ _ _ hc,getD_left _ _ _ _ (by rw [h.1];exact hc)]
   exact h.2 i hc
 · have hiL:i = W.length:=by simp at hi;omega
   rw [getD_last _ _ _ _ hiL,getD_last _ _ _ _ (by rw [h.1];exact hiL)]
   exact ⟨hE,k⟩
theorem SesV.wait {Z X Y:World} {B gS gA gE nW:Nat} {P:Nat → Prop} {s:SS} {wv sv lv:Value} {ps:List Nat} {e:Ent} {link:Int} {mt stan:ByteArray} {fv kv:Value} (hP:∀ k,Z.heap.size ≤ k → P k) (h:SesV X B gS P s wv sv lv ps) (hn:nW = s.W.length) (hBZ:B ≤ Z.heap.size) (b:Below Z.heap.size Z X) (gr:X.grownBy Y wv.ownBlock)
   (row:X.ownsRow B 229 1 wv nW (ptrs ps)) {v2:Value} (row2:Y.ownsRow B 229 1 v2 (nW + 1) (ptrs ps ++ [.pointer (some ⟨gE,0,none⟩)])) (at2:v2.ownBlock = wv.ownBlock ∨ v2.ownBlock = some X.heap.size) (kE:Blk X gE 231 (entC e)) (hE:B ≤ gE) (kA:Blk Z gA 219 [.int .i64 link,.string mt,fv,.string stan,kv]) :
   Y.cell? ⟨gS,9,none⟩ = some wv ∧ Y.frozen? ⟨gS,9,none⟩ = false ∧ (Y.cell? ⟨gA,0,none⟩ = some (.int .i64 link) ∧ Y.cell? ⟨gA,3,none⟩ = some (.string stan) ∧ Y.cell? ⟨gS,6,none⟩ = some (.int .i64 s.clock)) ∧
     ((Y.setCell ⟨gS,9,none⟩ v2).cell? ⟨gA,0,none⟩ = some (.int .i64 link) ∧ (Y.setCell ⟨gS,9,none⟩ v2).cell? ⟨gA,3,none⟩ = some (.string stan) ∧ (Y.setCell ⟨gS,9,none⟩ v2).cell? ⟨gS,6,none⟩ = some (.int .i64 s.clock)) ∧
     Ses (Y.setCell ⟨gS,9,none⟩ v2) B gS P { s with W:=s.W ++ [e] } ∧ Below B Z (Y.setCell ⟨gS,9,none⟩ v2) ∧ Sm sesT Z (Y.setCell ⟨gS,9,none⟩ v2) ∧ Kp P Z (Y.setCell ⟨gS,9,none⟩ v2) ∧ Blk (Y.setCell ⟨gS,9,none⟩ v2) gA 219 [.int .i64 link,.string mt,fv,.string stan,kv]:=by
 have sm2:=Sm.grown (ts:=[229]) gr (own_typed row)
 have kS2:=h.blk.sm sm2 (by decide)
 have sm3:=Sm.setCell (ts:=[84]) kS2 (by simp) 9 v2
 have kY:=(kA.below b kA.lt).sm sm2 (by decide)
 have k3:=kS2.set 9 v2
 have kY3:=kY.sm sm3 (by decide)
 refine ⟨kS2.cell 9 (by simp [sesC]),kS2.free 9,⟨kY.cell 0 (by simp),kY.cell 3 (by simp),kS2.cell 6 (by simp [sesC])⟩,⟨kY3.cell 0 (by simp),kY3.cell 3 (by simp),k3.cell 6 (by simp [sesC])⟩,⟨v2,sv,lv,ps ++ [gE],h.lo,k3,?_,?_,own_sm (own_sm h.srow sm2 (by decide)) sm3 (by decide),own_sm (own_sm h.lrow sm2 (by decide)) sm3 (by decide),h.pS,own_atS (w:=X) (w':=Y) h.pw (hP _ b.size) at2 gr.size,h.pv,h.pl⟩,?_,?_,?_,kY3⟩
 · exact ((h.ents.snoc hE kE).sm sm2 (by decide)).sm sm3 (by decide)
 · have r3:=own_sm row2 sm3 (by decide)
   show World.ownsRow _ B _ 1 v2 (s.W ++ [e]).length (ptrs (ps ++ [gE]))
   rw [List.length_append,← hn]
   unfold ptrs at r3 ⊢
   rw [List.map_append]
   exact r3
 · exact ((b.mono hBZ).grown gr (Nat.le_trans hBZ b.size) (fun k hk=>(row.lt k hk).1)).setCell h.lo _
 · exact ((Sm.below b).trans (sm2.mono (by decide))).trans (sm3.mono (by decide))
 · exact ((Kp.below b).trans b.size (Kp.grown gr h.pw)).trans (Nat.le_trans b.size gr.size) (Kp.setCell Y h.pS 9 _)
theorem repL_sz {n:Int} {d:List UInt8} {L:List (Int × List UInt8)} (hd:d.length ≤ 1048576) (h:∀ p ∈ L,p.2.length ≤ 1048576):∀ p ∈ repL n d L,p.2.length ≤ 1048576:=by
 intro p hp
 unfold repL at hp
 obtain ⟨q,hq,rfl⟩:=List.mem_map.1 hp
 by_cases e:(q.1 == n) = true
 · rw [if_pos e];exact hd
 · rw [if_neg e];exact h q hq
def numB (nx:Nat):ByteArray:=⟨(padL 6 nx).toArray⟩
theorem numB_len (nx:Nat):(numB nx).data.toList.length = 6:=by
 unfold numB
 show (padL 6 nx).toArray.toList.length = 6
 rw [List.toList_toArray,padL_length]
set_option maxRecDepth 100000 in
set_option maxHeartbeats 2000000 in
theorem sendOn_any (s:SS) (w0:World) (gS:Nat) (P:Nat → Prop) (x0 x1:Addr) (am:Option Addr) (cm:Nat) (master:List UInt8) (M:Mst w0 x0 x1 am master) (hm:s.mst = .slice am master.length cm) (link:Int) (mt stan:ByteArray) (fv kv:Value) (tl nx:Nat) (hnx:s.next = (nx:Int)) (hn6:nx < 1000000) (hc0:0 ≤ s.clock) (hc1:s.clock ≤ 1000000) (key:List UInt8) (ak:Option Addr) (ck:Nat) (hck:key.length ≤ ck) (rk:RowAt w0 ak key)
   (gK nK cK:Nat) (hky:s.kys = .slice (some ⟨gK,0,none⟩) nK cK) (hto:tl < nK) (hkey:w0.cell? ⟨gK,tl * 2,none⟩ = some (.slice ak key.length ck)) (L:List (Int × List UInt8)) (hsz:∀ p ∈ L,p.2.length ≤ 1048576) (hL:L.length ≤ 1048576) (av:Option Addr) (cv:Nat) (w:World) (b0:Below w0.heap.size w0 w) (hP:∀ k,w.heap.size ≤ k → P k) (h:Ses w w0.heap.size gS P s) (FK:∀ y,Kp P w y → w.heap.size ≤ y.heap.size → Fr y (.slice av L.length cv) L) (hlS:s.S.length ≤ 1000000) (hlL:s.L.length ≤ 1000000) (hlW:s.W.length ≤ 1000000) :
   Calls Tryz.prog 122 #[.pointer (some ⟨gS,0,none⟩),.agg #[.int .i64 link,.string mt,fv,.string stan,kv],.int .i64 (tl:Int),.slice av L.length cv] w fun e w' =>
     e = .returned (.tuple #[]) ∧ (∃ x,Ses w' w0.heap.size gS P { s with next:=((nx + 1:Nat):Int),W:=s.W ++ [((tl:Int),numB nx,link,stan,s.clock + 30)],S:=s.S ++ [((tl:Int),x)],L:=s.L ++ [(0,link,stan)] }) ∧ Below w0.heap.size w w' ∧ Sm sesT w w' ∧ Kp P w w':=by
 obtain ⟨wv,sv,lv,ps,h⟩:=h
 obtain ⟨B,hB⟩:∃ n,n = w0.heap.size:=⟨_,rfl⟩
 have HBB:=hidS hB
 rw [← hB] at h b0 ⊢
 obtain ⟨gA,hgA⟩:∃ n,n = w.heap.size:=⟨_,rfl⟩
 obtain ⟨W,hW⟩:∃ y,y = w.alloc (Obj.cells #[.int .i64 link,.string mt,fv,.string stan,kv] 219):=⟨_,rfl⟩
 have bW:Below w.heap.size w W:=by rw [hW];exact below_newS _ _
 have kA:Blk W gA 219 [.int .i64 link,.string mt,fv,.string stan,kv]:=by rw [hW,hgA];exact Blk.new _ _ _
 have hBw:B ≤ w.heap.size:=by rw [hB];exact b0.size
 have b0W:=b0.trans (bW.mono hBw)
 have hW8:=h.sm (Sm.below bW)
 have c8:W.cell? ⟨gS,8,none⟩ = some (.int .i64 (nx:Int)):=by rw [← hnx];exact hW8.c8
 obtain ⟨num,hnum⟩:∃ q,q = numB nx:=⟨_,rfl⟩
 have HID:Hid (Calls Tryz.prog 103 #[.int .i64 (nx:Int),.int .i64 6] W fun e w'=>e = .returned (.string (numB nx)) ∧ Below W.heap.size W w'):=inDigits_any nx 5 W (M.tab _ (by rw [← hB];exact b0W)) (by omega) (by omega)
 rw [← hnum] at HID ⊢
 have HNUM:=hidS hnum
 obtain ⟨n1,hn1⟩:∃ n,n = nx + 1:=⟨_,rfl⟩
 obtain ⟨tm,htm⟩:∃ t,t = s.clock + 30:=⟨_,rfl⟩
 rw [← hn1,← htm]
 have hwr:IntKind.i64.wrap ((nx:Int) + 1) = (n1:Int):=by rw [IntKind.wrap_i64];omega
 have hwtm:IntKind.i64.wrap (s.clock + 30) = tm:=by rw [IntKind.wrap_i64];omega
 clear hn1 htm
 have HW:=hidS hW
 have HGA:=hidS hgA
 have HSW8:=hidS hW8
 have HFK:=hidS FK
 clear hW hgA hW8 h hnum hB FK
 go_enter Tryz.func122,Tryz.ntmps122
 go_upto_region 1 with fail
 rw [← show W = _ from HW,← show gA = _ from HGA]
 go_wp2_with fail
 refine HID.out.mono ?_
 rintro e X1 ⟨rfl,b1⟩
 have hX1:=HSW8.out.sm (Sm.below b1)
 have d8:X1.cell? ⟨gS,8,none⟩ = some (.int .i64 (nx:Int)):=by rw [← hnx];exact hX1.c8
 have f8:=hX1.blk.free 8
 have HX1:=hidS hX1
 clear hX1 HID c8 HW HGA HSW8
 go_upto_region 3 with fail
 obtain ⟨hN,bN,sN,pN⟩:=HX1.out.next (n1:Int)
 obtain ⟨V,hV⟩:∃ V,V = World.drew (X1.setCell ⟨gS,8,none⟩ (.int .i64 (n1:Int))):=⟨_,rfl⟩
 have hNV:SesV V B gS P { s with next:=(n1:Int) } wv sv lv ps:=by rw [hV];exact ⟨hN.lo,hN.blk,hN.ents,hN.wrow,hN.srow,hN.lrow,hN.pS,hN.pw,hN.pv,hN.pl⟩
 have bwX:=bW.trans (b1.mono bW.size)
 have hBX:B ≤ X1.heap.size:=Nat.le_trans hBw bwX.size
 have bNV:Below B X1 V:=by rw [hV];exact bN.drew
 have sNV:Sm sesT X1 V:=by rw [hV];exact ⟨sN.size,sN.stay⟩
 have pNV:Kp P X1 V:=by rw [hV];exact pN
 have kAV:Blk V gA 219 [.int .i64 link,.string mt,fv,.string stan,kv]:=(kA.below b1 kA.lt).sm sNV (by decide)
 have hBV:B ≤ V.heap.size:=Nat.le_trans hBX bNV.size
 have bwV:Below B w V:=(bwX.mono hBw).trans bNV
 have bbV:Below B w0 V:=b0.trans bwV
 have kpV:Kp P w V:=(Kp.below bwX).trans bwX.size pNV
 have smV:Sm sesT w V:=(Sm.below bwX).trans sNV
 have hFV:Fr V (.slice av L.length cv) L:=HFK.out V kpV bwV.size
 have hPV:∀ k,V.heap.size ≤ k → P k:=fun k hk=>hP k (Nat.le_trans bwV.size hk)
 obtain ⟨c1,U1,hcv,r1,bU1⟩:=convB num V
 have hnl:num.data.toList.length ≤ 1048576:=by rw [HNUM.out,numB_len];decide
 have HREP:=hidS (replaced_any 11 num.data.toList L hL _ _ c1 U1 (hFV.below bU1) r1)
 have HSEND:=hidS (fun (y:World) (v':Value) (hy:Below V.heap.size V y) (f:Fr y v' (repL 11 num.data.toList L)) =>
   have hb0:Below w0.heap.size w0 y:=by rw [← HBB.out];exact bbV.trans (hy.mono hBV)
   send_any { s with next:=(n1:Int) } B gS P (tl:Int) master key mt (repL 11 num.data.toList L) (repL_sz hnl hsz) (by rw [repL_length];exact hL) am ak cm ck v' x0 x1 y hck (M.sents.below hb0) (M.row.below hb0) (rk.below hb0) f (fun w' hb=>M.tab w' (hb0.trans (hb.mono hb0.size))) hm (Nat.le_trans hBV hy.size) (fun k hk=>hPV k (Nat.le_trans hy.size hk)) ⟨wv,sv,lv,ps,hNV.sm (Sm.below hy)⟩ hlS)
 have lgK:=World.block_lt_of_cell? w0 _ hkey
 rw [← HBB.out] at lgK
 have KEEP3:Hid (∀ (y:World) (s':SS),Ses y B gS P s' → s'.kys = s.kys → Below B w0 y → Sm sesT V y → y.cell? ⟨gS,4,none⟩ = some (.slice (some ⟨gK,0,none⟩) nK cK) ∧ y.cell? ⟨gK,tl * 2,none⟩ = some (.slice ak key.length ck) ∧ y.cell? ⟨gA,1,none⟩ = some (.string mt)):=fun y s' hs e hb sm=>by
   obtain ⟨_,_,_,_,hs⟩:=hs
   exact ⟨by rw [hs.c4,e,hky],(hb.cell (p:=⟨gK,tl * 2,none⟩) lgK).trans hkey,(kAV.sm sm (by decide)).cell 1 (by simp)⟩
 have keep:Hid (∀ {y},Below V.heap.size V y → y.cell? ⟨gS,4,none⟩ = some (.slice (some ⟨gK,0,none⟩) nK cK) ∧ y.cell? ⟨gK,tl * 2,none⟩ = some (.slice ak key.length ck) ∧ y.cell? ⟨gA,1,none⟩ = some (.string mt)):=fun hy=>KEEP3.out _ { s with next:=(n1:Int) } ⟨wv,sv,lv,ps,hNV.sm (Sm.below hy)⟩ rfl (bbV.trans (hy.mono hBV)) (Sm.below hy)
 have KAV:=hidS kAV
 have HPV:=hidS hPV
 have HBWV:=hidS bwV
 have HSWV:=hidS smV
 have HKWV:=hidS kpV
 have hwV:=bwV.size
 have b_0:Below V.heap.size V V:=Below.refl _ _
 have htoI:(tl:Int) < (nK:Int):=by omega
 have HV:=hidS hV
 clear hN bN sN pN hV hNV bwX hBX bNV sNV pNV kAV bwV kpV smV hFV hPV r1 hkey lgK HX1 hky d8 f8 rk hm hsz HFK
 refine wp_region_held_drew (S:=fun y=>y.cell? ⟨gS,4,none⟩ = some (.slice (some ⟨gK,0,none⟩) nK cK) ∧ y.cell? ⟨gK,tl * 2,none⟩ = some (.slice ak key.length ck) ∧ y.cell? ⟨gA,1,none⟩ = some (.string mt)) (by kernel_rfl) (by rw [← show V = _ from HV];exact keep.out b_0) (fun hHeld=>?_)
 rw [← show V = _ from HV] at hHeld ⊢
 clear HV
 refine tkA (i:=0) (v:=(.pointer (some ⟨gS,0,none⟩))) rfl hHeld ?_
 try dsimp only [Act.put]
 refine tkA (i:=1) (v:=(.int .i64 (tl:Int))) rfl hHeld ?_
 dsimp only [Act.put,List.getElem_toArray,List.getElem_cons_zero,List.getElem_cons_succ]
 simp only [List.setIfInBounds_toArray,List.set_cons_succ,List.set_cons_zero]
 refine tkA (i:=2) (v:=(.pointer (some ⟨gS,0,none⟩))) rfl hHeld ?_
 try dsimp only [Act.put]
 refine tkA (i:=3) (v:=(.pointer (some ⟨gS,0,none⟩))) rfl hHeld ?_
 dsimp only [Act.put,List.getElem_toArray,List.getElem_cons_zero,List.getElem_cons_succ]
 simp only [List.setIfInBounds_toArray,List.set_cons_succ,List.set_cons_zero]
 refine tkA (i:=4) (v:=(.pointer (some ⟨gS,4,none⟩))) rfl hHeld ?_
 try dsimp only [Act.put]
 refine tk (i:=5) (v:=(.slice (some ⟨gK,0,none⟩) nK cK)) rfl (Or.inl ⟨by rfl,fun w1 h=>by have hc:=h.1;go_simp⟩) hHeld ?_
 dsimp only [Act.put,List.getElem_toArray,List.getElem_cons_zero,List.getElem_cons_succ]
 simp only [List.setIfInBounds_toArray,List.set_cons_succ,List.set_cons_zero]
 refine tkA (i:=6) (v:=(.int .i64 (tl:Int))) rfl hHeld ?_
 try dsimp only [Act.put]
 refine tkA (i:=7) (v:=(.pointer (some ⟨gK,tl * 2,none⟩))) rfl hHeld ?_
 dsimp only [Act.put,List.getElem_toArray,List.getElem_cons_zero,List.getElem_cons_succ]
 simp only [List.setIfInBounds_toArray,List.set_cons_succ,List.set_cons_zero]
 refine tkA (i:=8) (v:=(.pointer (some ⟨gK,tl * 2,none⟩))) rfl hHeld ?_
 try dsimp only [Act.put]
 refine tk (i:=9) (v:=(.slice ak key.length ck)) rfl (Or.inl ⟨by rfl,fun w1 h=>by have hc:=h.2.1;go_simp⟩) hHeld ?_
 dsimp only [Act.put,List.getElem_toArray,List.getElem_cons_zero,List.getElem_cons_succ]
 simp only [List.setIfInBounds_toArray,List.set_cons_succ,List.set_cons_zero]
 refine tkA (i:=10) (v:=(.pointer (some ⟨gA,1,none⟩))) rfl hHeld ?_
 try dsimp only [Act.put]
 refine tkA (i:=11) (v:=(.pointer (some ⟨gA,1,none⟩))) rfl hHeld ?_
 dsimp only [Act.put,List.getElem_toArray,List.getElem_cons_zero,List.getElem_cons_succ]
 simp only [List.setIfInBounds_toArray,List.set_cons_succ,List.set_cons_zero]
 refine tk (i:=12) (v:=(.string mt)) rfl (Or.inl ⟨by rfl,fun w1 h=>by have hc:=h.2.2;go_simp⟩) hHeld ?_
 try dsimp only [Act.put]
 refine tkA (i:=13) (v:=(.slice av L.length cv)) rfl hHeld ?_
 dsimp only [Act.put,List.getElem_toArray,List.getElem_cons_zero,List.getElem_cons_succ]
 simp only [List.setIfInBounds_toArray,List.set_cons_succ,List.set_cons_zero]
 refine tkA (i:=14) (v:=(.string num)) rfl hHeld ?_
 try dsimp only [Act.put]
 refine rdy1 15 (fun K hK=>?_)
 go_simp
 refine hK.out _ _ (keep.out bU1) (fun hHeld=>?_)
 clear hK K
 try dsimp only [Act.put]
 refine rdy1 16 (fun K hK=>?_)
 go_simp
 refine HREP.out.mono ?_
 rintro e U2 ⟨⟨v2,rfl,F2⟩,bU2⟩
 obtain ⟨a2,c2,rfl⟩:=F2.sh
 have bbU2:=bU1.trans (bU2.mono bU1.size)
 have HSE:=hidS (HSEND.out U2 _ bbU2 F2)
 obtain ⟨n2,hn2⟩:∃ n,n = (repL 11 num.data.toList L).length:=⟨_,rfl⟩
 rw [← hn2] at HSE ⊢
 clear hn2 F2
 go_wp2_with fail
 refine hK.out _ _ (keep.out bbU2) (fun hHeld=>?_)
 clear hK K
 try dsimp only [Act.put]
 refine tkA (i:=17) (v:=(.agg #[.string mt,.slice a2 n2 c2])) rfl hHeld ?_
 dsimp only [Act.put,List.getElem_toArray,List.getElem_cons_zero,List.getElem_cons_succ]
 simp only [List.setIfInBounds_toArray,List.set_cons_succ,List.set_cons_zero]
 refine rdy1 18 (fun K hK=>?_)
 go_simp
 refine HSE.out.mono ?_
 rintro e U3 ⟨rfl,⟨aS,cS,hS3⟩,bU3,sU3,pU3⟩
 have K3:=KEEP3.out U3 _ hS3 rfl (bbV.trans ((bbU2.mono hBV).trans bU3)) ((Sm.below bbU2).trans sU3)
 go_wp2_with fail
 refine hK.out _ _ K3 (fun hHeld=>?_)
 clear hK K
 try dsimp only [Act.put]
 refine wpAnyH_done (by kernel_rfl) ?_ _
 clear hHeld
 obtain ⟨wv3,sv3,lv3,ps3,hS3⟩:=hS3
 have bV3:Below B V U3:=(bbU2.mono hBV).trans bU3
 have sV3:Sm sesT V U3:=(Sm.below bbU2).trans sU3
 have pV3:Kp P V U3:=(Kp.below bbU2).trans bbU2.size pU3
 have kA3:=KAV.out.sm sV3 (by decide)
 have HS3:=hidS hS3
 clear hS3 K3 HSE KEEP3 keep KAV hcv bU1 bU2 bbU2 bU3 sU3 pU3 b_0
 go_upto_region 4 with fail
 obtain ⟨Z,hZ⟩:∃ Z,Z = World.drew U3:=⟨_,rfl⟩
 have hSZ:=HS3.out.drew
 rw [← hZ] at hSZ
 have KAZ:Hid (Blk Z gA 219 [.int .i64 link,.string mt,fv,.string stan,kv]):=by rw [hZ];exact kA3
 have bVZ:Below B V Z:=by rw [hZ];exact bV3.drew
 have HBW:=hidS (HBWV.out.trans bVZ)
 have HSW:Hid (Sm sesT w Z):=by rw [hZ];exact ⟨(HSWV.out.trans sV3).size,(HSWV.out.trans sV3).stay⟩
 have HKW:Hid (Kp P w Z):=by rw [hZ];exact HKWV.out.trans hwV pV3
 have hwZ:w.heap.size ≤ Z.heap.size:=HBW.out.size
 have hBZ:B ≤ Z.heap.size:=Nat.le_trans hBw hwZ
 have HPZ:Hid (∀ k,Z.heap.size ≤ k → P k):=fun k hk=>hP k (Nat.le_trans hwZ hk)
 have KSV:=hidS (fun (y:World) (hy:Below Z.heap.size Z y)=>hSZ.sm (Sm.below hy))
 obtain ⟨nW,hnW⟩:∃ n,n = s.W.length:=⟨_,rfl⟩
 rw [← hnW] at hlW
 have HNW:=hidS hnW
 obtain ⟨gE,hgE⟩:∃ n,n = Z.heap.size:=⟨_,rfl⟩
 have HGE:=hidS hgE
 have HEB:Hid (B ≤ gE):=by rw [hgE];exact hBZ
 have z_0:Below Z.heap.size Z Z:=Below.refl _ _
 have keep4:Hid (∀ {y},Below Z.heap.size Z y → y.cell? ⟨gA,0,none⟩ = some (.int .i64 link) ∧ y.cell? ⟨gA,3,none⟩ = some (.string stan) ∧ y.cell? ⟨gS,6,none⟩ = some (.int .i64 s.clock)):=fun hy=>⟨(KAZ.out.below hy KAZ.out.lt).cell 0 (by simp),(KAZ.out.below hy KAZ.out.lt).cell 3 (by simp),(hSZ.sm (Sm.below hy)).c6⟩
 have HZ:=hidS hZ
 clear hZ hSZ HS3 kA3 bV3 sV3 pV3 bVZ hnW hgE
 refine wp_region_held_drew (S:=fun y=>y.cell? ⟨gA,0,none⟩ = some (.int .i64 link) ∧ y.cell? ⟨gA,3,none⟩ = some (.string stan) ∧ y.cell? ⟨gS,6,none⟩ = some (.int .i64 s.clock)) (by kernel_rfl) (by rw [← show Z = _ from HZ];exact keep4.out z_0) (fun hHeld=>?_)
 rw [← show Z = _ from HZ] at hHeld ⊢
 clear HZ
 refine tkA (i:=0) (v:=(.pointer (some ⟨gS,0,none⟩))) rfl hHeld ?_
 try dsimp only [Act.put]
 refine tkA (i:=1) (v:=(.pointer (some ⟨gS,0,none⟩))) rfl hHeld ?_
 dsimp only [Act.put,List.getElem_toArray,List.getElem_cons_zero,List.getElem_cons_succ]
 simp only [List.setIfInBounds_toArray,List.set_cons_succ,List.set_cons_zero]
 refine tkA (i:=2) (v:=(.pointer (some ⟨gS,0,none⟩))) rfl hHeld ?_
 try dsimp only [Act.put]
 refine tkA (i:=3) (v:=(.pointer (some ⟨gS,9,none⟩))) rfl hHeld ?_
 dsimp only [Act.put,List.getElem_toArray,List.getElem_cons_zero,List.getElem_cons_succ]
 simp only [List.setIfInBounds_toArray,List.set_cons_succ,List.set_cons_zero]
 refine tkA (i:=5) (v:=(.int .i64 (tl:Int))) rfl hHeld ?_
 try dsimp only [Act.put]
 refine tkA (i:=6) (v:=(.string num)) rfl hHeld ?_
 dsimp only [Act.put,List.getElem_toArray,List.getElem_cons_zero,List.getElem_cons_succ]
 simp only [List.setIfInBounds_toArray,List.set_cons_succ,List.set_cons_zero]
 refine tkA (i:=7) (v:=(.pointer (some ⟨gA,0,none⟩))) rfl hHeld ?_
 try dsimp only [Act.put]
 refine tk (i:=8) (v:=(.int .i64 link)) rfl (Or.inl ⟨by rfl,fun w1 h=>by have hc:=h.1;go_simp⟩) hHeld ?_
 dsimp only [Act.put,List.getElem_toArray,List.getElem_cons_zero,List.getElem_cons_succ]
 simp only [List.setIfInBounds_toArray,List.set_cons_succ,List.set_cons_zero]
 refine tkA (i:=9) (v:=(.pointer (some ⟨gA,3,none⟩))) rfl hHeld ?_
 try dsimp only [Act.put]
 refine tk (i:=10) (v:=(.string stan)) rfl (Or.inl ⟨by rfl,fun w1 h=>by have hc:=h.2.1;go_simp⟩) hHeld ?_
 dsimp only [Act.put,List.getElem_toArray,List.getElem_cons_zero,List.getElem_cons_succ]
 simp only [List.setIfInBounds_toArray,List.set_cons_succ,List.set_cons_zero]
 refine tkA (i:=11) (v:=(.pointer (some ⟨gS,0,none⟩))) rfl hHeld ?_
 try dsimp only [Act.put]
 refine tkA (i:=12) (v:=(.pointer (some ⟨gS,0,none⟩))) rfl hHeld ?_
 dsimp only [Act.put,List.getElem_toArray,List.getElem_cons_zero,List.getElem_cons_succ]
 simp only [List.setIfInBounds_toArray,List.set_cons_succ,List.set_cons_zero]
 refine tkA (i:=13) (v:=(.pointer (some ⟨gS,6,none⟩))) rfl hHeld ?_
 try dsimp only [Act.put]
 refine tk (i:=14) (v:=(.int .i64 s.clock)) rfl (Or.inl ⟨by rfl,fun w1 h=>by have hc:=h.2.2;go_simp⟩) hHeld ?_
 dsimp only [Act.put,List.getElem_toArray,List.getElem_cons_zero,List.getElem_cons_succ]
 simp only [List.setIfInBounds_toArray,List.set_cons_succ,List.set_cons_zero]
 refine tk (i:=15) (v:=(.int .i64 tm)) rfl (Or.inl ⟨by rfl,fun w1 h=>by go_simp⟩) hHeld ?_
 try dsimp only [Act.put]
 refine tkA (i:=16) (v:=(.agg #[.int .i64 (tl:Int),.string num,.int .i64 link,.string stan,.int .i64 tm])) rfl hHeld ?_
 dsimp only [Act.put,List.getElem_toArray,List.getElem_cons_zero,List.getElem_cons_succ]
 simp only [List.setIfInBounds_toArray,List.set_cons_succ,List.set_cons_zero]
 refine wpAnyH_ready (rs:=[4,17]) (by kernel_rfl) (by simp) ?_
 refine AllReadyH.cons rfl (fun K hK=>?_) (AllReadyH.cons rfl (fun K hK=>?_) (AllReadyH.nil))
 · have hc1:Z.cell? ⟨gS,9,none⟩ = some wv3:=(KSV.out _ z_0).c9
   go_simp
   refine hK.out _ _ (keep4.out z_0) (fun hHeld=>?_)
   clear hK K
   try dsimp only [Act.put]
   refine rdy1 17 (fun K hK=>?_)
   go_simp
   obtain ⟨Q1,hQ1⟩:∃ y,y = Z.alloc (Obj.cells #[.int .i64 (tl:Int),.string num,.int .i64 link,.string stan,.int .i64 tm] 231):=⟨_,rfl⟩
   have kE:Blk Q1 gE 231 [.int .i64 (tl:Int),.string num,.int .i64 link,.string stan,.int .i64 tm]:=by rw [hQ1];exact Blk.newAt _ _ _ _ (show gE = Z.heap.size from HGE.out)
   have bQ1:Below Z.heap.size Z Q1:=by rw [hQ1];exact z_0.trans ((below_newS _ _).mono z_0.size)
   rw [← hQ1,← show gE = _ from HGE.out]
   clear hQ1
   refine hK.out _ _ (keep4.out bQ1) (fun hHeld=>?_)
   clear hK K
   try dsimp only [Act.put]
   refine rdy1 18 (fun K hK=>?_)
   go_simp
   obtain ⟨Q2,hQ2⟩:∃ y,y = Q1.alloc (Obj.cells #[.pointer (some ⟨gE,0,none⟩)] 229):=⟨_,rfl⟩
   have kQ:Blk Q2 Q1.heap.size 229 [.pointer (some ⟨gE,0,none⟩)]:=by rw [hQ2];exact Blk.new _ _ _
   have bQ2:Below Z.heap.size Z Q2:=by rw [hQ2];exact bQ1.trans ((below_newS _ _).mono bQ1.size)
   have kE2:Blk Q2 gE 231 [.int .i64 (tl:Int),.string num,.int .i64 link,.string stan,.int .i64 tm]:=by rw [hQ2];exact kE.alloc _
   rw [← hQ2]
   clear hQ2
   refine hK.out _ _ (keep4.out bQ2) (fun hHeld=>?_)
   clear hK K
   try dsimp only [Act.put]
   refine rdy1 19 (fun K hK=>?_)
   have hV:=KSV.out _ bQ2
   have row:=hV.wrow
   rw [← HNW.out] at row
   rw [if_pos (by rfl)]
   refine wp_append_Pe _ _ rfl B wv3 nW _ rfl row ⟨Q1.heap.size,0,none⟩ 1 1 [.pointer (some ⟨gE,0,none⟩)] rfl rfl (newsB kQ) (by intro u hu;simp at hu;rw [hu];rfl) (by unfold maxLen;omega) (by omega) (Nat.le_trans hBZ bQ2.size) ?_
   intro v3 Q3 row3 gr3 at3
   obtain ⟨a3,c3,rfl⟩:=ownS row3
   have FIN:=hidS (SesV.wait (e:=((tl:Int),num,link,stan,tm)) HPZ.out hV HNW.out hBZ bQ2 gr3 row row3 at3 kE2 HEB.out KAZ.out)
   have cF:Q3.cell? ⟨gS,9,none⟩ = some wv3:=FIN.out.1
   have fF:=FIN.out.2.1
   have SF:=FIN.out.2.2.1
   clear hV row row3 gr3 at3
   refine hK.out _ _ SF (fun hHeld=>?_)
   clear hK K
   try dsimp only [Act.put]
   refine tkA (i:=20) (v:=(.pointer (some ⟨gS,0,none⟩))) rfl hHeld ?_
   try dsimp only [Act.put]
   refine tkA (i:=21) (v:=(.pointer (some ⟨gS,9,none⟩))) rfl hHeld ?_
   dsimp only [Act.put,List.getElem_toArray,List.getElem_cons_zero,List.getElem_cons_succ]
   simp only [List.setIfInBounds_toArray,List.set_cons_succ,List.set_cons_zero]
   refine rdy1 22 (fun K hK=>?_)
   go_simp
   refine hK.out _ _ FIN.out.2.2.2.1 (fun hHeld=>?_)
   clear hK K
   try dsimp only [Act.put]
   refine wpAnyH_done (by kernel_rfl) ?_ _
   clear hHeld
   have hS4:=FIN.out.2.2.2.2.1
   have bZ4:=FIN.out.2.2.2.2.2.1
   have sZ4:=FIN.out.2.2.2.2.2.2.1
   have pZ4:=FIN.out.2.2.2.2.2.2.2.1
   have kA4:=FIN.out.2.2.2.2.2.2.2.2
   obtain ⟨Y4,hY4⟩:∃ y,y = Q3.setCell ⟨gS,9,none⟩ (.slice a3 (nW + 1) c3):=⟨_,rfl⟩
   rw [← hY4] at hS4 bZ4 sZ4 pZ4 kA4 ⊢
   have y0:=kA4.cell 0 (by simp)
   have y3:=kA4.cell 3 (by simp)
   have HNO:=hidS (note_any _ B gS P 0 link stan Y4 (Nat.le_trans hBZ bZ4.size) (fun k hk=>HPZ.out k (Nat.le_trans bZ4.size hk)) hS4 hlL)
   clear hY4 FIN hS4 kA4 cF fF SF
   go_wp2_with fail
   refine HNO.out.mono ?_
   rintro e Y5 ⟨rfl,hS5,b5,s5,p5⟩
   go_wp2_with fail
   go_end0
   exact ⟨rfl,⟨_,hS5⟩,HBW.out.trans (bZ4.trans b5),HSW.out.trans (sZ4.trans s5),(HKW.out.trans hwZ pZ4).trans (Nat.le_trans hwZ bZ4.size) p5⟩
 · go_simp
   obtain ⟨Q1,hQ1⟩:∃ y,y = Z.alloc (Obj.cells #[.int .i64 (tl:Int),.string num,.int .i64 link,.string stan,.int .i64 tm] 231):=⟨_,rfl⟩
   have kE:Blk Q1 gE 231 [.int .i64 (tl:Int),.string num,.int .i64 link,.string stan,.int .i64 tm]:=by rw [hQ1];exact Blk.newAt _ _ _ _ (show gE = Z.heap.size from HGE.out)
   have bQ1:Below Z.heap.size Z Q1:=by rw [hQ1];exact z_0.trans ((below_newS _ _).mono z_0.size)
   rw [← hQ1,← show gE = _ from HGE.out]
   clear hQ1
   refine hK.out _ _ (keep4.out bQ1) (fun hHeld=>?_)
   clear hK K
   try dsimp only [Act.put]
   refine wpAnyH_ready (rs:=[4,18]) (by kernel_rfl) (by simp) ?_
   refine AllReadyH.cons rfl (fun K hK=>?_) (AllReadyH.cons rfl (fun K hK=>?_) (AllReadyH.nil))
   · have hc7:Q1.cell? ⟨gS,9,none⟩ = some wv3:=(KSV.out _ bQ1).c9
     go_simp
     refine hK.out _ _ (keep4.out bQ1) (fun hHeld=>?_)
     clear hK K
     try dsimp only [Act.put]
     refine rdy1 18 (fun K hK=>?_)
     go_simp
     obtain ⟨Q2,hQ2⟩:∃ y,y = Q1.alloc (Obj.cells #[.pointer (some ⟨gE,0,none⟩)] 229):=⟨_,rfl⟩
     have kQ:Blk Q2 Q1.heap.size 229 [.pointer (some ⟨gE,0,none⟩)]:=by rw [hQ2];exact Blk.new _ _ _
     have bQ2:Below Z.heap.size Z Q2:=by rw [hQ2];exact bQ1.trans ((below_newS _ _).mono bQ1.size)
     have kE2:Blk Q2 gE 231 [.int .i64 (tl:Int),.string num,.int .i64 link,.string stan,.int .i64 tm]:=by rw [hQ2];exact kE.alloc _
     rw [← hQ2]
     clear hQ2
     refine hK.out _ _ (keep4.out bQ2) (fun hHeld=>?_)
     clear hK K
     try dsimp only [Act.put]
     refine rdy1 19 (fun K hK=>?_)
     have hV:=KSV.out _ bQ2
     have row:=hV.wrow
     rw [← HNW.out] at row
     rw [if_pos (by rfl)]
     refine wp_append_Pe _ _ rfl B wv3 nW _ rfl row ⟨Q1.heap.size,0,none⟩ 1 1 [.pointer (some ⟨gE,0,none⟩)] rfl rfl (newsB kQ) (by intro u hu;simp at hu;rw [hu];rfl) (by unfold maxLen;omega) (by omega) (Nat.le_trans hBZ bQ2.size) ?_
     intro v3 Q3 row3 gr3 at3
     obtain ⟨a3,c3,rfl⟩:=ownS row3
     have FIN:=hidS (SesV.wait (e:=((tl:Int),num,link,stan,tm)) HPZ.out hV HNW.out hBZ bQ2 gr3 row row3 at3 kE2 HEB.out KAZ.out)
     have cF:Q3.cell? ⟨gS,9,none⟩ = some wv3:=FIN.out.1
     have fF:=FIN.out.2.1
     have SF:=FIN.out.2.2.1
     clear hV row row3 gr3 at3
     refine hK.out _ _ SF (fun hHeld=>?_)
     clear hK K
     try dsimp only [Act.put]
     refine tkA (i:=20) (v:=(.pointer (some ⟨gS,0,none⟩))) rfl hHeld ?_
     try dsimp only [Act.put]
     refine tkA (i:=21) (v:=(.pointer (some ⟨gS,9,none⟩))) rfl hHeld ?_
     dsimp only [Act.put,List.getElem_toArray,List.getElem_cons_zero,List.getElem_cons_succ]
     simp only [List.setIfInBounds_toArray,List.set_cons_succ,List.set_cons_zero]
     refine rdy1 22 (fun K hK=>?_)
     go_simp
     refine hK.out _ _ FIN.out.2.2.2.1 (fun hHeld=>?_)
     clear hK K
     try dsimp only [Act.put]
     refine wpAnyH_done (by kernel_rfl) ?_ _
     clear hHeld
     have hS4:=FIN.out.2.2.2.2.1
     have bZ4:=FIN.out.2.2.2.2.2.1
     have sZ4:=FIN.out.2.2.2.2.2.2.1
     have pZ4:=FIN.out.2.2.2.2.2.2.2.1
     have kA4:=FIN.out.2.2.2.2.2.2.2.2
     obtain ⟨Y4,hY4⟩:∃ y,y = Q3.setCell ⟨gS,9,none⟩ (.slice a3 (nW + 1) c3):=⟨_,rfl⟩
     rw [← hY4] at hS4 bZ4 sZ4 pZ4 kA4 ⊢
     have y0:=kA4.cell 0 (by simp)
     have y3:=kA4.cell 3 (by simp)
     have HNO:=hidS (note_any _ B gS P 0 link stan Y4 (Nat.le_trans hBZ bZ4.size) (fun k hk=>HPZ.out k (Nat.le_trans bZ4.size hk)) hS4 hlL)
     clear hY4 FIN hS4 kA4 cF fF SF
     go_wp2_with fail
     refine HNO.out.mono ?_
     rintro e Y5 ⟨rfl,hS5,b5,s5,p5⟩
     go_wp2_with fail
     go_end0
     exact ⟨rfl,⟨_,hS5⟩,HBW.out.trans (bZ4.trans b5),HSW.out.trans (sZ4.trans s5),(HKW.out.trans hwZ pZ4).trans (Nat.le_trans hwZ bZ4.size) p5⟩
   · go_simp
     obtain ⟨Q2,hQ2⟩:∃ y,y = Q1.alloc (Obj.cells #[.pointer (some ⟨gE,0,none⟩)] 229):=⟨_,rfl⟩
     have kQ:Blk Q2 Q1.heap.size 229 [.pointer (some ⟨gE,0,none⟩)]:=by rw [hQ2];exact Blk.new _ _ _
     have bQ2:Below Z.heap.size Z Q2:=by rw [hQ2];exact bQ1.trans ((below_newS _ _).mono bQ1.size)
     have kE2:Blk Q2 gE 231 [.int .i64 (tl:Int),.string num,.int .i64 link,.string stan,.int .i64 tm]:=by rw [hQ2];exact kE.alloc _
     rw [← hQ2]
     clear hQ2
     refine hK.out _ _ (keep4.out bQ2) (fun hHeld=>?_)
     clear hK K
     try dsimp only [Act.put]
     refine rdy1 4 (fun K hK=>?_)
     have hc12:Q2.cell? ⟨gS,9,none⟩ = some wv3:=(KSV.out _ bQ2).c9
     go_simp
     refine hK.out _ _ (keep4.out bQ2) (fun hHeld=>?_)
     clear hK K
     try dsimp only [Act.put]
     refine rdy1 19 (fun K hK=>?_)
     have hV:=KSV.out _ bQ2
     have row:=hV.wrow
     rw [← HNW.out] at row
     rw [if_pos (by rfl)]
     refine wp_append_Pe _ _ rfl B wv3 nW _ rfl row ⟨Q1.heap.size,0,none⟩ 1 1 [.pointer (some ⟨gE,0,none⟩)] rfl rfl (newsB kQ) (by intro u hu;simp at hu;rw [hu];rfl) (by unfold maxLen;omega) (by omega) (Nat.le_trans hBZ bQ2.size) ?_
     intro v3 Q3 row3 gr3 at3
     obtain ⟨a3,c3,rfl⟩:=ownS row3
     have FIN:=hidS (SesV.wait (e:=((tl:Int),num,link,stan,tm)) HPZ.out hV HNW.out hBZ bQ2 gr3 row row3 at3 kE2 HEB.out KAZ.out)
     have cF:Q3.cell? ⟨gS,9,none⟩ = some wv3:=FIN.out.1
     have fF:=FIN.out.2.1
     have SF:=FIN.out.2.2.1
     clear hV row row3 gr3 at3
     refine hK.out _ _ SF (fun hHeld=>?_)
     clear hK K
     try dsimp only [Act.put]
     refine tkA (i:=20) (v:=(.pointer (some ⟨gS,0,none⟩))) rfl hHeld ?_
     try dsimp only [Act.put]
     refine tkA (i:=21) (v:=(.pointer (some ⟨gS,9,none⟩))) rfl hHeld ?_
     dsimp only [Act.put,List.getElem_toArray,List.getElem_cons_zero,List.getElem_cons_succ]
     simp only [List.setIfInBounds_toArray,List.set_cons_succ,List.set_cons_zero]
     refine rdy1 22 (fun K hK=>?_)
     go_simp
     refine hK.out _ _ FIN.out.2.2.2.1 (fun hHeld=>?_)
     clear hK K
     try dsimp only [Act.put]
     refine wpAnyH_done (by kernel_rfl) ?_ _
     clear hHeld
     have hS4:=FIN.out.2.2.2.2.1
     have bZ4:=FIN.out.2.2.2.2.2.1
     have sZ4:=FIN.out.2.2.2.2.2.2.1
     have pZ4:=FIN.out.2.2.2.2.2.2.2.1
     have kA4:=FIN.out.2.2.2.2.2.2.2.2
     obtain ⟨Y4,hY4⟩:∃ y,y = Q3.setCell ⟨gS,9,none⟩ (.slice a3 (nW + 1) c3):=⟨_,rfl⟩
     rw [← hY4] at hS4 bZ4 sZ4 pZ4 kA4 ⊢
     have y0:=kA4.cell 0 (by simp)
     have y3:=kA4.cell 3 (by simp)
     have HNO:=hidS (note_any _ B gS P 0 link stan Y4 (Nat.le_trans hBZ bZ4.size) (fun k hk=>HPZ.out k (Nat.le_trans bZ4.size hk)) hS4 hlL)
     clear hY4 FIN hS4 kA4 cF fF SF
     go_wp2_with fail
     refine HNO.out.mono ?_
     rintro e Y5 ⟨rfl,hS5,b5,s5,p5⟩
     go_wp2_with fail
     go_end0
     exact ⟨rfl,⟨_,hS5⟩,HBW.out.trans (bZ4.trans b5),HSW.out.trans (sZ4.trans s5),(HKW.out.trans hwZ pZ4).trans (Nat.le_trans hwZ bZ4.size) p5⟩
end Go.Proofs.YtbkokcjolanpeaaGreatDoor
