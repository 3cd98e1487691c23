import Derived.Test.YtbkokcjolanpeaaGreatDoorRgC
import Derived.Test.YtbkokcjolanpeaaGreatDoorRgAG
namespace Go.Proofs.YtbkokcjolanpeaaGreatDoor
open Go.RowKit
theorem wp_append_Sn {w:World} {o:Oper} {a:Act} {K:Act → World → Prop} {Q:Exit → Act → World → Prop} (s x:Operand)
   (ho:o.op = .call { callee:=.builtin .append,args:=#[s,x],argTypes:=#[40,40] }) (base:Nat) (v:Value) (n:Nat) (xs:List Value) (hs:a.eval s = v) (hown:w.ownsRow base 49 2 v n xs)
   (ad:Addr) (m c:Nat) (news:List Value) (hx:a.eval x = .slice (some ad) m c) (hl:news.length = m * 2) (hnews:∀ j u,news[j]? = some u → w.cell? (ad.add j) = some u) (h1:∀ u ∈ news,u.oneCell' = true)
   (h63:n + m ≤ maxLen) (hbytes:(n + m) * 32 ≤ 140737488355328) (hbase:base ≤ w.heap.size)
   (h:∀ v' w',w'.ownsRow base 49 2 v' (n + m) (xs ++ news) → w.grownBy w' v.ownBlock → (v'.ownBlock = v.ownBlock ∨ v'.ownBlock = some w.heap.size) → K (a.put o.dst v') w'):o.wp Tryz.prog a w K Q:=by
 obtain ⟨i0,hi,hz0,hz1,hz2⟩:=info_parts Tryz.infoSn
 obtain ⟨v',w',hr,h2,h3,-,h5⟩:=run_append_own_at (P:=Tryz.prog) w base 40 o.type 49 i0 (.agg #[.int .i64 0,.slice none 0 0]) 2 32 Tryz.underlying40 hi hz0 hz1 hz2 rfl (by decide) v n xs hown ad m c news hl hnews h1 h63 hbytes hbase
 unfold Oper.wp execOp
 simp only [ho,resolve,invoke,builtin,Sem.run_bind,Sem.run_pure,Result.andThen_ok,List.map_toArray,List.map_cons,List.map_nil,hs,hx,hr]
 exact h v' w' h2 h3 h5
theorem rangeB {w:World} {g t:Nat} {cs:List Value} (h:Blk w g t cs):w.rangeAt g 0 cs:=by
 intro j v hv
 obtain ⟨hj,he⟩:=List.getElem?_eq_some_iff.1 hv
 rw [Nat.zero_add,h.cell j hj,he]
theorem SesV.c0 {w:World} {B gS:Nat} {P:Nat → Prop} {s:SS} {wv sv lv:Value} {ps:List Nat} (h:SesV w B gS P s wv sv lv ps):w.cell? ⟨gS,0,none⟩ = some s.mst:=h.blk.cell 0 (by simp [sesC])
theorem SesV.c10 {w:World} {B gS:Nat} {P:Nat → Prop} {s:SS} {wv sv lv:Value} {ps:List Nat} (h:SesV w B gS P s wv sv lv ps):w.cell? ⟨gS,10,none⟩ = some sv:=h.blk.cell 10 (by simp [sesC])
theorem SesV.sent {V X Y:World} {B gS gB nS:Nat} {P:Nat → Prop} {s:SS} {wv sv lv:Value} {ps:List Nat} {link:Int} {x mv:Value} {mc:List Value} (hn:nS = s.S.length) (hm:s.mst = mv) (hP:∀ k,V.heap.size ≤ k → P k) (h:SesV X B gS P s wv sv lv ps) (hBV:B ≤ V.heap.size) (b:Below V.heap.size V X) (gr:X.grownBy Y sv.ownBlock)
   (row:X.ownsRow B 49 2 sv nS (s.S.flatMap sentC)) {v2:Value} (row2:Y.ownsRow B 49 2 v2 (nS + 1) (s.S.flatMap sentC ++ [.int .i64 link,x])) (at2:v2.ownBlock = sv.ownBlock ∨ v2.ownBlock = some X.heap.size) (kB:Blk V gB 32 mc) :
   Y.cell? ⟨gS,10,none⟩ = some sv ∧ Y.frozen? ⟨gS,10,none⟩ = false ∧ (Y.cell? ⟨gS,0,none⟩ = some mv ∧ Y.rangeAt gB 0 mc) ∧ ((Y.setCell ⟨gS,10,none⟩ v2).cell? ⟨gS,0,none⟩ = some mv ∧ (Y.setCell ⟨gS,10,none⟩ v2).rangeAt gB 0 mc) ∧
     Ses (Y.setCell ⟨gS,10,none⟩ v2) B gS P { s with S:=s.S ++ [(link,x)] } ∧ Below B V (Y.setCell ⟨gS,10,none⟩ v2) ∧ Sm sesT V (Y.setCell ⟨gS,10,none⟩ v2) ∧ Kp P V (Y.setCell ⟨gS,10,none⟩ v2):=by
 subst hm
 have sm2:=Sm.grown (ts:=[49]) gr (own_typed row)
 have kS2:=h.blk.sm sm2 (by decide)
 have sm3:=Sm.setCell (ts:=[84]) kS2 (by simp) 10 v2
 have kX:=kB.below b kB.lt
 have kY:=kX.sm sm2 (by decide)
 have k3:=kS2.set 10 v2
 refine ⟨kS2.cell 10 (by simp [sesC]),kS2.free 10,⟨kS2.cell 0 (by simp [sesC]),rangeB kY⟩,⟨k3.cell 0 (by simp [sesC]),rangeB (kY.sm sm3 (by decide))⟩,⟨wv,v2,lv,ps,h.lo,k3,(h.ents.sm sm2 (by decide)).sm sm3 (by decide),own_sm (own_sm h.wrow sm2 (by decide)) sm3 (by decide),?_,own_sm (own_sm h.lrow sm2 (by decide)) sm3 (by decide),h.pS,h.pw,own_atS (w:=X) (w':=Y) h.pv (hP _ b.size) at2 gr.size,h.pl⟩,?_,?_,?_⟩
 · have r3:=own_sm row2 sm3 (by decide)
   show World.ownsRow _ B _ 2 v2 (s.S ++ [(link,x)]).length ((s.S ++ [(link,x)]).flatMap sentC)
   rw [List.length_append,← hn,List.flatMap_append]
   exact r3
 · exact ((b.mono hBV).grown gr (Nat.le_trans hBV b.size) (fun k hk=>(row.lt k hk).1)).setCell h.lo _
 · exact ((Sm.below b).trans (sm2.mono (by decide))).trans (sm3.mono (by decide))
 · exact ((Kp.below b).trans b.size (Kp.grown gr h.pv)).trans (Nat.le_trans b.size gr.size) (Kp.setCell Y h.pS 10 _)
set_option maxRecDepth 100000 in
set_option maxHeartbeats 2000000 in
theorem send_any (s:SS) (B gS:Nat) (P:Nat → Prop) (link:Int) (master key:List UInt8) (mt:ByteArray) (L:List (Int × List UInt8)) (hsz:∀ p ∈ L,p.2.length ≤ 1048576) (hL:L.length ≤ 1048576) (am ak:Option Addr) (cm ck:Nat) (v:Value) (x0 x1s:Addr) (w:World) (hck:key.length ≤ ck)
   (hs:Sents w x0 x1s) (rm:RowAt w am master) (rk:RowAt w ak key) (F:Fr w v L) (hT:∀ w',Below w.heap.size w w' → Lib.TabIs Tryz.prog w' "internal/strconv.uint64pow10" .u64 Lib.pow10Tab) (hm:s.mst = .slice am master.length cm)
   (hB:B ≤ w.heap.size) (hP:∀ k,w.heap.size ≤ k → P k) (h:Ses w B gS P s) (hl:s.S.length ≤ 1000000) :
   Calls Tryz.prog 128 #[.pointer (some ⟨gS,0,none⟩),.int .i64 link,.slice ak key.length ck,.agg #[.string mt,v]] w fun e w' =>
     e = .returned (.tuple #[]) ∧ (∃ a c,Ses w' B gS P { s with S:=s.S ++ [(link,.slice a (sealL master key mt L).length c)] }) ∧ Below B w w' ∧ Sm sesT w w' ∧ Kp P w w':=by
 obtain ⟨wv,sv,lv,ps,h⟩:=h
 obtain ⟨av,cv,rfl⟩:=F.sh
 obtain ⟨nv,hnv⟩:∃ n,n = L.length:=⟨_,rfl⟩
 obtain ⟨nM,hnM⟩:∃ n,n = master.length:=⟨_,rfl⟩
 obtain ⟨nS,hnS⟩:∃ n,n = s.S.length:=⟨_,rfl⟩
 obtain ⟨gB,hgB⟩:∃ n,n = w.heap.size:=⟨_,rfl⟩
 rw [← hnv] at F ⊢
 rw [← hnM] at hm
 rw [← hnS] at hl
 obtain ⟨W,hW⟩:∃ y,y = w.alloc (Obj.cells #[.string mt,.slice av nv cv] 32):=⟨_,rfl⟩
 have bW:Below w.heap.size w W:=by rw [hW];exact below_newS _ _
 have kW:Blk W gB 32 [.string mt,.slice av nv cv]:=by rw [hW,hgB];exact Blk.new _ _ _
 obtain ⟨V,hV⟩:∃ V,V = World.drew W:=⟨_,rfl⟩
 have bV:Below w.heap.size w V:=by rw [hV];exact bW.drew
 have kV:Blk V gB 32 [.string mt,.slice av nv cv]:=by rw [hV];exact kW
 have hBV:B ≤ V.heap.size:=Nat.le_trans hB bV.size
 have HSE:Hid (∀ y,Below V.heap.size V y → Calls Tryz.prog 6 #[.slice am nM cm,.slice ak key.length ck,.agg #[.string mt,.slice av nv cv]] y fun e w'=>∃ v',e = .returned v' ∧ Own w' y.heap.size v' (sealL master key mt L) ∧ Below y.heap.size y w'):=fun y hy=>by
   have hwy:=bV.trans (hy.mono bV.size)
   have c:=seal_any master key mt L hsz hL am ak cm ck (.slice av nv cv) x0 x1s y hck (hs.below hwy) (rm.below hwy) (rk.below hwy) (F.below hwy) (fun w' hb=>hT w' (hwy.trans (hb.mono hwy.size)))
   rw [← hnM] at c
   exact c
 have KSV:Hid (∀ {y},Below V.heap.size V y → SesV y B gS P s wv sv lv ps):=fun hy=>h.sm (Sm.below (bV.trans (hy.mono bV.size)))
 have KB:Hid (Blk V gB 32 [.string mt,.slice av nv cv]):=kV
 have HBV:=hidS (bV.mono hB)
 have HSM:Hid (Sm sesT w V):=Sm.below bV
 have HKP:Hid (Kp P w V):=Kp.below bV
 have HPV:Hid (∀ k,V.heap.size ≤ k → P k):=fun k hk=>hP k (Nat.le_trans bV.size hk)
 have hsV:=bV.size
 have HNS:=hidS hnS
 have HMS:=hidS hm
 have keep:Hid (∀ {y},Below V.heap.size V y → y.cell? ⟨gS,0,none⟩ = some (.slice am nM cm) ∧ y.rangeAt gB 0 [.string mt,.slice av nv cv]):=fun hy=>⟨by rw [← hm];exact (h.sm (Sm.below (bV.trans (hy.mono bV.size)))).c0,rangeB (kV.below hy kV.lt)⟩
 have b_0:Below V.heap.size V V:=Below.refl _ _
 have HW:=hidS hW
 have HV:=hidS hV
 have HGB:=hidS hgB
 clear h hs rm rk F hT hm hW kW bW hV bV kV hgB hnS hnM hnv hsz
 go_enter Tryz.func128,Tryz.ntmps128
 go_upto_region 1 with fail
 rw [← show W = _ from HW]
 rw [← show gB = _ from HGB]
 refine wp_region_held_drew (S:=fun y=>y.cell? ⟨gS,0,none⟩ = some (.slice am nM cm) ∧ y.rangeAt gB 0 [.string mt,.slice av nv cv]) (by kernel_rfl) (by rw [← show V = _ from HV];exact keep.out b_0) (fun hHeld=>?_)
 rw [← show V = _ from HV] at hHeld ⊢
 clear HV HW HGB
 refine tkA (i:=0) (v:=(.pointer (some ⟨gS,0,none⟩))) rfl hHeld ?_
 try dsimp only [Act.put]
 refine tkA (i:=1) (v:=(.pointer (some ⟨gS,0,none⟩))) rfl hHeld ?_
 dsimp only [Act.put,List.getElem_toArray,List.getElem_cons_zero,List.getElem_cons_succ]
 simp only [List.setIfInBounds_toArray,List.set_cons_succ,List.set_cons_zero]
 refine tkA (i:=2) (v:=(.pointer (some ⟨gS,0,none⟩))) rfl hHeld ?_
 try dsimp only [Act.put]
 refine tkA (i:=3) (v:=(.pointer (some ⟨gS,10,none⟩))) rfl hHeld ?_
 dsimp only [Act.put,List.getElem_toArray,List.getElem_cons_zero,List.getElem_cons_succ]
 simp only [List.setIfInBounds_toArray,List.set_cons_succ,List.set_cons_zero]
 refine tkA (i:=5) (v:=(.int .i64 link)) rfl hHeld ?_
 try dsimp only [Act.put]
 refine tkA (i:=6) (v:=(.pointer (some ⟨gS,0,none⟩))) rfl hHeld ?_
 dsimp only [Act.put,List.getElem_toArray,List.getElem_cons_zero,List.getElem_cons_succ]
 simp only [List.setIfInBounds_toArray,List.set_cons_succ,List.set_cons_zero]
 refine tkA (i:=7) (v:=(.pointer (some ⟨gS,0,none⟩))) rfl hHeld ?_
 try dsimp only [Act.put]
 refine tkA (i:=8) (v:=(.pointer (some ⟨gS,0,none⟩))) rfl hHeld ?_
 dsimp only [Act.put,List.getElem_toArray,List.getElem_cons_zero,List.getElem_cons_succ]
 simp only [List.setIfInBounds_toArray,List.set_cons_succ,List.set_cons_zero]
 refine tkA (i:=9) (v:=(.pointer (some ⟨gS,0,none⟩))) rfl hHeld ?_
 try dsimp only [Act.put]
 refine tk (i:=10) (v:=(.slice am nM cm)) rfl (Or.inl ⟨by rfl,fun w1 h=>by have hc:=h.1;go_simp⟩) hHeld ?_
 dsimp only [Act.put,List.getElem_toArray,List.getElem_cons_zero,List.getElem_cons_succ]
 simp only [List.setIfInBounds_toArray,List.set_cons_succ,List.set_cons_zero]
 refine tkA (i:=11) (v:=(.slice ak key.length ck)) rfl hHeld ?_
 try dsimp only [Act.put]
 refine tk (i:=12) (v:=(.agg ([.string mt,.slice av nv cv]:List Value).toArray)) rfl (yieldsIf_load_mid (by rfl) 32 _ rfl gB 0 rfl [.string mt,.slice av nv cv] _ (fun _ h=>h.2) Tryz.underlying32 rfl (by kernel_rfl)) hHeld ?_
 dsimp only [Act.put,List.getElem_toArray,List.getElem_cons_zero,List.getElem_cons_succ]
 simp only [List.setIfInBounds_toArray,List.set_cons_succ,List.set_cons_zero]
 refine wpAnyH_ready (rs:=[4,13]) (by kernel_rfl) (by simp) ?_
 refine AllReadyH.cons rfl (fun K hK=>?_) (AllReadyH.cons rfl (fun K hK=>?_) (AllReadyH.nil))
 · have hc1:V.cell? ⟨gS,10,none⟩ = some sv:=(KSV.out b_0).c10
   go_simp
   refine hK.out _ _ (keep.out b_0) (fun hHeld=>?_)
   clear hK K
   try dsimp only [Act.put]
   refine rdy1 13 (fun K hK=>?_)
   go_simp
   refine (HSE.out _ b_0).mono ?_
   rintro e w_2 ⟨v_2,rfl,own_2,b_2⟩
   obtain ⟨aD,cD,rfl,rD,hlowD,hcD⟩:=own_2.shape
   have bb_2:=b_0.trans (b_2.mono b_0.size)
   have HOW:=hidS own_2
   clear own_2 rD hlowD hcD b_2
   go_wp2_with fail
   refine hK.out _ _ (keep.out bb_2) (fun hHeld=>?_)
   clear hK K
   try dsimp only [Act.put]
   refine tkA (i:=14) (v:=(.agg #[.int .i64 link,.slice aD (sealL master key mt L).length cD])) rfl hHeld ?_
   try dsimp only [Act.put]
   refine rdy1 15 (fun K hK=>?_)
   go_simp
   obtain ⟨U_3,hU_3⟩:∃ y,y = w_2.alloc (Obj.cells #[.int .i64 link,.slice aD (sealL master key mt L).length cD] 49):=⟨_,rfl⟩
   have k_3:Blk U_3 w_2.heap.size 49 [.int .i64 link,.slice aD (sealL master key mt L).length cD]:=by rw [hU_3];exact Blk.new _ _ _
   have bb_3:Below V.heap.size V U_3:=by rw [hU_3];exact bb_2.trans ((below_newS _ _).mono bb_2.size)
   rw [← hU_3]
   clear hU_3
   refine hK.out _ _ (keep.out bb_3) (fun hHeld=>?_)
   clear hK K
   try dsimp only [Act.put]
   refine rdy1 16 (fun K hK=>?_)
   have hV4:=KSV.out bb_3
   have row4:=hV4.srow
   rw [← HNS.out] at row4
   rw [if_pos (by rfl)]
   refine wp_append_Sn _ _ rfl B sv nS _ rfl row4 ⟨w_2.heap.size,0,none⟩ 1 1 [.int .i64 link,.slice aD (sealL master key mt L).length cD] rfl rfl (newsB k_3) (by intro u hu;simp at hu;rcases hu with rfl | rfl <;> rfl) (by unfold maxLen;omega) (by omega) (Nat.le_trans hBV bb_3.size) ?_
   intro v_4 w_4 rw_4 gr_4 at_4
   obtain ⟨a2,c2,rfl⟩:=ownS rw_4
   have FIN:=hidS (SesV.sent HNS.out HMS.out HPV.out hV4 hBV bb_3 gr_4 row4 rw_4 at_4 KB.out)
   have cF:w_4.cell? ⟨gS,10,none⟩ = some sv:=FIN.out.1
   have fF:=FIN.out.2.1
   have SF:=FIN.out.2.2.1
   clear hV4 row4 rw_4 gr_4 at_4
   refine hK.out _ _ SF (fun hHeld=>?_)
   clear hK K
   try dsimp only [Act.put]
   refine tkA (i:=17) (v:=(.pointer (some ⟨gS,0,none⟩))) rfl hHeld ?_
   dsimp only [Act.put,List.getElem_toArray,List.getElem_cons_zero,List.getElem_cons_succ]
   simp only [List.setIfInBounds_toArray,List.set_cons_succ,List.set_cons_zero]
   refine tkA (i:=18) (v:=(.pointer (some ⟨gS,10,none⟩))) rfl hHeld ?_
   try dsimp only [Act.put]
   refine rdy1 19 (fun K hK=>?_)
   go_simp
   refine hK.out _ _ FIN.out.2.2.2.1 (fun hHeld=>?_)
   clear hK K
   try dsimp only [Act.put]
   refine wpAnyH_done (by kernel_rfl) ?_ _
   clear hHeld
   refine bodyPost_end (results_none rfl _ _ _) rfl ⟨rfl,⟨aD,cD,FIN.out.2.2.2.2.1⟩,HBV.out.trans FIN.out.2.2.2.2.2.1,HSM.out.trans FIN.out.2.2.2.2.2.2.1,HKP.out.trans hsV FIN.out.2.2.2.2.2.2.2⟩
 · go_simp
   refine (HSE.out _ b_0).mono ?_
   rintro e w_6 ⟨v_6,rfl,own_6,b_6⟩
   obtain ⟨aD,cD,rfl,rD,hlowD,hcD⟩:=own_6.shape
   have bb_6:=b_0.trans (b_6.mono b_0.size)
   have HOW:=hidS own_6
   clear own_6 rD hlowD hcD b_6
   go_wp2_with fail
   refine hK.out _ _ (keep.out bb_6) (fun hHeld=>?_)
   clear hK K
   try dsimp only [Act.put]
   refine tkA (i:=14) (v:=(.agg #[.int .i64 link,.slice aD (sealL master key mt L).length cD])) rfl hHeld ?_
   dsimp only [Act.put,List.getElem_toArray,List.getElem_cons_zero,List.getElem_cons_succ]
   simp only [List.setIfInBounds_toArray,List.set_cons_succ,List.set_cons_zero]
   refine wpAnyH_ready (rs:=[4,15]) (by kernel_rfl) (by simp) ?_
   refine AllReadyH.cons rfl (fun K hK=>?_) (AllReadyH.cons rfl (fun K hK=>?_) (AllReadyH.nil))
   · have hc7:w_6.cell? ⟨gS,10,none⟩ = some sv:=(KSV.out bb_6).c10
     go_simp
     refine hK.out _ _ (keep.out bb_6) (fun hHeld=>?_)
     clear hK K
     try dsimp only [Act.put]
     refine rdy1 15 (fun K hK=>?_)
     go_simp
     obtain ⟨U_8,hU_8⟩:∃ y,y = w_6.alloc (Obj.cells #[.int .i64 link,.slice aD (sealL master key mt L).length cD] 49):=⟨_,rfl⟩
     have k_8:Blk U_8 w_6.heap.size 49 [.int .i64 link,.slice aD (sealL master key mt L).length cD]:=by rw [hU_8];exact Blk.new _ _ _
     have bb_8:Below V.heap.size V U_8:=by rw [hU_8];exact bb_6.trans ((below_newS _ _).mono bb_6.size)
     rw [← hU_8]
     clear hU_8
     refine hK.out _ _ (keep.out bb_8) (fun hHeld=>?_)
     clear hK K
     try dsimp only [Act.put]
     refine rdy1 16 (fun K hK=>?_)
     have hV9:=KSV.out bb_8
     have row9:=hV9.srow
     rw [← HNS.out] at row9
     rw [if_pos (by rfl)]
     refine wp_append_Sn _ _ rfl B sv nS _ rfl row9 ⟨w_6.heap.size,0,none⟩ 1 1 [.int .i64 link,.slice aD (sealL master key mt L).length cD] rfl rfl (newsB k_8) (by intro u hu;simp at hu;rcases hu with rfl | rfl <;> rfl) (by unfold maxLen;omega) (by omega) (Nat.le_trans hBV bb_8.size) ?_
     intro v_9 w_9 rw_9 gr_9 at_9
     obtain ⟨a2,c2,rfl⟩:=ownS rw_9
     have FIN:=hidS (SesV.sent HNS.out HMS.out HPV.out hV9 hBV bb_8 gr_9 row9 rw_9 at_9 KB.out)
     have cF:w_9.cell? ⟨gS,10,none⟩ = some sv:=FIN.out.1
     have fF:=FIN.out.2.1
     have SF:=FIN.out.2.2.1
     clear hV9 row9 rw_9 gr_9 at_9
     refine hK.out _ _ SF (fun hHeld=>?_)
     clear hK K
     try dsimp only [Act.put]
     refine tkA (i:=17) (v:=(.pointer (some ⟨gS,0,none⟩))) rfl hHeld ?_
     try dsimp only [Act.put]
     refine tkA (i:=18) (v:=(.pointer (some ⟨gS,10,none⟩))) rfl hHeld ?_
     dsimp only [Act.put,List.getElem_toArray,List.getElem_cons_zero,List.getElem_cons_succ]
     simp only [List.setIfInBounds_toArray,List.set_cons_succ,List.set_cons_zero]
     refine rdy1 19 (fun K hK=>?_)
     go_simp
     refine hK.out _ _ FIN.out.2.2.2.1 (fun hHeld=>?_)
     clear hK K
     try dsimp only [Act.put]
     refine wpAnyH_done (by kernel_rfl) ?_ _
     clear hHeld
     refine bodyPost_end (results_none rfl _ _ _) rfl ⟨rfl,⟨aD,cD,FIN.out.2.2.2.2.1⟩,HBV.out.trans FIN.out.2.2.2.2.2.1,HSM.out.trans FIN.out.2.2.2.2.2.2.1,HKP.out.trans hsV FIN.out.2.2.2.2.2.2.2⟩
   · go_simp
     obtain ⟨U_11,hU_11⟩:∃ y,y = w_6.alloc (Obj.cells #[.int .i64 link,.slice aD (sealL master key mt L).length cD] 49):=⟨_,rfl⟩
     have k_11:Blk U_11 w_6.heap.size 49 [.int .i64 link,.slice aD (sealL master key mt L).length cD]:=by rw [hU_11];exact Blk.new _ _ _
     have bb_11:Below V.heap.size V U_11:=by rw [hU_11];exact bb_6.trans ((below_newS _ _).mono bb_6.size)
     rw [← hU_11]
     clear hU_11
     refine hK.out _ _ (keep.out bb_11) (fun hHeld=>?_)
     clear hK K
     try dsimp only [Act.put]
     refine rdy1 4 (fun K hK=>?_)
     have hc12:U_11.cell? ⟨gS,10,none⟩ = some sv:=(KSV.out bb_11).c10
     go_simp
     refine hK.out _ _ (keep.out bb_11) (fun hHeld=>?_)
     clear hK K
     try dsimp only [Act.put]
     refine rdy1 16 (fun K hK=>?_)
     have hV13:=KSV.out bb_11
     have row13:=hV13.srow
     rw [← HNS.out] at row13
     rw [if_pos (by rfl)]
     refine wp_append_Sn _ _ rfl B sv nS _ rfl row13 ⟨w_6.heap.size,0,none⟩ 1 1 [.int .i64 link,.slice aD (sealL master key mt L).length cD] rfl rfl (newsB k_11) (by intro u hu;simp at hu;rcases hu with rfl | rfl <;> rfl) (by unfold maxLen;omega) (by omega) (Nat.le_trans hBV bb_11.size) ?_
     intro v_13 w_13 rw_13 gr_13 at_13
     obtain ⟨a2,c2,rfl⟩:=ownS rw_13
     have FIN:=hidS (SesV.sent HNS.out HMS.out HPV.out hV13 hBV bb_11 gr_13 row13 rw_13 at_13 KB.out)
     have cF:w_13.cell? ⟨gS,10,none⟩ = some sv:=FIN.out.1
     have fF:=FIN.out.2.1
     have SF:=FIN.out.2.2.1
     clear hV13 row13 rw_13 gr_13 at_13
     refine hK.out _ _ SF (fun hHeld=>?_)
     clear hK K
     try dsimp only [Act.put]
     refine tkA (i:=17) (v:=(.pointer (some ⟨gS,0,none⟩))) rfl hHeld ?_
     try dsimp only [Act.put]
     refine tkA (i:=18) (v:=(.pointer (some ⟨gS,10,none⟩))) rfl hHeld ?_
     dsimp only [Act.put,List.getElem_toArray,List.getElem_cons_zero,List.getElem_cons_succ]
     simp only [List.setIfInBounds_toArray,List.set_cons_succ,List.set_cons_zero]
     refine rdy1 19 (fun K hK=>?_)
     go_simp
     refine hK.out _ _ FIN.out.2.2.2.1 (fun hHeld=>?_)
     clear hK K
     try dsimp only [Act.put]
     refine wpAnyH_done (by kernel_rfl) ?_ _
     clear hHeld
     refine bodyPost_end (results_none rfl _ _ _) rfl ⟨rfl,⟨aD,cD,FIN.out.2.2.2.2.1⟩,HBV.out.trans FIN.out.2.2.2.2.2.1,HSM.out.trans FIN.out.2.2.2.2.2.2.1,HKP.out.trans hsV FIN.out.2.2.2.2.2.2.2⟩
end Go.Proofs.YtbkokcjolanpeaaGreatDoor
