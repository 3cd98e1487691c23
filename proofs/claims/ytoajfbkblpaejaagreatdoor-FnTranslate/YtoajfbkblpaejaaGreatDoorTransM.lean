import Derived.Test.YtoajfbkblpaejaaGreatDoorTransI
namespace Go.Proofs.YtoajfbkblpaejaaGreatDoor
open Go.RowKit
abbrev zeroPT:List Value:=[.int .i64 0,.string emptyS]
theorem Tryz.zeroPT:(Tryz.prog.info? 36).map (fun i=>(i.zero,i.size)) = some (some (.agg zeroPT.toArray),2):=by kernel_rfl
theorem grown_setRow' (w:World) (g:Nat) (cs:Array Value):w.grownBy (w.setRow g cs) (some g):=⟨rfl,rfl,rfl,by simp,fun k _ hk=>setRow_other w g k _ (fun e=>hk (by simp [e]))⟩
theorem own_rowB {w:World} {base n c:Nat} {a:Option Addr} {l:List UInt8} (h:Own w base (.slice a n c) l):RowAt w a l:=by
 obtain ⟨ao,cap,hv,row,-⟩:=h.shape
 simp only [Value.slice.injEq] at hv
 rw [hv.1]
 exact row
set_option maxRecDepth 100000 in
set_option maxHeartbeats 8000000 in
theorem move_any (K T block draws:List UInt8) (af ak at_ ab ad:Option Addr) (nf cf nk ck nt ct cb cd:Nat) (ff tf:Int) (pan:ByteArray) (u:Nat) (pv:Value) (w:World) (hKl:K.length = 16) (hTl:T.length = 16) (hnb:block.length ≤ 1048576) (hnd:draws.length ≤ 1048576) (hcb:block.length ≤ cb) (hcd:draws.length ≤ cd) (hp:pan.size ≤ maxLen) (hg:w.cell? ⟨2,0,none⟩ = some (.iface u pv)) (rb:RowAt w ab block) (rd:RowAt w ad draws) :
   Calls Tryz.prog 27 #[.agg ([.slice af nf cf,.int .i64 ff,.slice ak nk ck,.slice at_ nt ct,.int .i64 tf,.slice ab block.length cb,.string pan,.slice ad draws.length cd]:List Value).toArray,.agg (K.map byte).toArray,.agg (T.map byte).toArray] w fun e w'=>∃ v,e = .returned (.agg #[.int .i64 (mvC K block draws ff tf pan),v,.int .i64 (mvU K block draws ff tf pan)]) ∧ Own w' w.heap.size v (mvL K T block draws ff tf pan) ∧ Below w.heap.size w w':=by
 have hKm:(K.map byte).length = 16:=by rw [List.length_map,hKl]
 have hKs:(K.map byte).toArray.size = 16:=by simpa using hKl
 have hTs:(T.map byte).toArray.size = 16:=by simpa using hTl
 have hz:=(zero_of_info Tryz.zeroMv).1
 have hzp:=(zero_of_info Tryz.zeroPT).1
 have hg0:=World.block_lt_of_cell? w _ hg
 have hTd:=tdeaL_le K block true (by omega) hnb
 have HT1:=hide (fun (g:Nat) (wx:World) (h1:RowAt wx (some ⟨g,0,none⟩) K) (h2:RowAt wx ab block)=>tdea_all K block true (some ⟨g,0,none⟩) ab 16 cb wx (by omega) hnb (by omega) hcb h1 h2)
 have HRD:=hide (fun (a:Option Addr) (c:Nat) (wx:World) (h1:wx.cell? ⟨2,0,none⟩ = some (.iface u pv)) (h2:RowAt wx a (tdeaL K block true))=>readI_all ff (tdeaL K block true) pan a c u pv wx hp hTd h1 h2)
 rw [hKl] at HT1
 obtain ⟨RC,RP,hrv,hrd⟩:∃ (RC:Int) (RP:ByteArray),readV (readOK ff (tdeaL K block true) pan) (readD (tdeaL K block true) pan) = .agg #[.int .i64 RC,.string RP] ∧ ((mvOK K block ff pan = true ∧ RC = 0 ∧ mvP K block pan = RP) ∨ (mvOK K block ff pan = false ∧ RC = 1 ∧ emptyS = RP)):=by
   cases hm:mvOK K block ff pan with
   | true=>exact ⟨0,mvP K block pan,by rw [show readOK ff (tdeaL K block true) pan = true from hm];rfl,.inl ⟨rfl,rfl,rfl⟩⟩
   | false=>exact ⟨1,emptyS,by rw [show readOK ff (tdeaL K block true) pan = false from hm];rfl,.inr ⟨rfl,rfl,rfl⟩⟩
 rw [hrv] at HRD
 have HMK:=hide (fun (a:Option Addr) (c:Nat) (wx:World) (h1:draws.length ≤ c) (h2:RowAt wx a draws)=>(make_any tf (mvP K block pan) pan draws (mvP_size _ _ _) hp hnd).1 a c wx h1 h2)
 have hMC:=mkC_cases tf (mvP K block pan) pan draws.length
 have HT2:=hide (fun (a:Option Addr) (c:Nat) (wx:World) (h0:(mkL tf (mvP K block pan) pan draws).length ≤ c) (h1:RowAt wx (some ⟨(w.heap.size + 1 + 1),0,none⟩) T) (h2:RowAt wx a (mkL tf (mvP K block pan) pan draws))=>tdea_all T (mkL tf (mvP K block pan) pan draws) false (some ⟨(w.heap.size + 1 + 1),0,none⟩) a 16 c wx (by omega) (by have:=mkL_le tf (mvP K block pan) pan draws;omega) (by omega) h0 h1 h2)
 rw [hTl] at HT2
 have HY:Hid (mvOK K block ff pan = true → mvC K block draws ff tf pan = (if mkC tf (mvP K block pan) pan draws.length = 1 then 4 else if mkC tf (mvP K block pan) pan draws.length = 2 then 5 else 0) ∧ mvL K T block draws ff tf pan = (if mkC tf (mvP K block pan) pan draws.length = 0 then tdeaL T (mkL tf (mvP K block pan) pan draws) false else []) ∧ mvU K block draws ff tf pan = (if mkC tf (mvP K block pan) pan draws.length = 0 then mkU tf (mvP K block pan) pan draws.length else 0)):=by
   intro h;unfold mvC mvL mvU;rw [h];exact ⟨rfl,rfl,rfl⟩
 have HNo:Hid (mvOK K block ff pan = false → mvC K block draws ff tf pan = 4 ∧ mvL K T block draws ff tf pan = [] ∧ mvU K block draws ff tf pan = 0):=by
   intro h;unfold mvC mvL mvU;rw [h];exact ⟨rfl,rfl,rfl⟩
 obtain ⟨P,hP⟩:∃ P,P = mvP K block pan:=⟨_,rfl⟩
 rw [← hP] at HY HMK HT2 hMC hrd
 obtain ⟨MC,hMCe⟩:∃ C,C = mkC tf P pan draws.length:=⟨_,rfl⟩
 obtain ⟨MU,hMUe⟩:∃ C,C = mkU tf P pan draws.length:=⟨_,rfl⟩
 rw [← hMCe] at HY hMC HMK
 rw [← hMUe] at HY HMK
 have HRR:=hide hrd
 clear hP hMCe hMUe hrv hrd
 obtain ⟨D,hD⟩:∃ D,D = tdeaL K block true:=⟨_,rfl⟩
 rw [← hD] at HT1 HRD
 clear hD hTd
 obtain ⟨nb,hnbl⟩:∃ n,n = block.length:=⟨_,rfl⟩
 obtain ⟨nd,hndl⟩:∃ n,n = draws.length:=⟨_,rfl⟩
 rw [← hnbl] at HT1 ⊢
 rw [← hndl] at HMK ⊢
 have HNB:=hide hnbl
 have HND:=hide hndl
 clear hnbl hndl
 obtain ⟨W,hW⟩:∃ W,W = (((w.alloc (.cells ([.slice af nf cf,.int .i64 ff,.slice ak nk ck,.slice at_ nt ct,.int .i64 tf,.slice ab nb cb,.string pan,.slice ad nd cd]:List Value).toArray 24)).alloc (.cells (K.map byte).toArray 67)).alloc (.cells (T.map byte).toArray 67)).alloc (.cells zeroMv.toArray 28):=⟨_,rfl⟩
 have k0:Blk W w.heap.size 24 [.slice af nf cf,.int .i64 ff,.slice ak nk ck,.slice at_ nt ct,.int .i64 tf,.slice ab nb cb,.string pan,.slice ad nd cd]:=by rw [hW];exact (((Blk.new w _ _).alloc _).alloc _).alloc _
 have k1:Blk W (w.heap.size + 1) 67 (K.map byte):=by rw [hW];exact ((Blk.new2 w _ _ _).alloc _).alloc _
 have k2:Blk W (w.heap.size + 1 + 1) 67 (T.map byte):=by rw [hW];exact (Blk.newAt _ _ _ _ (by simp)).alloc _
 have k3:Blk W (w.heap.size + 1 + 1 + 1) 28 zeroMv:=by rw [hW];exact Blk.newAt _ _ _ _ (by simp)
 have bW:Below w.heap.size w W:=by rw [hW];exact ((((Below.refl _ w).alloc (Nat.le_refl _) _).alloc (by simp) _).alloc (by simp;omega) _).alloc (by simp;omega) _
 have hgW:=(bW.cell (p:=⟨2,0,none⟩) hg0).trans hg
 have rbW:=rb.below bW
 have rdW:=rd.below bW
 have lW:=k3.lt
 have HK:Hid (∀ {x},Below W.heap.size W x → Blk x w.heap.size 24 [.slice af nf cf,.int .i64 ff,.slice ak nk ck,.slice at_ nt ct,.int .i64 tf,.slice ab nb cb,.string pan,.slice ad nd cd] ∧ Blk x (w.heap.size + 1) 67 (K.map byte) ∧ Blk x (w.heap.size + 1 + 1) 67 (T.map byte) ∧ Blk x (w.heap.size + 1 + 1 + 1) 28 zeroMv ∧ x.cell? ⟨2,0,none⟩ = some (.iface u pv) ∧ RowAt x ab block ∧ RowAt x ad draws ∧ Below w.heap.size w x):=by
   intro x hx
   have hb:Below w.heap.size w x:=bW.trans (hx.mono bW.size)
   exact ⟨k0.below hx k0.lt,k1.below hx k1.lt,k2.below hx k2.lt,k3.below hx k3.lt,(hb.cell (p:=⟨2,0,none⟩) hg0).trans hg,rb.below hb,rd.below hb,hb⟩
 clear k0 k1 k2 k3 hgW rbW rdW rb rd hg bW
 go_enter Tryz.func27,Tryz.ntmps27
 go_upto_region 1 with fail
 rw [← hW]
 clear hW
 go_cut [7] (fun p wx=>∃ G,p = .pointer (some ⟨G,0,none⟩) ∧ W.heap.size ≤ G ∧ Blk wx G 36 [.int .i64 RC,.string RP] ∧ Below W.heap.size W wx)
 case first =>
   obtain ⟨V,hV⟩:∃ V,V = World.drew W:=⟨_,rfl⟩
   have b_0:Below W.heap.size W V:=by rw [hV];exact (Below.refl _ _).drew
   have hWV:=b_0.size
   have keep:Hid (∀ {x},Below W.heap.size W x → x.cell? ⟨w.heap.size,1,none⟩ = some (.int .i64 ff) ∧ x.cell? ⟨w.heap.size,5,none⟩ = some (.slice ab nb cb) ∧ x.cell? ⟨w.heap.size,6,none⟩ = some (.string pan)):=fun h=>⟨(HK.out h).1.cell 1 (by simp),(HK.out h).1.cell 5 (by simp),(HK.out h).1.cell 6 (by simp)⟩
   refine wp_region_held_drew (S:=fun x=>x.cell? ⟨w.heap.size,1,none⟩ = some (.int .i64 ff) ∧ x.cell? ⟨w.heap.size,5,none⟩ = some (.slice ab nb cb) ∧ x.cell? ⟨w.heap.size,6,none⟩ = some (.string pan)) (by kernel_rfl) (by rw [← hV];exact keep.out b_0) (fun hHeld=>?_)
   rw [← hV] at hHeld ⊢
   clear hV
   refine tk (i:=0) (v:=(.pointer (some ⟨w.heap.size,1,none⟩))) rfl (Or.inl ⟨by rfl,?_⟩) hHeld ?_
   · intro _ _;go_simp
   dsimp only [Act.put,List.getElem_toArray,List.getElem_cons_zero,List.getElem_cons_succ]
   simp only [List.setIfInBounds_toArray,List.set_cons_succ,List.set_cons_zero]
   refine tk (i:=1) (v:=(.int .i64 ff)) rfl (Or.inl ⟨by rfl,fun w1 h=>by have hc:=h.1;go_simp⟩) hHeld ?_
   dsimp only [Act.put,List.getElem_toArray,List.getElem_cons_zero,List.getElem_cons_succ]
   simp only [List.setIfInBounds_toArray,List.set_cons_succ,List.set_cons_zero]
   refine tk (i:=2) (v:=(.slice (some ⟨(w.heap.size + 1),0,none⟩) 16 16)) rfl (Or.inl ⟨by rfl,?_⟩) hHeld ?_
   · intro _ _;go_simp
   dsimp only [Act.put,List.getElem_toArray,List.getElem_cons_zero,List.getElem_cons_succ]
   simp only [List.setIfInBounds_toArray,List.set_cons_succ,List.set_cons_zero]
   refine tk (i:=3) (v:=(.pointer (some ⟨w.heap.size,5,none⟩))) rfl (Or.inl ⟨by rfl,?_⟩) hHeld ?_
   · intro _ _;go_simp
   dsimp only [Act.put,List.getElem_toArray,List.getElem_cons_zero,List.getElem_cons_succ]
   simp only [List.setIfInBounds_toArray,List.set_cons_succ,List.set_cons_zero]
   refine tk (i:=4) (v:=(.slice ab nb cb)) rfl (Or.inl ⟨by rfl,fun w1 h=>by have hc:=h.2.1;go_simp⟩) hHeld ?_
   dsimp only [Act.put,List.getElem_toArray,List.getElem_cons_zero,List.getElem_cons_succ]
   simp only [List.setIfInBounds_toArray,List.set_cons_succ,List.set_cons_zero]
   refine tk (i:=6) (v:=(.pointer (some ⟨w.heap.size,6,none⟩))) rfl (Or.inl ⟨by rfl,?_⟩) hHeld ?_
   · intro _ _;go_simp
   dsimp only [Act.put,List.getElem_toArray,List.getElem_cons_zero,List.getElem_cons_succ]
   simp only [List.setIfInBounds_toArray,List.set_cons_succ,List.set_cons_zero]
   refine tk (i:=7) (v:=(.string pan)) rfl (Or.inl ⟨by rfl,fun w1 h=>by have hc:=h.2.2;go_simp⟩) hHeld ?_
   dsimp only [Act.put,List.getElem_toArray,List.getElem_cons_zero,List.getElem_cons_succ]
   simp only [List.setIfInBounds_toArray,List.set_cons_succ,List.set_cons_zero]
   refine wpAnyH_ready (rs:=[5,9]) (by kernel_rfl) (by simp) ?_
   refine AllReadyH.cons rfl (fun KQ hK=>?_) (AllReadyH.cons rfl (fun KQ hK=>?_) (AllReadyH.nil))
   · go_simp
     refine (HT1.out _ _ (rowAt_block (HK.out b_0).2.1) (HK.out b_0).2.2.2.2.2.1).mono ?_
     rintro e w_1 ⟨v_1,rfl,own_1,bel_1⟩
     have b_1:=b_0.trans (bel_1.mono (by have:=b_0.size;omega))
     obtain ⟨aD,cD,rfl,rD,-,-,-⟩:=own_1.shape
     clear own_1
     go_wp2_with fail
     refine hK.out _ _ (keep.out b_1) (fun hHeld=>?_)
     clear hK KQ
     try dsimp only [Act.put]
     refine wpAnyH_ready (rs:=[8,9]) (by kernel_rfl) (by simp) ?_
     refine AllReadyH.cons rfl (fun KQ hK=>?_) (AllReadyH.cons rfl (fun KQ hK=>?_) (AllReadyH.nil))
     · go_simp
       refine (HRD.out _ _ _ (HK.out b_1).2.2.2.2.1 rD).mono ?_
       rintro e w_2 ⟨rfl,bel_2⟩
       have rD_2:=rD.below bel_2
       have b_2:=b_1.trans (bel_2.mono (by have:=b_1.size;omega))
       go_wp2_with fail
       refine hK.out _ _ (keep.out b_2) (fun hHeld=>?_)
       clear hK KQ
       try dsimp only [Act.put]
       refine rdy1 9 (fun KQ hK=>?_)
       go_simp
       obtain ⟨w_3,hw_3⟩:∃ x,x = World.alloc w_2 (.cells (zeroPT).toArray 36):=⟨_,rfl⟩
       have bel_3:Below w_2.heap.size w_2 w_3:=by rw [hw_3];exact below_new _ _
       have G_3:Blk w_3 w_2.heap.size 36 (zeroPT):=by rw [hw_3];exact Blk.new _ _ _
       have le_G_3:=b_2.size
       have lt_G_3:=G_3.lt
       have rD_3:=rD_2.below bel_3
       have b_3:=below_step b_2 bel_3
       rw [← hw_3]
       clear hw_3
       refine hK.out _ _ (keep.out b_3) (fun hHeld=>?_)
       clear hK KQ
       try dsimp only [Act.put]
       refine rdy1 10 (fun KQ hK=>?_)
       rw [if_pos (by rfl)]
       refine wp_store_blk rfl 36 _ _ rfl w_2.heap.size rfl rfl G_3 (by kernel_rfl) rfl (by kernel_rfl) ?_
       have G_4:=Blk.setRow G_3 ([.int .i64 RC,.string RP])
       have b_4:=below_setRow' (g:=w_2.heap.size) b_3 le_G_3 ([.int .i64 RC,.string RP]).toArray
       refine hK.out _ _ (keep.out b_4) (fun hHeld=>?_)
       clear hK KQ
       try dsimp only [Act.put]
       refine wpAnyH_done (by kernel_rfl) ?_ _
       go_wp2_with fail
       go_meet
       case rel=>exact ⟨_,rfl,le_G_3,G_4,b_4⟩
     · go_simp
       obtain ⟨w_5,hw_5⟩:∃ x,x = World.alloc w_1 (.cells (zeroPT).toArray 36):=⟨_,rfl⟩
       have bel_5:Below w_1.heap.size w_1 w_5:=by rw [hw_5];exact below_new _ _
       have G_5:Blk w_5 w_1.heap.size 36 (zeroPT):=by rw [hw_5];exact Blk.new _ _ _
       have le_G_5:=b_1.size
       have lt_G_5:=G_5.lt
       have rD_5:=rD.below bel_5
       have b_5:=below_step b_1 bel_5
       rw [← hw_5]
       clear hw_5
       refine hK.out _ _ (keep.out b_5) (fun hHeld=>?_)
       clear hK KQ
       try dsimp only [Act.put]
       refine rdy1 8 (fun KQ hK=>?_)
       go_simp
       refine (HRD.out _ _ _ (HK.out b_5).2.2.2.2.1 rD_5).mono ?_
       rintro e w_6 ⟨rfl,bel_6⟩
       have rD_6:=rD_5.below bel_6
       have G_6:=G_5.below bel_6 G_5.lt
       have b_6:=b_5.trans (bel_6.mono (by have:=b_5.size;omega))
       go_wp2_with fail
       refine hK.out _ _ (keep.out b_6) (fun hHeld=>?_)
       clear hK KQ
       try dsimp only [Act.put]
       refine rdy1 10 (fun KQ hK=>?_)
       rw [if_pos (by rfl)]
       refine wp_store_blk rfl 36 _ _ rfl w_1.heap.size rfl rfl G_6 (by kernel_rfl) rfl (by kernel_rfl) ?_
       have G_7:=Blk.setRow G_6 ([.int .i64 RC,.string RP])
       have b_7:=below_setRow' (g:=w_1.heap.size) b_6 le_G_5 ([.int .i64 RC,.string RP]).toArray
       refine hK.out _ _ (keep.out b_7) (fun hHeld=>?_)
       clear hK KQ
       try dsimp only [Act.put]
       refine wpAnyH_done (by kernel_rfl) ?_ _
       go_wp2_with fail
       go_meet
       case rel=>exact ⟨_,rfl,le_G_5,G_7,b_7⟩
   · go_simp
     obtain ⟨w_8,hw_8⟩:∃ x,x = World.alloc V (.cells (zeroPT).toArray 36):=⟨_,rfl⟩
     have bel_8:Below V.heap.size V w_8:=by rw [hw_8];exact below_new _ _
     have G_8:Blk w_8 V.heap.size 36 (zeroPT):=by rw [hw_8];exact Blk.new _ _ _
     have le_G_8:=b_0.size
     have lt_G_8:=G_8.lt
     have b_8:=below_step b_0 bel_8
     rw [← hw_8]
     clear hw_8
     refine hK.out _ _ (keep.out b_8) (fun hHeld=>?_)
     clear hK KQ
     try dsimp only [Act.put]
     refine rdy1 5 (fun KQ hK=>?_)
     go_simp
     refine (HT1.out _ _ (rowAt_block (HK.out b_8).2.1) (HK.out b_8).2.2.2.2.2.1).mono ?_
     rintro e w_9 ⟨v_9,rfl,own_9,bel_9⟩
     have G_9:=G_8.below bel_9 G_8.lt
     have b_9:=b_8.trans (bel_9.mono (by have:=b_8.size;omega))
     obtain ⟨aD,cD,rfl,rD,-,-,-⟩:=own_9.shape
     clear own_9
     go_wp2_with fail
     refine hK.out _ _ (keep.out b_9) (fun hHeld=>?_)
     clear hK KQ
     try dsimp only [Act.put]
     refine rdy1 8 (fun KQ hK=>?_)
     go_simp
     refine (HRD.out _ _ _ (HK.out b_9).2.2.2.2.1 rD).mono ?_
     rintro e w_10 ⟨rfl,bel_10⟩
     have G_10:=G_9.below bel_10 G_9.lt
     have rD_10:=rD.below bel_10
     have b_10:=b_9.trans (bel_10.mono (by have:=b_9.size;omega))
     go_wp2_with fail
     refine hK.out _ _ (keep.out b_10) (fun hHeld=>?_)
     clear hK KQ
     try dsimp only [Act.put]
     refine rdy1 10 (fun KQ hK=>?_)
     rw [if_pos (by rfl)]
     refine wp_store_blk rfl 36 _ _ rfl V.heap.size rfl rfl G_10 (by kernel_rfl) rfl (by kernel_rfl) ?_
     have G_11:=Blk.setRow G_10 ([.int .i64 RC,.string RP])
     have b_11:=below_setRow' (g:=V.heap.size) b_10 le_G_8 ([.int .i64 RC,.string RP]).toArray
     refine hK.out _ _ (keep.out b_11) (fun hHeld=>?_)
     clear hK KQ
     try dsimp only [Act.put]
     refine wpAnyH_done (by kernel_rfl) ?_ _
     go_wp2_with fail
     go_meet
     case rel=>exact ⟨_,rfl,le_G_8,G_11,b_11⟩
 case rest =>
   obtain ⟨G,rfl,lG,kG,bc⟩:=hcut
   obtain ⟨k0,k1,k2,k3,hgc,rbc,rdc,hbc⟩:=HK.out bc
   have cG0:=kG.cell 0 (by simp)
   rcases HRR.out with ⟨hmv,hRC,hRP⟩ | ⟨hmv,hRC,hRP⟩
   · subst hRC hRP
     obtain ⟨HC0,HL0,HU0⟩:=HY.out hmv
     have HC:=hide HC0
     have HL:=hide HL0
     have HU:=hide HU0
     clear HC0 HL0 HU0 hmv
     have cG1:=kG.cell 1 (by simp)
     have c4:=k0.cell 4 (by simp)
     have c6:=k0.cell 6 (by simp)
     have c7:=k0.cell 7 (by simp)
     clear k0 k1
     go_wp2_with fail
     refine (HMK.out _ _ wc (by rw [HND.out];exact hcd) rdc).mono ?_
     rintro e w4 ⟨v4,rfl,own4,bel4⟩
     obtain ⟨aP,cP,rfl,rP,hcP⟩:=own_shape2 own4
     have hle4:=bel4.size
     have b4:Below W.heap.size W w4:=bc.trans (bel4.mono bc.size)
     obtain ⟨-,-,k2',k3',-,-,-,hb4⟩:=HK.out b4
     obtain ⟨l,hl⟩:∃ l,l = (mkL tf P pan draws).length:=⟨_,rfl⟩
     rw [← hl] at hcP own4 HT2 ⊢
     clear hl cG0 cG1 c4 c6 c7 k2 k3 kG rbc rdc hgc hbc bc bel4 own4
     obtain ⟨W5,hW5⟩:∃ x,x = w4.alloc (.cells #[.int .i64 MC,.slice aP l cP,.int .i64 MU] 40):=⟨_,rfl⟩
     have HW5:=hide hW5
     have k5:Blk W5 w4.heap.size 40 [.int .i64 MC,.slice aP l cP,.int .i64 MU]:=by rw [hW5];exact Blk.new _ _ _
     have b45:Below w4.heap.size w4 W5:=by rw [hW5];exact below_new _ _
     have b5:Below W.heap.size W W5:=b4.trans (b45.mono b4.size)
     obtain ⟨-,-,k2,k3,-,-,-,hb5⟩:=HK.out b5
     have rP5:=rP.below b45
     clear rP k2' k3' hb4
     rcases hMC with hM | hM | hM
     · rw [hM] at HC HU HL
       simp only [] at HC HU HL
       subst hM
       clear hW5
       go_upto_region 10 with fail
       rw [← show W5 = _ from HW5]
       clear HW5
       obtain ⟨V,hV⟩:∃ V,V = World.drew W5:=⟨_,rfl⟩
       have bV:Below W.heap.size W V:=by rw [hV];exact b5.drew
       have kV5:Blk V w4.heap.size 40 [.int .i64 0,.slice aP l cP,.int .i64 MU]:=by rw [hV];exact k5.drew1
       have rPV:RowAt V aP (mkL tf P pan draws):=by rw [hV];exact rP5.drew1
       obtain ⟨-,-,kV2,kV3,-,-,-,hbV⟩:=HK.out bV
       have rTV:RowAt V (some ⟨(w.heap.size + 1 + 1),0,none⟩) T:=rowAt_block kV2
       obtain ⟨GP,hGP⟩:∃ x,x = w4.heap.size:=⟨_,rfl⟩
       have hbW4:=b4.size
       rw [← hGP] at kV5 hbW4 ⊢
       have lV:=kV5.lt
       have b_0:Below (w.heap.size + 1 + 1 + 1) V V:=Below.refl _ _
       have kk3:Hid (Blk V GP 40 [.int .i64 0,.slice aP l cP,.int .i64 MU]):=kV5
       have keep:Hid (∀ {P:Prop},P → P):=fun h=>h
       have s0:V.cell? ⟨GP,1,none⟩ = some (.slice aP l cP) ∧ V.cell? ⟨GP,2,none⟩ = some (.int .i64 MU):=⟨kV5.cell 1 (by simp),kV5.cell 2 (by simp)⟩
       refine wp_region_held_drew (S:=fun x=>x.cell? ⟨GP,1,none⟩ = some (.slice aP l cP) ∧ x.cell? ⟨GP,2,none⟩ = some (.int .i64 MU)) (by kernel_rfl) (by rw [← hV];exact s0) (fun hHeld=>?_)
       rw [← hV] at hHeld ⊢
       clear hV k5 k2 k3 hb5 rP5 b45 b5 b4 hGP kV2
       refine tk (i:=0) (v:=(.slice (some ⟨(w.heap.size + 1 + 1),0,none⟩) 16 16)) rfl (Or.inl ⟨by rfl,?_⟩) hHeld ?_
       · intro _ _;go_simp
       dsimp only [Act.put,List.getElem_toArray,List.getElem_cons_zero,List.getElem_cons_succ]
       simp only [List.setIfInBounds_toArray,List.set_cons_succ,List.set_cons_zero]
       refine tk (i:=1) (v:=(.pointer (some ⟨GP,1,none⟩))) rfl (Or.inl ⟨by rfl,?_⟩) hHeld ?_
       · intro _ _;go_simp
       dsimp only [Act.put,List.getElem_toArray,List.getElem_cons_zero,List.getElem_cons_succ]
       simp only [List.setIfInBounds_toArray,List.set_cons_succ,List.set_cons_zero]
       refine tk (i:=2) (v:=(.slice aP l cP)) rfl (Or.inl ⟨by rfl,fun w1 h=>by have hc:=h.1;go_simp⟩) hHeld ?_
       dsimp only [Act.put,List.getElem_toArray,List.getElem_cons_zero,List.getElem_cons_succ]
       simp only [List.setIfInBounds_toArray,List.set_cons_succ,List.set_cons_zero]
       refine tk (i:=4) (v:=(.pointer (some ⟨GP,2,none⟩))) rfl (Or.inl ⟨by rfl,?_⟩) hHeld ?_
       · intro _ _;go_simp
       dsimp only [Act.put,List.getElem_toArray,List.getElem_cons_zero,List.getElem_cons_succ]
       simp only [List.setIfInBounds_toArray,List.set_cons_succ,List.set_cons_zero]
       refine tk (i:=5) (v:=(.int .i64 MU)) rfl (Or.inl ⟨by rfl,fun w1 h=>by have hc:=h.2;go_simp⟩) hHeld ?_
       dsimp only [Act.put,List.getElem_toArray,List.getElem_cons_zero,List.getElem_cons_succ]
       simp only [List.setIfInBounds_toArray,List.set_cons_succ,List.set_cons_zero]
       refine rdy1 3 (fun KQ hK=>?_)
       go_simp
       refine (HT2.out _ _ _ hcP rTV rPV).mono ?_
       rintro e w_1 ⟨v_1,rfl,own_1,bel_1⟩
       have G_1:=kV3.below bel_1 kV3.lt
       have b_1:=b_0.trans (bel_1.mono (by have:=b_0.size;omega))
       have kx:=kk3.out.below bel_1 lV
       have s1:w_1.cell? ⟨GP,1,none⟩ = some (.slice aP l cP) ∧ w_1.cell? ⟨GP,2,none⟩ = some (.int .i64 MU):=⟨kx.cell 1 (by simp),kx.cell 2 (by simp)⟩
       obtain ⟨aV,cV,rfl,-,-,-,-⟩:=own_1.shape
       go_wp2_with fail
       refine hK.out _ _ (keep.out s1) (fun hHeld=>?_)
       clear hK KQ
       try dsimp only [Act.put]
       refine tk (i:=6) (v:=(.agg #[.int .i64 0,.slice aV (tdeaL T (mkL tf P pan draws) false).length cV,.int .i64 MU])) rfl (Or.inl ⟨by rfl,?_⟩) hHeld ?_
       · intro _ _;go_simp
       dsimp only [Act.put,List.getElem_toArray,List.getElem_cons_zero,List.getElem_cons_succ]
       simp only [List.setIfInBounds_toArray,List.set_cons_succ,List.set_cons_zero]
       refine rdy1 7 (fun KQ hK=>?_)
       rw [if_pos (by rfl)]
       refine wp_store_blk rfl 28 _ _ rfl (w.heap.size + 1 + 1 + 1) rfl rfl G_1 (by kernel_rfl) rfl (by kernel_rfl) ?_
       have kz:=Blk.setRow G_1 ([.int .i64 0,.slice aV (tdeaL T (mkL tf P pan draws) false).length cV,.int .i64 MU])
       have s2:(World.setRow w_1 (w.heap.size + 1 + 1 + 1) ([.int .i64 0,.slice aV (tdeaL T (mkL tf P pan draws) false).length cV,.int .i64 MU]:List Value).toArray).cell? ⟨GP,1,none⟩ = some (.slice aP l cP) ∧ (World.setRow w_1 (w.heap.size + 1 + 1 + 1) ([.int .i64 0,.slice aV (tdeaL T (mkL tf P pan draws) false).length cV,.int .i64 MU]:List Value).toArray).cell? ⟨GP,2,none⟩ = some (.int .i64 MU):=by
         have kx2:=kx.setRow_other (g':=(w.heap.size + 1 + 1 + 1)) (cs:=([.int .i64 0,.slice aV (tdeaL T (mkL tf P pan draws) false).length cV,.int .i64 MU]:List Value).toArray) (by omega)
         exact ⟨kx2.cell 1 (by simp),kx2.cell 2 (by simp)⟩
       refine hK.out _ _ (keep.out s2) (fun hHeld=>?_)
       clear hK KQ
       try dsimp only [Act.put]
       refine wpAnyH_done (by kernel_rfl) ?_ _
       go_wp2_with fail
       exact ⟨rfl,_,results_blk Tryz.results27 _ _ rfl kz Tryz.underlying28 rfl (by kernel_rfl),⟨_,by rw [HC.out,HU.out];rfl,by rw [HL.out];exact own_base (own_1.grown (grown_setRow' _ _ _) (own_not own_1 (by omega))) (by omega),below_setRow' (hbV.trans (bel_1.mono hbV.size)) (by omega) _⟩⟩
     · rw [hM] at HC HU HL
       simp only [] at HC HU HL
       subst hM
       rw [hW5] at k3 hb5
       clear hW5 HW5 k5 k2 rP5 b5 b45
       go_wp2_with (refine store_blk rfl 28 _ _ rfl (w.heap.size + 1 + 1 + 1) rfl rfl k3 (by kernel_rfl) rfl (by kernel_rfl) ?_;intro w7 hb7 hg7 hs7)
       exact ⟨rfl,_,results_blk Tryz.results27 _ _ rfl hb7 Tryz.underlying28 rfl (by kernel_rfl),⟨_,by rw [HC.out,HU.out];rfl,by rw [HL.out];exact own_nil _ _,hb5.grown hg7 hb5.size (by intro k hk;cases hk;omega)⟩⟩
     · rw [hM] at HC HU HL
       simp only [] at HC HU HL
       subst hM
       rw [hW5] at k3 hb5
       clear hW5 HW5 k5 k2 rP5 b5 b45
       go_wp2_with (refine store_blk rfl 28 _ _ rfl (w.heap.size + 1 + 1 + 1) rfl rfl k3 (by kernel_rfl) rfl (by kernel_rfl) ?_;intro w7 hb7 hg7 hs7)
       exact ⟨rfl,_,results_blk Tryz.results27 _ _ rfl hb7 Tryz.underlying28 rfl (by kernel_rfl),⟨_,by rw [HC.out,HU.out];rfl,by rw [HL.out];exact own_nil _ _,hb5.grown hg7 hb5.size (by intro k hk;cases hk;omega)⟩⟩
   · subst hRC hRP
     obtain ⟨HC0,HL0,HU0⟩:=HNo.out hmv
     have HC:=hide HC0
     have HL:=hide HL0
     have HU:=hide HU0
     clear HC0 HL0 HU0 hmv
     clear k0 k1 k2 kG rbc rdc hgc
     go_wp2_with (refine store_blk rfl 28 _ _ rfl (w.heap.size + 1 + 1 + 1) rfl rfl k3 (by kernel_rfl) rfl (by kernel_rfl) ?_;intro w7 hb7 hg7 hs7)
     exact ⟨rfl,_,results_blk Tryz.results27 _ _ rfl hb7 Tryz.underlying28 rfl (by kernel_rfl),⟨_,by rw [HC.out,HU.out],by rw [HL.out];exact own_nil _ _,hbc.grown hg7 hbc.size (by intro k hk;cases hk;omega)⟩⟩
end Go.Proofs.YtoajfbkblpaejaaGreatDoor
