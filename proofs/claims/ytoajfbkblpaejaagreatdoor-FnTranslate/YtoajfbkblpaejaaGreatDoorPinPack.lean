import Derived.Test.YtoajfbkblpaejaaGreatDoorPinSpec
import Derived.Deep.RegionHeld3
namespace Go.Proofs.YtoajfbkblpaejaaGreatDoor
open Go.RowKit
section
variable {P:Program} {o:Oper} {a:Act} {w:World} {K:Act → World → Prop} {Q:Exit → Act → World → Prop}
end
def packB (xs:List UInt8) (j:Nat):UInt8:=ofN (16 * (xs.getD (2 * j) 0).toNat + (xs.getD (2 * j + 1) 0).toNat)
def packL (xs:List UInt8):List UInt8:=(List.range 8).map (packB xs)
theorem packL_length (xs:List UInt8):(packL xs).length = 8:=by simp [packL]
set_option maxRecDepth 100000 in
set_option maxHeartbeats 2000000 in
theorem l4Pack_any (xs:List UInt8) (g cap:Nat) (w:World) (h16:xs.length = 16) (hx:∀ x ∈ xs,x.toNat < 16) (hr:RowAt w (some ⟨g,0,none⟩) xs) :
   Calls Tryz.prog 96 #[.slice (some ⟨g,0,none⟩) 16 cap] w fun e w'=>∃ v,e = .returned v ∧ OwnB w' w.heap.size v (packL xs) ∧ Below w.heap.size w w':=by
 obtain ⟨i0,hi,hz0,hz1,hz2⟩:=info_parts Tryz.info5
 have hglt:g < w.heap.size:=hr.blk (by omega)
 have HX:=hid_eq hx
 have HR:=hid_eq hr
 have HPL:=hid_eq (packL_length xs)
 clear hx hr
 go_enter Tryz.func96,Tryz.ntmps96
 go_wp2_with fail
 go_loopw [3,4] (fun v i wr=>∃ k:Nat,k ≤ 8 ∧ i = .int .i64 ((2 * k:Nat):Int) ∧ OwnB wr w.heap.size v ((packL xs).take k) ∧ Below w.heap.size w wr) (fun _ i _=>16 - (intOf i).toNat)
 case atStart=>exact ⟨0,by omega,rfl,World.ownsRow_nil _ _ _ _,Below.refl _ _⟩
 case round =>
   obtain ⟨k,hk,rfl,hown,hbel⟩:=hrel
   obtain ⟨a,ha⟩:∃ a,a = 2 * k:=⟨_,rfl⟩
   rw [← ha]
   have hll:((packL xs).take k).length = k:=by rw [List.length_take,HPL.out];omega
   by_cases hlt:k < 8
   · have ha16:a + 1 < 16:=by omega
     have hcell:∀ j,j < 16 → ∀ (h:j < xs.length),wr.cell? ⟨g,j,none⟩ = some (.int .u8 (xs[j].toNat:Int)):=by
       intro j hj h
       obtain ⟨b',o',he,hc⟩:=HR.out.at (k:=0) (by omega)
       cases he
       have h2:=hc j h
       rw [Nat.zero_add] at h2
       rw [hbel.cell (World.block_lt_of_cell? w _ h2),h2]
       simp [h]
     have hp0:=hcell a (by omega) (by omega)
     have hq0:=hcell (a + 1) (by omega) (by omega)
     have hpx:=HX.out (xs[a]'(by omega)) (List.getElem_mem _)
     have hqx:=HX.out (xs[a + 1]'(by omega)) (List.getElem_mem _)
     have HNX:Hid ((packL xs).take (k + 1) = (packL xs).take k ++ [ofN (16 * (xs[a]'(by omega)).toNat + (xs[a + 1]'(by omega)).toNat)]):=by
       show _ = _
       rw [take_snoc _ k (by rw [HPL.out];exact hlt)]
       congr 2
       simp only [packL,List.getElem_map,List.getElem_range,packB,← ha]
       rw [List.getD_eq_getElem?_getD,List.getD_eq_getElem?_getD,List.getElem?_eq_getElem (by omega),List.getElem?_eq_getElem (by omega)]
       rfl
     obtain ⟨p,hp⟩:∃ p,p = (xs[a]'(by omega)).toNat:=⟨_,rfl⟩
     obtain ⟨q,hq⟩:∃ q,q = (xs[a + 1]'(by omega)).toNat:=⟨_,rfl⟩
     rw [← hp] at hp0 hpx HNX
     rw [← hq] at hq0 hqx HNX
     obtain ⟨P16,hP16⟩:∃ P:Int,IntKind.u8.wrap ((p:Int) * 16) = P:=⟨_,rfl⟩
     obtain ⟨s,hs⟩:∃ s:Int,IntKind.u8.wrap (P16 + (q:Int)) = s:=⟨_,rfl⟩
     have hw3:IntKind.i64.wrap ((a:Int) + 1) = (a:Int) + 1:=by rw [IntKind.wrap_i64];omega
     have hb0:(0:Int) ≤ (a:Int) + 1:=by omega
     have hb1:(a:Int) + 1 < 16:=by omega
     have ha1:(a:Int) < 16:=by omega
     have hsv:Value.int .u8 s = byte (ofN (16 * p + q)):=by
       unfold byte ofN
       rw [UInt8.toNat_ofNat',← hs,← hP16,IntKind.wrap_u8,IntKind.wrap_u8]
       congr 1
       omega
     have Hsv:=hid_eq hsv
     obtain ⟨pre,hpre⟩:∃ pre,pre = (packL xs).take k:=⟨_,rfl⟩
     have hown0:=own_num hown hll
     rw [← hpre] at HNX hown0 hll
     obtain ⟨ao6,c6,hv6,-,-,-,-⟩:=hown.own.shape
     rw [show ((packL xs).take k).length = k from by rw [← hpre];exact hll] at hv6
     obtain ⟨vO,hvO⟩:∃ v,v = Value.slice ao6 k c6:=⟨_,rfl⟩
     rw [hv6,← hvO] at hown0 ⊢
     have Ha:=hid_eq ha
     clear hown hv6 hvO hpre hsv hcell hp hq ha
     go_upto_region 5 with fail
     obtain ⟨V,hV⟩:∃ V,V = World.drew wr:=⟨_,rfl⟩
     have bV:Below w.heap.size w V:=by rw [hV];exact hbel.drew
     have hwV:=bV.size
     have hown':V.ownsRow w.heap.size 5 1 vO k (pre.map byte):=by rw [hV];exact hown0
     have hpV:V.cell? ⟨g,a,none⟩ = some (.int .u8 (p:Int)):=by rw [hV];exact hp0
     have hqV:V.cell? ⟨g,a + 1,none⟩ = some (.int .u8 (q:Int)):=by rw [hV];exact hq0
     obtain ⟨S,hS⟩:∃ S:World → Prop,S = fun wx=>wx.cell? ⟨g,a,none⟩ = some (.int .u8 (p:Int)) ∧ wx.cell? ⟨g,a + 1,none⟩ = some (.int .u8 (q:Int)):=⟨_,rfl⟩
     have HSB:Hid (∀ {x},Below w.heap.size w x → S x):=by
       intro x hb
       have e1:=bV.cell (p:=⟨g,a,none⟩) hglt
       have e2:=bV.cell (p:=⟨g,a + 1,none⟩) hglt
       rw [hS]
       exact ⟨(hb.cell (p:=⟨g,a,none⟩) hglt).trans (e1.symm.trans hpV),(hb.cell (p:=⟨g,a + 1,none⟩) hglt).trans (e2.symm.trans hqV)⟩
     have keep:Hid (∀ {x},Below V.heap.size V x → S x):=fun h=>HSB.out (bV.trans (h.mono hwV))
     have b_0:Below V.heap.size V V:=Below.refl _ _
     have hS0:S wr.drew:=by rw [← hV];exact keep.out b_0
     rw [hS] at hS0
     clear hown0 hp0 hq0 hpV hqV hbel
     refine wp_region_held_drew (S:=S) (by kernel_rfl) (by rw [hS];exact hS0) (fun hHeld=>?_)
     rw [← hV] at hHeld ⊢
     clear hV hS0
     subst hS
     refine tk (i:=0) (v:=vO) rfl (Or.inl ⟨by rfl,?_⟩) hHeld ?_
     · intro _ hS_;obtain ⟨hS1_,hS2_⟩:=hS_;go_simp
     try dsimp only [Act.put]
     refine tk (i:=1) (v:=(.slice (some ⟨g,0,none⟩) 16 cap)) rfl (Or.inl ⟨by rfl,?_⟩) hHeld ?_
     · intro _ hS_;obtain ⟨hS1_,hS2_⟩:=hS_;go_simp
     dsimp only [Act.put,List.getElem_toArray,List.getElem_cons_zero,List.getElem_cons_succ]
     simp only [List.setIfInBounds_toArray,List.set_cons_succ,List.set_cons_zero]
     refine tk (i:=2) (v:=(.int .i64 (a:Int))) rfl (Or.inl ⟨by rfl,?_⟩) hHeld ?_
     · intro _ hS_;obtain ⟨hS1_,hS2_⟩:=hS_;go_simp
     try dsimp only [Act.put]
     refine tk (i:=3) (v:=(.pointer (some ⟨g,a,none⟩))) rfl (Or.inl ⟨by rfl,?_⟩) hHeld ?_
     · intro _ hS_;obtain ⟨hS1_,hS2_⟩:=hS_;go_simp
     dsimp only [Act.put,List.getElem_toArray,List.getElem_cons_zero,List.getElem_cons_succ]
     simp only [List.setIfInBounds_toArray,List.set_cons_succ,List.set_cons_zero]
     refine tk (i:=4) (v:=(.int .u8 (p:Int))) rfl (Or.inl ⟨by rfl,?_⟩) hHeld ?_
     · intro _ hS_;obtain ⟨hS1_,hS2_⟩:=hS_;go_simp
     try dsimp only [Act.put]
     refine tk (i:=5) (v:=(.int .u8 P16)) rfl (Or.inl ⟨by rfl,?_⟩) hHeld ?_
     · intro _ hS_;obtain ⟨hS1_,hS2_⟩:=hS_;go_simp
     dsimp only [Act.put,List.getElem_toArray,List.getElem_cons_zero,List.getElem_cons_succ]
     simp only [List.setIfInBounds_toArray,List.set_cons_succ,List.set_cons_zero]
     refine tk (i:=6) (v:=(.slice (some ⟨g,0,none⟩) 16 cap)) rfl (Or.inl ⟨by rfl,?_⟩) hHeld ?_
     · intro _ hS_;obtain ⟨hS1_,hS2_⟩:=hS_;go_simp
     try dsimp only [Act.put]
     refine tk (i:=7) (v:=(.int .i64 (a:Int))) rfl (Or.inl ⟨by rfl,?_⟩) hHeld ?_
     · intro _ hS_;obtain ⟨hS1_,hS2_⟩:=hS_;go_simp
     dsimp only [Act.put,List.getElem_toArray,List.getElem_cons_zero,List.getElem_cons_succ]
     simp only [List.setIfInBounds_toArray,List.set_cons_succ,List.set_cons_zero]
     refine tk (i:=8) (v:=(.int .i64 ((a:Int) + 1))) rfl (Or.inl ⟨by rfl,?_⟩) hHeld ?_
     · intro _ hS_;obtain ⟨hS1_,hS2_⟩:=hS_;go_simp
     try dsimp only [Act.put]
     refine tk (i:=9) (v:=(.pointer (some ⟨g,a + 1,none⟩))) rfl (Or.inl ⟨by rfl,?_⟩) hHeld ?_
     · intro _ hS_;obtain ⟨hS1_,hS2_⟩:=hS_;go_simp
     dsimp only [Act.put,List.getElem_toArray,List.getElem_cons_zero,List.getElem_cons_succ]
     simp only [List.setIfInBounds_toArray,List.set_cons_succ,List.set_cons_zero]
     refine tk (i:=10) (v:=(.int .u8 (q:Int))) rfl (Or.inl ⟨by rfl,?_⟩) hHeld ?_
     · intro _ hS_;obtain ⟨hS1_,hS2_⟩:=hS_;go_simp
     try dsimp only [Act.put]
     refine tk (i:=11) (v:=(.int .u8 s)) rfl (Or.inl ⟨by rfl,?_⟩) hHeld ?_
     · intro _ hS_;obtain ⟨hS1_,hS2_⟩:=hS_;go_simp
     dsimp only [Act.put,List.getElem_toArray,List.getElem_cons_zero,List.getElem_cons_succ]
     simp only [List.setIfInBounds_toArray,List.set_cons_succ,List.set_cons_zero]
     refine rdy1 12 (fun K hK=>?_)
     go_simp
     obtain ⟨w_1,hw_1⟩:∃ x,x = World.alloc V (.cells #[.int .u8 s] 5):=⟨_,rfl⟩
     have b_1:Below V.heap.size V w_1:=by rw [hw_1];exact below_new _ _
     have hownV:=hown'.alloc (.cells #[.int .u8 s] 5)
     have hnew:=cell_one_new V (.int .u8 s) 5
     rw [← hw_1] at hownV hnew ⊢
     have hs_1:w_1.heap.size = V.heap.size + 1:=by rw [hw_1];simp
     clear hw_1
     refine hK.out _ _ (keep.out b_1) (fun hHeld=>?_)
     clear hK K
     try dsimp only [Act.put]
     refine rdy1 13 (fun K hK=>?_)
     rw [if_pos (by rfl)]
     refine wp_append_to (some 22) rfl _ _ 22 rfl w.heap.size 5 i0 (.int .u8 0) 1 1 Tryz.underlying22 hi hz0 hz1 hz2 rfl (by decide) _ k (pre.map byte) rfl hownV ⟨V.heap.size,0,none⟩ 1 1 [.int .u8 s] rfl rfl hnew (by intro u hu;simp at hu;subst hu;rfl) (by unfold maxLen;omega) (by omega) (by omega) ?_
     intro v_3 w_3 own_3 grow_3 nil_3
     have bz:Below w.heap.size w w_3:=(bV.trans (b_1.mono hwV)).grown grow_3 (by omega) (fun k hk=>(hownV.lt k hk).1)
     have kS:=HSB.out bz
     try dsimp only [Act.put]
     refine hK.out _ _ kS (fun hHeld=>?_)
     clear hK K
     try dsimp only [Act.put]
     refine rdy1 14 (fun K hK=>?_)
     go_simp
     refine hK.out _ _ kS (fun hHeld=>?_)
     clear hK K
     try dsimp only [Act.put]
     refine wpAnyH_done (by kernel_rfl) ?_ _
     go_wp2_with fail
     have R1:OwnB w_3 w.heap.size v_3 ((packL xs).take (k + 1)):=by
       unfold OwnB
       rw [HNX.out,List.length_append,hll,List.map_append,List.map_cons,List.map_nil,← Hsv.out]
       exact own_3
     go_roundw
     case rel=>exact ⟨k + 1,by omega,by have:=Ha.out;go_num,R1,bz⟩
     case measure=>have:=Ha.out;simp [intOf];omega
   · go_wp2
     go_ret
     have hk8:k = 8:=by omega
     refine ⟨_,rfl,?_,hbel⟩
     rw [List.take_of_length_le (by rw [HPL.out];omega)] at hown
     exact hown
end Go.Proofs.YtoajfbkblpaejaaGreatDoor
