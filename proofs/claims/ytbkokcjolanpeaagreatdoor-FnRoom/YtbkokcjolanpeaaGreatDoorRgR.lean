import Derived.Test.YtbkokcjolanpeaaGreatDoorRgQ
import Derived.Laws.BytesString
import Derived.Laws.BytesArg
import Derived.Deep.DeepCutAuto
namespace Go.Proofs.YtbkokcjolanpeaaGreatDoor
open Go.RowKit
def uOf (block:List UInt8):Nat:=(block.getD 1 0).toNat
def gOf (block:List UInt8):Nat:=(block.getD 2 0).toNat
def unkeyN (master block:List UInt8):List UInt8:=xorL (aesN (sealK master) (block.drop 20) true) ((block.drop 4).take 16)
def headOK (block:List UInt8):Bool:=decide ((block.getD 0 0).toNat = 75) && decide ((block.getD 3 0).toNat = 16) && (decide (1 ≤ uOf block) && decide (uOf block ≤ 3))
def formOK (master block:List UInt8):Bool:=decide (master.length = 16) && decide (block.length = 36) && headOK block
def tagOK (master block:List UInt8):Bool:=decide (wrapN master (unkeyN master block) (uOf block) (gOf block) = block)
abbrev zeroKI:List Value:=[.int .i64 0,.int .i64 0,.slice none 0 0]
theorem results_blk_tmp {P:Program} {fn:Func} {p q ty:Nat} (h:fn.results = #[.cell p ty,.tmp q]) (tmps:Array Value) (w:World) {g t:Nat} {cs:List Value} {d:TypeDesc} (hp:tmps.getD p undef = .pointer (some ⟨g,0,none⟩)) (hb:Blk w g t cs)
   (hu:P.underlying ty = some d) (hd:(match d with | .struct _ | .array _ _=>true | _=>false) = true) (hi:(P.info? ty).map (·.size) = some cs.length):(results fn tmps).run P w = .ok (.tuple #[.agg cs.toArray,tmps.getD q undef]) w:=by
 have hp':tmps[p]?.getD undef = .pointer (some ⟨g,0,none⟩):=by simpa using hp
 simp [results,h,hp',asAddr,run_loadVar_row w g t ty cs.toArray (0,0) d hb hu hd (by simpa using hi)]
theorem conv_nil' (n c:Nat) (w:World) (h:n = 0):(convert 22 9 (.slice none n c)).run Tryz.prog w = .ok (.string ByteArray.empty) w:=by
 subst h
 exact run_convert_bytes_nil w 22 5 Tryz.underlying22 Tryz.underlying5 0 c _ Tryz.underlying9
def strOf (A:List UInt8):ByteArray:=(A.map fun b=>(b.toNat:Int)).foldl (fun r n=>r.push (UInt8.ofNat n.toNat)) ByteArray.empty
theorem strOf_eq (A:List UInt8):strOf A = ⟨A.toArray⟩:=by
 have h:∀ (l:List UInt8) (r:ByteArray),((l.map fun b=>(b.toNat:Int)).foldl (fun r n=>r.push (UInt8.ofNat n.toNat)) r).data.toList = r.data.toList ++ l:=by
   intro l
   induction l with
   | nil=>intro r;simp
   | cons a l ih =>
     intro r
     rw [List.map_cons,List.foldl_cons,ih]
     simp [ByteArray.push]
 apply ByteArray.ext
 have:=h A ByteArray.empty
 unfold strOf
 rw [← Array.toList_inj,this]
 simp [ByteArray.empty,ByteArray.emptyWithCapacity]
 try rfl
theorem conv_any (A:List UInt8) (ao:Option Addr) (n c:Nat) (w:World) (hn:A.length = n) (h:RowAt w ao A):(convert 22 9 (.slice ao n c)).run Tryz.prog w = .ok (.string ⟨A.toArray⟩) w:=by
 by_cases h0:A = []
 · subst h0
   subst hn
   cases ao with
   | none=>exact conv_nil' 0 c w rfl
   | some x =>
     rw [run_convert_bytes_string w 22 9 5 _ _ _ Tryz.underlying22 Tryz.underlying5 Tryz.underlying9]
     exact run_bytesToString w x 0 c [] (by have hl:=run_loadCells_list (P:=Tryz.prog) w x [] (by intro j u h;simp at h);exact hl)
 · rw [← strOf_eq]
   obtain ⟨b,off,rfl,hr⟩:=h.range (by have:=List.length_pos_iff.2 h0;omega)
   rw [run_convert_bytes_string w 22 9 5 _ _ _ Tryz.underlying22 Tryz.underlying5 Tryz.underlying9]
   refine run_bytesToString w ⟨b,off,none⟩ n c (A.map fun b=>(b.toNat:Int)) ?_
   have hl:=run_loadCells_list (P:=Tryz.prog) w ⟨b,off,none⟩ (A.map byte) (by intro j u hu;rw [Addr.add_mid];exact hr j u hu)
   rw [List.length_map,hn] at hl
   rw [hl,List.map_map]
   rfl
theorem beq_rows (a b:List UInt8):((⟨a.toArray⟩:ByteArray).toList == (⟨b.toArray⟩:ByteArray).toList) = decide (a = b):=by
 rw [ByteArray.toList_mk,ByteArray.toList_mk,Bool.eq_iff_iff,decide_eq_true_eq,beq_iff_eq]
set_option maxHeartbeats 1000000 in
theorem bytesEqual_any (A B:List UInt8) (a1 a2:Option Addr) (n m c1 c2:Nat) (w:World) (hn:A.length = n) (hm:B.length = m) (r1:RowAt w a1 A) (r2:RowAt w a2 B) :
   Calls Tryz.prog 96 #[.slice a1 n c1,.slice a2 m c2] w fun e w'=>e = .returned (.bool (decide (A = B))) ∧ w' = w:=by
 have e1:=conv_any A a1 n c1 w hn r1
 have e2:=conv_any B a2 m c2 w hm r2
 have e3:=beq_rows A B
 obtain ⟨x,hx⟩:∃ x:ByteArray,x = ⟨A.toArray⟩:=⟨_,rfl⟩
 obtain ⟨y,hy⟩:∃ x:ByteArray,x = ⟨B.toArray⟩:=⟨_,rfl⟩
 rw [← hx] at e1 e3
 rw [← hy] at e2 e3
 have E3:=hide e3
 clear hx hy r1 r2 e3
 go_enter Tryz.func96,Tryz.ntmps96
 go_wp2
 go_ret
 exact ⟨by rw [← E3.out];rfl,rfl⟩
theorem Tryz.zeroKI:(Tryz.prog.info? 55).map (fun i=>(i.zero,i.size)) = some (some (.agg zeroKI.toArray),3):=by kernel_rfl
set_option maxRecDepth 100000 in
set_option maxHeartbeats 2000000 in
theorem open_form (master block:List UInt8) (am ab:Option Addr) (cm cb:Nat) (T0:Nat) (x0:Value) (w:World) (hg:w.cell? ⟨0,0,none⟩ = some (.iface T0 x0)) (hr:RowAt w ab block) (hf:formOK master block = false) :
   Calls Tryz.prog 104 #[.slice am master.length cm,.slice ab block.length cb] w fun e w'=>e = .returned (.tuple #[.agg zeroKI.toArray,.iface T0 x0]) ∧ Below w.heap.size w w':=by
 have hg0:=World.block_lt_of_cell? w _ hg
 have hz:=(zero_of_info Tryz.zeroKI).1
 obtain ⟨W,hW⟩:∃ W,W = w.alloc (.cells zeroKI.toArray 55):=⟨_,rfl⟩
 have kW:Blk W w.heap.size 55 zeroKI:=by rw [hW];exact Blk.new w _ _
 have bW:Below w.heap.size w W:=by rw [hW];exact below_new _ _
 have HW:=hide hW
 have gW:W.cell? ⟨0,0,none⟩ = some (.iface T0 x0):=(bW.cell (p:=⟨0,0,none⟩) hg0).trans hg
 have rW:=hr.below bW
 clear hW
 have hbt:Tryz.prog.built 55 [] = some zeroKI.toArray:=by kernel_rfl
 obtain ⟨V,hV⟩:∃ V,V = World.drew W:=⟨_,rfl⟩
 have kV:Blk V w.heap.size 55 zeroKI:=by rw [hV];exact kW.drew1
 have bV:Below w.heap.size w V:=by rw [hV];exact bW.drew
 have HV:=hide hV
 have gV:V.cell? ⟨0,0,none⟩ = some (.iface T0 x0):=by rw [hV];exact gW
 clear hV
 have hgN:¬ (0 = w.heap.size):=by omega
 have keep:Hid (∀ {x},Below w.heap.size w x → x.cell? ⟨0,0,none⟩ = some (.iface T0 x0)):=fun h=>(h.cell (p:=⟨0,0,none⟩) hg0).trans hg
 by_cases h1:master.length = 16
 · by_cases h2:block.length = 36
   · have hh:headOK block = false:=by unfold formOK at hf;simpa [h1,h2] using hf
     have hcell:∀ j,j < 36 → ∃ bb bo,ab = some ⟨bb,bo,none⟩ ∧ W.cell? ⟨bb,bo + j,none⟩ = some (.int .u8 ((block.getD j 0).toNat:Int)):=by
       intro j hj
       obtain ⟨bb,bo,e,hc⟩:=rW.at (k:=j) (by omega)
       exact ⟨bb,bo,e,hc j (by omega)⟩
     obtain ⟨bb,bo,rfl,c0⟩:=hcell 0 (by omega)
     obtain ⟨_,_,e,c1⟩:=hcell 1 (by omega)
     cases e
     obtain ⟨_,_,e,c3⟩:=hcell 3 (by omega)
     cases e
     rw [Nat.add_zero] at c0
     have HUse:=hide (fun (wx:World)=>isUse_any (((block.getD 1 0).toNat:Nat):Int) wx)
     have HH:Hid (headOK block = (decide ((block.getD 0 0).toNat = 75) && decide ((block.getD 3 0).toNat = 16) && (decide (1 ≤ (block.getD 1 0).toNat) && decide ((block.getD 1 0).toNat ≤ 3)))):=rfl
     rw [hh] at HH
     obtain ⟨y0,hy0⟩:∃ y,y = (block.getD 0 0).toNat:=⟨_,rfl⟩
     obtain ⟨y1,hy1⟩:∃ y,y = (block.getD 1 0).toNat:=⟨_,rfl⟩
     obtain ⟨y3,hy3⟩:∃ y,y = (block.getD 3 0).toNat:=⟨_,rfl⟩
     have l0:y0 < 256:=by rw [hy0];exact UInt8.toNat_lt _
     have l1:y1 < 256:=by rw [hy1];exact UInt8.toNat_lt _
     have l3:y3 < 256:=by rw [hy3];exact UInt8.toNat_lt _
     rw [← hy0] at c0 HH
     rw [← hy1] at c1 HUse HH
     rw [← hy3] at c3 HH
     rw [h1,h2]
     clear hcell hy0 hy1 hy3 hf h1 h2 hh hr rW
     by_cases q0:y0 = 75
     · have q0b:((y0:Int) != 75) = false:=by rw [bne_eq_false_iff_eq];omega
       by_cases q3:y3 = 16
       · have q3b:((y3:Int) != 16) = false:=by rw [bne_eq_false_iff_eq];omega
         have hu:(decide (1 ≤ (y1:Int)) && decide ((y1:Int) ≤ 3)) = false:=by
           have:=HH.out
           rw [decide_eq_true q0,decide_eq_true q3] at this
           have h3:¬ (1 ≤ y1 ∧ y1 ≤ 3):=by intro ⟨ha,hb⟩;rw [decide_eq_true ha,decide_eq_true hb] at this;cases this
           rw [← Bool.decide_and,decide_eq_false_iff_not]
           omega
         rw [hu] at HUse
         clear hu q0 q3 HH
         rw [show W = _ from HW] at c0 c1 c3
         go_enter Tryz.func104,Tryz.ntmps104
         go_wp2_with (go_at_call 30;rw [← show W = _ from HW];refine (HUse.out _).mono ?_;rintro e wu ⟨rfl,hwu⟩;subst wu)
         refine wp_region_held_drew (S:=fun x=>x.cell? ⟨0,0,none⟩ = some (.iface T0 x0)) (by kernel_rfl) (by exact gW) (fun hHeld=>?_)
         rw [← show V = _ from HV] at hHeld ⊢
         refine tk (i:=0) (v:=(.agg zeroKI.toArray)) rfl (Or.inl ⟨by rfl,fun w1 h=>by go_simp⟩) hHeld ?_
         try dsimp only [Act.put]
         refine tk (i:=1) (v:=(.iface T0 x0)) rfl (Or.inl ⟨by rfl,fun w1 h=>by have hc:=h;go_simp⟩) hHeld ?_
         dsimp only [Act.put,List.getElem_toArray,List.getElem_cons_zero,List.getElem_cons_succ]
         simp only [List.setIfInBounds_toArray,List.set_cons_succ,List.set_cons_zero]
         refine rdy1 2 (fun K hK=>?_)
         rw [if_pos (by rfl)]
         refine wp_store_blk rfl 55 _ _ rfl w.heap.size rfl rfl kV (by kernel_rfl) rfl (by kernel_rfl) ?_
         have k_1:=Blk.setRow kV zeroKI
         have b_1:=below_setRow' (g:=w.heap.size) bV (Nat.le_refl _) zeroKI.toArray
         skip
         skip
         refine hK.out _ _ (keep.out b_1) (fun hHeld=>?_)
         clear hK K
         try dsimp only [Act.put]
         refine rdy1 3 (fun K hK=>?_)
         go_simp
         refine hK.out _ _ (keep.out b_1) (fun hHeld=>?_)
         clear hK K
         try dsimp only [Act.put]
         refine wpAnyH_done (by kernel_rfl) ?_ _
         go_wp2_with fail
         exact ⟨rfl,_,results_blk_tmp Tryz.results104 _ _ rfl k_1 Tryz.underlying55 rfl (by kernel_rfl),rfl,b_1⟩
       · have q3b:((y3:Int) != 16) = true:=by rw [bne_iff_ne];omega
         clear q3 HH q0
         rw [show W = _ from HW] at c0 c1 c3
         go_enter Tryz.func104,Tryz.ntmps104
         go_wp2_with fail
         rw [← show W = _ from HW]
         refine wp_region_held_drew (S:=fun x=>x.cell? ⟨0,0,none⟩ = some (.iface T0 x0)) (by kernel_rfl) (by exact gW) (fun hHeld=>?_)
         rw [← show V = _ from HV] at hHeld ⊢
         refine tk (i:=0) (v:=(.agg zeroKI.toArray)) rfl (Or.inl ⟨by rfl,fun w1 h=>by go_simp⟩) hHeld ?_
         try dsimp only [Act.put]
         refine tk (i:=1) (v:=(.iface T0 x0)) rfl (Or.inl ⟨by rfl,fun w1 h=>by have hc:=h;go_simp⟩) hHeld ?_
         dsimp only [Act.put,List.getElem_toArray,List.getElem_cons_zero,List.getElem_cons_succ]
         simp only [List.setIfInBounds_toArray,List.set_cons_succ,List.set_cons_zero]
         refine rdy1 2 (fun K hK=>?_)
         rw [if_pos (by rfl)]
         refine wp_store_blk rfl 55 _ _ rfl w.heap.size rfl rfl kV (by kernel_rfl) rfl (by kernel_rfl) ?_
         have k_1:=Blk.setRow kV zeroKI
         have b_1:=below_setRow' (g:=w.heap.size) bV (Nat.le_refl _) zeroKI.toArray
         skip
         skip
         refine hK.out _ _ (keep.out b_1) (fun hHeld=>?_)
         clear hK K
         try dsimp only [Act.put]
         refine rdy1 3 (fun K hK=>?_)
         go_simp
         refine hK.out _ _ (keep.out b_1) (fun hHeld=>?_)
         clear hK K
         try dsimp only [Act.put]
         refine wpAnyH_done (by kernel_rfl) ?_ _
         go_wp2_with fail
         exact ⟨rfl,_,results_blk_tmp Tryz.results104 _ _ rfl k_1 Tryz.underlying55 rfl (by kernel_rfl),rfl,b_1⟩
     · have q0b:((y0:Int) != 75) = true:=by rw [bne_iff_ne];omega
       clear q0 HH
       rw [show W = _ from HW] at c0 c1 c3
       go_enter Tryz.func104,Tryz.ntmps104
       go_wp2_with fail
       rw [← show W = _ from HW]
       refine wp_region_held_drew (S:=fun x=>x.cell? ⟨0,0,none⟩ = some (.iface T0 x0)) (by kernel_rfl) (by exact gW) (fun hHeld=>?_)
       rw [← show V = _ from HV] at hHeld ⊢
       refine tk (i:=0) (v:=(.agg zeroKI.toArray)) rfl (Or.inl ⟨by rfl,fun w1 h=>by go_simp⟩) hHeld ?_
       try dsimp only [Act.put]
       refine tk (i:=1) (v:=(.iface T0 x0)) rfl (Or.inl ⟨by rfl,fun w1 h=>by have hc:=h;go_simp⟩) hHeld ?_
       dsimp only [Act.put,List.getElem_toArray,List.getElem_cons_zero,List.getElem_cons_succ]
       simp only [List.setIfInBounds_toArray,List.set_cons_succ,List.set_cons_zero]
       refine rdy1 2 (fun K hK=>?_)
       rw [if_pos (by rfl)]
       refine wp_store_blk rfl 55 _ _ rfl w.heap.size rfl rfl kV (by kernel_rfl) rfl (by kernel_rfl) ?_
       have k_1:=Blk.setRow kV zeroKI
       have b_1:=below_setRow' (g:=w.heap.size) bV (Nat.le_refl _) zeroKI.toArray
       skip
       skip
       refine hK.out _ _ (keep.out b_1) (fun hHeld=>?_)
       clear hK K
       try dsimp only [Act.put]
       refine rdy1 3 (fun K hK=>?_)
       go_simp
       refine hK.out _ _ (keep.out b_1) (fun hHeld=>?_)
       clear hK K
       try dsimp only [Act.put]
       refine wpAnyH_done (by kernel_rfl) ?_ _
       go_wp2_with fail
       exact ⟨rfl,_,results_blk_tmp Tryz.results104 _ _ rfl k_1 Tryz.underlying55 rfl (by kernel_rfl),rfl,b_1⟩
   · have h2b:((block.length:Int) != 36) = true:=by rw [bne_iff_ne];omega
     rw [h1]
     clear hf h2 rW hr
     go_enter Tryz.func104,Tryz.ntmps104
     go_wp2_with fail
     rw [← show W = _ from HW]
     refine wp_region_held_drew (S:=fun x=>x.cell? ⟨0,0,none⟩ = some (.iface T0 x0)) (by kernel_rfl) (by exact gW) (fun hHeld=>?_)
     rw [← show V = _ from HV] at hHeld ⊢
     refine tk (i:=0) (v:=(.agg zeroKI.toArray)) rfl (Or.inl ⟨by rfl,fun w1 h=>by go_simp⟩) hHeld ?_
     try dsimp only [Act.put]
     refine tk (i:=1) (v:=(.iface T0 x0)) rfl (Or.inl ⟨by rfl,fun w1 h=>by have hc:=h;go_simp⟩) hHeld ?_
     dsimp only [Act.put,List.getElem_toArray,List.getElem_cons_zero,List.getElem_cons_succ]
     simp only [List.setIfInBounds_toArray,List.set_cons_succ,List.set_cons_zero]
     refine rdy1 2 (fun K hK=>?_)
     rw [if_pos (by rfl)]
     refine wp_store_blk rfl 55 _ _ rfl w.heap.size rfl rfl kV (by kernel_rfl) rfl (by kernel_rfl) ?_
     have k_1:=Blk.setRow kV zeroKI
     have b_1:=below_setRow' (g:=w.heap.size) bV (Nat.le_refl _) zeroKI.toArray
     skip
     skip
     refine hK.out _ _ (keep.out b_1) (fun hHeld=>?_)
     clear hK K
     try dsimp only [Act.put]
     refine rdy1 3 (fun K hK=>?_)
     go_simp
     refine hK.out _ _ (keep.out b_1) (fun hHeld=>?_)
     clear hK K
     try dsimp only [Act.put]
     refine wpAnyH_done (by kernel_rfl) ?_ _
     go_wp2_with fail
     exact ⟨rfl,_,results_blk_tmp Tryz.results104 _ _ rfl k_1 Tryz.underlying55 rfl (by kernel_rfl),rfl,b_1⟩
 · have h1b:((master.length:Int) != 16) = true:=by rw [bne_iff_ne];omega
   clear hf h1 rW hr
   go_enter Tryz.func104,Tryz.ntmps104
   go_wp2_with fail
   rw [← show W = _ from HW]
   refine wp_region_held_drew (S:=fun x=>x.cell? ⟨0,0,none⟩ = some (.iface T0 x0)) (by kernel_rfl) (by exact gW) (fun hHeld=>?_)
   rw [← show V = _ from HV] at hHeld ⊢
   refine tk (i:=0) (v:=(.agg zeroKI.toArray)) rfl (Or.inl ⟨by rfl,fun w1 h=>by go_simp⟩) hHeld ?_
   try dsimp only [Act.put]
   refine tk (i:=1) (v:=(.iface T0 x0)) rfl (Or.inl ⟨by rfl,fun w1 h=>by have hc:=h;go_simp⟩) hHeld ?_
   dsimp only [Act.put,List.getElem_toArray,List.getElem_cons_zero,List.getElem_cons_succ]
   simp only [List.setIfInBounds_toArray,List.set_cons_succ,List.set_cons_zero]
   refine rdy1 2 (fun K hK=>?_)
   rw [if_pos (by rfl)]
   refine wp_store_blk rfl 55 _ _ rfl w.heap.size rfl rfl kV (by kernel_rfl) rfl (by kernel_rfl) ?_
   have k_1:=Blk.setRow kV zeroKI
   have b_1:=below_setRow' (g:=w.heap.size) bV (Nat.le_refl _) zeroKI.toArray
   skip
   skip
   refine hK.out _ _ (keep.out b_1) (fun hHeld=>?_)
   clear hK K
   try dsimp only [Act.put]
   refine rdy1 3 (fun K hK=>?_)
   go_simp
   refine hK.out _ _ (keep.out b_1) (fun hHeld=>?_)
   clear hK K
   try dsimp only [Act.put]
   refine wpAnyH_done (by kernel_rfl) ?_ _
   go_wp2_with fail
   exact ⟨rfl,_,results_blk_tmp Tryz.results104 _ _ rfl k_1 Tryz.underlying55 rfl (by kernel_rfl),rfl,b_1⟩
end Go.Proofs.YtbkokcjolanpeaaGreatDoor
