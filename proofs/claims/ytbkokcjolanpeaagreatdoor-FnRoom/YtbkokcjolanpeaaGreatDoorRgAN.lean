import Derived.Test.YtbkokcjolanpeaaGreatDoorRgAA
import Derived.Laws.CopyOwn
import Derived.Test.YtbkokcjolanpeaaGreatDoorRgAB
import Derived.Test.YtbkokcjolanpeaaGreatDoorRgW
import Derived.Test.YtbkokcjolanpeaaGreatDoorRgAM
namespace Go.Proofs.YtbkokcjolanpeaaGreatDoor
open Go.RowKit
theorem dC_zero {data:List UInt8} (h:dC data = 0):data.length ≤ 4096 ∧ tyC data = 0 ∧ mapC data = 0 ∧ (∀ j,j < (mapN data).length → fc data (mapN data) (mapE data) j = 0):=by
 unfold dC at h
 by_cases h1:4096 < data.length
 · rw [if_pos h1] at h;omega
 rw [if_neg h1] at h
 by_cases h2:tyC data ≠ 0
 · rw [if_pos h2] at h;exact absurd h h2
 rw [if_neg h2] at h
 by_cases h3:mapC data ≠ 0
 · rw [if_pos h3] at h;exact absurd h h3
 rw [if_neg h3] at h
 refine ⟨by omega,by omega,by omega,fun j hj=>?_⟩
 by_cases h4:fc data (mapN data) (mapE data) j = 0
 · exact h4
 · exfalso
   cases hb:bad data (mapN data) (mapE data) with
   | none =>
     unfold bad at hb
     rw [List.find?_eq_none] at hb
     have:=hb j (List.mem_range.2 hj)
     simp at this
     exact h4 this
   | some i =>
     rw [hb] at h
     unfold bad at hb
     have:=List.find?_some hb
     simp at this
     exact this h
theorem mapE_le {data:List UInt8} (hm0:mapC data = 0):mapE data ≤ data.length:=by
 have hme:¬ data.length < mapEnd data:=by
   intro h
   revert hm0
   unfold mapC
   rw [if_pos h]
   omega
 unfold mapE
 rw [if_pos hm0]
 omega
theorem decAt_le {data:List UInt8} {nos:List Nat} {a0:Nat} (h0:a0 ≤ data.length) (hf:∀ j,j < nos.length → fc data nos a0 j = 0):∀ i,i ≤ nos.length → decAt data nos a0 i ≤ data.length
 | 0,_=>h0
 | i + 1,hi=>by
   have h1:=decAt_le h0 hf i (by omega)
   have h2:=fldE_le (nos.getD i 0) (data.drop (decAt data nos a0 i)) (hf i (by omega))
   rw [List.length_drop] at h2
   show decAt data nos a0 i + fldE _ _ ≤ _
   omega
theorem dA_le {data:List UInt8} (h:dC data = 0):dA data ≤ data.length:=by
 obtain ⟨-,-,hm,hf⟩:=dC_zero h
 unfold dA
 rw [if_pos h]
 cases hk:(mapN data).length with
 | zero=>exact Nat.zero_le _
 | succ k =>
   show macP _ _ ≤ _
   have h1:=decAt_le (mapE_le hm) hf k (by omega)
   unfold macP
   split <;> omega
def opB (master key data:List UInt8):Bool:=decide (dC data = 0) && (decide (dA data ≠ 0) && decide (chkC master key (data.take (dA data)) (data.drop (dA data)) = 0))
set_option maxRecDepth 100000 in
set_option maxHeartbeats 4000000 in
theorem opens_any (master key data:List UInt8) (am ak ad:Option Addr) (cm ck cd:Nat) (x0 x1:Addr) (w:World) (hs:Sents w x0 x1) (hck:key.length ≤ ck) (hcd:data.length ≤ cd) (hn:data.length ≤ 1048576) (rm:RowAt w am master) (rk:RowAt w ak key) (rd:RowAt w ad data) :
   Calls Tryz.prog 16 #[.slice am master.length cm,.slice ak key.length ck,.slice ad data.length cd] w fun e w'=>e = .returned (.bool (opB master key data)) ∧ Below w.heap.size w w':=by
 have HD:=hideT (decode_any data ad cd w hn hcd rd)
 have HAL:=hideT (fun h=>dA_le (data:=data) h)
 have HOP:Hid (opB master key data = (decide (dC data = 0) && (decide (dA data ≠ 0) && decide (chkC master key (data.take (dA data)) (data.drop (dA data)) = 0)))):=rfl
 have HCH:=hideT (fun (a4 a5:Option Addr) (c4 c5:Nat) (wx:World) h2 h3 (hb:Below w.heap.size w wx) r3 r4=>checkMac_any master key (data.take (dA data)) (data.drop (dA data)) am ak a4 a5 cm ck c4 c5 x0 x1 wx hck h2 h3 (hs.below hb) (rm.below hb) (rk.below hb) r3 r4)
 obtain ⟨A,hA⟩:∃ q,q = dA data:=⟨_,rfl⟩
 obtain ⟨Cn,hC⟩:∃ q,q = dC data:=⟨_,rfl⟩
 obtain ⟨P,hP⟩:∃ q:Int,q = (dP data:Nat):=⟨_,rfl⟩
 obtain ⟨M,hM⟩:∃ q,q = dM data:=⟨_,rfl⟩
 rw [← hA,← hC,← hP,← hM] at HD
 rw [← hA,← hC] at HOP HAL
 rw [← hA] at HCH
 obtain ⟨n1,hn1⟩:∃ n,n = master.length:=⟨_,rfl⟩
 obtain ⟨n2,hn2⟩:∃ n,n = key.length:=⟨_,rfl⟩
 obtain ⟨n3,hn3⟩:∃ n,n = data.length:=⟨_,rfl⟩
 have HN3:=hideT hn3
 have HRD:=hideT rd
 rw [← hn1,← hn2,← hn3]
 rw [← hn1,← hn2] at HCH
 rw [← hn3] at HD HAL hcd hn
 clear hA hC hP hM hn1 hn2 hn3 rm rk hck hs rd
 go_enter Tryz.func16,Tryz.ntmps16
 go_wp2_with fail
 refine HD.out.mono ?_
 rintro e w1 ⟨v,rfl,⟨vs,FX⟩,b1⟩
 obtain ⟨av,cv,rfl⟩:=FX.shape
 obtain ⟨nv,hnv⟩:∃ q,q = (dL data).length:=⟨_,rfl⟩
 rw [← hnv]
 obtain ⟨X1,hX1⟩:∃ y,y = w1.alloc (Obj.cells #[.int .i64 (Cn:Int),.int .i64 P,.string M,.slice av nv cv,.int .i64 (A:Int)] 97):=⟨_,rfl⟩
 obtain ⟨gR,hgR⟩:∃ q,q = w1.heap.size:=⟨_,rfl⟩
 have kR:Blk X1 gR 97 [.int .i64 (Cn:Int),.int .i64 P,.string M,.slice av nv cv,.int .i64 (A:Int)]:=by rw [hX1,hgR];exact Blk.new _ _ _
 have bX:Below w.heap.size w X1:=by rw [hX1];exact b1.trans ((below_newT _ _).mono b1.size)
 have HX1:=hideT hX1
 have HGR:=hideT hgR
 clear hX1 hgR b1 FX hnv HD
 go_upto_region 2 with fail
 rw [← show X1 = _ from HX1,← show gR = _ from HGR]
 clear HX1 HGR
 have d0:=kR.cell 0 (by simp)
 have d4:=kR.cell 4 (by simp)
 by_cases hC0:Cn = 0
 · subst hC0
   rw [decide_eq_true rfl,Bool.true_and] at HOP
   by_cases hA0:A = 0
   · subst hA0
     rw [decide_eq_false (by omega),Bool.false_and] at HOP
     clear HCH HAL
     go_wp2_with fail
     go_ret
     exact ⟨by rw [HOP.out];rfl,bX⟩
   · rw [decide_eq_true hA0,Bool.true_and] at HOP
     have hAn:=HAL.out rfl
     have hAI:¬ (A:Int) = 0:=by omega
     have hAb:((A:Int) == 0) = false:=by rw [beq_eq_false_iff_ne];exact hAI
     obtain ⟨b,o,rfl,-⟩:=HRD.out.at (k:=0) (by rw [← HN3.out];omega)
     obtain ⟨oA,hoA⟩:∃ oA,(cd = A ∧ oA = o) ∨ (¬ cd = A ∧ oA = o + A):=by
       by_cases h:cd = A
       · exact ⟨o,.inl ⟨h,rfl⟩⟩
       · exact ⟨o + A,.inr ⟨h,rfl⟩⟩
     have HOA:=hideT hoA
     have hlt:(data.take A).length = A:=by rw [List.length_take,← HN3.out];omega
     have hld:(data.drop A).length = n3 - A:=by rw [List.length_drop,← HN3.out]
     have HCM:Hid (∀ wx,Below w.heap.size w wx → Calls Tryz.prog 41 #[.slice am n1 cm,.slice ak n2 ck,.slice (some ⟨b,o,none⟩) A cd,.slice (some ⟨b,oA,none⟩) (n3 - A) (cd - A)] wx fun e w'=>e = .returned (.int .i64 (chkC master key (data.take A) (data.drop A))) ∧ Below wx.heap.size wx w'):=by
       intro wx hb
       have r:=HRD.out.below hb
       have h:=HCH.out (some ⟨b,o,none⟩) (some ⟨b,oA,none⟩) cd (cd - A) wx (by rw [hlt];omega) (by rw [hlt];omega) hb (RowAt.take r A) (by
         rcases hoA with ⟨h1,rfl⟩ | ⟨-,rfl⟩
         · exact .inl (List.length_eq_zero_iff.1 (by omega))
         · exact RowAt.drop r A)
       rw [hlt,hld] at h
       exact h
     obtain ⟨K,hK⟩:∃ q,q = chkC master key (data.take A) (data.drop A):=⟨_,rfl⟩
     rw [← hK] at HCM HOP
     have hAc:(A:Int) ≤ (cd:Int):=by omega
     have hAn2:(A:Int) ≤ (n3:Int):=by omega
     have hn3c:(n3:Int) ≤ (cd:Int):=by omega
     clear hK hoA hlt hld HCH HAL
     by_cases hK0:K = 0
     · subst hK0
       rw [decide_eq_true rfl] at HOP
       go_upto_region 4 with fail
       clear d0 d4
       obtain ⟨V,hV⟩:∃ V,V = World.drew X1:=⟨_,rfl⟩
       have b_0:Below V.heap.size V V:=Below.refl _ _
       have bV:Below X1.heap.size X1 V:=by rw [hV];exact (Below.refl _ _).drew
       have belV:=bX.trans (bV.mono bX.size)
       have kV:=kR.below bV kR.lt
       have keep:Hid (∀ {y},Below V.heap.size V y → Blk y gR 97 [.int .i64 0,.int .i64 P,.string M,.slice av nv cv,.int .i64 (A:Int)]):=fun h=>kV.below h kV.lt
       refine wp_region_held_drew (S:=fun y=>Blk y gR 97 [.int .i64 0,.int .i64 P,.string M,.slice av nv cv,.int .i64 (A:Int)]) (by kernel_rfl) (by rw [← hV];exact kV) (fun hHeld=>?_)
       rw [← hV] at hHeld ⊢
       clear hV bV kR bX
       refine tkA (i:=0) (v:=(.slice am n1 cm)) rfl hHeld ?_
       try dsimp only [Act.put]
       refine tkA (i:=1) (v:=(.slice ak n2 ck)) rfl hHeld ?_
       dsimp only [Act.put,List.getElem_toArray,List.getElem_cons_zero,List.getElem_cons_succ]
       simp only [List.setIfInBounds_toArray,List.set_cons_succ,List.set_cons_zero]
       refine tkA (i:=2) (v:=(.slice (some ⟨b,o,none⟩) n3 cd)) rfl hHeld ?_
       try dsimp only [Act.put]
       refine tkA (i:=3) (v:=(.pointer (some ⟨gR,4,none⟩))) rfl hHeld ?_
       dsimp only [Act.put,List.getElem_toArray,List.getElem_cons_zero,List.getElem_cons_succ]
       simp only [List.setIfInBounds_toArray,List.set_cons_succ,List.set_cons_zero]
       refine tk (i:=4) (v:=(.int .i64 (A:Int))) rfl (Or.inl ⟨by rfl,fun w1 h=>by have hc:w1.cell? ⟨gR,4,none⟩ = some (.int .i64 (A:Int)):=h.cell 4 (by simp);go_simp⟩) hHeld ?_
       try dsimp only [Act.put]
       refine tkA (i:=5) (v:=(.slice (some ⟨b,o,none⟩) A cd)) rfl hHeld ?_
       dsimp only [Act.put,List.getElem_toArray,List.getElem_cons_zero,List.getElem_cons_succ]
       simp only [List.setIfInBounds_toArray,List.set_cons_succ,List.set_cons_zero]
       refine tkA (i:=6) (v:=(.slice (some ⟨b,o,none⟩) n3 cd)) rfl hHeld ?_
       try dsimp only [Act.put]
       refine tkA (i:=7) (v:=(.pointer (some ⟨gR,4,none⟩))) rfl hHeld ?_
       dsimp only [Act.put,List.getElem_toArray,List.getElem_cons_zero,List.getElem_cons_succ]
       simp only [List.setIfInBounds_toArray,List.set_cons_succ,List.set_cons_zero]
       refine tk (i:=8) (v:=(.int .i64 (A:Int))) rfl (Or.inl ⟨by rfl,fun w1 h=>by have hc:w1.cell? ⟨gR,4,none⟩ = some (.int .i64 (A:Int)):=h.cell 4 (by simp);go_simp⟩) hHeld ?_
       try dsimp only [Act.put]
       refine tk (i:=9) (v:=(.slice (some ⟨b,oA,none⟩) (n3 - A) (cd - A))) rfl (Or.inl ⟨by rfl,fun w1 _=>by rcases HOA.out with ⟨hx,hy⟩ | ⟨hx,hy⟩ <;> (rw [hy];go_simp)⟩) hHeld ?_
       dsimp only [Act.put,List.getElem_toArray,List.getElem_cons_zero,List.getElem_cons_succ]
       simp only [List.setIfInBounds_toArray,List.set_cons_succ,List.set_cons_zero]
       refine rdy1 10 (fun K hK=>?_)
       go_simp
       refine (HCM.out _ belV).mono ?_
       rintro e w_1 ⟨rfl,b_1⟩
       go_wp2_with fail
       refine hK.out _ _ (keep.out b_1) (fun hHeld=>?_)
       clear hK K
       try dsimp only [Act.put]
       refine tkA (i:=11) (v:=(.bool true)) rfl hHeld ?_
       try dsimp only [Act.put]
       refine rdy1 12 (fun K hK=>?_)
       go_simp
       refine hK.out _ _ (keep.out b_1) (fun hHeld=>?_)
       clear hK K
       try dsimp only [Act.put]
       refine wpAnyH_done (by kernel_rfl) ?_ _
       have bZ:=b_1
       clear hHeld
       go_wp2_with fail
       go_ret
       exact ⟨by rw [HOP.out];rfl,belV.trans (bZ.mono belV.size)⟩
     · rw [decide_eq_false hK0] at HOP
       have hKb:(K == 0) = false:=by rw [beq_eq_false_iff_ne];exact hK0
       go_upto_region 4 with fail
       clear d0 d4
       obtain ⟨V,hV⟩:∃ V,V = World.drew X1:=⟨_,rfl⟩
       have b_0:Below V.heap.size V V:=Below.refl _ _
       have bV:Below X1.heap.size X1 V:=by rw [hV];exact (Below.refl _ _).drew
       have belV:=bX.trans (bV.mono bX.size)
       have kV:=kR.below bV kR.lt
       have keep:Hid (∀ {y},Below V.heap.size V y → Blk y gR 97 [.int .i64 0,.int .i64 P,.string M,.slice av nv cv,.int .i64 (A:Int)]):=fun h=>kV.below h kV.lt
       refine wp_region_held_drew (S:=fun y=>Blk y gR 97 [.int .i64 0,.int .i64 P,.string M,.slice av nv cv,.int .i64 (A:Int)]) (by kernel_rfl) (by rw [← hV];exact kV) (fun hHeld=>?_)
       rw [← hV] at hHeld ⊢
       clear hV bV kR bX
       refine tkA (i:=0) (v:=(.slice am n1 cm)) rfl hHeld ?_
       dsimp only [Act.put,List.getElem_toArray,List.getElem_cons_zero,List.getElem_cons_succ]
       simp only [List.setIfInBounds_toArray,List.set_cons_succ,List.set_cons_zero]
       refine tkA (i:=1) (v:=(.slice ak n2 ck)) rfl hHeld ?_
       try dsimp only [Act.put]
       refine tkA (i:=2) (v:=(.slice (some ⟨b,o,none⟩) n3 cd)) rfl hHeld ?_
       dsimp only [Act.put,List.getElem_toArray,List.getElem_cons_zero,List.getElem_cons_succ]
       simp only [List.setIfInBounds_toArray,List.set_cons_succ,List.set_cons_zero]
       refine tkA (i:=3) (v:=(.pointer (some ⟨gR,4,none⟩))) rfl hHeld ?_
       try dsimp only [Act.put]
       refine tk (i:=4) (v:=(.int .i64 (A:Int))) rfl (Or.inl ⟨by rfl,fun w1 h=>by have hc:w1.cell? ⟨gR,4,none⟩ = some (.int .i64 (A:Int)):=h.cell 4 (by simp);go_simp⟩) hHeld ?_
       dsimp only [Act.put,List.getElem_toArray,List.getElem_cons_zero,List.getElem_cons_succ]
       simp only [List.setIfInBounds_toArray,List.set_cons_succ,List.set_cons_zero]
       refine tkA (i:=5) (v:=(.slice (some ⟨b,o,none⟩) A cd)) rfl hHeld ?_
       try dsimp only [Act.put]
       refine tkA (i:=6) (v:=(.slice (some ⟨b,o,none⟩) n3 cd)) rfl hHeld ?_
       dsimp only [Act.put,List.getElem_toArray,List.getElem_cons_zero,List.getElem_cons_succ]
       simp only [List.setIfInBounds_toArray,List.set_cons_succ,List.set_cons_zero]
       refine tkA (i:=7) (v:=(.pointer (some ⟨gR,4,none⟩))) rfl hHeld ?_
       try dsimp only [Act.put]
       refine tk (i:=8) (v:=(.int .i64 (A:Int))) rfl (Or.inl ⟨by rfl,fun w1 h=>by have hc:w1.cell? ⟨gR,4,none⟩ = some (.int .i64 (A:Int)):=h.cell 4 (by simp);go_simp⟩) hHeld ?_
       dsimp only [Act.put,List.getElem_toArray,List.getElem_cons_zero,List.getElem_cons_succ]
       simp only [List.setIfInBounds_toArray,List.set_cons_succ,List.set_cons_zero]
       refine tk (i:=9) (v:=(.slice (some ⟨b,oA,none⟩) (n3 - A) (cd - A))) rfl (Or.inl ⟨by rfl,fun w1 _=>by rcases HOA.out with ⟨hx,hy⟩ | ⟨hx,hy⟩ <;> (rw [hy];go_simp)⟩) hHeld ?_
       try dsimp only [Act.put]
       refine rdy1 10 (fun K hK=>?_)
       go_simp
       refine (HCM.out _ belV).mono ?_
       rintro e w_1 ⟨rfl,b_1⟩
       go_wp2_with fail
       refine hK.out _ _ (keep.out b_1) (fun hHeld=>?_)
       clear hK K
       try dsimp only [Act.put]
       refine tkA (i:=11) (v:=(.bool false)) rfl hHeld ?_
       dsimp only [Act.put,List.getElem_toArray,List.getElem_cons_zero,List.getElem_cons_succ]
       simp only [List.setIfInBounds_toArray,List.set_cons_succ,List.set_cons_zero]
       refine rdy1 12 (fun K hK=>?_)
       go_simp
       refine hK.out _ _ (keep.out b_1) (fun hHeld=>?_)
       clear hK K
       try dsimp only [Act.put]
       refine wpAnyH_done (by kernel_rfl) ?_ _
       have bZ:=b_1
       clear hHeld
       go_wp2_with fail
       go_ret
       exact ⟨by rw [HOP.out];rfl,belV.trans (bZ.mono belV.size)⟩
 · rw [decide_eq_false hC0,Bool.false_and] at HOP
   have hCb:((Cn:Int) == 0) = false:=by rw [beq_eq_false_iff_ne];omega
   have hCI:¬ (Cn:Int) = 0:=by omega
   clear HCH HAL
   go_wp2_with fail
   go_ret
   exact ⟨by rw [HOP.out];rfl,bX⟩
theorem SesV.c5 {w:World} {B gS:Nat} {P:Nat → Prop} {s:SS} {wv sv lv:Value} {ps:List Nat} (h:SesV w B gS P s wv sv lv ps):w.cell? ⟨gS,5,none⟩ = some s.hnd:=h.blk.cell 5 (by simp [sesC])
def Hnd (w:World) (hnd:Value) (key:ByteArray) (f:Value):Prop:=∃ gM es c n,hnd = .map (some gM) ∧ w.heap[gM]? = some (Obj.map es c) ∧ Instr.findNow .string (.string key) es.toList 0 = some (some (n,f))
theorem Hnd.sm {ts:List Nat} {w w':World} {hnd f:Value} {key:ByteArray} (h:Hnd w hnd key f) (k:Sm ts w w'):Hnd w' hnd key f:=by
 obtain ⟨gM,es,c,n,h1,h2,h3⟩:=h
 exact ⟨gM,es,c,n,h1,k.stay gM _ h2 (fun _ _ _ e=>by cases e),h3⟩
theorem run_lookS {w:World} {hnd f:Value} {key:ByteArray} (h:Hnd w hnd key f):(Instr.lookup 81 hnd (.string key) true).run Tryz.prog w = .ok (.tuple #[f,.bool true]) w:=by
 obtain ⟨gM,es,c,n,rfl,h2,h3⟩:=h
 have hk:∀ b,(Instr.checkKey b 10000 9 (.string key)).run Tryz.prog w = .ok () w:=fun b=>by
   rw [show (10000:Nat) = 9999 + 1 from rfl,Instr.checkKey,Sem.run_bind,run_underlying Tryz.underlying9]
   rfl
 have hf:(Instr.findKey 9 (.string key) es.toList).run Tryz.prog w = .ok (some (n,f)) w:=by
   unfold Instr.findKey
   rw [Sem.run_bind,run_underlying Tryz.underlying9 w]
   simp only [Result.andThen]
   rw [h3]
   rfl
 unfold Instr.lookup
 rw [Sem.run_bind,run_underlying Tryz.underlying81 w]
 simp only [Result.andThen]
 rw [Sem.run_bind,get_map h2]
 simp only [Result.andThen]
 rw [Sem.run_bind,Sem.run_pure]
 simp only [Result.andThen]
 rw [Sem.run_bind,hk]
 simp only [Result.andThen]
 rw [Sem.run_bind,hf]
 rfl
set_option maxRecDepth 100000 in
set_option maxHeartbeats 1000000 in
theorem keyOf_now (s:SS) (w0:World) (gS:Nat) (P:Nat → Prop) (x0 x1:Addr) (am:Option Addr) (cm:Nat) (master:List UInt8) (M:Mst w0 x0 x1 am master) (hm:s.mst = .slice am master.length cm) (l:Nat) (key:List UInt8) (ak:Option Addr) (ck:Nat) (hck:key.length ≤ ck) (rk:RowAt w0 ak key) (bv:Value) (hbv:∃ a n c,bv = .slice a n c)
   (gK nK cK:Nat) (hky:s.kys = .slice (some ⟨gK,0,none⟩) nK cK) (hto:l < nK) (hkey:w0.cell? ⟨gK,l * 2,none⟩ = some (.slice ak key.length ck)) (hbef:w0.cell? ⟨gK,l * 2 + 1,none⟩ = some bv) (data:List UInt8) (ad:Option Addr) (cd:Nat) (hcd:data.length ≤ cd) (hn:data.length ≤ 1048576) (hop:opB master key data = true)
   (w:World) (b0:Below w0.heap.size w0 w) (h:Ses w w0.heap.size gS P s) (rd:RowAt w ad data) :
   Calls Tryz.prog 130 #[.pointer (some ⟨gS,0,none⟩),.int .i64 (l:Int),.slice ad data.length cd] w fun e w' =>
     e = .returned (.tuple #[.slice ak key.length ck,.bool true]) ∧ Below w.heap.size w w':=by
 obtain ⟨wv,sv,lv,ps,h⟩:=h
 obtain ⟨bva,bvn,bvc,rfl⟩:=hbv
 obtain ⟨nk,hnk⟩:∃ n,n = key.length:=⟨_,rfl⟩
 obtain ⟨nD,hnD⟩:∃ n,n = data.length:=⟨_,rfl⟩
 obtain ⟨nM,hnM⟩:∃ n,n = master.length:=⟨_,rfl⟩
 have lgK:=World.block_lt_of_cell? w0 _ hkey
 have k0:w.cell? ⟨gK,l * 2,none⟩ = some (.slice ak nk ck):=by rw [hnk];exact (b0.cell (p:=⟨gK,l * 2,none⟩) lgK).trans hkey
 have k1:w.cell? ⟨gK,l * 2 + 1,none⟩ = some (.slice bva bvn bvc):=(b0.cell (p:=⟨gK,l * 2 + 1,none⟩) lgK).trans hbef
 have HRG:Hid (w.rangeAt gK (l * 2) [.slice ak nk ck,.slice bva bvn bvc]):=fun j u hu=>by
   cases j with
   | zero=>simp at hu;subst hu;exact k0
   | succ j =>
     cases j with
     | zero=>simp at hu;subst hu;exact k1
     | succ j=>simp at hu
 have c4:w.cell? ⟨gS,4,none⟩ = some (.slice (some ⟨gK,0,none⟩) nK cK):=by rw [← hky];exact h.c4
 obtain ⟨gR,hgR⟩:∃ n,n = w.heap.size:=⟨_,rfl⟩
 obtain ⟨W,hW⟩:∃ y,y = w.alloc (Obj.cells #[.slice ak nk ck,.slice bva bvn bvc] 140):=⟨_,rfl⟩
 have bW:Below w.heap.size w W:=by rw [hW];exact below_newS _ _
 have kR:Blk W gR 140 [.slice ak nk ck,.slice bva bvn bvc]:=by rw [hW,hgR];exact Blk.new _ _ _
 have r0:=kR.cell 0 (by simp)
 have r1:=kR.cell 1 (by simp)
 obtain ⟨gL,hgL⟩:∃ n,n = W.heap.size:=⟨_,rfl⟩
 obtain ⟨W1,hW1⟩:∃ y,y = W.alloc (Obj.cells #[.slice ak nk ck,.slice bva bvn bvc] 22):=⟨_,rfl⟩
 have bW1:Below W.heap.size W W1:=by rw [hW1];exact below_newS _ _
 have kL:Blk W1 gL 22 [.slice ak nk ck,.slice bva bvn bvc]:=by rw [hW1,hgL];exact Blk.new _ _ _
 have l0:=kL.cell 0 (by simp)
 have bw1:=bW.trans (bW1.mono bW.size)
 have b01:=b0.trans (bw1.mono b0.size)
 have c0:W1.cell? ⟨gS,0,none⟩ = some (.slice am nM cm):=by rw [hnM,← hm];exact (h.sm (Sm.below bw1)).c0
 have HOP:=hideT (opens_any master key data am ak ad cm ck cd x0 x1 W1 (M.sents.below b01) hck hcd hn (M.row.below b01) (rk.below b01) (rd.below bw1))
 rw [hop,← hnk,← hnD,← hnM] at HOP
 rw [← hnk,← hnD]
 have htoI:(l:Int) < (nK:Int):=by omega
 have HW:=hideT hW
 have HW1:=hideT hW1
 have HGR:=hideT hgR
 have HGL:=hideT hgL
 clear hW hW1 hgR hgL h rk rd hkey hbef hky hnk hnD hnM kR kL k0 k1 hop hm b0 b01 lgK
 go_enter Tryz.func130,Tryz.ntmps130
 go_upto_region 2 with (refine wpList_load_mid rfl 140 _ rfl gK (l * 2) (by go_simp) [.slice ak nk ck,.slice bva bvn bvc] _ HRG.out Tryz.underlying140 rfl (by kernel_rfl) ?_)
 rw [← show W = _ from HW,← show gR = _ from HGR]
 clear HW HGR
 go_wp2_with fail
 rw [← show W1 = _ from HW1,← show gL = _ from HGL]
 go_loopw [24] (fun i wr=>i = .int .i64 0 ∧ wr = W1) (fun i _=>1 - (intOf i).toNat)
 case atStart=>exact ⟨rfl,rfl⟩
 case round =>
   obtain ⟨rfl,hw⟩:=hrel
   have hw2:=hw.symm
   subst hw2
   clear hw
   go_wp2_with (go_at_call 16;refine HOP.out.mono ?_;rintro e w2 ⟨rfl,b2⟩)
   go_ret2
   exact ⟨rfl,bw1.trans (b2.mono bw1.size)⟩
def castL (l:List (Nat × List UInt8)):List (Int × List UInt8):=l.map fun p=>((p.1:Int),p.2)
theorem castL_length (l:List (Nat × List UInt8)):(castL l).length = l.length:=by unfold castL;simp
theorem castL_at (l:List (Nat × List UInt8)) (i:Nat) (hi:i < l.length):(castL l).getD i (0,[]) = (((l.getD i (0,[])).1:Int),(l.getD i (0,[])).2):=by
 unfold castL
 rw [List.getD_eq_getElem?_getD,List.getElem?_map,List.getD_eq_getElem?_getD,List.getElem?_eq_getElem hi]
 rfl
theorem fs_fv {w:World} {lo:Nat} {v:Value} {l:List (Nat × List UInt8)} {vs:List Value} (h:Fs w lo v l vs):Fv w v (castL l) vs ∧ Rws w (castL l) vs:=by
 refine ⟨⟨by rw [castL_length];exact h.len,by rw [castL_length];exact ownS h.row,fun i hi=>?_⟩,fun i hi=>?_⟩
 · rw [castL_length] at hi ⊢
   rw [castL_at l i hi]
   obtain ⟨c1,c2⟩:=fldCells_at l vs h.len i hi
   rcases h.row.2 with ⟨hv,hz⟩ | ⟨g,c,cur,hv,-⟩
   · omega
   · have row:=h.row
     subst hv
     exact ⟨g,0,c,rfl,by rw [Nat.zero_add,row.cellAt (i * 2) (by omega),c1],by rw [Nat.zero_add,row.cellAt (i * 2 + 1) (by omega),c2]⟩
 · rw [castL_length] at hi
   rw [castL_at l i hi]
   obtain ⟨a,c,e,r,-⟩:=(h.own i hi).shape
   exact ⟨a,c,e,r⟩
theorem fs_kp {P:Nat → Prop} {w y:World} {lo:Nat} {v:Value} {l:List (Nat × List UInt8)} {vs:List Value} (h:Fs w lo v l vs) (k:Kp P w y) (hn:∀ g,lo ≤ g → g < w.heap.size → ¬ P g):Fs y lo v l vs :=
 ⟨h.len,own_kp h.row k (fun g hg=>hn g (h.row.lt g hg).1 (h.row.lt g hg).2),fun i hi=>by
   obtain ⟨t,ho⟩:=h.own i hi
   exact ⟨t,own_kp ho k (fun g hg=>hn g (ho.lt g hg).1 (ho.lt g hg).2)⟩,h.sep,h.ap⟩
end Go.Proofs.YtbkokcjolanpeaaGreatDoor
