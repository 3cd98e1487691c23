import Derived.Test.YtbkokcjolanpeaaGreatDoorRgAO
namespace Go.Proofs.YtbkokcjolanpeaaGreatDoor
open Go.RowKit
def tkW (c:Int) (W:List Ent):List Ent:=W.filter (fun e=>!decide (e.2.2.2.2 < c))
def tkL (c:Int) (W:List Ent):List (Int × Int × ByteArray):=(W.filter (fun e=>decide (e.2.2.2.2 < c))).map (fun e=>(68,e.1,e.2.1))
theorem take_succ_getD {α:Type} (l:List α) (k:Nat) (d:α) (h:k < l.length):l.take (k + 1) = l.take k ++ [l.getD k d]:=takeP_snoc l k d h
theorem tkW_yes {c:Int} {W:List Ent} {k:Nat} (hk:k < W.length) (h:(W.getD k default).2.2.2.2 < c):tkW c (W.take (k + 1)) = tkW c (W.take k) ∧ tkL c (W.take (k + 1)) = tkL c (W.take k) ++ [(68,(W.getD k default).1,(W.getD k default).2.1)]:=by
 unfold tkW tkL
 rw [take_succ_getD W k default hk,List.filter_append,List.filter_append]
 constructor
 · rw [List.filter_cons_of_neg (by rw [decide_eq_true h];decide),List.filter_nil,List.append_nil]
 · rw [List.filter_cons_of_pos (by exact decide_eq_true h),List.filter_nil,List.map_append];rfl
theorem tkW_no {c:Int} {W:List Ent} {k:Nat} (hk:k < W.length) (h:¬ (W.getD k default).2.2.2.2 < c):tkW c (W.take (k + 1)) = tkW c (W.take k) ++ [W.getD k default] ∧ tkL c (W.take (k + 1)) = tkL c (W.take k):=by
 unfold tkW tkL
 rw [take_succ_getD W k default hk,List.filter_append,List.filter_append]
 constructor
 · rw [List.filter_cons_of_pos (by rw [decide_eq_false h];rfl),List.filter_nil]
 · rw [List.filter_cons_of_neg (by rw [decide_eq_false h];decide),List.filter_nil,List.append_nil]
def PL (B:Nat) (v:Value):Nat → Prop:=fun k=>B ≤ k ∧ v.ownBlock ≠ some k
theorem SesV.clock {w:World} {B gS:Nat} {P:Nat → Prop} {s:SS} {wv sv lv:Value} {ps:List Nat} (h:SesV w B gS P s wv sv lv ps) (k:Int):SesV (w.setCell ⟨gS,6,none⟩ (.int .i64 k)) B gS P { s with clock:=k } wv sv lv ps ∧ Below B w (w.setCell ⟨gS,6,none⟩ (.int .i64 k)) ∧ Sm sesT w (w.setCell ⟨gS,6,none⟩ (.int .i64 k)):=by
 have sm:=Sm.setCell (ts:=[84]) h.blk (by simp) 6 (.int .i64 k)
 exact ⟨⟨h.lo,h.blk.set 6 _,h.ents.sm sm (by decide),own_sm h.wrow sm (by decide),own_sm h.srow sm (by decide),own_sm h.lrow sm (by decide),h.pS,h.pw,h.pv,h.pl⟩,(Below.refl _ _).setCell h.lo _,sm.mono (by decide)⟩
theorem SesV.left {X Y:World} {B gS n:Nat} {s:SS} {v v2 wv sv lv:Value} {ps:List Nat} {xs:List Value} (h:SesV X B gS (PL B v) s wv sv lv ps) (row:X.ownsRow B 229 1 v n xs) (gr:X.grownBy Y v.ownBlock) (at2:v2.ownBlock = v.ownBlock ∨ v2.ownBlock = some X.heap.size):SesV Y B gS (PL B v2) s wv sv lv ps:=by
 have sm:=Sm.grown (ts:=[229]) gr (own_typed row)
 have hp:∀ k,k < X.heap.size → PL B v k → PL B v2 k:=fun k hk hq=>⟨hq.1,fun e=>by
   rcases at2 with e2 | e2
   · exact hq.2 (by rw [← e2];exact e)
   · rw [e2] at e;cases e;omega⟩
 refine ⟨h.lo,h.blk.sm sm (by decide),h.ents.sm sm (by decide),h.wrow.kept gr ?_,own_sm h.srow sm (by decide),own_sm h.lrow sm (by decide),hp _ h.blk.lt h.pS,fun g e=>hp g (h.wrow.lt g e).2 (h.pw g e),fun g e=>hp g (h.srow.lt g e).2 (h.pv g e),fun g e=>hp g (h.lrow.lt g e).2 (h.pl g e)⟩
 cases hw:wv.ownBlock with
 | none=>exact .inl rfl
 | some g=>exact .inr (fun e=>(h.pw g hw).2 e.symm)
set_option maxRecDepth 100000 in
set_option maxHeartbeats 2000000 in
theorem tick_any (s:SS) (w0:World) (gS:Nat) (n:Int) (hc0:0 ≤ s.clock) (hc1:s.clock ≤ 1000000) (hn0:0 ≤ n) (hn1:n ≤ 1000) (w:World) (b0:Below w0.heap.size w0 w) (h:Ses w w0.heap.size gS (fun k=>w0.heap.size ≤ k) s) (hlL:s.L.length ≤ 900000) (hlW:s.W.length ≤ 1000) :
   Calls Tryz.prog 73 #[.pointer (some ⟨gS,0,none⟩),.int .i64 n] w fun e w' =>
     e = .returned (.tuple #[]) ∧ Ses w' w0.heap.size gS (fun k=>w0.heap.size ≤ k) { s with clock:=s.clock + n,W:=tkW (s.clock + n) s.W,L:=s.L ++ tkL (s.clock + n) s.W } ∧ Below w0.heap.size w w' ∧ Sm sesT w w':=by
 obtain ⟨B,hB⟩:∃ n,n = w0.heap.size:=⟨_,rfl⟩
 rw [← hB] at h b0 ⊢
 have hBw:B ≤ w.heap.size:=by rw [hB];exact b0.size
 obtain ⟨wv,sv,lv,ps,h⟩:=h
 obtain ⟨aW,cW,rfl⟩:=ownS h.wrow
 obtain ⟨nW,hnW⟩:∃ n,n = s.W.length:=⟨_,rfl⟩
 rw [← hnW] at h hlW
 obtain ⟨c,hc⟩:∃ c,c = s.clock + n:=⟨_,rfl⟩
 rw [← hc]
 have hwr:IntKind.i64.wrap (s.clock + n) = c:=by rw [IntKind.wrap_i64,hc];omega
 obtain ⟨ck,hck⟩:∃ c,c = s.clock:=⟨_,rfl⟩
 have c6:w.cell? ⟨gS,6,none⟩ = some (.int .i64 ck):=by rw [hck];exact h.c6
 have f6:=h.blk.free 6
 rw [← hck] at hwr
 obtain ⟨hK,bK,sK⟩:=h.clock c
 obtain ⟨W,hW⟩:∃ y,y = w.setCell ⟨gS,6,none⟩ (.int .i64 c):=⟨_,rfl⟩
 rw [← hW] at hK bK sK
 have c9:W.cell? ⟨gS,9,none⟩ = some (.slice aW nW cW):=hK.c9
 have HK:=hideT hK
 have HNW:=hideT hnW
 have HW:=hideT hW
 have hBW:B ≤ W.heap.size:=Nat.le_trans hBw bK.size
 clear hnW hW hK hB hc hck h hc0 hc1 hn0 hn1
 go_enter Tryz.func73,Tryz.ntmps73
 go_upto_region 2 with fail
 rw [← show W = _ from HW]
 go_wp2_with fail
 go_loopw [4,20] (fun v4 i wr=>∃ (k m:Nat) (a4:Option Addr) (c4:Nat) (qs:List Nat) (lv':Value),k ≤ nW ∧ i = .int .i64 (k:Int) ∧ v4 = .slice a4 m c4 ∧ Hid (m = (tkW c (s.W.take k)).length) ∧ Hid (wr.ownsRow B 229 1 (.slice a4 m c4) m (ptrs qs)) ∧ Hid (EntsAt wr B qs (tkW c (s.W.take k))) ∧ Hid (SesV wr B gS (PL B (.slice a4 m c4)) { s with clock:=c,L:=s.L ++ tkL c (s.W.take k) } (.slice aW nW cW) sv lv' ps) ∧ Hid (Below B W wr) ∧ Hid (Sm sesT W wr)) (fun _ i _=>nW - (intOf i).toNat)
 case atStart =>
   refine ⟨0,0,none,0,[],lv,Nat.zero_le _,rfl,rfl,rfl,World.ownsRow_nil _ _ _ _,⟨rfl,fun i hi=>absurd hi (Nat.not_lt_zero i)⟩,?_,Below.refl _ _,Sm.refl _ _⟩
   have h2:=HK.out.weak (Q:=PL B (.slice none 0 0)) (fun k q1 _ _=>⟨q1,fun e=>by cases e⟩)
   show SesV W B gS _ { s with clock:=c,L:=s.L ++ [] } _ sv lv ps
   rw [List.append_nil]
   exact h2
 case round =>
   clear HW c6 f6 c9
   obtain ⟨k,m,a4,c4,qs,lv',hk,rfl,rfl,HM,HR,HE,HS,HBL,HSML⟩:=hrel
   by_cases hlt:k < nW
   · have hltI:(k:Int) < (nW:Int):=by omega
     have hkW:k < s.W.length:=by rw [← HNW.out];exact hlt
     obtain ⟨e,he⟩:∃ e,e = s.W.getD k default:=⟨_,rfl⟩
     obtain ⟨ge,hge⟩:∃ g,g = ps.getD k 0:=⟨_,rfl⟩
     have kE:=(HS.out.ents.2 k hkW).2
     have hBe:=(HS.out.ents.2 k hkW).1
     rw [← he,← hge] at kE
     rw [← hge] at hBe
     obtain ⟨gW,hgW⟩:∃ g,aW = some ⟨g,0,none⟩:=by
       rcases HS.out.wrow.2 with ⟨hv,hz⟩ | ⟨g,cc,cur,hv,-⟩
       · have:s.W.length = 0:=hz
         omega
       · cases hv;exact ⟨g,rfl⟩
     subst hgW
     have hrw:=HS.out.wrow
     have hrl:({ s with clock:=c,L:=s.L ++ tkL c (s.W.take k) }:SS).W.length = nW:=HNW.out.symm
     rw [hrl] at hrw
     have cp:wr.cell? ⟨gW,k,none⟩ = some (.pointer (some ⟨ge,0,none⟩)):=by
       rw [hrw.cellAt k (by omega)]
       unfold ptrs
       have hkp:k < ps.length:=by rw [HS.out.ents.1];exact hkW
       rw [List.getElem?_map,List.getElem?_eq_getElem hkp,hge,List.getD_eq_getElem?_getD,List.getElem?_eq_getElem hkp]
       rfl
     obtain ⟨es,hes⟩:∃ q,q = e.1:=⟨_,rfl⟩
     obtain ⟨en,hen⟩:∃ q,q = e.2.1:=⟨_,rfl⟩
     obtain ⟨et,het⟩:∃ q,q = e.2.2.2.2:=⟨_,rfl⟩
     have HEQ:=hideT (And.intro he (And.intro hes (And.intro hen het)))
     have q0:∀ y,Blk y ge 231 (entC e) → y.cell? ⟨ge,0,none⟩ = some (.int .i64 es) ∧ y.cell? ⟨ge,1,none⟩ = some (.string en) ∧ y.cell? ⟨ge,4,none⟩ = some (.int .i64 et):=fun y hy=>⟨by rw [hes];exact hy.cell 0 (by simp [entC]),by rw [hen];exact hy.cell 1 (by simp [entC]),by rw [het];exact hy.cell 4 (by simp [entC])⟩
     have Q0:=hideT q0
     have KE:=hideT kE
     have hBwr:B ≤ wr.heap.size:=Nat.le_trans hBW HBL.out.size
     clear he hge hes hen het kE q0 hrw hrl
     go_upto_region 5 with fail
     obtain ⟨V,hV⟩:∃ V,V = World.drew wr:=⟨_,rfl⟩
     have bV:Below wr.heap.size wr V:=by rw [hV];exact (Below.refl _ _).drew
     have kV:=KE.out.below bV KE.out.lt
     have sV:=HS.out.sm (Sm.below bV)
     have keep5:Hid (∀ {y},Below V.heap.size V y → y.cell? ⟨ge,4,none⟩ = some (.int .i64 et) ∧ y.cell? ⟨gS,6,none⟩ = some (.int .i64 c)):=fun hy=>⟨(Q0.out _ (kV.below hy kV.lt)).2.2,(sV.sm (Sm.below hy)).c6⟩
     have b_0:Below V.heap.size V V:=Below.refl _ _
     have HV:=hideT hV
     have SV:=hideT sV
     have KV:=hideT kV
     clear hV sV kV
     refine wp_region_held_drew (S:=fun y=>y.cell? ⟨ge,4,none⟩ = some (.int .i64 et) ∧ y.cell? ⟨gS,6,none⟩ = some (.int .i64 c)) (by kernel_rfl) (by rw [← show V = _ from HV];exact keep5.out b_0) (fun hHeld=>?_)
     rw [← show V = _ from HV] at hHeld ⊢
     clear HV
     by_cases ht:et < c
     · skip
       refine tkA (i:=0) (v:=(.pointer (some ⟨ge,0,none⟩))) rfl hHeld ?_
       try dsimp only [Act.put]
       refine tkA (i:=1) (v:=(.pointer (some ⟨ge,0,none⟩))) rfl hHeld ?_
       dsimp only [Act.put,List.getElem_toArray,List.getElem_cons_zero,List.getElem_cons_succ]
       simp only [List.setIfInBounds_toArray,List.set_cons_succ,List.set_cons_zero]
       refine tkA (i:=2) (v:=(.pointer (some ⟨ge,4,none⟩))) rfl hHeld ?_
       try dsimp only [Act.put]
       refine tk (i:=3) (v:=(.int .i64 et)) rfl (Or.inl ⟨by rfl,fun w1 h=>by have hc:=h.1;go_simp⟩) hHeld ?_
       dsimp only [Act.put,List.getElem_toArray,List.getElem_cons_zero,List.getElem_cons_succ]
       simp only [List.setIfInBounds_toArray,List.set_cons_succ,List.set_cons_zero]
       refine tkA (i:=4) (v:=(.pointer (some ⟨gS,0,none⟩))) rfl hHeld ?_
       try dsimp only [Act.put]
       refine tkA (i:=5) (v:=(.pointer (some ⟨gS,0,none⟩))) rfl hHeld ?_
       dsimp only [Act.put,List.getElem_toArray,List.getElem_cons_zero,List.getElem_cons_succ]
       simp only [List.setIfInBounds_toArray,List.set_cons_succ,List.set_cons_zero]
       refine tkA (i:=6) (v:=(.pointer (some ⟨gS,6,none⟩))) rfl hHeld ?_
       try dsimp only [Act.put]
       refine tk (i:=7) (v:=(.int .i64 c)) rfl (Or.inl ⟨by rfl,fun w1 h=>by have hc:=h.2;go_simp⟩) hHeld ?_
       dsimp only [Act.put,List.getElem_toArray,List.getElem_cons_zero,List.getElem_cons_succ]
       simp only [List.setIfInBounds_toArray,List.set_cons_succ,List.set_cons_zero]
       refine tkA (i:=8) (v:=(.bool true)) rfl hHeld ?_
       try dsimp only [Act.put]
       refine wpAnyH_done (by kernel_rfl) ?_ _
       clear hHeld
       clear keep5 b_0
       go_upto_region 6 with fail
       obtain ⟨Z,hZ⟩:∃ Z,Z = World.drew V:=⟨_,rfl⟩
       have bZ:Below wr.heap.size wr Z:=by rw [hZ];exact bV.drew
       have kZ:=KE.out.below bZ KE.out.lt
       have sZ:=HS.out.sm (Sm.below bZ)
       have hBZ:B ≤ Z.heap.size:=Nat.le_trans hBwr bZ.size
       have hlt4:=HR.out.lt
       have HNO:=hideT (note_anyV _ B gS (PL B (.slice a4 m c4)) _ _ _ _ 68 es en Z hBZ (fun q hq=>⟨Nat.le_trans hBZ hq,fun e2=>by
         have h3:=(hlt4 q e2).2
         have h4:=bZ.size
         omega⟩) sZ (by
         show (s.L ++ tkL c (s.W.take k)).length ≤ 1000000
         have h5:(tkL c (s.W.take k)).length ≤ s.W.length:=by
           unfold tkL
           rw [List.length_map]
           exact Nat.le_trans (List.length_filter_le _ _) (List.length_take_le' _ _)
         rw [List.length_append]
         have h6:=HNW.out
         omega))
       have KEEP6:Hid (∀ (y:World),Sm sesT Z y → y.cell? ⟨ge,0,none⟩ = some (.int .i64 es) ∧ y.cell? ⟨ge,1,none⟩ = some (.string en)):=fun y hy=>⟨(Q0.out _ (kZ.sm hy (by decide))).1,(Q0.out _ (kZ.sm hy (by decide))).2.1⟩
       have keep6:Hid (∀ {y},Below Z.heap.size Z y → y.cell? ⟨ge,0,none⟩ = some (.int .i64 es) ∧ y.cell? ⟨ge,1,none⟩ = some (.string en)):=fun hy=>KEEP6.out _ (Sm.below hy)
       have z_0:Below Z.heap.size Z Z:=Below.refl _ _
       have HZ:=hideT hZ
       have BZ:=hideT bZ
       clear hZ sZ kZ hlt4 bZ
       refine wp_region_held_drew (S:=fun y=>y.cell? ⟨ge,0,none⟩ = some (.int .i64 es) ∧ y.cell? ⟨ge,1,none⟩ = some (.string en)) (by kernel_rfl) (by rw [← show Z = _ from HZ];exact keep6.out z_0) (fun hHeld=>?_)
       rw [← show Z = _ from HZ] at hHeld ⊢
       clear HZ
       refine tkA (i:=0) (v:=(.pointer (some ⟨gS,0,none⟩))) rfl hHeld ?_
       dsimp only [Act.put,List.getElem_toArray,List.getElem_cons_zero,List.getElem_cons_succ]
       simp only [List.setIfInBounds_toArray,List.set_cons_succ,List.set_cons_zero]
       refine tkA (i:=1) (v:=(.pointer (some ⟨ge,0,none⟩))) rfl hHeld ?_
       try dsimp only [Act.put]
       refine tkA (i:=2) (v:=(.pointer (some ⟨ge,0,none⟩))) rfl hHeld ?_
       dsimp only [Act.put,List.getElem_toArray,List.getElem_cons_zero,List.getElem_cons_succ]
       simp only [List.setIfInBounds_toArray,List.set_cons_succ,List.set_cons_zero]
       refine tkA (i:=3) (v:=(.pointer (some ⟨ge,0,none⟩))) rfl hHeld ?_
       try dsimp only [Act.put]
       refine tk (i:=4) (v:=(.int .i64 es)) rfl (Or.inl ⟨by rfl,fun w1 h=>by have hc:=h.1;go_simp⟩) hHeld ?_
       dsimp only [Act.put,List.getElem_toArray,List.getElem_cons_zero,List.getElem_cons_succ]
       simp only [List.setIfInBounds_toArray,List.set_cons_succ,List.set_cons_zero]
       refine tkA (i:=5) (v:=(.pointer (some ⟨ge,0,none⟩))) rfl hHeld ?_
       try dsimp only [Act.put]
       refine tkA (i:=6) (v:=(.pointer (some ⟨ge,0,none⟩))) rfl hHeld ?_
       dsimp only [Act.put,List.getElem_toArray,List.getElem_cons_zero,List.getElem_cons_succ]
       simp only [List.setIfInBounds_toArray,List.set_cons_succ,List.set_cons_zero]
       refine tkA (i:=7) (v:=(.pointer (some ⟨ge,1,none⟩))) rfl hHeld ?_
       try dsimp only [Act.put]
       refine tk (i:=8) (v:=(.string en)) rfl (Or.inl ⟨by rfl,fun w1 h=>by have hc:=h.2;go_simp⟩) hHeld ?_
       dsimp only [Act.put,List.getElem_toArray,List.getElem_cons_zero,List.getElem_cons_succ]
       simp only [List.setIfInBounds_toArray,List.set_cons_succ,List.set_cons_zero]
       refine rdy1 9 (fun K hK=>?_)
       go_simp
       refine HNO.out.mono ?_
       rintro e U ⟨rfl,⟨lv2,hS2⟩,bU,sU,pU⟩
       have K6:=KEEP6.out U sU
       go_wp2_with fail
       refine hK.out _ _ K6 (fun hHeld=>?_)
       clear hK K
       try dsimp only [Act.put]
       refine wpAnyH_done (by kernel_rfl) ?_ _
       clear hHeld
       have htk:=tkW_yes hkW (c:=c) (by rw [← HEQ.out.1,← HEQ.out.2.2.2];exact ht)
       rw [← HEQ.out.1,← HEQ.out.2.1,← HEQ.out.2.2.1] at htk
       have HTK:=hideT htk
       have HS2:=hideT hS2
       clear htk hS2 K6 KEEP6 keep6 z_0 HNO
       go_wp2_with fail
       go_roundw
       case rel =>
         refine ⟨k + 1,m,a4,c4,qs,lv2,by omega,by go_num,rfl,?_,?_,?_,?_,?_,?_⟩
         · show m = _;rw [HTK.out.1];exact HM.out
         · exact own_kp (own_sm (ts:=[]) HR.out (Sm.below BZ.out) (by simp)) pU (fun g hg hq=>hq.2 hg)
         · show EntsAt _ _ _ _;rw [HTK.out.1];exact (HE.out.sm (ts:=[]) (Sm.below BZ.out) (by simp)).sm sU (by decide)
         · show SesV _ _ _ _ _ _ _ _ _
           rw [HTK.out.2,← List.append_assoc]
           exact HS2.out
         · exact HBL.out.trans ((BZ.out.mono hBwr).trans bU)
         · exact HSML.out.trans ((Sm.below BZ.out).trans sU)
       case measure=>simp [intOf];omega
     · skip
       refine tkA (i:=0) (v:=(.pointer (some ⟨ge,0,none⟩))) rfl hHeld ?_
       try dsimp only [Act.put]
       refine tkA (i:=1) (v:=(.pointer (some ⟨ge,0,none⟩))) rfl hHeld ?_
       dsimp only [Act.put,List.getElem_toArray,List.getElem_cons_zero,List.getElem_cons_succ]
       simp only [List.setIfInBounds_toArray,List.set_cons_succ,List.set_cons_zero]
       refine tkA (i:=2) (v:=(.pointer (some ⟨ge,4,none⟩))) rfl hHeld ?_
       try dsimp only [Act.put]
       refine tk (i:=3) (v:=(.int .i64 et)) rfl (Or.inl ⟨by rfl,fun w1 h=>by have hc:=h.1;go_simp⟩) hHeld ?_
       dsimp only [Act.put,List.getElem_toArray,List.getElem_cons_zero,List.getElem_cons_succ]
       simp only [List.setIfInBounds_toArray,List.set_cons_succ,List.set_cons_zero]
       refine tkA (i:=4) (v:=(.pointer (some ⟨gS,0,none⟩))) rfl hHeld ?_
       try dsimp only [Act.put]
       refine tkA (i:=5) (v:=(.pointer (some ⟨gS,0,none⟩))) rfl hHeld ?_
       dsimp only [Act.put,List.getElem_toArray,List.getElem_cons_zero,List.getElem_cons_succ]
       simp only [List.setIfInBounds_toArray,List.set_cons_succ,List.set_cons_zero]
       refine tkA (i:=6) (v:=(.pointer (some ⟨gS,6,none⟩))) rfl hHeld ?_
       try dsimp only [Act.put]
       refine tk (i:=7) (v:=(.int .i64 c)) rfl (Or.inl ⟨by rfl,fun w1 h=>by have hc:=h.2;go_simp⟩) hHeld ?_
       dsimp only [Act.put,List.getElem_toArray,List.getElem_cons_zero,List.getElem_cons_succ]
       simp only [List.setIfInBounds_toArray,List.set_cons_succ,List.set_cons_zero]
       refine tkA (i:=8) (v:=(.bool false)) rfl hHeld ?_
       try dsimp only [Act.put]
       refine wpAnyH_done (by kernel_rfl) ?_ _
       clear hHeld
       clear keep5 b_0
       have htk:=tkW_no hkW (c:=c) (by rw [← HEQ.out.1,← HEQ.out.2.2.2];exact ht)
       rw [← HEQ.out.1] at htk
       have HTK:=hideT htk
       obtain ⟨i0,hi0,hz0,hz1,hz2⟩:=info_parts Tryz.infoPe
       obtain ⟨X,hX⟩:∃ y,y = V.alloc (Obj.cells #[.pointer (some ⟨ge,0,none⟩)] 229):=⟨_,rfl⟩
       have bX:Below V.heap.size V X:=by rw [hX];exact below_newS _ _
       have kX:Blk X V.heap.size 229 [.pointer (some ⟨ge,0,none⟩)]:=by rw [hX];exact Blk.new _ _ _
       have bwX:=bV.trans (bX.mono bV.size)
       have RX:=hideT (own_sm (ts:=[]) HR.out (Sm.below bwX) (by simp))
       have hm:m ≤ 1000:=by
         have h5:(tkW c (s.W.take k)).length ≤ s.W.length:=by
           unfold tkW
           exact Nat.le_trans (List.length_filter_le _ _) (List.length_take_le' _ _)
         have:=HM.out
         have:=HNW.out
         omega
       have hBX:B ≤ X.heap.size:=Nat.le_trans hBwr bwX.size
       have KX:=hideT kX
       have HX:=hideT hX
       have BWX:=hideT bwX
       clear htk hX kX bX bwX bV
       go_wp2_with (at_builtin;(rw [← show X = _ from HX];refine wpList_append_own_at _ rfl _ _ 82 rfl B 229 i0 (.pointer none) 1 8 Tryz.underlying82 hi0 hz0 hz1 hz2 rfl (by decide) (.slice a4 m c4) m _ rfl RX.out ⟨V.heap.size,0,none⟩ 1 1 [.pointer (some ⟨ge,0,none⟩)] rfl rfl (newsB KX.out) (by intro u hu;simp at hu;rw [hu];rfl) (by unfold maxLen;omega) (by omega) hBX ?_;intro v5 Y row5 gr5 _ at5;obtain ⟨a5,c5,rfl⟩:=ownS row5))
       have sm5:=Sm.grown (ts:=[229]) gr5 (own_typed RX.out)
       have HFIN:=hideT (And.intro row5 (And.intro gr5 (And.intro at5 sm5)))
       clear row5 gr5 at5 sm5
       go_roundw
       case rel =>
         refine ⟨k + 1,m + 1,a5,c5,qs ++ [ge],lv',by omega,by go_num,rfl,?_,?_,?_,?_,?_,?_⟩
         · show m + 1 = _;rw [HTK.out.1,List.length_append,← HM.out];rfl
         · show World.ownsRow _ _ _ _ _ _ _
           have r:=HFIN.out.1
           unfold ptrs at r ⊢
           rw [List.map_append]
           exact r
         · show EntsAt _ _ _ _
           rw [HTK.out.1]
           exact ((HE.out.sm (ts:=[]) (Sm.below BWX.out) (by simp)).snoc hBe (KE.out.below BWX.out KE.out.lt)).sm HFIN.out.2.2.2 (by decide)
         · show SesV _ _ _ _ _ _ _ _ _
           rw [HTK.out.2]
           exact (HS.out.sm (Sm.below BWX.out)).left RX.out HFIN.out.2.1 HFIN.out.2.2.1
         · exact HBL.out.trans ((BWX.out.mono hBwr).trans ((Below.refl _ _).grown HFIN.out.2.1 hBX (fun g hg=>(RX.out.lt g hg).1)))
         · exact HSML.out.trans ((Sm.below BWX.out).trans (HFIN.out.2.2.2.mono (by decide)))
       case measure=>simp [intOf];omega
   · obtain rfl:k = nW:=by omega
     have hltI:¬ (k:Int) < (k:Int):=by omega
     have hall:s.W.take k = s.W:=by rw [HNW.out];exact List.take_length
     have hS:=HS.out
     have hE:=HE.out
     have hM:=HM.out
     rw [hall] at hS hE hM
     have c9:=hS.c9
     have f9:=hS.blk.free 9
     have sm:=Sm.setCell (ts:=[84]) hS.blk (by simp) 9 (.slice a4 m c4)
     have HFIN:Hid (SesV (wr.setCell ⟨gS,9,none⟩ (.slice a4 m c4)) B gS (fun k=>B ≤ k) { s with clock:=c,W:=tkW c s.W,L:=s.L ++ tkL c s.W } (.slice a4 m c4) sv lv' qs ∧ Below B W (wr.setCell ⟨gS,9,none⟩ (.slice a4 m c4)) ∧ Sm sesT W (wr.setCell ⟨gS,9,none⟩ (.slice a4 m c4))) :=
       ⟨⟨hS.lo,hS.blk.set 9 _,hE.sm sm (by decide),by
         show World.ownsRow _ B _ 1 _ (tkW c s.W).length _
         rw [← hM]
         exact own_sm HR.out sm (by decide),own_sm hS.srow sm (by decide),own_sm hS.lrow sm (by decide),hS.pS.1,fun g hg=>(HR.out.lt g hg).1,fun g hg=>(hS.pv g hg).1,fun g hg=>(hS.pl g hg).1⟩,HBL.out.setCell hS.lo _,HSML.out.trans (sm.mono (by decide))⟩
     clear hS hE hM sm
     go_wp2_with fail
     go_end0
     exact ⟨rfl,⟨_,_,_,_,HFIN.out.1⟩,bK.trans HFIN.out.2.1,sK.trans HFIN.out.2.2⟩
set_option maxHeartbeats 1000000 in
theorem play_msg (gS:Nat) (l N:Int) (dv:Value) (w:World) (Q:Ending → World → Prop) (h:Calls Tryz.prog 74 #[.pointer (some ⟨gS,0,none⟩),.int .i64 l,dv] (w.alloc (Obj.cells #[.int .i64 1,.int .i64 l,.int .i64 N,dv] 38)) Q) (hr:∀ e w',Q e w' → e = .returned (.tuple #[])) :
   Calls Tryz.prog 28 #[.pointer (some ⟨gS,0,none⟩),.agg #[.int .i64 1,.int .i64 l,.int .i64 N,dv]] w Q:=by
 obtain ⟨W,hW⟩:∃ y,y = w.alloc (Obj.cells #[.int .i64 1,.int .i64 l,.int .i64 N,dv] 38):=⟨_,rfl⟩
 obtain ⟨gE,hgE⟩:∃ n,n = w.heap.size:=⟨_,rfl⟩
 have kE:Blk W gE 38 [.int .i64 1,.int .i64 l,.int .i64 N,dv]:=by rw [hW,hgE];exact Blk.new _ _ _
 rw [← hW] at h
 have e0:=kE.cell 0 (by simp)
 have e1:=kE.cell 1 (by simp)
 have e3:=kE.cell 3 (by simp)
 have H:=hideT h
 have HR:=hideT hr
 have HW:=hideT hW
 have HGE:=hideT hgE
 clear h hr hW hgE kE
 go_enter Tryz.func28,Tryz.ntmps28
 go_upto_region 1 with fail
 rw [← show W = _ from HW,← show gE = _ from HGE]
 go_wp2_with fail
 refine H.out.mono ?_
 intro e w2 hq
 obtain rfl:=HR.out _ _ hq
 go_wp2_with fail
 go_end0
 exact hq
set_option maxHeartbeats 1000000 in
theorem play_tick (gS:Nat) (l N:Int) (dv:Value) (w:World) (Q:Ending → World → Prop) (h:Calls Tryz.prog 73 #[.pointer (some ⟨gS,0,none⟩),.int .i64 N] (w.alloc (Obj.cells #[.int .i64 2,.int .i64 l,.int .i64 N,dv] 38)) Q) (hr:∀ e w',Q e w' → e = .returned (.tuple #[])) :
   Calls Tryz.prog 28 #[.pointer (some ⟨gS,0,none⟩),.agg #[.int .i64 2,.int .i64 l,.int .i64 N,dv]] w Q:=by
 obtain ⟨W,hW⟩:∃ y,y = w.alloc (Obj.cells #[.int .i64 2,.int .i64 l,.int .i64 N,dv] 38):=⟨_,rfl⟩
 obtain ⟨gE,hgE⟩:∃ n,n = w.heap.size:=⟨_,rfl⟩
 have kE:Blk W gE 38 [.int .i64 2,.int .i64 l,.int .i64 N,dv]:=by rw [hW,hgE];exact Blk.new _ _ _
 rw [← hW] at h
 have e0:=kE.cell 0 (by simp)
 have e2:=kE.cell 2 (by simp)
 have H:=hideT h
 have HR:=hideT hr
 have HW:=hideT hW
 have HGE:=hideT hgE
 clear h hr hW hgE kE
 go_enter Tryz.func28,Tryz.ntmps28
 go_upto_region 1 with fail
 rw [← show W = _ from HW,← show gE = _ from HGE]
 go_wp2_with fail
 refine H.out.mono ?_
 intro e w2 hq
 obtain rfl:=HR.out _ _ hq
 go_wp2_with fail
 go_end0
 exact hq
def putM (w:World) (r:Nat) (es:Array MapEntry) (c:Nat) (key:ByteArray) (v:Value):World:={ w with heap:=w.heap.setIfInBounds r (.map (es.push { key:=.string key,val:=v,born:=c }) (c + 1)) }
theorem run_putS (r:Nat) (es:Array MapEntry) (c:Nat) (key:ByteArray) (v:Value) (w:World) (hb:w.heap[r]? = some (.map es c)) (hf:Instr.findNow .string (.string key) es.toList 0 = some none) :
   (Instr.mapUpdate 81 (.map (some r)) (.string key) v).run Tryz.prog w = .ok () (putM w r es c key v):=by
 have hk:∀ b,(Instr.checkKey b 10000 9 (.string key)).run Tryz.prog w = .ok () w:=fun b=>by
   rw [show (10000:Nat) = 9999 + 1 from rfl,Instr.checkKey,Sem.run_bind,run_underlying Tryz.underlying9]
   rfl
 have hfk:(Instr.findKey 9 (.string key) es.toList).run Tryz.prog w = .ok none w:=by
   unfold Instr.findKey
   rw [Sem.run_bind,run_underlying Tryz.underlying9 w]
   simp only [Result.andThen]
   rw [hf]
   rfl
 unfold Instr.mapUpdate
 rw [Sem.run_bind,run_underlying Tryz.underlying81 w]
 simp only [Result.andThen]
 rw [Sem.run_bind,get_map hb]
 simp only [Result.andThen]
 rw [Sem.run_bind,hk]
 simp only [Result.andThen]
 rw [Sem.run_bind,hfk]
 simp only [Result.andThen]
 simp [setObj,Sem.run,hb,putM]
theorem putM_self {w:World} {r:Nat} {es:Array MapEntry} {c:Nat} (key:ByteArray) (v:Value) (hb:w.heap[r]? = some (.map es c)):(putM w r es c key v).heap[r]? = some (.map (es.push { key:=.string key,val:=v,born:=c }) (c + 1)):=by
 unfold putM
 have:=(Array.getElem?_eq_some_iff.1 hb).1
 simp [this]
theorem putM_other {w:World} {r k:Nat} (es:Array MapEntry) (c:Nat) (key:ByteArray) (v:Value) (hne:k ≠ r):(putM w r es c key v).heap[k]? = w.heap[k]?:=by
 unfold putM
 show (w.heap.setIfInBounds r _)[k]? = _
 rw [Array.getElem?_setIfInBounds_ne (by omega)]
theorem putM_size (w:World) (r:Nat) (es:Array MapEntry) (c:Nat) (key:ByteArray) (v:Value):(putM w r es c key v).heap.size = w.heap.size:=by unfold putM;simp
def hFn (gS F:Nat):Value:=.func (Fn.func F) #[.pointer (some ⟨gS,0,none⟩)] #[]
def ses0 (mst lnk rts kv:Value) (room:Int) (gM:Nat):SS:={ mst:=mst,lnk:=lnk,rts:=rts,room:=room,kys:=kv,hnd:=.map (some gM),clock:=0,drw:=.slice none 0 0,next:=1,W:=[],S:=[],L:=[] }
theorem below_putM {B:Nat} {a w:World} (h:Below B a w) {r:Nat} (hr:B ≤ r) (es:Array MapEntry) (c:Nat) (key:ByteArray) (v:Value):Below B a (putM w r es c key v) :=
 h.trans ⟨rfl,rfl,rfl,by rw [putM_size];exact Nat.le_refl _,fun k hk=>putM_other es c key v (by omega)⟩
set_option maxRecDepth 100000 in
set_option maxHeartbeats 1000000 in
theorem newSession_any (am al ar ak:Option Addr) (nm cm nl cl nr cr nk ck:Nat) (room:Int) (w:World) :
   Calls Tryz.prog 27 #[.agg #[.slice am nm cm,.slice al nl cl,.slice ar nr cr,.int .i64 room],.slice ak nk ck] w fun e w' =>
     ∃ gS gM,e = .returned (.pointer (some ⟨gS,0,none⟩)) ∧ Ses w' w.heap.size gS (fun k=>w.heap.size ≤ k) (ses0 (.slice am nm cm) (.slice al nl cl) (.slice ar nr cr) (.slice ak nk ck) room gM) ∧ Hnd w' (.map (some gM)) ⟨#[48,49,48,48]⟩ (hFn gS 70) ∧ Hnd w' (.map (some gM)) ⟨#[48,56,48,48]⟩ (hFn gS 72) ∧ Below w.heap.size w w':=by
 obtain ⟨W,hW⟩:∃ y,y = w.alloc (Obj.cells #[.slice am nm cm,.slice al nl cl,.slice ar nr cr,.int .i64 room] 26):=⟨_,rfl⟩
 obtain ⟨gC,hgC⟩:∃ n,n = w.heap.size:=⟨_,rfl⟩
 have kC:Blk W gC 26 [.slice am nm cm,.slice al nl cl,.slice ar nr cr,.int .i64 room]:=by rw [hW,hgC];exact Blk.new _ _ _
 have bW:Below w.heap.size w W:=by rw [hW];exact below_newS _ _
 obtain ⟨gS,hgS⟩:∃ n,n = W.heap.size:=⟨_,rfl⟩
 obtain ⟨W2,hW2⟩:∃ y,y = W.alloc (Obj.cells #[.slice am nm cm,.slice al nl cl,.slice ar nr cr,.int .i64 room,.slice ak nk ck,.map none,.int .i64 0,.slice none 0 0,.int .i64 1,.slice none 0 0,.slice none 0 0,.slice none 0 0] 84):=⟨_,rfl⟩
 have k2:Blk W2 gS 84 [.slice am nm cm,.slice al nl cl,.slice ar nr cr,.int .i64 room,.slice ak nk ck,.map none,.int .i64 0,.slice none 0 0,.int .i64 1,.slice none 0 0,.slice none 0 0,.slice none 0 0]:=by rw [hW2,hgS];exact Blk.new _ _ _
 have b2:Below w.heap.size w W2:=by rw [hW2];exact bW.alloc bW.size _
 have lgS:w.heap.size ≤ gS:=by rw [hgS];exact bW.size
 obtain ⟨gM,hgM⟩:∃ n,n = W2.heap.size:=⟨_,rfl⟩
 obtain ⟨W3,hW3⟩:∃ y,y = W2.alloc (Obj.map #[] 0):=⟨_,rfl⟩
 have hmm:(Instr.makeMap 81 none).run Tryz.prog W2 = .ok (.map (some gM)) W3:=by rw [hW3,hgM];rfl
 have m3:W3.heap[gM]? = some (Obj.map #[] 0):=by rw [hW3,hgM];exact heap_alloc_new _ _
 have k3:=k2.alloc (Obj.map #[] 0)
 rw [← hW3] at k3
 have b3:Below w.heap.size w W3:=by rw [hW3];exact b2.alloc b2.size _
 have hne:gS ≠ gM:=by have:=k2.lt;omega
 have lgM:w.heap.size ≤ gM:=by rw [hgM];exact b2.size
 obtain ⟨W4,hW4⟩:∃ y,y = putM W3 gM #[] 0 ⟨#[48,49,48,48]⟩ (hFn gS 70):=⟨_,rfl⟩
 have p4:=run_putS gM #[] 0 ⟨#[48,49,48,48]⟩ (hFn gS 70) W3 m3 rfl
 have m4:=putM_self ⟨#[48,49,48,48]⟩ (hFn gS 70) m3
 rw [← hW4] at p4 m4
 obtain ⟨E4,hE4⟩:∃ es:Array MapEntry,es = (#[]:Array MapEntry).push { key:=.string ⟨#[48,49,48,48]⟩,val:=hFn gS 70,born:=0 }:=⟨_,rfl⟩
 rw [← hE4] at m4
 obtain ⟨W5,hW5⟩:∃ y,y = putM W4 gM E4 1 ⟨#[48,49,49,48]⟩ (hFn gS 71):=⟨_,rfl⟩
 have p5:=run_putS gM E4 1 ⟨#[48,49,49,48]⟩ (hFn gS 71) W4 m4 (by rw [hE4];rfl)
 have m5:=putM_self ⟨#[48,49,49,48]⟩ (hFn gS 71) m4
 rw [← hW5] at p5 m5
 obtain ⟨E5,hE5⟩:∃ es:Array MapEntry,es = E4.push { key:=.string ⟨#[48,49,49,48]⟩,val:=hFn gS 71,born:=1 }:=⟨_,rfl⟩
 rw [← hE5] at m5
 obtain ⟨W6,hW6⟩:∃ y,y = putM W5 gM E5 2 ⟨#[48,56,48,48]⟩ (hFn gS 72):=⟨_,rfl⟩
 have p6:=run_putS gM E5 2 ⟨#[48,56,48,48]⟩ (hFn gS 72) W5 m5 (by rw [hE5,hE4];rfl)
 have m6:=putM_self ⟨#[48,56,48,48]⟩ (hFn gS 72) m5
 rw [← hW6] at p6 m6
 have b4:Below w.heap.size w W4:=by rw [hW4];exact below_putM b3 lgM _ _ _ _
 have b5:Below w.heap.size w W5:=by rw [hW5];exact below_putM b4 lgM _ _ _ _
 have b6:Below w.heap.size w W6:=by rw [hW6];exact below_putM b5 lgM _ _ _ _
 have k6:Blk W6 gS 84 [.slice am nm cm,.slice al nl cl,.slice ar nr cr,.int .i64 room,.slice ak nk ck,.map none,.int .i64 0,.slice none 0 0,.int .i64 1,.slice none 0 0,.slice none 0 0,.slice none 0 0]:=by
   unfold Blk at k3 ⊢
   rw [hW6,putM_other _ _ _ _ hne,hW5,putM_other _ _ _ _ hne,hW4,putM_other _ _ _ _ hne]
   exact k3
 have c5:=k6.cell 5 (by simp)
 have f5:=k6.free 5
 have k7:=k6.set 5 (.map (some gM))
 have m7:(W6.setCell ⟨gS,5,none⟩ (.map (some gM))).heap[gM]? = _:=(Below.heap_setCell W6 ⟨gS,5,none⟩ (.map (some gM)) gM (Ne.symm hne)).trans m6
 have FIN:Hid (Ses (W6.setCell ⟨gS,5,none⟩ (.map (some gM))) w.heap.size gS (fun k=>w.heap.size ≤ k) (ses0 (.slice am nm cm) (.slice al nl cl) (.slice ar nr cr) (.slice ak nk ck) room gM) ∧ Hnd (W6.setCell ⟨gS,5,none⟩ (.map (some gM))) (.map (some gM)) ⟨#[48,49,48,48]⟩ (hFn gS 70) ∧ Hnd (W6.setCell ⟨gS,5,none⟩ (.map (some gM))) (.map (some gM)) ⟨#[48,56,48,48]⟩ (hFn gS 72) ∧ Below w.heap.size w (W6.setCell ⟨gS,5,none⟩ (.map (some gM)))) :=
   ⟨⟨.slice none 0 0,.slice none 0 0,.slice none 0 0,[],lgS,k7,⟨rfl,fun i hi=>absurd hi (Nat.not_lt_zero i)⟩,World.ownsRow_nil _ _ _ _,World.ownsRow_nil _ _ _ _,World.ownsRow_nil _ _ _ _,lgS,(fun g e=>by cases e),(fun g e=>by cases e),(fun g e=>by cases e)⟩,⟨gM,_,_,0,rfl,m7,by rw [hE5,hE4];rfl⟩,⟨gM,_,_,2,rfl,m7,by rw [hE5,hE4];rfl⟩,b6.setCell lgS _⟩
 have HW:=hideT hW
 have HW2:=hideT hW2
 have HGC:=hideT hgC
 have HGS:=hideT hgS
 clear hW hW2 hgC hgS hgM hW3 hW4 hW5 hW6 hE4 hE5 m3 m4 m5 m6 m7 k7 k6 k3 b3 b4 b5 b6 b2
 unfold hFn at p4 p5 p6
 go_enter Tryz.func27,Tryz.ntmps27
 go_upto_region 1 with fail
 rw [← show W = _ from HW,← show gC = _ from HGC]
 go_upto_region 2 with (refine load_blk rfl 26 _ rfl gC rfl kC Tryz.underlying26 rfl (by kernel_rfl) ?_)
 rw [← show W2 = _ from HW2,← show gS = _ from HGS]
 go_wp2_with fail
 go_ret
 exact ⟨gS,gM,rfl,FIN.out.1,FIN.out.2.1,FIN.out.2.2.1,FIN.out.2.2.2⟩
end Go.Proofs.YtbkokcjolanpeaaGreatDoor
