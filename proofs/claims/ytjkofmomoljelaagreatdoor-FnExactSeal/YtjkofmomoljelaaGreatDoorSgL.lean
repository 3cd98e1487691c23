import Derived.Test.YtjkofmomoljelaaGreatDoorSgK
namespace Go.Proofs.YtjkofmomoljelaaGreatDoor
open Go.RowKit
theorem wp_make8 {w:World} {o:Oper} {a:Act} {K:Act → World → Prop} {Q:Exit → Act → World → Prop} (l c:Operand) (hop:o.op = Op.makeSlice 22 l c) (hl:a.eval l = .int .i64 8) (hc:a.eval c = .int .i64 8)
   (h:∀ w',Blk w' w.heap.size 5 (zeroM.map byte) → Below w.heap.size w w' → K (a.put o.dst (.slice (some ⟨w.heap.size,0,none⟩) 8 8)) w'):o.wp Tryz.prog a w K Q:=by
 obtain ⟨i0,hi,hz0,hz1,hz2⟩:=info_parts Tryz.infoB8
 obtain ⟨w',hrun,r1,r2⟩:=run_make_full (P:=Tryz.prog) w w.heap.size 22 5 i0 (.int .u8 0) 1 Tryz.underlying22 hi hz0 hz1 .i64 .i64 8 (by rw [hz2];omega) (by unfold maxLen;omega) (Nat.le_refl _)
 have e8:((8:Nat):Int) = 8:=rfl
 rw [e8] at hrun
 unfold Oper.wp
 simp [execOp,hop,hl,hc,hrun,Result.andThen]
 rw [made_zero] at r1
 have k:=own_blk r1
 exact h w' k (below_of_grown r2)
theorem wp_append_B {w:World} {o:Oper} {a:Act} {K:Act → World → Prop} {Q:Exit → Act → World → Prop} (s x:Operand)
   (ho:o.op = .call { callee:=.builtin .append,args:=#[s,x],argTypes:=#[22,22] }) (base:Nat) (v:Value) (l d:List UInt8) (hs:a.eval s = v) (hown:OwnB w base v l) (ao:Option Addr) (c:Nat) (hx:a.eval x = .slice ao d.length c) (hr:RowAt w ao d) (h63:l.length + d.length ≤ 1073741824) (hbase:base ≤ w.heap.size)
   (h:∀ v' w',OwnB w' base v' (l ++ d) → w.grownBy w' v.ownBlock → K (a.put o.dst v') w'):o.wp Tryz.prog a w K Q:=by
 obtain ⟨v',w',hrun,h2,h3⟩:=run_append_bytes base o.type v l d hown ao c hr h63 hbase
 unfold Oper.wp execOp
 simp only [ho,resolve,invoke,builtin,Sem.run_bind,Sem.run_pure,Result.andThen_ok,List.map_toArray,List.map_cons,List.map_nil,hs,hx,hrun]
 exact h v' w' h2 h3
theorem keepF_snoc (A:List (Int × List UInt8)) (p:Int × List UInt8):keepF (A ++ [p]) = if macNo p.1 = true then keepF A else keepF A ++ [p]:=by
 unfold keepF
 rw [List.filter_append]
 by_cases h:macNo p.1 = true
 · rw [if_pos h];simp [h]
 · rw [if_neg h];simp [h]
def noAt (L:List (Int × List UInt8)):Int:=if L.any (fun p=>above64 p.1) = true then 128 else 64
theorem noAt_snoc (A:List (Int × List UInt8)) (p:Int × List UInt8):noAt (A ++ [p]) = if above64 p.1 = true then 128 else noAt A:=by
 unfold noAt
 rw [List.any_append]
 by_cases h:above64 p.1 = true
 · rw [if_pos h,if_pos];simp [h]
 · rw [if_neg h]
   have:(A.any (fun p=>above64 p.1) || [p].any (fun p=>above64 p.1)) = A.any (fun p=>above64 p.1):=by simp [h]
   rw [this]
set_option maxRecDepth 100000 in
set_option maxHeartbeats 8000000 in
theorem sealS_any (master key:List UInt8) (s:ByteArray) (L:List (Int × List UInt8)) (hz:s.size ≤ maxLen) (hsz:∀ p ∈ L,p.2.length ≤ 1048576) (hL:L.length ≤ 1048576) (am ak:Option Addr) (cm ck:Nat) (v:Value) (w:World) (hm:master.length ≤ 1048576) (hck:key.length ≤ ck) (rm:RowAt w am master) (rk:RowAt w ak key) (Fr0:Fr w v L) :
   Calls Tryz.prog 18 #[.slice am master.length cm,.slice ak key.length ck,.agg #[.string s,v]] w fun e w'=>∃ ao c,e = .returned (.slice ao (sealL master key s L).length c) ∧ RowAt w' ao (sealL master key s L) ∧ Below w.heap.size w w':=by
 obtain ⟨i0,hi,hz0,hz1,hz2⟩:=info_parts Tryz.infoFz
 obtain ⟨x1,c1,rfl⟩:=Fr0.sh
 obtain ⟨vs0,FV0,hR0⟩:=Fr0.vals
 have HEN:=hideT (fun (v:Value) (wx:World) (h:Fr wx v (sealF L))=>encodeS_any s (sealF L) hz (sealF_sz hsz) (by rw [sealF_length];have:=keepF_le L;omega) v wx h)
 have HMK:=hideT (fun (ad:Option Addr) (cd:Nat) (wx:World) hcd hn2 (hb:Below w.heap.size w wx) rd=>makeMacS_any master key (aheadL s L) am ak ad cm ck cd wx hm hck hcd hn2 (rm.below hb) (rk.below hb) rd)
 have HML:=hideT (macL_le master key (aheadL s L))
 have HSM:=hideT (encLI_small s (sealF L))
 have HAH:Hid (aheadL s L = (encLI s (sealF L)).take ((encLI s (sealF L)).length - 8)):=rfl
 have HSL:Hid (sealL master key s L = if encLI s (sealF L) = [] then [] else if macC master key (aheadL s L) = 0 then aheadL s L ++ macL master key (aheadL s L) else []):=rfl
 have HSF:Hid (sealF L = keepF L ++ [(noAt (keepF L),zeroM)]):=rfl
 have HBYg:=hideT (fun (a:Option Addr) (c:Nat) (bs:List UInt8) (wx:World) h1 h2 (hr:RowAt wx a bs)=>bytes_any a c bs wx h1 h2 hr)
 obtain ⟨E,hE⟩:∃ q,q = encLI s (sealF L):=⟨_,rfl⟩
 obtain ⟨AH,hAH⟩:∃ q,q = aheadL s L:=⟨_,rfl⟩
 rw [← hAH] at HMK HML HAH HSL
 rw [← hE] at HEN HSM HAH HSL
 obtain ⟨MC,hMC⟩:∃ q,q = macC master key AH:=⟨_,rfl⟩
 obtain ⟨ML,hML⟩:∃ q,q = macL master key AH:=⟨_,rfl⟩
 rw [← hMC,← hML] at HMK HSL
 rw [← hML] at HML
 obtain ⟨n1,hn1⟩:∃ q,q = master.length:=⟨_,rfl⟩
 obtain ⟨n2,hn2⟩:∃ q,q = key.length:=⟨_,rfl⟩
 rw [← hn1,← hn2] at HMK ⊢
 obtain ⟨n,hn⟩:∃ q,q = L.length:=⟨_,rfl⟩
 have HN:=hideT hn
 rw [← hn] at FV0 hL ⊢
 have HFV:=hideT FV0
 have HR0:=hideT hR0
 obtain ⟨W,hW⟩:∃ y,y = w.alloc (Obj.cells #[.string s,.slice x1 n c1] 30):=⟨_,rfl⟩
 obtain ⟨g0,hg0⟩:∃ q,q = w.heap.size:=⟨_,rfl⟩
 have kM:Blk W g0 30 [.string s,.slice x1 n c1]:=by rw [hW,hg0];exact Blk.new _ _ _
 have bW:Below w.heap.size w W:=by rw [hW];exact below_newT _ _
 obtain ⟨W1,hW1⟩:∃ y,y = W.alloc (Obj.cells #[.string s,.slice none 0 0] 30):=⟨_,rfl⟩
 obtain ⟨gO,hgO⟩:∃ q,q = W.heap.size:=⟨_,rfl⟩
 have kO:Blk W1 gO 30 [.string s,.slice none 0 0]:=by rw [hW1,hgO];exact Blk.new _ _ _
 have bW1:Below W.heap.size W W1:=by rw [hW1];exact below_newT _ _
 have bw1:=bW.trans (bW1.mono bW.size)
 have kM1:=kM.below bW1 kM.lt
 have hg0O:g0 < gO:=by rw [hgO];exact kM.lt
 have hgOw:w.heap.size ≤ gO:=by rw [hgO];exact bW.size
 obtain ⟨B,hB⟩:∃ q,q = W1.heap.size:=⟨_,rfl⟩
 have hgOB:gO < B:=by rw [hB];exact kO.lt
 have hBc:B ≤ W1.heap.size:=by rw [hB];exact Nat.le_refl _
 have hBw:w.heap.size ≤ B:=by omega
 have m0:=kM.cell 0 (by simp)
 have HW:=hideT hW
 have HG0:=hideT hg0
 have HW1:=hideT hW1
 have HGO:=hideT hgO
 clear hW hg0 hW1 hgO hE hAH hMC hML hn1 hn2 hn Fr0 FV0 hR0 rm rk hck hsz bW bW1 hB hz hm
 go_enter Tryz.func18,Tryz.ntmps18
 go_upto_region 1 with fail
 rw [← show W = _ from HW,← show g0 = _ from HG0]
 clear HW HG0
 go_upto_region 3 with fail
 rw [← show W1 = _ from HW1,← show gO = _ from HGO]
 clear HW1 HGO m0 kM
 have m1:=kM1.cell 1 (by simp)
 go_wp2_with fail
 go_loopw [8,19] (fun nv i wr=>∃ (k:Nat) (r:Value) (vs:List Value),k ≤ n ∧ i = .int .i64 (k:Int) ∧ nv = .int .i64 (noAt (keepF (L.take k))) ∧ Blk wr gO 30 [.string s,r] ∧ wr.ownsRow B 37 2 r (keepF (L.take k)).length (Z.fldCells (keepF (L.take k)) vs) ∧ vs.length = (keepF (L.take k)).length ∧ Hid (Rws w (keepF (L.take k)) vs) ∧ Blk wr g0 30 [.string s,.slice x1 n c1] ∧ Below w.heap.size w wr ∧ B ≤ wr.heap.size) (fun _ i _=>n - (intOf i).toNat)
 case atStart=>exact ⟨0,_,[],Nat.zero_le _,rfl,rfl,kO,World.ownsRow_nil _ _ _ _,rfl,fun i h=>absurd h (Nat.not_lt_zero i),kM1,bw1,hBc⟩
 case round =>
   clear kO kM1 bw1 hBc m1
   obtain ⟨k,r,vs,hk,rfl,rfl,kO,row,hvl,HR,kM,hbx,hBr⟩:=hrel
   obtain ⟨ar,cr,rfl⟩:=ownR_shape row
   by_cases hlt:k < n
   · have hltI:(k:Int) < (n:Int):=by omega
     have hkL:k < L.length:=by rw [← HN.out];exact hlt
     obtain ⟨g,o,cc,ev,p1w,p2w⟩:=HFV.out.at_ k hkL
     simp only [Value.slice.injEq] at ev
     obtain ⟨rfl,-,rfl⟩:=ev
     have hlw:=World.block_lt_of_cell? w _ p1w
     have p1:=(hbx.cell (p:=⟨g,o + k * 2,none⟩) hlw).trans p1w
     have p2:=(hbx.cell (p:=⟨g,o + k * 2 + 1,none⟩) hlw).trans p2w
     obtain ⟨ai,ci,ex,rr⟩:=HR0.out k hkL
     rw [ex] at p2
     have HT1:Hid (keepF (L.take (k + 1)) = if macNo (L.getD k (0,[])).1 = true then keepF (L.take k) else keepF (L.take k) ++ [L.getD k (0,[])]):=by show _ = _;rw [takeP_snoc L k (0,[]) hkL,keepF_snoc]
     have hkl:(keepF (L.take k)).length ≤ k:=by have h1:=keepF_le (L.take k);rw [List.length_take] at h1;omega
     obtain ⟨p,hp⟩:∃ q,q = L.getD k (0,[]):=⟨_,rfl⟩
     rw [← hp] at p1 p2 rr HT1
     obtain ⟨K,hK⟩:∃ q,q = keepF (L.take k):=⟨_,rfl⟩
     rw [← hK] at kO row hvl HR HT1 hkl ⊢
     obtain ⟨no,d⟩:=p
     have HNS:=hideT (noAt_snoc K (no,d))
     have HSN:=hideT (HR.out.snoc hvl no d ai ci rr)
     have HOR:=HR
     have HFS:=hideT (fldZ_snoc K vs hvl (no,d) (.slice ai d.length ci))
     obtain ⟨l,hl⟩:∃ q,q = d.length:=⟨_,rfl⟩
     have p1':wr.cell? ⟨g,o + k * 2,none⟩ = some (.int .i64 no):=p1
     have p2':wr.cell? ⟨g,o + k * 2 + 1,none⟩ = some (.slice ai l ci):=by rw [hl];exact p2
     obtain ⟨X,hX⟩:∃ y,y = wr.alloc (Obj.cells #[.int .i64 no,.slice ai l ci] 37):=⟨_,rfl⟩
     obtain ⟨gV,hgV⟩:∃ q,q = wr.heap.size:=⟨_,rfl⟩
     have kV:Blk X gV 37 [.int .i64 no,.slice ai l ci]:=by rw [hX,hgV];exact Blk.new _ _ _
     have bX:Below wr.heap.size wr X:=by rw [hX];exact below_newT _ _
     have kOX:=kO.below bX kO.lt
     have kMX:=kM.below bX kM.lt
     have rowX:=ownR_below row bX
     have belX:=hbx.trans (bX.mono hbx.size)
     have hBX:=Nat.le_trans hBr bX.size
     have HVL:=hideT hvl
     have hlv:=fun q hq=>(row.lt q hq).2
     rw [← hgV] at hlv
     have hVB:B ≤ gV:=by rw [hgV];exact hBr
     have HX:=hideT hX
     have HGV:=hideT hgV
     have HLL:=hideT hl
     obtain ⟨kn,hkn⟩:∃ q,q = K.length:=⟨_,rfl⟩
     have HKN:=hideT hkn
     obtain ⟨XS,hXS⟩:∃ q,q = Z.fldCells K vs:=⟨_,rfl⟩
     have HXS:=hideT hXS
     rw [← hkn] at rowX hkl kOX hlv
     rw [← hXS] at rowX
     obtain ⟨NOK,hNOK⟩:∃ q,q = noAt K:=⟨_,rfl⟩
     rw [← hNOK] at HNS ⊢
     have HNK:=hideT hNOK
     clear hX hgV hl hkn hXS hNOK hp hK ex rr p1 p2 p1w p2w hlw row kO kM hbx hBr bX HR hvl
     go_upto_region 6 with fail
     rw [← show X = _ from HX,← show gV = _ from HGV]
     clear HX HGV p1' p2'
     have d0:=kV.cell 0 (by simp)
     have d1:=kV.cell 1 (by simp)
     cases hmn:macNo no
     · rw [if_neg (by rw [show (no,d).1 = no from rfl,hmn];decide)] at HT1
       have h64:¬ no = 64:=by intro h;rw [h] at hmn;exact absurd hmn (by decide)
       have h128:¬ no = 128:=by intro h;rw [h] at hmn;exact absurd hmn (by decide)
       have b64:(no == 64) = false:=by rw [beq_eq_false_iff_ne];exact h64
       have b128:(no == 128) = false:=by rw [beq_eq_false_iff_ne];exact h128
       have n64:(no != 64) = true:=by unfold bne;rw [b64];rfl
       have n128:(no != 128) = true:=by unfold bne;rw [b128];rfl
       have o1:=kOX.cell 1 (by simp)
       obtain ⟨U,hU⟩:∃ y,y = X.alloc (Obj.cells #[.int .i64 no,.slice ai l ci] 37):=⟨_,rfl⟩
       have kU:Blk U X.heap.size 37 [.int .i64 no,.slice ai l ci]:=by rw [hU];exact Blk.new _ _ _
       have bU:Below X.heap.size X U:=by rw [hU];exact below_newT _ _
       have kOU:=kOX.below bU kOX.lt
       have kMU:=kMX.below bU kMX.lt
       have kVU:=kV.below bU kV.lt
       have rowU:=ownR_below rowX bU
       have belU:=belX.trans (bU.mono belX.size)
       have hBU:=Nat.le_trans hBX bU.size
       have HU:=hideT hU
       clear hU kMX rowX belX hBX bU hmn
       go_upto_region 8 with (at_builtin;(rw [← show U = _ from HU];refine wpList_append_own_at _ rfl _ _ 28 rfl B 37 i0 (.agg #[.int .i64 0,.slice none 0 0]) 2 32 Tryz.underlying28 hi hz0 hz1 hz2 rfl (by decide) _ _ _ rfl rowU ⟨X.heap.size,0,none⟩ 1 1 [.int .i64 no,.slice ai l ci] rfl rfl (news_of_blk kU) (by intro u hu;simp at hu;rcases hu with rfl | rfl <;> rfl) (by unfold maxLen;omega) (by omega) hBU ?_;intro v5 w5 row5 gr5 _ _;obtain ⟨a5,c5,rfl⟩:=ownR_shape row5;have kO5:=kOU.grown gr5 (fun e=>by have:=(rowU.lt _ e.symm).1;omega);have of5:=kO5.free 1;have oc5:=kO5.cell 1 (by simp)))
       have kM5:=kMU.grown gr5 (fun e=>by have:=(rowU.lt _ e.symm).1;omega)
       have kV5:=kVU.grown gr5 (fun e=>by have:=hlv _ e.symm;omega)
       have bel5:=belU.grown gr5 belU.size (fun q hq=>by have:=(rowU.lt q hq).1;omega)
       have hB5:=Nat.le_trans hBU gr5.size
       obtain ⟨w6,hw6⟩:∃ y,y = w5.setCell ⟨gO,1,none⟩ (.slice a5 (kn + 1) c5):=⟨_,rfl⟩
       have kO6:Blk w6 gO 30 [.string s,.slice a5 (kn + 1) c5]:=by rw [hw6];exact kO5.set 1 _
       have kM6:Blk w6 g0 30 [.string s,.slice (some ⟨g,o,none⟩) n c1]:=by rw [hw6];exact kM5.other _ _ (fun e=>by have e2:g0 = gO:=e;omega)
       have hVO:gV ≠ gO:=by omega
       have kV6:Blk w6 gV 37 [.int .i64 no,.slice ai l ci]:=by rw [hw6];exact kV5.other _ _ (fun e=>hVO e)
       have row6:w6.ownsRow B 37 2 (.slice a5 (kn + 1) c5) (kn + 1) (XS ++ [.int .i64 no,.slice ai l ci]):=by rw [hw6];exact ownsRow_setCell_below row5 (a:=⟨gO,1,none⟩) hgOB _
       have bel6:Below w.heap.size w w6:=by rw [hw6];exact bel5.setCell (p:=⟨gO,1,none⟩) hgOw _
       have hB6:B ≤ w6.heap.size:=by rw [hw6];simpa using hB5
       rw [← hw6]
       have HROW:Hid (w6.ownsRow B 37 2 (.slice a5 (kn + 1) c5) (K ++ [(no,d)]).length (Z.fldCells (K ++ [(no,d)]) (vs ++ [.slice ai d.length ci]))):=by
         show w6.ownsRow _ _ _ _ _ _
         rw [HFS.out,List.length_append,show K.length = kn from HKN.out.symm,show Z.fldCells K vs = XS from HXS.out.symm,show d.length = l from HLL.out.symm]
         exact row6
       have HLV:Hid ((vs ++ [Value.slice ai d.length ci]).length = (K ++ [(no,d)]).length):=by show _ = _;rw [List.length_append,List.length_append,HVL.out];rfl
       clear hw6 kO5 kM5 kV5 row5 bel5 hB5 gr5 kOU kMU kVU rowU belU hBU kU HU o1 of5 oc5 d0 d1 row6 kV
       have d6:=kV6.cell 0 (by simp)
       by_cases h64b:64 < no
       · rw [if_pos (show above64 no = true from decide_eq_true h64b)] at HNS
         have hI:(64:Int) < no:=h64b
         go_wp2_with fail
         go_roundw
         case rel=>exact ⟨k + 1,_,vs ++ [.slice ai d.length ci],by omega,by go_num,by rw [HT1.out,HNS.out],kO6,by rw [HT1.out];exact HROW.out,by rw [HT1.out];exact HLV.out,by rw [HT1.out];exact HSN.out,kM6,bel6,hB6⟩
         case measure=>simp [intOf];omega
       · rw [if_neg (by rw [show above64 (no,d).1 = false from decide_eq_false h64b];decide)] at HNS
         have hI:¬ (64:Int) < no:=h64b
         go_wp2_with fail
         go_roundw
         case rel=>exact ⟨k + 1,_,vs ++ [.slice ai d.length ci],by omega,by go_num,by rw [HT1.out,HNS.out],kO6,by rw [HT1.out];exact HROW.out,by rw [HT1.out];exact HLV.out,by rw [HT1.out];exact HSN.out,kM6,bel6,hB6⟩
         case measure=>simp [intOf];omega
     · rw [if_pos (show macNo (no,d).1 = true from hmn)] at HT1
       have hno:no = 64 ∨ no = 128:=by
         unfold macNo at hmn
         rw [Bool.or_eq_true,decide_eq_true_eq,decide_eq_true_eq] at hmn
         exact hmn
       have HROW:Hid (X.ownsRow B 37 2 (.slice ar kn cr) K.length (Z.fldCells K vs)):=by
         show X.ownsRow _ _ _ _ _ _
         rw [show K.length = kn from HKN.out.symm,show Z.fldCells K vs = XS from HXS.out.symm]
         exact rowX
       have HOLD:Hid (Rws w K vs):=HOR
       clear hmn rowX HNS HSN HFS
       rcases hno with rfl | rfl
       · go_wp2_with fail
         go_roundw
         case rel=>exact ⟨k + 1,_,vs,by omega,by go_num,by rw [HT1.out,← HNK.out],kOX,by rw [HT1.out];exact HROW.out,by rw [HT1.out];exact HVL.out,by rw [HT1.out];exact HOLD.out,kMX,belX,hBX⟩
         case measure=>simp [intOf];omega
       · go_wp2_with fail
         go_roundw
         case rel=>exact ⟨k + 1,_,vs,by omega,by go_num,by rw [HT1.out,← HNK.out],kOX,by rw [HT1.out];exact HROW.out,by rw [HT1.out];exact HVL.out,by rw [HT1.out];exact HOLD.out,kMX,belX,hBX⟩
         case measure=>simp [intOf];omega
   · have hltI:¬ (k:Int) < (n:Int):=by omega
     obtain rfl:k = n:=by omega
     rw [List.take_of_length_le (by rw [← HN.out];exact Nat.le_refl _)] at kO row hvl HR ⊢
     have hkl:=keepF_le L
     obtain ⟨K,hK⟩:∃ q,q = keepF L:=⟨_,rfl⟩
     rw [← hK] at kO row hvl HR HSF hkl ⊢
     obtain ⟨NO,hNO⟩:∃ q,q = noAt K:=⟨_,rfl⟩
     rw [← hNO] at HSF ⊢
     obtain ⟨kn,hkn⟩:∃ q,q = K.length:=⟨_,rfl⟩
     obtain ⟨XS,hXS⟩:∃ q,q = Z.fldCells K vs:=⟨_,rfl⟩
     have HFR:Hid (∀ (v5:Value) (w5:World) (gz:Nat),w5.ownsRow B 37 2 v5 (kn + 1) (XS ++ [.int .i64 NO,.slice (some ⟨gz,0,none⟩) 8 8]) → Below w.heap.size w w5 → Blk w5 gz 5 (zeroM.map byte) → Fr w5 v5 (sealF L)):=by
       intro v5 w5 gz row5 b kz
       rw [HSF.out]
       have hR5:=(HR.out.below b).snoc hvl NO zeroM (some ⟨gz,0,none⟩) 8 (row_of_blk0 kz)
       refine Fr.ofRow (lo:=B) (vs:=vs ++ [.slice (some ⟨gz,0,none⟩) zeroM.length 8]) ?_ (by rw [List.length_append,List.length_append,hvl];rfl) hR5
       rw [fldZ_snoc K vs hvl,List.length_append,← hXS]
       have e:K.length + [((NO,zeroM):Int × List UInt8)].length = kn + 1:=by rw [← hkn];rfl
       rw [e]
       exact row5
     rw [← hkn] at kO row hkl
     rw [← hXS] at row
     have hkn2:kn ≤ 1048576:=by rw [← HN.out] at hkl;omega
     clear hK hNO hkn hXS hvl HR hkl hlt kM HFV HR0
     go_upto_region 11 with fail
     go_cut [7] (fun t wx=>t = .pointer (some ⟨gO,0,none⟩) ∧ ∃ (vN:Value),Blk wx gO 30 [.string s,vN] ∧ Fr wx vN (sealF L) ∧ Below w.heap.size w wx)
     case first =>
       obtain ⟨V,hV⟩:∃ V,V = World.drew wr:=⟨_,rfl⟩
       have b_0:Below V.heap.size V V:=Below.refl _ _
       have bV:Below wr.heap.size wr V:=by rw [hV];exact (Below.refl _ _).drew
       have belV:=hbx.trans (bV.mono hbx.size)
       have kOV:=kO.below bV kO.lt
       have rowV:=ownR_below row bV
       have hBV:=Nat.le_trans hBr bV.size
       refine wp_region_held_drew (S:=fun _=>True) (by kernel_rfl) trivial (fun hHeld=>?_)
       rw [← hV]
       clear hV bV kO row hbx hBr
       refine tk (i:=0) (v:=(.pointer (some ⟨gO,1,none⟩))) rfl (Or.inl ⟨by rfl,?_⟩) hHeld ?_
       · intro _ _;go_simp
       try dsimp only [Act.put]
       refine tk (i:=2) (v:=(.int .i64 NO)) rfl (Or.inl ⟨by rfl,?_⟩) hHeld ?_
       · intro _ _;go_simp
       dsimp only [Act.put,List.getElem_toArray,List.getElem_cons_zero,List.getElem_cons_succ]
       simp only [List.setIfInBounds_toArray,List.set_cons_succ,List.set_cons_zero]
       refine wpAnyH_ready (rs:=[1,3]) (by kernel_rfl) (by simp) ?_
       refine AllReadyH.cons rfl (fun K hK=>?_) (AllReadyH.cons rfl (fun K hK=>?_) (AllReadyH.nil))
       · have hl_1:=kOV.cell 1 (by simp)
         go_simp
         refine hK.out _ _ trivial (fun hHeld=>?_)
         clear hK K
         try dsimp only [Act.put]
         refine rdy1 3 (fun K hK=>?_)
         rw [if_pos (by rfl)]
         refine wp_make8 _ _ rfl rfl rfl ?_
         intro w_2 kz_2 bel_2
         have o_2:=kOV.below bel_2 kOV.lt
         have r_2:=ownR_below rowV bel_2
         have hz_2:V.heap.size ≤ V.heap.size:=b_0.size
         have b_2:=b_0.trans (bel_2.mono b_0.size)
         refine hK.out _ _ trivial (fun hHeld=>?_)
         clear hK K
         try dsimp only [Act.put]
         refine tk (i:=4) (v:=(.agg #[.int .i64 NO,.slice (some ⟨V.heap.size,0,none⟩) 8 8])) rfl (Or.inl ⟨by rfl,?_⟩) hHeld ?_
         · intro _ _;go_simp
         try dsimp only [Act.put]
         refine rdy1 5 (fun K hK=>?_)
         go_simp
         obtain ⟨w_3,hw_3⟩:∃ y,y = w_2.alloc (Obj.cells #[.int .i64 NO,.slice (some ⟨V.heap.size,0,none⟩) 8 8] 37):=⟨_,rfl⟩
         have kf_3:Blk w_3 w_2.heap.size 37 [.int .i64 NO,.slice (some ⟨V.heap.size,0,none⟩) 8 8]:=by rw [hw_3];exact Blk.new _ _ _
         have bel_3:Below w_2.heap.size w_2 w_3:=by rw [hw_3];exact below_newT _ _
         rw [← hw_3]
         clear hw_3
         have o_3:=o_2.below bel_3 o_2.lt
         have r_3:=ownR_below r_2 bel_3
         have z_3:=kz_2.below bel_3 kz_2.lt
         have b_3:=b_2.trans (bel_3.mono b_2.size)
         refine hK.out _ _ trivial (fun hHeld=>?_)
         clear hK K
         try dsimp only [Act.put]
         refine rdy1 6 (fun K hK=>?_)
         rw [if_pos (by rfl)]
         refine wp_append_F _ _ rfl B _ kn XS rfl r_3 ⟨w_2.heap.size,0,none⟩ 1 1 [.int .i64 NO,.slice (some ⟨V.heap.size,0,none⟩) 8 8] rfl rfl (news_of_blk kf_3) (by intro u hu;simp at hu;rcases hu with rfl | rfl <;> rfl) (by unfold maxLen;omega) (by omega) (Nat.le_trans hBV b_3.size) ?_
         intro v_4 w_4 r_4 gr_4
         obtain ⟨aN,cN,rfl⟩:=ownR_shape r_4
         have o_4:=o_3.grown gr_4 (fun e=>by have:=(r_3.lt _ e.symm).1;omega)
         have z_4:=z_3.grown gr_4 (fun e=>by have h1:=(rowV.lt _ e.symm).2;have h2:=hz_2;omega)
         have bB_4:=((b_3.mono hBV).grown gr_4 (Nat.le_trans hBV b_3.size) (fun q hq=>(r_3.lt q hq).1))
         have f_4:=o_4.free 1
         have u_4:=o_4.cell 1 (by simp)
         refine hK.out _ _ trivial (fun hHeld=>?_)
         clear hK K
         try dsimp only [Act.put]
         refine tk (i:=7) (v:=(.pointer (some ⟨gO,1,none⟩))) rfl (Or.inl ⟨by rfl,?_⟩) hHeld ?_
         · intro _ _;go_simp
         dsimp only [Act.put,List.getElem_toArray,List.getElem_cons_zero,List.getElem_cons_succ]
         simp only [List.setIfInBounds_toArray,List.set_cons_succ,List.set_cons_zero]
         refine rdy1 8 (fun K hK=>?_)
         have o_5:Blk (w_4.setCell ⟨gO,1,none⟩ (.slice aN (kn + 1) cN)) gO 30 [.string s,.slice aN (kn + 1) cN]:=o_4.set 1 _
         have r_5:=ownsRow_setCell_below r_4 (a:=⟨gO,1,none⟩) hgOB (.slice aN (kn + 1) cN)
         have z_5:=z_4.other ⟨gO,1,none⟩ (.slice aN (kn + 1) cN) (fun e=>by have e2:_ = gO:=e;have h1:=hz_2;have h2:=kOV.lt;omega)
         have bx_5:=(belV.trans (bB_4.mono hBw)).setCell (p:=⟨gO,1,none⟩) hgOw (.slice aN (kn + 1) cN)
         have bb_5:Below gO V (w_4.setCell ⟨gO,1,none⟩ (.slice aN (kn + 1) cN)):=(bB_4.mono (Nat.le_of_lt hgOB)).setCell (p:=⟨gO,1,none⟩) (Nat.le_refl _) _
         go_simp
         refine hK.out _ _ trivial (fun hHeld=>?_)
         clear hK K
         try dsimp only [Act.put]
         refine wpAnyH_done (by kernel_rfl) ?_ _
         clear hHeld
         go_wp2_with fail
         go_meet
         case rel=>exact ⟨rfl,_,o_5,HFR.out _ _ _ r_5 (bx_5) z_5,bx_5⟩
       · rw [if_pos (by rfl)]
         refine wp_make8 _ _ rfl rfl rfl ?_
         intro w_6 kz_6 bel_6
         have o_6:=kOV.below bel_6 kOV.lt
         have r_6:=ownR_below rowV bel_6
         have hz_6:V.heap.size ≤ V.heap.size:=b_0.size
         have b_6:=b_0.trans (bel_6.mono b_0.size)
         refine hK.out _ _ trivial (fun hHeld=>?_)
         clear hK K
         try dsimp only [Act.put]
         refine tk (i:=4) (v:=(.agg #[.int .i64 NO,.slice (some ⟨V.heap.size,0,none⟩) 8 8])) rfl (Or.inl ⟨by rfl,?_⟩) hHeld ?_
         · intro _ _;go_simp
         try dsimp only [Act.put]
         refine wpAnyH_ready (rs:=[1,5]) (by kernel_rfl) (by simp) ?_
         refine AllReadyH.cons rfl (fun K hK=>?_) (AllReadyH.cons rfl (fun K hK=>?_) (AllReadyH.nil))
         · have hl_7:=o_6.cell 1 (by simp)
           go_simp
           refine hK.out _ _ trivial (fun hHeld=>?_)
           clear hK K
           try dsimp only [Act.put]
           refine rdy1 5 (fun K hK=>?_)
           go_simp
           obtain ⟨w_8,hw_8⟩:∃ y,y = w_6.alloc (Obj.cells #[.int .i64 NO,.slice (some ⟨V.heap.size,0,none⟩) 8 8] 37):=⟨_,rfl⟩
           have kf_8:Blk w_8 w_6.heap.size 37 [.int .i64 NO,.slice (some ⟨V.heap.size,0,none⟩) 8 8]:=by rw [hw_8];exact Blk.new _ _ _
           have bel_8:Below w_6.heap.size w_6 w_8:=by rw [hw_8];exact below_newT _ _
           rw [← hw_8]
           clear hw_8
           have o_8:=o_6.below bel_8 o_6.lt
           have r_8:=ownR_below r_6 bel_8
           have z_8:=kz_6.below bel_8 kz_6.lt
           have b_8:=b_6.trans (bel_8.mono b_6.size)
           refine hK.out _ _ trivial (fun hHeld=>?_)
           clear hK K
           try dsimp only [Act.put]
           refine rdy1 6 (fun K hK=>?_)
           rw [if_pos (by rfl)]
           refine wp_append_F _ _ rfl B _ kn XS rfl r_8 ⟨w_6.heap.size,0,none⟩ 1 1 [.int .i64 NO,.slice (some ⟨V.heap.size,0,none⟩) 8 8] rfl rfl (news_of_blk kf_8) (by intro u hu;simp at hu;rcases hu with rfl | rfl <;> rfl) (by unfold maxLen;omega) (by omega) (Nat.le_trans hBV b_8.size) ?_
           intro v_9 w_9 r_9 gr_9
           obtain ⟨aN,cN,rfl⟩:=ownR_shape r_9
           have o_9:=o_8.grown gr_9 (fun e=>by have:=(r_8.lt _ e.symm).1;omega)
           have z_9:=z_8.grown gr_9 (fun e=>by have h1:=(rowV.lt _ e.symm).2;have h2:=hz_6;omega)
           have bB_9:=((b_8.mono hBV).grown gr_9 (Nat.le_trans hBV b_8.size) (fun q hq=>(r_8.lt q hq).1))
           have f_9:=o_9.free 1
           have u_9:=o_9.cell 1 (by simp)
           refine hK.out _ _ trivial (fun hHeld=>?_)
           clear hK K
           try dsimp only [Act.put]
           refine tk (i:=7) (v:=(.pointer (some ⟨gO,1,none⟩))) rfl (Or.inl ⟨by rfl,?_⟩) hHeld ?_
           · intro _ _;go_simp
           dsimp only [Act.put,List.getElem_toArray,List.getElem_cons_zero,List.getElem_cons_succ]
           simp only [List.setIfInBounds_toArray,List.set_cons_succ,List.set_cons_zero]
           refine rdy1 8 (fun K hK=>?_)
           have o_10:Blk (w_9.setCell ⟨gO,1,none⟩ (.slice aN (kn + 1) cN)) gO 30 [.string s,.slice aN (kn + 1) cN]:=o_9.set 1 _
           have r_10:=ownsRow_setCell_below r_9 (a:=⟨gO,1,none⟩) hgOB (.slice aN (kn + 1) cN)
           have z_10:=z_9.other ⟨gO,1,none⟩ (.slice aN (kn + 1) cN) (fun e=>by have e2:_ = gO:=e;have h1:=hz_6;have h2:=kOV.lt;omega)
           have bx_10:=(belV.trans (bB_9.mono hBw)).setCell (p:=⟨gO,1,none⟩) hgOw (.slice aN (kn + 1) cN)
           have bb_10:Below gO V (w_9.setCell ⟨gO,1,none⟩ (.slice aN (kn + 1) cN)):=(bB_9.mono (Nat.le_of_lt hgOB)).setCell (p:=⟨gO,1,none⟩) (Nat.le_refl _) _
           go_simp
           refine hK.out _ _ trivial (fun hHeld=>?_)
           clear hK K
           try dsimp only [Act.put]
           refine wpAnyH_done (by kernel_rfl) ?_ _
           clear hHeld
           go_wp2_with fail
           go_meet
           case rel=>exact ⟨rfl,_,o_10,HFR.out _ _ _ r_10 (bx_10) z_10,bx_10⟩
         · go_simp
           obtain ⟨w_11,hw_11⟩:∃ y,y = w_6.alloc (Obj.cells #[.int .i64 NO,.slice (some ⟨V.heap.size,0,none⟩) 8 8] 37):=⟨_,rfl⟩
           have kf_11:Blk w_11 w_6.heap.size 37 [.int .i64 NO,.slice (some ⟨V.heap.size,0,none⟩) 8 8]:=by rw [hw_11];exact Blk.new _ _ _
           have bel_11:Below w_6.heap.size w_6 w_11:=by rw [hw_11];exact below_newT _ _
           rw [← hw_11]
           clear hw_11
           have o_11:=o_6.below bel_11 o_6.lt
           have r_11:=ownR_below r_6 bel_11
           have z_11:=kz_6.below bel_11 kz_6.lt
           have b_11:=b_6.trans (bel_11.mono b_6.size)
           refine hK.out _ _ trivial (fun hHeld=>?_)
           clear hK K
           try dsimp only [Act.put]
           refine rdy1 1 (fun K hK=>?_)
           have hl_12:=o_11.cell 1 (by simp)
           go_simp
           refine hK.out _ _ trivial (fun hHeld=>?_)
           clear hK K
           try dsimp only [Act.put]
           refine rdy1 6 (fun K hK=>?_)
           rw [if_pos (by rfl)]
           refine wp_append_F _ _ rfl B _ kn XS rfl r_11 ⟨w_6.heap.size,0,none⟩ 1 1 [.int .i64 NO,.slice (some ⟨V.heap.size,0,none⟩) 8 8] rfl rfl (news_of_blk kf_11) (by intro u hu;simp at hu;rcases hu with rfl | rfl <;> rfl) (by unfold maxLen;omega) (by omega) (Nat.le_trans hBV b_11.size) ?_
           intro v_13 w_13 r_13 gr_13
           obtain ⟨aN,cN,rfl⟩:=ownR_shape r_13
           have o_13:=o_11.grown gr_13 (fun e=>by have:=(r_11.lt _ e.symm).1;omega)
           have z_13:=z_11.grown gr_13 (fun e=>by have h1:=(rowV.lt _ e.symm).2;have h2:=hz_6;omega)
           have bB_13:=((b_11.mono hBV).grown gr_13 (Nat.le_trans hBV b_11.size) (fun q hq=>(r_11.lt q hq).1))
           have f_13:=o_13.free 1
           have u_13:=o_13.cell 1 (by simp)
           refine hK.out _ _ trivial (fun hHeld=>?_)
           clear hK K
           try dsimp only [Act.put]
           refine tk (i:=7) (v:=(.pointer (some ⟨gO,1,none⟩))) rfl (Or.inl ⟨by rfl,?_⟩) hHeld ?_
           · intro _ _;go_simp
           try dsimp only [Act.put]
           refine rdy1 8 (fun K hK=>?_)
           have o_14:Blk (w_13.setCell ⟨gO,1,none⟩ (.slice aN (kn + 1) cN)) gO 30 [.string s,.slice aN (kn + 1) cN]:=o_13.set 1 _
           have r_14:=ownsRow_setCell_below r_13 (a:=⟨gO,1,none⟩) hgOB (.slice aN (kn + 1) cN)
           have z_14:=z_13.other ⟨gO,1,none⟩ (.slice aN (kn + 1) cN) (fun e=>by have e2:_ = gO:=e;have h1:=hz_6;have h2:=kOV.lt;omega)
           have bx_14:=(belV.trans (bB_13.mono hBw)).setCell (p:=⟨gO,1,none⟩) hgOw (.slice aN (kn + 1) cN)
           have bb_14:Below gO V (w_13.setCell ⟨gO,1,none⟩ (.slice aN (kn + 1) cN)):=(bB_13.mono (Nat.le_of_lt hgOB)).setCell (p:=⟨gO,1,none⟩) (Nat.le_refl _) _
           go_simp
           refine hK.out _ _ trivial (fun hHeld=>?_)
           clear hK K
           try dsimp only [Act.put]
           refine wpAnyH_done (by kernel_rfl) ?_ _
           clear hHeld
           go_wp2_with fail
           go_meet
           case rel=>exact ⟨rfl,_,o_14,HFR.out _ _ _ r_14 (bx_14) z_14,bx_14⟩
     case rest =>
       obtain ⟨rfl,vN,kN,HFN0,belN⟩:=hcut
       have HFN:=hideT HFN0
       clear HFN0 kO row hbx hBr HFR
       go_wp2_with (refine load_blk rfl 30 _ rfl gO rfl kN Tryz.underlying30 rfl (by kernel_rfl) ?_)
       refine (HEN.out _ _ HFN.out).mono ?_
       rintro e w8 ⟨a8,c8,rfl,r8,b8,hcap⟩
       have bel8:=belN.trans (b8.mono belN.size)
       obtain ⟨eE,heE⟩:∃ q,q = E.length:=⟨_,rfl⟩
       rw [← heE] at hcap ⊢
       have HEE:=hideT heE
       clear HEN HFN kN belN b8 heE
       by_cases hE0:E = []
       · obtain rfl:eE = 0:=by rw [HEE.out,hE0];rfl
         rw [if_pos hE0] at HSL
         go_wp2_with fail
         go_ret
         exact ⟨none,0,by rw [HSL.out];rfl,.inl HSL.out,bel8⟩
       · rw [if_neg hE0] at HSL
         have h12:12 ≤ eE ∧ eE ≤ 4096:=by
           obtain ⟨h1,h2⟩:=HSM.out
           rw [← HEE.out] at h1 h2
           rcases h2 with h2 | h2
           · exact absurd h2 hE0
           · exact ⟨h2,h1⟩
         obtain ⟨bE,oE,rfl,-⟩:=r8.at (k:=0) (by rw [← HEE.out];omega)
         obtain ⟨m8,hm8⟩:∃ q,q = eE - 8:=⟨_,rfl⟩
         have hwr:IntKind.i64.wrap ((eE:Int) - 8) = (m8:Int):=by rw [IntKind.wrap_i64];omega
         have hAl:AH.length = m8:=by rw [HAH.out,List.length_take,← HEE.out];omega
         have rA:RowAt w8 (some ⟨bE,oE,none⟩) AH:=by rw [HAH.out,← HEE.out];exact RowAt.take r8 _
         have HMQ:=hideT (HMK.out (some ⟨bE,oE,none⟩) c8 w8 (by rw [hAl];omega) (by rw [hAl];omega) bel8 rA)
         rw [hAl] at HMQ
         have HBY:=hideT (fun (wx:World) (h:RowAt wx (some ⟨bE,oE,none⟩) AH)=>HBYg.out (some ⟨bE,oE,none⟩) c8 AH wx (by rw [hAl];omega) (by rw [hAl];omega) h)
         rw [hAl] at HBY
         have hEb:((eE:Int) == 0) = false:=by rw [beq_eq_false_iff_ne];omega
         have hEI:¬ (eE:Int) = 0:=by omega
         have hm8I:(m8:Int) ≤ (c8:Int):=by omega
         have hm80:¬ (m8:Int) < 0:=by omega
         have HAL:=hideT hAl
         have hm84:m8 ≤ 4096:=by omega
         clear r8 hm8 hE0 HMK HAH HSM h12 hAl HBYg
         go_wp2_with fail
         refine HMQ.out.mono ?_
         rintro e w9 ⟨v9,rfl,own9,b9⟩
         obtain ⟨a9,c9,rfl,r9,-⟩:=own9.shape
         have rA9:=rA.below b9
         have bel9:=bel8.trans (b9.mono bel8.size)
         obtain ⟨lM,hlM⟩:∃ q,q = ML.length:=⟨_,rfl⟩
         rw [← hlM]
         have HLM:=hideT hlM
         obtain ⟨X9,hX9⟩:∃ y,y = w9.alloc (Obj.cells #[.int .i64 MC,.slice a9 lM c9] 66):=⟨_,rfl⟩
         obtain ⟨gO2,hgO2⟩:∃ q,q = w9.heap.size:=⟨_,rfl⟩
         have kO2:Blk X9 gO2 66 [.int .i64 MC,.slice a9 lM c9]:=by rw [hX9,hgO2];exact Blk.new _ _ _
         have bX9:Below w9.heap.size w9 X9:=by rw [hX9];exact below_newT _ _
         have rAX:=rA9.below bX9
         have r9X:=r9.below bX9
         have belX:=bel9.trans (bX9.mono bel9.size)
         have HX9:=hideT hX9
         have HGO2:=hideT hgO2
         clear hX9 hgO2 own9 r9 rA rA9 b9 bX9 bel9 bel8 HMQ hlM
         go_upto_region 16 with fail
         rw [← show X9 = _ from HX9,← show gO2 = _ from HGO2]
         clear HX9 HGO2
         have o0:=kO2.cell 0 (by simp)
         by_cases hC:MC = 0
         · subst hC
           rw [if_pos rfl] at HSL
           go_upto_region 18 with fail
           obtain ⟨V,hV⟩:∃ V,V = World.drew X9:=⟨_,rfl⟩
           have b_0:Below V.heap.size V V:=Below.refl _ _
           have bV:Below X9.heap.size X9 V:=by rw [hV];exact (Below.refl _ _).drew
           have belV:=belX.trans (bV.mono belX.size)
           have kV:=kO2.below bV kO2.lt
           have keep:Hid (∀ {y},Below V.heap.size V y → Blk y gO2 66 [.int .i64 0,.slice a9 lM c9]):=fun h=>kV.below h kV.lt
           refine wp_region_held_drew (S:=fun y=>Blk y gO2 66 [.int .i64 0,.slice a9 lM c9]) (by kernel_rfl) (by rw [← hV];exact kV) (fun hHeld=>?_)
           rw [← hV] at hHeld ⊢
           clear hV kO2 belX o0
           refine tk (i:=0) (v:=(.slice (some ⟨bE,oE,none⟩) eE c8)) rfl (Or.inl ⟨by rfl,?_⟩) hHeld ?_
           · intro _ _;go_simp
           dsimp only [Act.put,List.getElem_toArray,List.getElem_cons_zero,List.getElem_cons_succ]
           simp only [List.setIfInBounds_toArray,List.set_cons_succ,List.set_cons_zero]
           refine tk (i:=1) (v:=(.slice (some ⟨bE,oE,none⟩) eE c8)) rfl (Or.inl ⟨by rfl,?_⟩) hHeld ?_
           · intro _ _;go_simp
           try dsimp only [Act.put]
           refine tk (i:=2) (v:=(.int .i64 (eE:Int))) rfl (Or.inl ⟨by rfl,?_⟩) hHeld ?_
           · intro _ _;go_simp
           dsimp only [Act.put,List.getElem_toArray,List.getElem_cons_zero,List.getElem_cons_succ]
           simp only [List.setIfInBounds_toArray,List.set_cons_succ,List.set_cons_zero]
           refine tk (i:=3) (v:=(.int .i64 (m8:Int))) rfl (Or.inl ⟨by rfl,?_⟩) hHeld ?_
           · intro _ _;go_simp
           try dsimp only [Act.put]
           refine tk (i:=4) (v:=(.slice (some ⟨bE,oE,none⟩) m8 c8)) rfl (Or.inl ⟨by rfl,?_⟩) hHeld ?_
           · intro _ _;go_simp
           dsimp only [Act.put,List.getElem_toArray,List.getElem_cons_zero,List.getElem_cons_succ]
           simp only [List.setIfInBounds_toArray,List.set_cons_succ,List.set_cons_zero]
           refine tk (i:=6) (v:=(.pointer (some ⟨gO2,1,none⟩))) rfl (Or.inl ⟨by rfl,?_⟩) hHeld ?_
           · intro _ _;go_simp
           try dsimp only [Act.put]
           refine tk (i:=7) (v:=(.slice a9 lM c9)) rfl (Or.inl ⟨by rfl,fun w1 h=>by have hc:=h.cell 1 (by simp);go_simp⟩) hHeld ?_
           dsimp only [Act.put,List.getElem_toArray,List.getElem_cons_zero,List.getElem_cons_succ]
           simp only [List.setIfInBounds_toArray,List.set_cons_succ,List.set_cons_zero]
           refine rdy1 5 (fun K hK=>?_)
           go_simp
           refine (HBY.out _ (rAX.below bV)).mono ?_
           rintro e w5 ⟨rfl,own5,b_5⟩
           have r95:=(r9X.below bV).below b_5
           go_wp2_with fail
           refine hK.out _ _ (keep.out b_5) (fun hHeld=>?_)
           clear hK K
           try dsimp only [Act.put]
           refine rdy1 8 (fun K hK=>?_)
           rw [if_pos (by rfl)]
           refine wp_append_B _ _ rfl V.heap.size _ AH ML rfl own5 a9 c9 (by rw [← HLM.out];rfl) r95 (by have h1:=HAL.out;have h2:=HML.out;omega) b_5.size ?_
           intro v8 w8 own8 gr8
           have b8x:=b_5.grown gr8 b_5.size (fun q hq=>(World.ownsRow.lt own5 q hq).1)
           have k8:=(kV.below b_5 kV.lt).grown gr8 (fun e=>by have h1:=(World.ownsRow.lt own5 _ e.symm).1;have h2:=kV.lt;omega)
           refine hK.out _ _ k8 (fun hHeld=>?_)
           clear hK K
           try dsimp only [Act.put]
           refine rdy1 9 (fun K hK=>?_)
           go_simp
           refine hK.out _ _ k8 (fun hHeld=>?_)
           clear hK K
           try dsimp only [Act.put]
           refine wpAnyH_done (by kernel_rfl) ?_ _
           clear hHeld
           go_wp2_with fail
           go_ret
           obtain ⟨aR,cR,rfl,rR,-⟩:=own8.own.shape
           have eR:AH ++ ML = sealL master key s L:=by rw [HSL.out]
           rw [eR] at rR ⊢
           exact ⟨aR,cR,rfl,rR,belV.trans (b8x.mono belV.size)⟩
         · rw [if_neg hC] at HSL
           have hCb:(MC == 0) = false:=by rw [beq_eq_false_iff_ne];exact hC
           go_wp2_with fail
           go_ret
           exact ⟨none,0,by rw [HSL.out];rfl,.inl HSL.out,belX⟩
end Go.Proofs.YtjkofmomoljelaaGreatDoor
