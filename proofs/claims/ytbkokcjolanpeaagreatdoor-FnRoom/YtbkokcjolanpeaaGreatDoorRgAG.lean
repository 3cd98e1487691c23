import Derived.Test.YtbkokcjolanpeaaGreatDoorRgAE
import Derived.Test.YtbkokcjolanpeaaGreatDoorRgAF
import Derived.Test.YtbkokcjolanpeaaGreatDoorRgW
import Derived.Maps.AppendAt
namespace Go.Proofs.YtbkokcjolanpeaaGreatDoor
open Go.RowKit
theorem wp_append_F {w:World} {o:Oper} {a:Act} {K:Act → World → Prop} {Q:Exit → Act → World → Prop} (s x:Operand)
   (ho:o.op = .call { callee:=.builtin .append,args:=#[s,x],argTypes:=#[30,30] }) (base:Nat) (v:Value) (n:Nat) (xs:List Value) (hs:a.eval s = v) (hown:w.ownsRow base 29 2 v n xs)
   (ad:Addr) (m c:Nat) (news:List Value) (hx:a.eval x = .slice (some ad) m c) (hl:news.length = m * 2) (hnews:∀ j u,news[j]? = some u → w.cell? (ad.add j) = some u) (h1:∀ u ∈ news,u.oneCell' = true)
   (h63:n + m ≤ maxLen) (hbytes:(n + m) * 32 ≤ 140737488355328) (hbase:base ≤ w.heap.size)
   (h:∀ v' w',w'.ownsRow base 29 2 v' (n + m) (xs ++ news) → w.grownBy w' v.ownBlock → K (a.put o.dst v') w'):o.wp Tryz.prog a w K Q:=by
 obtain ⟨i0,hi,hz0,hz1,hz2⟩:=info_parts Tryz.infoFz
 obtain ⟨v',w',hr,h2,h3,-,-⟩:=run_append_own_at (P:=Tryz.prog) w base 30 o.type 29 i0 (.agg #[.int .i64 0,.slice none 0 0]) 2 32 Tryz.underlying30 hi hz0 hz1 hz2 rfl (by decide) v n xs hown ad m c news hl hnews h1 h63 hbytes hbase
 unfold Oper.wp execOp
 simp only [ho,resolve,invoke,builtin,Sem.run_bind,Sem.run_pure,Result.andThen_ok,List.map_toArray,List.map_cons,List.map_nil,hs,hx,hr]
 exact h v' w' h2 h3
theorem fldZ_snoc (L:List (Int × List UInt8)) (vs:List Value) (h:vs.length = L.length) (p:Int × List UInt8) (v:Value):Z.fldCells (L ++ [p]) (vs ++ [v]) = Z.fldCells L vs ++ [.int .i64 p.1,v]:=by
 unfold Z.fldCells
 rw [List.zip_append h.symm]
 simp
theorem Fr.ofRow {w:World} {lo:Nat} {v:Value} {L:List (Int × List UInt8)} {vs:List Value} (row:w.ownsRow lo 29 2 v L.length (Z.fldCells L vs)) (hl:vs.length = L.length) (hR:Rws w L vs):Fr w v L:=by
 refine ⟨ownR_shape row,fun i hi=>?_⟩
 obtain ⟨c1,c2⟩:=Z.fldCells_at L vs hl i hi
 obtain ⟨ai,ci,e,r⟩:=hR i hi
 rcases row.2 with ⟨hv,hz⟩ | ⟨g,c,cur,hv,-⟩
 · omega
 · subst hv
   refine ⟨g,0,c,ai,ci,rfl,?_,?_,r⟩
   · rw [Nat.zero_add,row.cellAt (i * 2) (by omega),c1]
   · rw [Nat.zero_add,row.cellAt (i * 2 + 1) (by omega),c2,e]
theorem Rws.snoc {w:World} {L:List (Int × List UInt8)} {vs:List Value} (h:Rws w L vs) (hl:vs.length = L.length) (no:Int) (d:List UInt8) (a:Option Addr) (c:Nat) (r:RowAt w a d):Rws w (L ++ [(no,d)]) (vs ++ [.slice a d.length c]):=by
 intro i hi
 rw [List.length_append] at hi
 by_cases hc:i < L.length
 · rw [getD_left _ _ _ _ hc,getD_left _ _ _ _ (by omega)]
   exact h i hc
 · have hiL:i = L.length:=by simp at hi;omega
   rw [getD_last _ _ _ _ hiL,getD_last _ _ _ _ (by omega)]
   exact ⟨a,c,rfl,r⟩
def zeroM:List UInt8:=List.replicate 8 0
def sealNo (L:List (Int × List UInt8)):Int:=if (keepF L).any (fun p=>above64 p.1) = true then 128 else 64
def sealF (L:List (Int × List UInt8)):List (Int × List UInt8):=keepF L ++ [(sealNo L,zeroM)]
def aheadL (s:ByteArray) (L:List (Int × List UInt8)):List UInt8:=(encLI s (sealF L)).take ((encLI s (sealF L)).length - 8)
def sealL (master key:List UInt8) (s:ByteArray) (L:List (Int × List UInt8)):List UInt8:=if encLI s (sealF L) = [] then [] else if macC master key (aheadL s L) = 0 then aheadL s L ++ macL master key (aheadL s L) else []
theorem keepF_le (L:List (Int × List UInt8)):(keepF L).length ≤ L.length:=List.length_filter_le _ _
theorem keepF_mem {L:List (Int × List UInt8)} {p:Int × List UInt8} (h:p ∈ keepF L):p ∈ L:=(List.mem_filter.1 h).1
theorem sealF_sz {L:List (Int × List UInt8)} (hsz:∀ p ∈ L,p.2.length ≤ 1048576):∀ p ∈ sealF L,p.2.length ≤ 1048576:=by
 intro p hp
 unfold sealF at hp
 rcases List.mem_append.1 hp with h | h
 · exact hsz p (keepF_mem h)
 · simp at h
   subst h
   show zeroM.length ≤ _
   decide
theorem sealF_length (L:List (Int × List UInt8)):(sealF L).length = (keepF L).length + 1:=by unfold sealF;simp
theorem encLI_small (s:ByteArray) (L:List (Int × List UInt8)):(encLI s L).length ≤ 4096 ∧ (encLI s L = [] ∨ 12 ≤ (encLI s L).length):=by
 unfold encLI
 by_cases h:okE s L = true
 · rw [if_pos h]
   unfold okE at h
   rw [Bool.and_eq_true,Bool.and_eq_true,Bool.and_eq_true,decide_eq_true_eq,decide_eq_true_eq] at h
   obtain ⟨⟨h4,-⟩,-,hok⟩:=h
   have h14:=okL_len hok
   have hr:=restE_small L L.length (fun j hj=>by
     unfold okL at hok
     rw [List.all_eq_true] at hok
     exact hok j (List.mem_range.2 hj))
   have hu:(unbitsL (bitsE L L.length)).length = nbE L / 8:=by rw [unbits_length,bitsE_length]
   have hnb:nbE L = 64 ∨ nbE L = 128:=by unfold nbE;split <;> omega
   have h5:s.data.toList.length = 4:=by rw [Array.length_toList];exact h4
   rw [List.length_append,List.length_append,h5,hu]
   have:=Nat.mul_le_mul_right 203 h14
   exact ⟨by omega,.inr (by omega)⟩
 · rw [if_neg h];exact ⟨by simp,.inl rfl⟩
theorem own_cap {w:World} {base c:Nat} {a:Option Addr} {l:List UInt8} (h:Own w base (.slice a l.length c) l):l.length ≤ c:=by
 obtain ⟨t,-,h⟩:=h
 rcases h with ⟨hv,hn⟩ | ⟨g,cap,cur,hv,-,-,hn,-⟩
 · omega
 · simp only [Value.slice.injEq] at hv
   omega
theorem any_pairs (L:List (Int × List UInt8)):∀ (vs:List Value),vs.length = L.length → ∀ r,IxR above64 (pairsOf L vs) r → decide (0 ≤ r) = L.any (fun p=>above64 p.1):=by
 intro vs hl r h
 have hfst:∀ i,i < L.length → ((pairsOf L vs).getD i (0,undef)).1 = (L.getD i (0,[])).1:=by
   intro i hi
   have hz:i < (List.zip L vs).length:=by simp;omega
   unfold pairsOf
   rw [List.getD_eq_getElem?_getD,List.getElem?_map,List.getElem?_eq_getElem hz,List.getD_eq_getElem?_getD,List.getElem?_eq_getElem hi]
   simp
 have hpl:=pairsOf_length L vs hl
 rcases h with ⟨rfl,h⟩ | ⟨k,hk,rfl,-,h⟩
 · rw [decide_eq_false (by omega)]
   symm
   rw [List.any_eq_false]
   intro p hp
   obtain ⟨i,hi,rfl⟩:=List.getElem_of_mem hp
   have:=h i (by omega)
   rw [hfst i hi,List.getD_eq_getElem?_getD,List.getElem?_eq_getElem hi] at this
   simpa using this
 · rw [decide_eq_true (by omega)]
   symm
   rw [List.any_eq_true]
   have hk2:k < L.length:=by omega
   rw [hfst k hk2,List.getD_eq_getElem?_getD,List.getElem?_eq_getElem hk2] at h
   exact ⟨L[k],List.getElem_mem hk2,h⟩
set_option maxHeartbeats 1000000 in
theorem containsS_any (L:List (Int × List UInt8)) (vs:List Value) (hl:vs.length = L.length) (hL:L.length ≤ 1048576) (a:Option Addr) (cap lo:Nat) (w:World) (row:w.ownsRow lo 29 2 (.slice a L.length cap) L.length (Z.fldCells L vs)) :
   Calls Tryz.prog 19 #[.slice a L.length cap,.func (Fn.func 20) #[] #[]] w fun e w'=>e = .returned (.bool (L.any (fun p=>above64 p.1))) ∧ Below w.heap.size w w':=by
 have hpl:=pairsOf_length L vs hl
 rw [← cellsP_pairs,← hpl] at row
 have HI:=hideT (indexS_any (pairsOf L vs) (by rw [hpl];exact hL) a cap w (row_P row))
 rw [hpl] at HI
 have HAN:=hideT (any_pairs L vs hl)
 obtain ⟨q,hq⟩:∃ q,q = L.any (fun p=>above64 p.1):=⟨_,rfl⟩
 rw [← hq] at HAN ⊢
 obtain ⟨n,hn⟩:∃ n,n = L.length:=⟨_,rfl⟩
 rw [← hn] at HI ⊢
 clear hq hn row hpl
 go_enter Tryz.func19,Tryz.ntmps19
 go_wp2_with fail
 refine HI.out.mono ?_
 rintro e w2 ⟨⟨r,rfl,hr⟩,b2⟩
 have HR:=hideT (HAN.out r hr)
 clear hr HAN HI
 go_wp2_with fail
 go_ret
 exact ⟨by rw [← HR.out];rfl,b2⟩
set_option maxRecDepth 100000 in
set_option maxHeartbeats 8000000 in
theorem seal_any (master key:List UInt8) (s:ByteArray) (L:List (Int × List UInt8)) (hsz:∀ p ∈ L,p.2.length ≤ 1048576) (hL:L.length ≤ 1048576) (am ak:Option Addr) (cm ck:Nat) (v:Value) (x0 x1s:Addr) (w:World) (hck:key.length ≤ ck) (hs:Sents w x0 x1s) (rm:RowAt w am master) (rk:RowAt w ak key) (F:Fr w v L) (hT:∀ w',Below w.heap.size w w' → Lib.TabIs Tryz.prog w' "internal/strconv.uint64pow10" .u64 Lib.pow10Tab) :
   Calls Tryz.prog 6 #[.slice am master.length cm,.slice ak key.length ck,.agg #[.string s,v]] w fun e w'=>∃ v',e = .returned v' ∧ Own w' w.heap.size v' (sealL master key s L) ∧ Below w.heap.size w w':=by
 obtain ⟨i0,hi,hz0,hz1,hz2⟩:=info_parts Tryz.infoB8
 obtain ⟨x1,c1,rfl⟩:=F.sh
 have HWO:=hideT (fun (gN:Nat) (wx:World) (h:Fr wx (.slice x1 L.length c1) L) e0 e1=>without_any L hL _ gN wx h e0 e1)
 have HCO:=hideT (fun (vs:List Value) hl (a:Option Addr) (cap lo:Nat) (wx:World) row=>containsS_any (keepF L) vs hl (Nat.le_trans (keepF_le L) hL) a cap lo wx row)
 have HEN:=hideT (fun (v:Value) (wx:World) (h:Fr wx v (sealF L)) (hb:Below w.heap.size w wx)=>encodeI_any s (sealF L) (sealF_sz hsz) (by rw [sealF_length];have:=keepF_le L;omega) v wx h (fun w' h2=>hT w' (hb.trans (h2.mono hb.size))))
 have HMK:=hideT (fun (ad:Option Addr) (cd:Nat) (wx:World) hcd hn2 (hb:Below w.heap.size w wx) rd=>makeMac_any master key (aheadL s L) am ak ad cm ck cd x0 x1s wx hck hcd hn2 (hs.below hb) (rm.below hb) (rk.below hb) rd)
 have HML:=hideT (macL_le master key (aheadL s L))
 have HSM:=hideT (encLI_small s (sealF L))
 have HAH:Hid (aheadL s L = (encLI s (sealF L)).take ((encLI s (sealF L)).length - 8)):=rfl
 have HSL:Hid (sealL master key s L = if encLI s (sealF L) = [] then [] else if macC master key (aheadL s L) = 0 then aheadL s L ++ macL master key (aheadL s L) else []):=rfl
 have HSN:Hid (sealNo L = if (keepF L).any (fun p=>above64 p.1) = true then 128 else 64):=rfl
 have HSF:Hid (sealF L = keepF L ++ [(sealNo L,zeroM)]):=rfl
 have hkL:=keepF_le L
 obtain ⟨E,hE⟩:∃ q,q = encLI s (sealF L):=⟨_,rfl⟩
 obtain ⟨AH,hAH⟩:∃ q,q = aheadL s L:=⟨_,rfl⟩
 rw [← hAH] at HMK HML HAH HSL
 rw [← hE] at HEN HSM HAH HSL
 obtain ⟨K,hK⟩:∃ q,q = keepF L:=⟨_,rfl⟩
 rw [← hK] at HWO HCO HSN HSF hkL
 obtain ⟨NO,hNO⟩:∃ q,q = sealNo L:=⟨_,rfl⟩
 rw [← hNO] at HSN HSF
 obtain ⟨kn,hkn⟩:∃ q,q = K.length:=⟨_,rfl⟩
 have HKN:=hideT hkn
 rw [← hkn] at HWO HCO hkL
 obtain ⟨qa,hqa⟩:∃ q,q = K.any (fun p=>above64 p.1):=⟨_,rfl⟩
 rw [← hqa] at HCO HSN
 obtain ⟨MC,hMC⟩:∃ q,q = macC master key AH:=⟨_,rfl⟩
 obtain ⟨ML,hML⟩:∃ q,q = macL master key AH:=⟨_,rfl⟩
 rw [← hMC,← hML] at HMK HSL
 rw [← hML] at HML
 obtain ⟨n1,hn1⟩:∃ q,q = master.length:=⟨_,rfl⟩
 obtain ⟨n2,hn2⟩:∃ q,q = key.length:=⟨_,rfl⟩
 rw [← hn1,← hn2] at HMK ⊢
 obtain ⟨n,hn⟩:∃ q,q = L.length:=⟨_,rfl⟩
 rw [← hn] at HWO F hL hkL ⊢
 obtain ⟨W,hW⟩:∃ y,y = w.alloc (Obj.cells #[.string s,.slice x1 n c1] 32):=⟨_,rfl⟩
 obtain ⟨g0,hg0⟩:∃ q,q = w.heap.size:=⟨_,rfl⟩
 have kM:Blk W g0 32 [.string s,.slice x1 n c1]:=by rw [hW,hg0];exact Blk.new _ _ _
 have bW:Below w.heap.size w W:=by rw [hW];exact below_newT _ _
 obtain ⟨W1,hW1⟩:∃ y,y = W.alloc (Obj.cells #[.int .i64 64,.int .i64 128] 3):=⟨_,rfl⟩
 have kN:Blk W1 W.heap.size 3 [.int .i64 64,.int .i64 128]:=by rw [hW1];exact Blk.new _ _ _
 have bW1:Below W.heap.size W W1:=by rw [hW1];exact below_newT _ _
 have bw1:=bW.trans (bW1.mono bW.size)
 have kM1:=kM.below bW1 kM.lt
 have HF1:=hideT (F.below bw1)
 have HWQ:=hideT (HWO.out W.heap.size W1 HF1.out (kN.cell 0 (by simp)) (kN.cell 1 (by simp)))
 have m1:=kM.cell 1 (by simp)
 have HW:=hideT hW
 have HG0:=hideT hg0
 have HW1:=hideT hW1
 clear hW hg0 hW1 hE hAH hK hNO hkn hqa hMC hML hn1 hn2 hn F hs hT rm rk hck hsz HWO HF1 kN bW bW1
 go_enter Tryz.func6,Tryz.ntmps6
 go_upto_region 1 with fail
 rw [← show W = _ from HW,← show g0 = _ from HG0]
 clear HW HG0
 go_wp2_with fail
 rw [← show W1 = _ from HW1]
 clear HW1 m1 kM
 refine HWQ.out.mono ?_
 rintro e w7 ⟨⟨v7,vs7,rfl,row7,hl7,hR7⟩,b7⟩
 obtain ⟨a7,c7,rfl⟩:=ownR_shape row7
 obtain ⟨B7,hB7e⟩:∃ q,q = W1.heap.size:=⟨_,rfl⟩
 rw [← hB7e] at row7 b7
 have HB7:=hideT hB7e
 have hB7w:w.heap.size ≤ B7:=by rw [hB7e];exact bw1.size
 have hg0B:g0 < B7:=by rw [hB7e];exact kM1.lt
 clear hB7e HWQ
 have HL7:=hideT hl7
 have hlt7:=fun q hq=>(row7.lt q hq).2
 go_upto_region 3 with (at_make;refine wpList_make_full _ rfl _ _ 22 rfl w7.heap.size 5 i0 (.int .u8 0) 1 Tryz.underlying22 hi hz0 hz1 .i64 .i64 _ _ 8 rfl rfl rfl rfl (by rw [hz2];omega) (by unfold maxLen;omega) (Nat.le_refl _) ?_;intro w3 own3 gr3)
 have b3:=below_of_grown gr3
 rw [made_zero] at own3
 have kZ3:=own_blk own3
 have e8:List.replicate 8 (Value.int .u8 0) = zeroM.map byte:=by rfl
 rw [e8] at kZ3
 obtain ⟨gZ,hgZ⟩:∃ q,q = w7.heap.size:=⟨_,rfl⟩
 have hZB:B7 ≤ gZ:=by rw [hgZ,HB7.out];exact b7.size
 rw [← hgZ] at kZ3 hlt7 ⊢
 obtain ⟨X3,hX3⟩:∃ y,y = w3.alloc (Obj.cells #[.int .i64 64,.slice (some ⟨gZ,0,none⟩) 8 8] 29):=⟨_,rfl⟩
 obtain ⟨gF,hgF⟩:∃ q,q = w3.heap.size:=⟨_,rfl⟩
 rw [← hX3,← hgF]
 have kF3:Blk X3 gF 29 [.int .i64 64,.slice (some ⟨gZ,0,none⟩) 8 8]:=by rw [hX3,hgF];exact Blk.new _ _ _
 have bX3:Below w3.heap.size w3 X3:=by rw [hX3];exact below_newT _ _
 have hZF:gZ < gF:=by rw [hgF];exact kZ3.lt
 have kZX:=kZ3.below bX3 kZ3.lt
 have b73:=b3.trans (bX3.mono b3.size)
 have rowX:=ownR_below row7 b73
 have kMX:=(kM1.below (b7.mono (by rw [HB7.out];exact Nat.le_refl _)) kM1.lt).below b73 (Nat.lt_of_lt_of_le kM1.lt (by rw [← HB7.out];exact Nat.le_trans (Nat.le_refl _) (Nat.le_trans (by rw [HB7.out];exact Nat.le_refl _) b7.size)))
 have b7X:Below B7 W1 X3:=b7.trans (b73.mono (by rw [HB7.out];exact b7.size))
 have hBX:B7 ≤ X3.heap.size:=by rw [HB7.out];exact b7X.size
 have HNF:Hid ((Value.slice a7 kn c7).ownBlock ≠ some gF):=fun e=>by have:=hlt7 _ e;omega
 have HNZ:Hid ((Value.slice a7 kn c7).ownBlock ≠ some gZ):=fun e=>by have:=hlt7 _ e;omega
 have hgFB : g0 < gF := by have h1:=kMX.lt;have h2:=kM1.lt;have h3:=b7.size;rw [← HB7.out] at h2;have h4:B7 ≤ gZ:=by rw [hgZ,HB7.out];exact b7.size
                           omega
 have hgZB:g0 < gZ:=by rw [hgZ];have h3:=b7.size;rw [← HB7.out] at h3;omega
 obtain ⟨XS,hXS⟩:∃ q,q = Z.fldCells K vs7:=⟨_,rfl⟩
 have HCQ:=hideT (HCO.out vs7 HL7.out a7 c7 B7 X3 rowX)
 have HFR:Hid (∀ (v5:Value) (w5:World),w5.ownsRow B7 29 2 v5 (kn + 1) (XS ++ [.int .i64 NO,.slice (some ⟨gZ,0,none⟩) 8 8]) → Below B7 W1 w5 → Blk w5 gZ 5 (zeroM.map byte) → Fr w5 v5 (sealF L)):=by
   intro v5 w5 row b k
   have hl:=HL7.out
   rw [HSF.out]
   have hR5:=(hR7.below (show Below W1.heap.size W1 w5 from by rw [← HB7.out];exact b)).snoc (by rw [hl,HKN.out]) NO zeroM (some ⟨gZ,0,none⟩) 8 (row_of_blk0 k)
   refine Fr.ofRow (lo:=B7) (vs:=vs7 ++ [.slice (some ⟨gZ,0,none⟩) zeroM.length 8]) ?_ (by rw [List.length_append,List.length_append,hl,HKN.out];rfl) hR5
   rw [fldZ_snoc K vs7 (by rw [hl,HKN.out]),List.length_append,← hXS]
   have e:K.length + [((NO,zeroM):Int × List UInt8)].length = kn + 1:=by rw [HKN.out];rfl
   rw [e]
   exact row
 rw [← hXS] at rowX
 clear own3 gr3 e8 hgZ hX3 hgF bX3 b3 kZ3 b73 row7 kM1 b7 hlt7 hXS hR7 HCO hl7
 go_wp2_with fail
 refine HCQ.out.mono ?_
 rintro e w4 ⟨rfl,b4⟩
 have kF4:=kF3.below b4 kF3.lt
 have kZ4:=kZX.below b4 kZX.lt
 have kM4:=kMX.below b4 kMX.lt
 have row4:=ownR_below rowX b4
 have b74:=b7X.trans (b4.mono hBX)
 have hB4:=Nat.le_trans hBX b4.size
 clear kF3 kZX kMX rowX b7X hBX HCQ b4
 go_upto_if 19 with fail
 go_cut [8] (fun t wx=>t = .pointer (some ⟨gF,0,none⟩) ∧ Blk wx gF 29 [.int .i64 NO,.slice (some ⟨gZ,0,none⟩) 8 8] ∧ Blk wx g0 32 [.string s,.slice x1 n c1] ∧ Blk wx gZ 5 (zeroM.map byte) ∧ wx.ownsRow B7 29 2 (.slice a7 kn c7) kn XS ∧ Below B7 W1 wx ∧ B7 ≤ wx.heap.size)
 case first =>
   have hgFB7:B7 ≤ gF:=by omega
   cases qa
   · rw [if_neg (by decide)] at HSN
     go_wp2_with fail
     go_meet
     case rel=>exact ⟨rfl,by rw [HSN.out];exact kF4,kM4,kZ4,row4,b74,hB4⟩
   · rw [if_pos rfl] at HSN
     have f0:=kF4.free 0
     have u0:=kF4.cell 0 (by simp)
     have kF5:=kF4.set 0 (.int .i64 128)
     have HK5:Hid (Blk (w4.setCell ⟨gF,0,none⟩ (.int .i64 128)) gF 29 [.int .i64 128,.slice (some ⟨gZ,0,none⟩) 8 8]):=kF5
     have HM5:=hideT (kM4.other ⟨gF,0,none⟩ (.int .i64 128) (fun e=>by have e2:g0 = gF:=e;omega))
     have HZ5:=hideT (kZ4.other ⟨gF,0,none⟩ (.int .i64 128) (fun e=>by have e2:gZ = gF:=e;omega))
     have HR5:=hideT (ownsRow_setCell_other row4 (a:=⟨gF,0,none⟩) (fun e=>HNF.out e) (.int .i64 128))
     have HB5:=hideT (b74.setCell (p:=⟨gF,0,none⟩) hgFB7 (.int .i64 128))
     clear kF5 kM4 kZ4 row4 b74
     go_wp2_with fail
     go_meet
     case rel=>exact ⟨rfl,by rw [HSN.out];exact HK5.out,HM5.out,HZ5.out,HR5.out,HB5.out,by simpa using hB4⟩
 case rest =>
   obtain ⟨rfl,kFc,kMc,kZc,rowc,b7c,hB7c⟩:=hcut
   clear kF4 kZ4 kM4 row4 b74 hB4
   have HNFc:=HNF
   have HNZc:=HNZ
   clear HNF HNZ
   go_upto_region 5 with fail
   obtain ⟨V,hV⟩:∃ V,V = World.drew wc:=⟨_,rfl⟩
   have b_0:Below V.heap.size V V:=Below.refl _ _
   have bV:Below wc.heap.size wc V:=by rw [hV];exact (Below.refl _ _).drew
   have kMV:=kMc.below bV kMc.lt
   have kFV:=kFc.below bV kFc.lt
   have kZV:=kZc.below bV kZc.lt
   have rowV:=ownR_below rowc bV
   have hB7:=Nat.le_trans hB7c bV.size
   have b7V:=b7c.trans (bV.mono hB7c)
   have HNF:Hid ((Value.slice a7 kn c7).ownBlock ≠ some gF):=HNFc
   have HNZ:Hid ((Value.slice a7 kn c7).ownBlock ≠ some gZ):=HNZc
   have keep:Hid (∀ {y},Below V.heap.size V y → Blk y g0 32 [.string s,.slice x1 n c1] ∧ Blk y gF 29 [.int .i64 NO,.slice (some ⟨gZ,0,none⟩) 8 8]):=fun h=>⟨kMV.below h kMV.lt,kFV.below h kFV.lt⟩
   refine wp_region_held_drew (S:=fun y=>Blk y g0 32 [.string s,.slice x1 n c1] ∧ Blk y gF 29 [.int .i64 NO,.slice (some ⟨gZ,0,none⟩) 8 8]) (by kernel_rfl) (by rw [← hV];exact ⟨kMV,kFV⟩) (fun hHeld=>?_)
   rw [← hV] at hHeld ⊢
   clear hV bV kMc kFc kZc rowc hB7c b7c HNFc HNZc
   refine tkA (i:=0) (v:=(.pointer (some ⟨g0,0,none⟩))) rfl hHeld ?_
   try dsimp only [Act.put]
   refine tk (i:=1) (v:=(.string s)) rfl (Or.inl ⟨by rfl,fun w1 h=>by have hc0:=h.1.cell 0 (by simp);go_simp⟩) hHeld ?_
   dsimp only [Act.put,List.getElem_toArray,List.getElem_cons_zero,List.getElem_cons_succ]
   simp only [List.setIfInBounds_toArray,List.set_cons_succ,List.set_cons_zero]
   refine tkA (i:=2) (v:=(.slice a7 kn c7)) rfl hHeld ?_
   try dsimp only [Act.put]
   refine tk (i:=3) (v:=(.agg #[.int .i64 NO,.slice (some ⟨gZ,0,none⟩) 8 8])) rfl (Or.inl ⟨by rfl,fun w1 h=>by have hc0:=h.2.cell 0 (by simp);have hc1:=h.2.cell 1 (by simp);go_simp⟩) hHeld ?_
   dsimp only [Act.put,List.getElem_toArray,List.getElem_cons_zero,List.getElem_cons_succ]
   simp only [List.setIfInBounds_toArray,List.set_cons_succ,List.set_cons_zero]
   refine rdy1 4 (fun K hK=>?_)
   go_simp
   obtain ⟨U4,hU4⟩:∃ y,y = V.alloc (Obj.cells #[.int .i64 NO,.slice (some ⟨gZ,0,none⟩) 8 8] 29):=⟨_,rfl⟩
   have k4:Blk U4 V.heap.size 29 [.int .i64 NO,.slice (some ⟨gZ,0,none⟩) 8 8]:=by rw [hU4];exact Blk.new _ _ _
   have b_4:Below V.heap.size V U4:=by rw [hU4];exact below_newT _ _
   rw [← hU4]
   clear hU4
   have row4:=ownR_below rowV b_4
   refine hK.out _ _ (keep.out b_4) (fun hHeld=>?_)
   clear hK K
   try dsimp only [Act.put]
   refine rdy1 5 (fun K hK=>?_)
   rw [if_pos (by rfl)]
   refine wp_append_F _ _ rfl B7 _ kn XS rfl row4 ⟨V.heap.size,0,none⟩ 1 1 [.int .i64 NO,.slice (some ⟨gZ,0,none⟩) 8 8] rfl rfl (news_of_blk k4) (by intro u hu;simp at hu;rcases hu with rfl | rfl <;> rfl) (by unfold maxLen;omega) (by omega) (Nat.le_trans hB7 b_4.size) ?_
   intro v5 w5 row5 gr5
   have b5x:=(b_4.mono hB7).grown gr5 (Nat.le_trans hB7 b_4.size) (fun q hq=>(rowV.lt q hq).1)
   obtain ⟨a5,c5,rfl⟩:=ownR_shape row5
   have kM5:=(kMV.below b_4 kMV.lt).grown gr5 (fun e=>by have:=(rowV.lt _ e.symm).1;omega)
   have kF5:=(kFV.below b_4 kFV.lt).grown gr5 (fun e=>HNF.out e.symm)
   have kZ5:=(kZV.below b_4 kZV.lt).grown gr5 (fun e=>HNZ.out e.symm)
   have bel5:=b7V.trans b5x
   have HX5:=hideT (HFR.out _ _ row5 bel5 kZ5)
   refine hK.out _ _ ⟨kM5,kF5⟩ (fun hHeld=>?_)
   clear hK K
   try dsimp only [Act.put]
   refine tkA (i:=6) (v:=(.agg #[.string s,.slice a5 (kn + 1) c5])) rfl hHeld ?_
   try dsimp only [Act.put]
   refine rdy1 7 (fun K hK=>?_)
   go_simp
   refine (HEN.out _ _ HX5.out (bw1.trans (bel5.mono hB7w))).mono ?_
   rintro e w8 ⟨v8,rfl,own8,b8⟩
   obtain ⟨a8,c8,rfl,r8,hlow8,hc8⟩:=own8.shape
   go_wp2_with fail
   refine hK.out _ _ ⟨kM5.below b8 kM5.lt,kF5.below b8 kF5.lt⟩ (fun hHeld=>?_)
   clear hK K
   try dsimp only [Act.put]
   refine rdy1 8 (fun K hK=>?_)
   go_simp
   refine hK.out _ _ ⟨kM5.below b8 kM5.lt,kF5.below b8 kF5.lt⟩ (fun hHeld=>?_)
   clear hK K
   try dsimp only [Act.put]
   refine wpAnyH_done (by kernel_rfl) ?_ _
   clear hHeld
   have bel8:=(bw1.trans (bel5.mono hB7w)).trans (b8.mono (bw1.trans (bel5.mono hB7w)).size)
   have hcap:=own_cap own8
   obtain ⟨eE,heE⟩:∃ q,q = E.length:=⟨_,rfl⟩
   rw [← heE] at hcap ⊢
   have HEE:=hideT heE
   clear own8 row5 row4 kM5 kF5 kZ5 gr5 b5x bel5 HX5 kMV kFV kZV rowV hB7 b7V HNF HNZ keep k4 HFR HEN b8 b_4 b_0 heE hlow8
   by_cases hE0:E = []
   · obtain rfl:eE = 0:=by rw [HEE.out,hE0];rfl
     rw [if_pos hE0] at HSL
     go_wp2_with fail
     go_ret
     exact ⟨_,rfl,by rw [HSL.out];exact own_nilI _ _,bel8⟩
   · rw [if_neg hE0] at HSL
     have h12:12 ≤ eE ∧ eE ≤ 4096:=by
       obtain ⟨h1,h2⟩:=HSM.out
       rw [← HEE.out] at h1 h2
       rcases h2 with h2 | h2
       · exact absurd h2 hE0
       · exact ⟨h2,h1⟩
     obtain ⟨bE,oE,rfl,-⟩:=r8.at (k:=0) (by rw [← HEE.out];omega)
     obtain ⟨m8,hm8⟩:∃ q,q = eE - 8:=⟨_,rfl⟩
     have hwr:IntKind.i64.wrap ((eE:Int) - 8) = (m8:Int):=by rw [IntKind.wrap_i64];omega
     have hAl:AH.length = m8:=by rw [HAH.out,List.length_take,← HEE.out];omega
     have rA:RowAt w8 (some ⟨bE,oE,none⟩) AH:=by rw [HAH.out,← HEE.out];exact RowAt.take r8 _
     have HMQ:=hideT (HMK.out (some ⟨bE,oE,none⟩) c8 w8 (by rw [hAl];omega) (by rw [hAl];omega) bel8 rA)
     rw [hAl] at HMQ
     have hEb:((eE:Int) == 0) = false:=by rw [beq_eq_false_iff_ne];omega
     have hEI:¬ (eE:Int) = 0:=by omega
     have hm8I:(m8:Int) ≤ (c8:Int):=by omega
     have hm80:¬ (m8:Int) < 0:=by omega
     have HAL:=hideT hAl
     have hm84:m8 ≤ 4096:=by omega
     clear r8 hm8 hE0 HMK HAH HSM h12 hAl
     go_wp2_with fail
     refine HMQ.out.mono ?_
     rintro e w9 ⟨v9,rfl,own9,b9⟩
     obtain ⟨a9,c9,rfl,r9,-⟩:=own9.shape
     have rA9:=rA.below b9
     have bel9:=bel8.trans (b9.mono bel8.size)
     obtain ⟨lM,hlM⟩:∃ q,q = ML.length:=⟨_,rfl⟩
     rw [← hlM]
     have HLM:=hideT hlM
     obtain ⟨X9,hX9⟩:∃ y,y = w9.alloc (Obj.cells #[.int .i64 MC,.slice a9 lM c9] 68):=⟨_,rfl⟩
     obtain ⟨gO,hgO⟩:∃ q,q = w9.heap.size:=⟨_,rfl⟩
     have kO:Blk X9 gO 68 [.int .i64 MC,.slice a9 lM c9]:=by rw [hX9,hgO];exact Blk.new _ _ _
     have bX9:Below w9.heap.size w9 X9:=by rw [hX9];exact below_newT _ _
     have rAX:=rA9.below bX9
     have r9X:=r9.below bX9
     have belX:=bel9.trans (bX9.mono bel9.size)
     have HX9:=hideT hX9
     have HGO:=hideT hgO
     clear hX9 hgO own9 r9 rA rA9 b9 bX9 bel9 bel8 HMQ hlM hwr
     go_upto_region 10 with fail
     rw [← show X9 = _ from HX9,← show gO = _ from HGO]
     clear HX9 HGO
     have o0:=kO.cell 0 (by simp)
     have o1:=kO.cell 1 (by simp)
     by_cases hC:MC = 0
     · subst hC
       rw [if_pos rfl] at HSL
       go_wp2_with fail
       obtain ⟨Wb,hWb⟩:∃ y,y = X9.alloc (Obj.cells #[.slice (some ⟨bE,oE,none⟩) m8 c8,.slice a9 lM c9] 22):=⟨_,rfl⟩
       rw [← hWb]
       have bB:Below X9.heap.size X9 Wb:=by rw [hWb];exact below_newT _ _
       have kB:Blk Wb X9.heap.size 22 [.slice (some ⟨bE,oE,none⟩) m8 c8,.slice a9 lM c9]:=by rw [hWb];exact Blk.new _ _ _
       have bel7:=belX.trans (bB.mono belX.size)
       clear hWb
       refine (concatN_any [.slice (some ⟨bE,oE,none⟩) m8 c8,.slice a9 lM c9] [AH,ML] X9.heap.size 0 2 2 Wb rfl rfl (by omega) (by simp only [List.flatten_cons,List.flatten_nil,List.length_append,List.length_nil];have h1:=HAL.out;have h2:=HML.out;omega) (fun i x hx=>by
           obtain ⟨hlt,rfl⟩:=List.getElem?_eq_some_iff.1 hx
           have h:=kB.cell i hlt
           rw [Nat.zero_add]
           exact h) (fun i hi=>by
           match i,hi with
           | 0,_=>exact ⟨some ⟨bE,oE,none⟩,c8,(by show Value.slice _ m8 _ = Value.slice _ AH.length _;rw [HAL.out]),rAX.below bB⟩
           | 1,_=>exact ⟨a9,c9,(by show Value.slice _ lM _ = Value.slice _ ML.length _;rw [HLM.out]),r9X.below bB⟩)).mono ?_
       rintro e w10 ⟨v10,rfl,own10,b10⟩
       go_wp2_with fail
       go_ret
       exact ⟨_,rfl,(by
         have e9:[AH,ML].flatten = sealL master key s L:=by rw [HSL.out];simp
         rw [← e9]
         exact own10.own.monoI bel7.size),bel7.trans (b10.mono bel7.size)⟩
     · rw [if_neg hC] at HSL
       have hCb:(MC == 0) = false:=by rw [beq_eq_false_iff_ne];exact hC
       go_wp2_with fail
       go_ret
       exact ⟨_,rfl,by rw [HSL.out];exact own_nilI _ _,belX⟩
end Go.Proofs.YtbkokcjolanpeaaGreatDoor
