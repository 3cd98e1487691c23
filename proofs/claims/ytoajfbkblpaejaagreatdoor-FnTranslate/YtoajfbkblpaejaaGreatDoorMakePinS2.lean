import Derived.Test.YtoajfbkblpaejaaGreatDoorMakePinS
namespace Go.Proofs.YtoajfbkblpaejaaGreatDoor
open Go.RowKit
set_option maxRecDepth 100000 in
set_option maxHeartbeats 2000000 in
theorem makeS_good0 (pin pan:ByteArray) (draws:List UInt8) (ao:Option Addr) (cap:Nat) (w:World) (hg:goodPin 0 pin pan = true) (_hn:draws.length ≤ 1048576) (_hr:RowAt w ao draws)  :
   Calls Tryz.prog 53 #[.int .i64 0,.string pin,.string pan,.slice ao draws.length cap] w fun e w'=>∃ v,e = .returned (.agg #[.int .i64 0,v,.int .i64 0]) ∧ Own w' w.heap.size v (pinL 0 pin pan draws) ∧ Below w.heap.size w w':=by
 obtain ⟨i0,hi,hz0,hz1,hz2⟩:=info_parts Tryz.info5
 obtain ⟨-,hp4,hp12,hpd,hq13,hq19,hqd⟩:=good_parts hg
 have hp:pin.size ≤ maxLen:=by unfold maxLen;omega
 have hq:pan.size ≤ maxLen:=by unfold maxLen;omega
 have h2:(decide (4 ≤ pin.size) && decide (pin.size ≤ 12) && digs pin) = true:=by simp [hp4,hp12,hpd]
 have h3:(decide (13 ≤ pan.size) && decide (pan.size ≤ 19) && digs pan) = true:=by simp [hq13,hq19,hqd]
 have hbk:Blk (w.alloc (.cells #[.int .i64 0,.slice none 0 0,.int .i64 0] 40)) w.heap.size 40 [.int .i64 0,.slice none 0 0,.int .i64 0]:=Blk.new w _ _
 have bz0:Below w.heap.size w (w.alloc (.cells #[.int .i64 0,.slice none 0 0,.int .i64 0] 40)):=(Below.refl _ w).alloc (Nat.le_refl _) _
 obtain ⟨n,hnp⟩:∃ n,n = pin.size:=⟨_,rfl⟩
 obtain ⟨room,hroom⟩:∃ room,room = 14 - pin.size:=⟨_,rfl⟩
 obtain ⟨L,hL⟩:∃ L,L = pin.data.toList:=⟨_,rfl⟩
 have hLl:L.length = n:=by rw [hL,hnp];rfl
 have HLd:Hid (∀ b ∈ L,dig b = true):=by
   show ∀ b ∈ L,dig b = true
   unfold digs at hpd
   rw [List.all_eq_true,← hL] at hpd
   exact hpd
 obtain ⟨G,hG⟩:∃ G,G = fillN 0 pin draws:=⟨_,rfl⟩
 have HPN:Hid ((pinN 0 pin draws).map ofN = ([0,n] ++ L.map pdigN ++ G).map ofN):=by
   show _ = _
   unfold pinN
   rw [← hL,← hG,← hnp]
 have hGl:G.length = room:=by
   rw [hG,hroom]
   unfold fillN
   split
   · rw [List.length_map,List.length_take];omega
   · rw [List.length_replicate]
 have HPK:=hid_eq (pack_eq (pinN 0 pin draws) (acctN pan) (pinN_length _ _ _ hp12 (by intro h;omega)) (acctN_length pan hq13) (pinN_lt _ _ _ (by omega) hp12 hpd) (acctN_lt pan hqd))
 have HNL:=hid_eq (nib_lt (pinN 0 pin draws) (acctN pan) (pinN_lt _ _ _ (by omega) hp12 hpd) (acctN_lt pan hqd))
 have HPD:=hid_eq (pinN_length 0 pin draws hp12 (by intro h;omega))
 have HAD:=hid_eq (acctN_length pan hq13)
 have HAC:=hid_eq (fun wx=>l4Account_any pan wx hq13 hq19 hqd)
 have HGx:Hid (∀ j,j < room → G[j]? = some 15):=by
   show ∀ j,j < room → G[j]? = some 15
   intro j hj
   rw [hG]
   unfold fillN
   rw [if_neg (by omega),List.getElem?_replicate,if_pos (by omega)]
 obtain ⟨capT,wT,hcv,rowT,belT,hsT⟩:=conv_bytes pin ((w.alloc (.cells #[.int .i64 0,.slice none 0 0,.int .i64 0] 40)).alloc (.cells #[.int .u8 0,.int .u8 (n:Int)] 5))
 rw [← hL] at rowT
 have own0:OwnB ((w.alloc (.cells #[.int .i64 0,.slice none 0 0,.int .i64 0] 40)).alloc (.cells #[.int .u8 0,.int .u8 (n:Int)] 5)) (w.heap.size + 1) (.slice (some ⟨w.heap.size + 1,0,none⟩) 2 2) (([0,n] ++ (L.take 0).map pdigN).map ofN):=by
   refine ⟨by simp,.inr ⟨w.heap.size + 1,2,#[.int .u8 0,.int .u8 (n:Int)],by simp,Nat.le_refl _,Blk.new2 w _ _ _,by simp,by unfold maxLen;omega,rfl,?_⟩⟩
   have e1:=byte_ofN 0 (by omega)
   have e2:=byte_ofN n (by omega)
   simp only [List.take_zero,List.map_nil,List.append_nil,List.map_cons,e1,e2]
   rfl
 have own1:=own0.below belT
 have bel1:Below w.heap.size w wT:=(bz0.alloc (by simp) _).trans (belT.mono (by simp;omega))
 have hbk1:=(hbk.alloc (.cells #[.int .u8 0,.int .u8 (n:Int)] 5)).below belT (by simp;omega)
 have hasz:((w.alloc (.cells #[.int .i64 0,.slice none 0 0,.int .i64 0] 40)).alloc (.cells #[.int .u8 0,.int .u8 (n:Int)] 5)).heap.size = w.heap.size + 1 + 1:=by simp
 rw [hasz] at hcv rowT
 have HsT:Hid (wT.heap.size = w.heap.size + 3):=by show _ = _;rw [hsT];simp
 rw [← hnp] at hcv
 have hpn:pin.size = n:=hnp.symm
 have hnm:(n:Int) % 256 = (n:Int):=by omega
 have Hrm:=hid_eq hroom
 have Hnp:=hid_eq hnp
 clear own0 belT hasz hsT bz0 hbk hL hG hpd hqd hroom hnp
 go_enter Tryz.func53,Tryz.ntmps53
 go_wp2_with (first | (go_at_call 95;refine (l4Digits_any pin 4 12 _ hp (by omega) (by omega)).mono ?_;rintro e w2 ⟨rfl,hw2⟩;subst w2;rw [h2]) | (go_at_call 92;refine (goodPan_any pan _ hq).mono ?_;rintro e w3 ⟨rfl,hw3⟩;subst w3;rw [h3]))
 go_loopw [9,11,40] (fun v _ i wr=>∃ k:Nat,k ≤ n ∧ i = .int .i64 k ∧ OwnB wr (w.heap.size + 1) v (([0,n] ++ (L.take k).map pdigN).map ofN) ∧ v.ownBlock ≠ some (w.heap.size + 1 + 1) ∧ w.heap.size + 2 < wr.heap.size ∧ RowAt wr (some ⟨w.heap.size + 1 + 1,0,none⟩) L ∧ Blk wr w.heap.size 40 [.int .i64 0,.slice none 0 0,.int .i64 0] ∧ Below w.heap.size w wr) (fun _ _ i _=>n - (intOf i).toNat)
 case atStart=>exact ⟨0,by omega,rfl,own1,by simp [Value.ownBlock],by have:=HsT.out;omega,rowT,hbk1,bel1⟩
 case round =>
   clear own1 rowT bel1 hcv hbk1
   obtain ⟨k,hk,rfl,hown,hne,hsz,hrow,hbk,hbel⟩:=hrel
   have hll:(([0,n] ++ (L.take k).map pdigN).map ofN).length = 2 + k:=by
     rw [List.length_map,List.length_append,List.length_map,List.length_take]
     show 2 + _ = _
     omega
   obtain ⟨ao6,c6,hv6,-,-,-,-⟩:=hown.own.shape
   rw [hll] at hv6
   subst hv6
   by_cases hlt:k < n
   · have hlt':k < L.length:=by omega
     obtain ⟨b',o',he,hc⟩:=hrow.at hlt'
     cases he
     have hcx:wr.cell? ⟨w.heap.size + 1 + 1,k,none⟩ = some (.int .u8 (L[k].toNat:Int)):=by have h:=hc k hlt';rw [Nat.zero_add] at h;rw [h];simp [hlt']
     have hdk:=dig_to (HLd.out L[k] (List.getElem_mem _))
     have hown':=own_num hown hll
     have hdn:pdigN L[k] = L[k].toNat - 48:=rfl
     have HNX:Hid (([0,n] ++ (L.take (k + 1)).map pdigN).map ofN = ([0,n] ++ (L.take k).map pdigN).map ofN ++ [ofN (pdigN L[k])]):=by
       show _ = _
       rw [take_snoc L k hlt',List.map_append (f:=pdigN),← List.append_assoc,List.map_append (f:=ofN)]
       rfl
     obtain ⟨d,hde⟩:∃ d,d = pdigN L[k]:=⟨_,rfl⟩
     have hd16:d < 10:=by rw [hde,hdn];omega
     have Hbd:=hid_eq (byte_ofN d (by omega))
     have Hne:=hid_eq hne
     rw [← hde] at HNX hdn
     obtain ⟨x,hx⟩:∃ x,x = L[k].toNat:=⟨_,rfl⟩
     rw [← hx] at hcx hdk hdn
     obtain ⟨pre,hpre⟩:∃ pre,pre = ([0,n] ++ (L.take k).map pdigN).map ofN:=⟨_,rfl⟩
     rw [← hpre] at HNX hown' hll
     have Hrow:=hid_eq hrow
     have hs48b:(x:Int) - 48 = (d:Int):=by omega
     have hs48:((x:Int) - 48) % 256 = (d:Int):=by omega
     clear hc hown hde hdn hx hpre hne hrow hpn
     have hbel':=hbel.size
     have hbl:=hbk.lt
     go_wp2_with (at_builtin;refine wpList_append_own_at _ rfl _ _ 22 rfl (w.heap.size + 1) 5 i0 (.int .u8 0) 1 1 Tryz.underlying22 hi hz0 hz1 hz2 rfl (by decide) _ _ _ rfl (hown'.alloc _) ⟨wr.heap.size,0,none⟩ 1 1 [.int .u8 (d:Int)] rfl rfl (cell_one_new _ _ _) (by intro u hu;simp at hu;subst hu;rfl) (by unfold maxLen;omega) (by omega) (by simp;omega) ?_;intro v7 w7 hown7 hgrow7 hnil7 hat7)
     have R1:OwnB w7 (w.heap.size + 1) v7 (([0,n] ++ (L.take (k + 1)).map pdigN).map ofN):=by
       unfold OwnB
       rw [HNX.out,List.length_append,hll,List.map_append,List.map_cons,List.map_nil,Hbd.out]
       exact hown7
     have R2:=(hbel.alloc hbel' _).grown hgrow7 (by simp;omega) (fun k hk=>Nat.le_trans (Nat.le_succ _) (hown'.lt k hk).1)
     have row7:RowAt w7 (some ⟨w.heap.size + 1 + 1,0,none⟩) L:=RowAt.grown (Hrow.out.below (below_new _ _)) hgrow7 (by intro a ha hc;cases ha;exact Hne.out hc)
     have ne7:v7.ownBlock ≠ some (w.heap.size + 1 + 1):=by
       rcases hat7 with h | h
       · rw [h];exact Hne.out
       · intro hc;rw [hc] at h;simp at h;omega
     have lt7:w.heap.size + 2 < w7.heap.size:=by have:=hgrow7.size;simp at this;omega
     have bk7:=(hbk.alloc (.cells #[.int .u8 (d:Int)] 5)).grown hgrow7 (by intro hc;have:=(hown'.lt w.heap.size hc.symm).1;omega)
     clear hown7 hgrow7 hnil7 hat7 hown' hbel Hrow hbk
     go_roundw
     case rel=>exact ⟨k + 1,by omega,by go_num,R1,ne7,lt7,row7,bk7,R2⟩
     case measure=>simp [intOf];omega
   · have hkn:k = n:=by omega
     have OW:Hid (OwnB wr (w.heap.size + 1) (.slice ao6 (2 + n) c6) (([0,n] ++ L.map pdigN ++ G.take 0).map ofN)):=by
       show OwnB _ _ _ _
       rw [List.take_zero,List.append_nil]
       rw [hkn,List.take_of_length_le (by omega)] at hown
       exact hown
     rw [hkn]
     clear hown hne hrow hll hpn
     go_wp2_with fail
     go_loopw [9,12,13] (fun v us _ wx=>∃ j:Nat,j ≤ room ∧ us = .int .i64 0 ∧ OwnB wx (w.heap.size + 1) v (([0,n] ++ L.map pdigN ++ G.take j).map ofN) ∧ Blk wx w.heap.size 40 [.int .i64 0,.slice none 0 0,.int .i64 0] ∧ Below w.heap.size w wx) (fun v _ _ _=>match v with | .slice _ l _=>16 - l | _=>0)
     case atStart=>exact ⟨0,by omega,rfl,OW.out,hbk,hbel⟩
     case round =>
       clear hbk hbel OW hsz
       obtain ⟨j,hj,rfl,hown,hbk,hbel⟩:=hrel
       have hrmn:=Hrm.out
       have hnpn:=Hnp.out
       have hbel':=hbel.size
       by_cases hlt:j < room
       · have hG1:=HGx.out j (by omega)
         have hll:(([0,n] ++ L.map pdigN ++ G.take j).map ofN).length = 2 + n + j:=by
           have:=(List.getElem?_eq_some_iff.1 hG1).1
           rw [List.length_map,List.length_append,List.length_append,List.length_map,List.length_take,hLl]
           show 2 + _ + _ = _
           omega
         obtain ⟨ao8,c8,hv8,-,-,-,-⟩:=hown.own.shape
         rw [hll] at hv8
         subst hv8
         have hown':=own_num hown hll
         obtain ⟨d,hde⟩:∃ d:Nat,d = 15:=⟨_,rfl⟩
         have hd16:d < 16:=by omega
         have Hbd:=hid_eq (byte_ofN d (by omega))
         have HNX:Hid (([0,n] ++ L.map pdigN ++ G.take (j + 1)).map ofN = ([0,n] ++ L.map pdigN ++ G.take j).map ofN ++ [ofN d]):=by
           show _ = _
           obtain ⟨hjl,hje⟩:=List.getElem?_eq_some_iff.1 hG1
           rw [List.take_succ_eq_append_getElem hjl,hje,← List.append_assoc,List.map_append (f:=ofN) (l₂:=[_]),hde]
           rfl
         obtain ⟨pre,hpre⟩:∃ pre,pre = ([0,n] ++ L.map pdigN ++ G.take j).map ofN:=⟨_,rfl⟩
         rw [← hpre] at HNX hown' hll
         have hbl:=hbk.lt
         have hl16:((2 + n + j:Nat):Int) < 16:=by omega
         have hd15:(15:Int) = (d:Int):=by omega
         clear hown hpre hG1
         obtain ⟨q,hq⟩:∃ q,q = 2 + n + j:=⟨_,rfl⟩
         have HQ:=hid_eq hq
         rw [← hq] at hown' hll hl16 ⊢
         clear hq hde hrmn hnpn
         go_wp2_with (at_builtin;refine wpList_append_own_at _ rfl _ _ 22 rfl (w.heap.size + 1) 5 i0 (.int .u8 0) 1 1 Tryz.underlying22 hi hz0 hz1 hz2 rfl (by decide) _ _ _ rfl (hown'.alloc _) ⟨wr.heap.size,0,none⟩ 1 1 [.int .u8 (d:Int)] rfl rfl (cell_one_new _ _ _) (by intro u hu;simp at hu;subst hu;rfl) (by unfold maxLen;omega) (by omega) (by simp;omega) ?_;intro v7 w7 hown7 hgrow7 hnil7 hat7)
         have R1:OwnB w7 (w.heap.size + 1) v7 (([0,n] ++ L.map pdigN ++ G.take (j + 1)).map ofN):=by
           unfold OwnB
           rw [HNX.out,List.length_append,hll,List.map_append,List.map_cons,List.map_nil,Hbd.out]
           exact hown7
         have R2:=(hbel.alloc hbel' _).grown hgrow7 (by simp;omega) (fun k hk=>Nat.le_trans (Nat.le_succ _) (hown'.lt k hk).1)
         have bk7:=(hbk.alloc (.cells #[.int .u8 (d:Int)] 5)).grown hgrow7 (by intro hc;have:=(hown'.lt w.heap.size hc.symm).1;omega)
         have hv7:∃ ao9 c9,v7 = .slice ao9 (q + 1) c9:=by
           obtain ⟨ao9,c9,h,-⟩:=R1.own.shape
           rw [HNX.out,List.length_append,hll] at h
           exact ⟨ao9,c9,h⟩
         obtain ⟨ao9,c9,rfl⟩:=hv7
         clear hown7 hgrow7 hnil7 hat7 hown' hbel hbk
         go_roundw
         case rel=>exact ⟨j + 1,by omega,by go_num,R1,bk7,R2⟩
         case measure=>simp;omega
       · have hjr:j = room:=by omega
         have hDe:([0,n] ++ L.map pdigN ++ G.take j).map ofN = (pinN 0 pin draws).map ofN:=by rw [HPN.out,List.take_of_length_le (by omega)]
         rw [hDe] at hown
         have hDl:((pinN 0 pin draws).map ofN).length = 16:=by rw [List.length_map];exact HPD.out
         have hAl:((acctN pan).map ofN).length = 16:=by rw [List.length_map];exact HAD.out
         have HPL:Hid (pinL 0 pin pan draws = packL (xorL ((pinN 0 pin draws).map ofN) ((acctN pan).map ofN))):=by show _ = _;rw [HPK.out];rfl
         have hXl:(xorL ((pinN 0 pin draws).map ofN) ((acctN pan).map ofN)).length = 16:=by rw [xorL_length _ _ (by omega)];exact hDl
         have hpl:=pinL_length 0 pin pan draws
         obtain ⟨D,hD⟩:∃ D,D = (pinN 0 pin draws).map ofN:=⟨_,rfl⟩
         obtain ⟨A,hA⟩:∃ A,A = (acctN pan).map ofN:=⟨_,rfl⟩
         rw [← hD,← hA] at hXl HPL HNL
         rw [← hD] at hown hDl
         rw [← hA] at hAl HAC
         obtain ⟨X,hX⟩:∃ X,X = xorL D A:=⟨_,rfl⟩
         rw [← hX] at hXl HPL HNL
         have HX:=hid_eq hX
         obtain ⟨gD,cD,hcD,rfl,rowD⟩:=own_at hown hDl (by omega)
         try rw [hjr]
         clear hown hDe hD hA hX hrmn hnpn
         go_wp2_with fail
         refine (HAC.out _).mono ?_
         rintro e wa ⟨va,rfl,owna,bela⟩
         obtain ⟨gA,cA,hcA,rfl,rowA⟩:=own_at owna hAl (by omega)
         have rowD1:=rowD.below bela
         have bk1:=hbk.below bela hbk.lt
         have bz1:=hbel.trans (bela.mono hbel')
         have hXY:=xor_any (some ⟨gD,0,none⟩) (some ⟨gA,0,none⟩) cD cA D A wa (by omega) (by omega) rowD1 rowA
         rw [hDl,hAl,← HX.out] at hXY
         have HXY:=hid_eq hXY
         clear hXY hbk hbel rowD owna
         go_wp2_with fail
         refine HXY.out.mono ?_
         rintro e wb ⟨rfl,ownb,belb⟩
         have bk2:=bk1.below belb bk1.lt
         have bz2:=bz1.trans (belb.mono bz1.size)
         obtain ⟨gX,cX,hcX,hvX,rowX⟩:=own_at ownb hXl (by omega)
         cases hvX
         clear bk1 bz1 HXY rowA rowD1 ownb
         go_wp2_with fail
         refine (l4Pack_any X _ _ _ hXl HNL.out rowX).mono ?_
         rintro e wc ⟨vc,rfl,ownc,belc⟩
         have hbk:=bk2.below belc bk2.lt
         have bz3:=bz2.trans (belc.mono bz2.size)
         rw [← HPL.out] at ownc
         obtain ⟨gP,cP,hcP,rfl,rowP⟩:=own_at ownc hpl (by omega)
         have hgP:=ownc.low gP rfl
         have hs2:=bz2.size
         have c0_:wc.cell? ⟨w.heap.size,0,none⟩ = some (.int .i64 0):=hbk.cell 0 (by simp)
         have c1_:wc.cell? ⟨w.heap.size,1,none⟩ = some (.slice none 0 0):=hbk.cell 1 (by simp)
         have c2_:wc.cell? ⟨w.heap.size,2,none⟩ = some (.int .i64 0):=hbk.cell 2 (by simp)
         have f0_:=hbk.free 0
         have f1_:=hbk.free 1
         have f2_:=hbk.free 2
         have hltb:=bk2.lt
         have OWN:=hid_eq (ownc.mono hs2)
         clear ownc rowP bk2
         go_wp2_with fail
         have OX:∀ (j:Nat) (u:Value) (wx:World),OwnB wx w.heap.size (.slice (some ⟨gP,0,none⟩) 8 cP) (pinL 0 pin pan draws) → OwnB (wx.setCell ⟨w.heap.size,j,none⟩ u) w.heap.size (.slice (some ⟨gP,0,none⟩) 8 cP) (pinL 0 pin pan draws):=by
           intro j u wx h
           exact World.ownsRow.kept h ⟨rfl,rfl,rfl,by simp,fun k _ hk=>heap_setCell_other wx ⟨w.heap.size,j,none⟩ k u (fun e=>hk (by simp [e]))⟩ (row:=some w.heap.size) (Or.inr (by simp [Value.ownBlock];omega))
         exact bodyPost_ret (v:=.agg [.int .i64 0,.slice (some ⟨gP,0,none⟩) 8 cP,.int .i64 0].toArray) (results_blk Tryz.results53 _ _ rfl (show Blk _ _ 40 [.int .i64 0,.slice (some ⟨gP,0,none⟩) 8 cP,.int .i64 0] from ((hbk.set 0 (.int .i64 0)).set 1 (.slice (some ⟨gP,0,none⟩) 8 cP)).set 2 (.int .i64 0)) Tryz.underlying40 rfl (by kernel_rfl)) rfl
           ⟨_,rfl,(OX _ _ _ (OX _ _ _ (OX _ _ _ OWN.out))).own,((bz3.setCell (p:=⟨w.heap.size,0,none⟩) (Nat.le_refl _) _).setCell (p:=⟨w.heap.size,1,none⟩) (Nat.le_refl _) _).setCell (p:=⟨w.heap.size,2,none⟩) (Nat.le_refl _) _⟩
set_option maxRecDepth 100000 in
set_option maxHeartbeats 2000000 in
theorem makeS_good3 (pin pan:ByteArray) (draws:List UInt8) (ao:Option Addr) (cap:Nat) (w:World) (hg:goodPin 3 pin pan = true) (hn:draws.length ≤ 1048576) (hr:RowAt w ao draws) (hen:14 - pin.size ≤ draws.length) :
   Calls Tryz.prog 53 #[.int .i64 3,.string pin,.string pan,.slice ao draws.length cap] w fun e w'=>∃ v,e = .returned (.agg #[.int .i64 0,v,.int .i64 (14 - pin.size:Nat)]) ∧ Own w' w.heap.size v (pinL 3 pin pan draws) ∧ Below w.heap.size w w':=by
 obtain ⟨i0,hi,hz0,hz1,hz2⟩:=info_parts Tryz.info5
 obtain ⟨-,hp4,hp12,hpd,hq13,hq19,hqd⟩:=good_parts hg
 have hp:pin.size ≤ maxLen:=by unfold maxLen;omega
 have hq:pan.size ≤ maxLen:=by unfold maxLen;omega
 have h2:(decide (4 ≤ pin.size) && decide (pin.size ≤ 12) && digs pin) = true:=by simp [hp4,hp12,hpd]
 have h3:(decide (13 ≤ pan.size) && decide (pan.size ≤ 19) && digs pan) = true:=by simp [hq13,hq19,hqd]
 have hbk:Blk (w.alloc (.cells #[.int .i64 0,.slice none 0 0,.int .i64 0] 40)) w.heap.size 40 [.int .i64 0,.slice none 0 0,.int .i64 0]:=Blk.new w _ _
 have bz0:Below w.heap.size w (w.alloc (.cells #[.int .i64 0,.slice none 0 0,.int .i64 0] 40)):=(Below.refl _ w).alloc (Nat.le_refl _) _
 obtain ⟨n,hnp⟩:∃ n,n = pin.size:=⟨_,rfl⟩
 obtain ⟨room,hroom⟩:∃ room,room = 14 - pin.size:=⟨_,rfl⟩
 obtain ⟨L,hL⟩:∃ L,L = pin.data.toList:=⟨_,rfl⟩
 have hLl:L.length = n:=by rw [hL,hnp];rfl
 have HLd:Hid (∀ b ∈ L,dig b = true):=by
   show ∀ b ∈ L,dig b = true
   unfold digs at hpd
   rw [List.all_eq_true,← hL] at hpd
   exact hpd
 obtain ⟨G,hG⟩:∃ G,G = fillN 3 pin draws:=⟨_,rfl⟩
 have HPN:Hid ((pinN 3 pin draws).map ofN = ([3,n] ++ L.map pdigN ++ G).map ofN):=by
   show _ = _
   unfold pinN
   rw [← hL,← hG,← hnp]
 have hGl:G.length = room:=by
   rw [hG,hroom]
   unfold fillN
   split
   · rw [List.length_map,List.length_take];omega
   · rw [List.length_replicate]
 have HPK:=hid_eq (pack_eq (pinN 3 pin draws) (acctN pan) (pinN_length _ _ _ hp12 (by intro h;omega)) (acctN_length pan hq13) (pinN_lt _ _ _ (by omega) hp12 hpd) (acctN_lt pan hqd))
 have HNL:=hid_eq (nib_lt (pinN 3 pin draws) (acctN pan) (pinN_lt _ _ _ (by omega) hp12 hpd) (acctN_lt pan hqd))
 have HPD:=hid_eq (pinN_length 3 pin draws hp12 (by intro h;omega))
 have HAD:=hid_eq (acctN_length pan hq13)
 have HAC:=hid_eq (fun wx=>l4Account_any pan wx hq13 hq19 hqd)
 have HGx:Hid (∀ j (h:j < draws.length),j < room → G[j]? = some (10 + draws[j].toNat % 6)):=by
   show ∀ j (h:j < draws.length),j < room → G[j]? = some (10 + draws[j].toNat % 6)
   intro j h hj
   rw [hG]
   unfold fillN
   rw [if_pos rfl,List.getElem?_map,List.getElem?_take,if_pos (by omega),List.getElem?_eq_getElem h]
   rfl
 obtain ⟨capT,wT,hcv,rowT,belT,hsT⟩:=conv_bytes pin ((w.alloc (.cells #[.int .i64 0,.slice none 0 0,.int .i64 0] 40)).alloc (.cells #[.int .u8 3,.int .u8 (n:Int)] 5))
 rw [← hL] at rowT
 have own0:OwnB ((w.alloc (.cells #[.int .i64 0,.slice none 0 0,.int .i64 0] 40)).alloc (.cells #[.int .u8 3,.int .u8 (n:Int)] 5)) (w.heap.size + 1) (.slice (some ⟨w.heap.size + 1,0,none⟩) 2 2) (([3,n] ++ (L.take 0).map pdigN).map ofN):=by
   refine ⟨by simp,.inr ⟨w.heap.size + 1,2,#[.int .u8 3,.int .u8 (n:Int)],by simp,Nat.le_refl _,Blk.new2 w _ _ _,by simp,by unfold maxLen;omega,rfl,?_⟩⟩
   have e1:=byte_ofN 3 (by omega)
   have e2:=byte_ofN n (by omega)
   simp only [List.take_zero,List.map_nil,List.append_nil,List.map_cons,e1,e2]
   rfl
 have own1:=own0.below belT
 have bel1:Below w.heap.size w wT:=(bz0.alloc (by simp) _).trans (belT.mono (by simp;omega))
 have hbk1:=(hbk.alloc (.cells #[.int .u8 3,.int .u8 (n:Int)] 5)).below belT (by simp;omega)
 have hasz:((w.alloc (.cells #[.int .i64 0,.slice none 0 0,.int .i64 0] 40)).alloc (.cells #[.int .u8 3,.int .u8 (n:Int)] 5)).heap.size = w.heap.size + 1 + 1:=by simp
 rw [hasz] at hcv rowT
 have HsT:Hid (wT.heap.size = w.heap.size + 3):=by show _ = _;rw [hsT];simp
 rw [← hnp] at hcv
 have hpn:pin.size = n:=hnp.symm
 have hnm:(n:Int) % 256 = (n:Int):=by omega
 have Hrm:=hid_eq hroom
 have Hnp:=hid_eq hnp
 clear own0 belT hasz hsT bz0 hbk hL hG hpd hqd hroom hnp
 go_enter Tryz.func53,Tryz.ntmps53
 go_wp2_with (first | (go_at_call 95;refine (l4Digits_any pin 4 12 _ hp (by omega) (by omega)).mono ?_;rintro e w2 ⟨rfl,hw2⟩;subst w2;rw [h2]) | (go_at_call 92;refine (goodPan_any pan _ hq).mono ?_;rintro e w3 ⟨rfl,hw3⟩;subst w3;rw [h3]))
 go_loopw [9,11,40] (fun v _ i wr=>∃ k:Nat,k ≤ n ∧ i = .int .i64 k ∧ OwnB wr (w.heap.size + 1) v (([3,n] ++ (L.take k).map pdigN).map ofN) ∧ v.ownBlock ≠ some (w.heap.size + 1 + 1) ∧ w.heap.size + 2 < wr.heap.size ∧ RowAt wr (some ⟨w.heap.size + 1 + 1,0,none⟩) L ∧ Blk wr w.heap.size 40 [.int .i64 0,.slice none 0 0,.int .i64 0] ∧ Below w.heap.size w wr) (fun _ _ i _=>n - (intOf i).toNat)
 case atStart=>exact ⟨0,by omega,rfl,own1,by simp [Value.ownBlock],by have:=HsT.out;omega,rowT,hbk1,bel1⟩
 case round =>
   clear own1 rowT bel1 hcv hbk1
   obtain ⟨k,hk,rfl,hown,hne,hsz,hrow,hbk,hbel⟩:=hrel
   have hll:(([3,n] ++ (L.take k).map pdigN).map ofN).length = 2 + k:=by
     rw [List.length_map,List.length_append,List.length_map,List.length_take]
     show 2 + _ = _
     omega
   obtain ⟨ao6,c6,hv6,-,-,-,-⟩:=hown.own.shape
   rw [hll] at hv6
   subst hv6
   by_cases hlt:k < n
   · have hlt':k < L.length:=by omega
     obtain ⟨b',o',he,hc⟩:=hrow.at hlt'
     cases he
     have hcx:wr.cell? ⟨w.heap.size + 1 + 1,k,none⟩ = some (.int .u8 (L[k].toNat:Int)):=by have h:=hc k hlt';rw [Nat.zero_add] at h;rw [h];simp [hlt']
     have hdk:=dig_to (HLd.out L[k] (List.getElem_mem _))
     have hown':=own_num hown hll
     have hdn:pdigN L[k] = L[k].toNat - 48:=rfl
     have HNX:Hid (([3,n] ++ (L.take (k + 1)).map pdigN).map ofN = ([3,n] ++ (L.take k).map pdigN).map ofN ++ [ofN (pdigN L[k])]):=by
       show _ = _
       rw [take_snoc L k hlt',List.map_append (f:=pdigN),← List.append_assoc,List.map_append (f:=ofN)]
       rfl
     obtain ⟨d,hde⟩:∃ d,d = pdigN L[k]:=⟨_,rfl⟩
     have hd16:d < 10:=by rw [hde,hdn];omega
     have Hbd:=hid_eq (byte_ofN d (by omega))
     have Hne:=hid_eq hne
     rw [← hde] at HNX hdn
     obtain ⟨x,hx⟩:∃ x,x = L[k].toNat:=⟨_,rfl⟩
     rw [← hx] at hcx hdk hdn
     obtain ⟨pre,hpre⟩:∃ pre,pre = ([3,n] ++ (L.take k).map pdigN).map ofN:=⟨_,rfl⟩
     rw [← hpre] at HNX hown' hll
     have Hrow:=hid_eq hrow
     have hs48b:(x:Int) - 48 = (d:Int):=by omega
     have hs48:((x:Int) - 48) % 256 = (d:Int):=by omega
     clear hc hown hde hdn hx hpre hne hrow hpn
     have hbel':=hbel.size
     have hbl:=hbk.lt
     go_wp2_with (at_builtin;refine wpList_append_own_at _ rfl _ _ 22 rfl (w.heap.size + 1) 5 i0 (.int .u8 0) 1 1 Tryz.underlying22 hi hz0 hz1 hz2 rfl (by decide) _ _ _ rfl (hown'.alloc _) ⟨wr.heap.size,0,none⟩ 1 1 [.int .u8 (d:Int)] rfl rfl (cell_one_new _ _ _) (by intro u hu;simp at hu;subst hu;rfl) (by unfold maxLen;omega) (by omega) (by simp;omega) ?_;intro v7 w7 hown7 hgrow7 hnil7 hat7)
     have R1:OwnB w7 (w.heap.size + 1) v7 (([3,n] ++ (L.take (k + 1)).map pdigN).map ofN):=by
       unfold OwnB
       rw [HNX.out,List.length_append,hll,List.map_append,List.map_cons,List.map_nil,Hbd.out]
       exact hown7
     have R2:=(hbel.alloc hbel' _).grown hgrow7 (by simp;omega) (fun k hk=>Nat.le_trans (Nat.le_succ _) (hown'.lt k hk).1)
     have row7:RowAt w7 (some ⟨w.heap.size + 1 + 1,0,none⟩) L:=RowAt.grown (Hrow.out.below (below_new _ _)) hgrow7 (by intro a ha hc;cases ha;exact Hne.out hc)
     have ne7:v7.ownBlock ≠ some (w.heap.size + 1 + 1):=by
       rcases hat7 with h | h
       · rw [h];exact Hne.out
       · intro hc;rw [hc] at h;simp at h;omega
     have lt7:w.heap.size + 2 < w7.heap.size:=by have:=hgrow7.size;simp at this;omega
     have bk7:=(hbk.alloc (.cells #[.int .u8 (d:Int)] 5)).grown hgrow7 (by intro hc;have:=(hown'.lt w.heap.size hc.symm).1;omega)
     clear hown7 hgrow7 hnil7 hat7 hown' hbel Hrow hbk
     go_roundw
     case rel=>exact ⟨k + 1,by omega,by go_num,R1,ne7,lt7,row7,bk7,R2⟩
     case measure=>simp [intOf];omega
   · have hkn:k = n:=by omega
     have OW:Hid (OwnB wr (w.heap.size + 1) (.slice ao6 (2 + n) c6) (([3,n] ++ L.map pdigN ++ G.take 0).map ofN)):=by
       show OwnB _ _ _ _
       rw [List.take_zero,List.append_nil]
       rw [hkn,List.take_of_length_le (by omega)] at hown
       exact hown
     rw [hkn]
     clear hown hne hrow hll hpn
     go_wp2_with fail
     go_loopw [9,12,13] (fun v us _ wx=>∃ j:Nat,j ≤ room ∧ us = .int .i64 (j:Int) ∧ OwnB wx (w.heap.size + 1) v (([3,n] ++ L.map pdigN ++ G.take j).map ofN) ∧ Blk wx w.heap.size 40 [.int .i64 0,.slice none 0 0,.int .i64 0] ∧ Below w.heap.size w wx) (fun v _ _ _=>match v with | .slice _ l _=>16 - l | _=>0)
     case atStart=>exact ⟨0,by omega,rfl,OW.out,hbk,hbel⟩
     case round =>
       clear hbk hbel OW hsz
       obtain ⟨j,hj,rfl,hown,hbk,hbel⟩:=hrel
       have hrmn:=Hrm.out
       have hnpn:=Hnp.out
       have hbel':=hbel.size
       by_cases hlt:j < room
       · have hG1:=HGx.out j (by omega) (by omega)
         have hll:(([3,n] ++ L.map pdigN ++ G.take j).map ofN).length = 2 + n + j:=by
           have:=(List.getElem?_eq_some_iff.1 hG1).1
           rw [List.length_map,List.length_append,List.length_append,List.length_map,List.length_take,hLl]
           show 2 + _ + _ = _
           omega
         obtain ⟨ao8,c8,hv8,-,-,-,-⟩:=hown.own.shape
         rw [hll] at hv8
         subst hv8
         have hown':=own_num hown hll
         obtain ⟨d,hde⟩:∃ d:Nat,d = 10 + (draws[j]'(by omega)).toNat % 6:=⟨_,rfl⟩
         have hd16:d < 16:=by omega
         have Hbd:=hid_eq (byte_ofN d (by omega))
         have HNX:Hid (([3,n] ++ L.map pdigN ++ G.take (j + 1)).map ofN = ([3,n] ++ L.map pdigN ++ G.take j).map ofN ++ [ofN d]):=by
           show _ = _
           obtain ⟨hjl,hje⟩:=List.getElem?_eq_some_iff.1 hG1
           rw [List.take_succ_eq_append_getElem hjl,hje,← List.append_assoc,List.map_append (f:=ofN) (l₂:=[_]),hde]
           rfl
         obtain ⟨pre,hpre⟩:∃ pre,pre = ([3,n] ++ L.map pdigN ++ G.take j).map ofN:=⟨_,rfl⟩
         rw [← hpre] at HNX hown' hll
         have hbl:=hbk.lt
         have hl16:((2 + n + j:Nat):Int) < 16:=by omega
         obtain ⟨b',o',rfl,hc⟩:=hr.at (show j < draws.length by omega)
         have hcx:wr.cell? ⟨b',o' + j,none⟩ = some (.int .u8 ((draws[j]'(by omega)).toNat:Int)):=(hbel.cell (RowAt.lt hc (show j < draws.length by omega))).trans ((hc j (by omega)).trans (by simp [show j < draws.length from by omega]))
         have hxl:=(draws[j]'(by omega)).toNat_lt
         obtain ⟨x,hx⟩:∃ x,x = (draws[j]'(by omega)).toNat:=⟨_,rfl⟩
         rw [← hx] at hcx hde hxl
         have hje:¬ ((j:Int) = (draws.length:Int)):=by omega
         have hjl:(j:Int) < (draws.length:Int):=by omega
         have hdd:(10:Int) + (x:Int) % 6 = (d:Int):=by omega
         have hdd2:((10:Int) + (x:Int) % 6) % 256 = (d:Int):=by omega
         clear hx hc
         clear hown hpre hG1
         obtain ⟨q,hq⟩:∃ q,q = 2 + n + j:=⟨_,rfl⟩
         have HQ:=hid_eq hq
         rw [← hq] at hown' hll hl16 ⊢
         clear hq hde hrmn hnpn
         go_wp2_with (at_builtin;refine wpList_append_own_at _ rfl _ _ 22 rfl (w.heap.size + 1) 5 i0 (.int .u8 0) 1 1 Tryz.underlying22 hi hz0 hz1 hz2 rfl (by decide) _ _ _ rfl (hown'.alloc _) ⟨wr.heap.size,0,none⟩ 1 1 [.int .u8 (d:Int)] rfl rfl (cell_one_new _ _ _) (by intro u hu;simp at hu;subst hu;rfl) (by unfold maxLen;omega) (by omega) (by simp;omega) ?_;intro v7 w7 hown7 hgrow7 hnil7 hat7)
         have R1:OwnB w7 (w.heap.size + 1) v7 (([3,n] ++ L.map pdigN ++ G.take (j + 1)).map ofN):=by
           unfold OwnB
           rw [HNX.out,List.length_append,hll,List.map_append,List.map_cons,List.map_nil,Hbd.out]
           exact hown7
         have R2:=(hbel.alloc hbel' _).grown hgrow7 (by simp;omega) (fun k hk=>Nat.le_trans (Nat.le_succ _) (hown'.lt k hk).1)
         have bk7:=(hbk.alloc (.cells #[.int .u8 (d:Int)] 5)).grown hgrow7 (by intro hc;have:=(hown'.lt w.heap.size hc.symm).1;omega)
         have hv7:∃ ao9 c9,v7 = .slice ao9 (q + 1) c9:=by
           obtain ⟨ao9,c9,h,-⟩:=R1.own.shape
           rw [HNX.out,List.length_append,hll] at h
           exact ⟨ao9,c9,h⟩
         obtain ⟨ao9,c9,rfl⟩:=hv7
         clear hown7 hgrow7 hnil7 hat7 hown' hbel hbk
         go_roundw
         case rel=>exact ⟨j + 1,by omega,by go_num,R1,bk7,R2⟩
         case measure=>simp;omega
       · have hjr:j = room:=by omega
         have hDe:([3,n] ++ L.map pdigN ++ G.take j).map ofN = (pinN 3 pin draws).map ofN:=by rw [HPN.out,List.take_of_length_le (by omega)]
         rw [hDe] at hown
         have hDl:((pinN 3 pin draws).map ofN).length = 16:=by rw [List.length_map];exact HPD.out
         have hAl:((acctN pan).map ofN).length = 16:=by rw [List.length_map];exact HAD.out
         have HPL:Hid (pinL 3 pin pan draws = packL (xorL ((pinN 3 pin draws).map ofN) ((acctN pan).map ofN))):=by show _ = _;rw [HPK.out];rfl
         have hXl:(xorL ((pinN 3 pin draws).map ofN) ((acctN pan).map ofN)).length = 16:=by rw [xorL_length _ _ (by omega)];exact hDl
         have hpl:=pinL_length 3 pin pan draws
         obtain ⟨D,hD⟩:∃ D,D = (pinN 3 pin draws).map ofN:=⟨_,rfl⟩
         obtain ⟨A,hA⟩:∃ A,A = (acctN pan).map ofN:=⟨_,rfl⟩
         rw [← hD,← hA] at hXl HPL HNL
         rw [← hD] at hown hDl
         rw [← hA] at hAl HAC
         obtain ⟨X,hX⟩:∃ X,X = xorL D A:=⟨_,rfl⟩
         rw [← hX] at hXl HPL HNL
         have HX:=hid_eq hX
         obtain ⟨gD,cD,hcD,rfl,rowD⟩:=own_at hown hDl (by omega)
         try rw [hjr]
         clear hown hDe hD hA hX hrmn hnpn
         go_wp2_with fail
         refine (HAC.out _).mono ?_
         rintro e wa ⟨va,rfl,owna,bela⟩
         obtain ⟨gA,cA,hcA,rfl,rowA⟩:=own_at owna hAl (by omega)
         have rowD1:=rowD.below bela
         have bk1:=hbk.below bela hbk.lt
         have bz1:=hbel.trans (bela.mono hbel')
         have hXY:=xor_any (some ⟨gD,0,none⟩) (some ⟨gA,0,none⟩) cD cA D A wa (by omega) (by omega) rowD1 rowA
         rw [hDl,hAl,← HX.out] at hXY
         have HXY:=hid_eq hXY
         clear hXY hbk hbel rowD owna
         go_wp2_with fail
         refine HXY.out.mono ?_
         rintro e wb ⟨rfl,ownb,belb⟩
         have bk2:=bk1.below belb bk1.lt
         have bz2:=bz1.trans (belb.mono bz1.size)
         obtain ⟨gX,cX,hcX,hvX,rowX⟩:=own_at ownb hXl (by omega)
         cases hvX
         clear bk1 bz1 HXY rowA rowD1 ownb
         go_wp2_with fail
         refine (l4Pack_any X _ _ _ hXl HNL.out rowX).mono ?_
         rintro e wc ⟨vc,rfl,ownc,belc⟩
         have hbk:=bk2.below belc bk2.lt
         have bz3:=bz2.trans (belc.mono bz2.size)
         rw [← HPL.out] at ownc
         obtain ⟨gP,cP,hcP,rfl,rowP⟩:=own_at ownc hpl (by omega)
         have hgP:=ownc.low gP rfl
         have hs2:=bz2.size
         have c0_:wc.cell? ⟨w.heap.size,0,none⟩ = some (.int .i64 0):=hbk.cell 0 (by simp)
         have c1_:wc.cell? ⟨w.heap.size,1,none⟩ = some (.slice none 0 0):=hbk.cell 1 (by simp)
         have c2_:wc.cell? ⟨w.heap.size,2,none⟩ = some (.int .i64 0):=hbk.cell 2 (by simp)
         have f0_:=hbk.free 0
         have f1_:=hbk.free 1
         have f2_:=hbk.free 2
         have hltb:=bk2.lt
         have OWN:=hid_eq (ownc.mono hs2)
         clear ownc rowP bk2
         go_wp2_with fail
         have OX:∀ (j:Nat) (u:Value) (wx:World),OwnB wx w.heap.size (.slice (some ⟨gP,0,none⟩) 8 cP) (pinL 3 pin pan draws) → OwnB (wx.setCell ⟨w.heap.size,j,none⟩ u) w.heap.size (.slice (some ⟨gP,0,none⟩) 8 cP) (pinL 3 pin pan draws):=by
           intro j u wx h
           exact World.ownsRow.kept h ⟨rfl,rfl,rfl,by simp,fun k _ hk=>heap_setCell_other wx ⟨w.heap.size,j,none⟩ k u (fun e=>hk (by simp [e]))⟩ (row:=some w.heap.size) (Or.inr (by simp [Value.ownBlock];omega))
         exact bodyPost_ret (v:=.agg [.int .i64 0,.slice (some ⟨gP,0,none⟩) 8 cP,.int .i64 (room:Int)].toArray) (results_blk Tryz.results53 _ _ rfl (show Blk _ _ 40 [.int .i64 0,.slice (some ⟨gP,0,none⟩) 8 cP,.int .i64 (room:Int)] from ((hbk.set 0 (.int .i64 0)).set 1 (.slice (some ⟨gP,0,none⟩) 8 cP)).set 2 (.int .i64 (room:Int))) Tryz.underlying40 rfl (by kernel_rfl)) rfl
           ⟨_,by rw [Hrm.out],(OX _ _ _ (OX _ _ _ (OX _ _ _ OWN.out))).own,((bz3.setCell (p:=⟨w.heap.size,0,none⟩) (Nat.le_refl _) _).setCell (p:=⟨w.heap.size,1,none⟩) (Nat.le_refl _) _).setCell (p:=⟨w.heap.size,2,none⟩) (Nat.le_refl _) _⟩
set_option maxRecDepth 100000 in
set_option maxHeartbeats 2000000 in
theorem makeS_short (pin pan:ByteArray) (draws:List UInt8) (ao:Option Addr) (cap:Nat) (w:World) (hg:goodPin 3 pin pan = true) (hn:draws.length ≤ 1048576) (hr:RowAt w ao draws) (hsh:draws.length < 14 - pin.size) :
   Calls Tryz.prog 53 #[.int .i64 3,.string pin,.string pan,.slice ao draws.length cap] w fun e w'=>e = .returned (.agg #[.int .i64 2,.slice none 0 0,.int .i64 0]) ∧ Below w.heap.size w w':=by
 obtain ⟨i0,hi,hz0,hz1,hz2⟩:=info_parts Tryz.info5
 obtain ⟨-,hp4,hp12,hpd,hq13,hq19,hqd⟩:=good_parts hg
 have hp:pin.size ≤ maxLen:=by unfold maxLen;omega
 have hq:pan.size ≤ maxLen:=by unfold maxLen;omega
 have h2:(decide (4 ≤ pin.size) && decide (pin.size ≤ 12) && digs pin) = true:=by simp [hp4,hp12,hpd]
 have h3:(decide (13 ≤ pan.size) && decide (pan.size ≤ 19) && digs pan) = true:=by simp [hq13,hq19,hqd]
 have hbk:Blk (w.alloc (.cells #[.int .i64 0,.slice none 0 0,.int .i64 0] 40)) w.heap.size 40 [.int .i64 0,.slice none 0 0,.int .i64 0]:=Blk.new w _ _
 have bz0:Below w.heap.size w (w.alloc (.cells #[.int .i64 0,.slice none 0 0,.int .i64 0] 40)):=(Below.refl _ w).alloc (Nat.le_refl _) _
 obtain ⟨n,hnp⟩:∃ n,n = pin.size:=⟨_,rfl⟩
 obtain ⟨room,hroom⟩:∃ room,room = 14 - pin.size:=⟨_,rfl⟩
 obtain ⟨L,hL⟩:∃ L,L = pin.data.toList:=⟨_,rfl⟩
 have hLl:L.length = n:=by rw [hL,hnp];rfl
 have HLd:Hid (∀ b ∈ L,dig b = true):=by
   show ∀ b ∈ L,dig b = true
   unfold digs at hpd
   rw [List.all_eq_true,← hL] at hpd
   exact hpd
 obtain ⟨G,hG⟩:∃ G,G = fillN 3 pin draws:=⟨_,rfl⟩
 have HPN:Hid ((pinN 3 pin draws).map ofN = ([3,n] ++ L.map pdigN ++ G).map ofN):=by
   show _ = _
   unfold pinN
   rw [← hL,← hG,← hnp]
 have HGx:Hid (∀ j (h:j < draws.length),j < room → G[j]? = some (10 + draws[j].toNat % 6)):=by
   show ∀ j (h:j < draws.length),j < room → G[j]? = some (10 + draws[j].toNat % 6)
   intro j h hj
   rw [hG]
   unfold fillN
   rw [if_pos rfl,List.getElem?_map,List.getElem?_take,if_pos (by omega),List.getElem?_eq_getElem h]
   rfl
 obtain ⟨capT,wT,hcv,rowT,belT,hsT⟩:=conv_bytes pin ((w.alloc (.cells #[.int .i64 0,.slice none 0 0,.int .i64 0] 40)).alloc (.cells #[.int .u8 3,.int .u8 (n:Int)] 5))
 rw [← hL] at rowT
 have own0:OwnB ((w.alloc (.cells #[.int .i64 0,.slice none 0 0,.int .i64 0] 40)).alloc (.cells #[.int .u8 3,.int .u8 (n:Int)] 5)) (w.heap.size + 1) (.slice (some ⟨w.heap.size + 1,0,none⟩) 2 2) (([3,n] ++ (L.take 0).map pdigN).map ofN):=by
   refine ⟨by simp,.inr ⟨w.heap.size + 1,2,#[.int .u8 3,.int .u8 (n:Int)],by simp,Nat.le_refl _,Blk.new2 w _ _ _,by simp,by unfold maxLen;omega,rfl,?_⟩⟩
   have e1:=byte_ofN 3 (by omega)
   have e2:=byte_ofN n (by omega)
   simp only [List.take_zero,List.map_nil,List.append_nil,List.map_cons,e1,e2]
   rfl
 have own1:=own0.below belT
 have bel1:Below w.heap.size w wT:=(bz0.alloc (by simp) _).trans (belT.mono (by simp;omega))
 have hbk1:=(hbk.alloc (.cells #[.int .u8 3,.int .u8 (n:Int)] 5)).below belT (by simp;omega)
 have hasz:((w.alloc (.cells #[.int .i64 0,.slice none 0 0,.int .i64 0] 40)).alloc (.cells #[.int .u8 3,.int .u8 (n:Int)] 5)).heap.size = w.heap.size + 1 + 1:=by simp
 rw [hasz] at hcv rowT
 have HsT:Hid (wT.heap.size = w.heap.size + 3):=by show _ = _;rw [hsT];simp
 rw [← hnp] at hcv
 have hpn:pin.size = n:=hnp.symm
 have hnm:(n:Int) % 256 = (n:Int):=by omega
 have Hrm:=hid_eq hroom
 have Hnp:=hid_eq hnp
 clear own0 belT hasz hsT bz0 hbk hL hG hpd hqd hroom hnp
 go_enter Tryz.func53,Tryz.ntmps53
 go_wp2_with (first | (go_at_call 95;refine (l4Digits_any pin 4 12 _ hp (by omega) (by omega)).mono ?_;rintro e w2 ⟨rfl,hw2⟩;subst w2;rw [h2]) | (go_at_call 92;refine (goodPan_any pan _ hq).mono ?_;rintro e w3 ⟨rfl,hw3⟩;subst w3;rw [h3]))
 go_loopw [9,11,40] (fun v _ i wr=>∃ k:Nat,k ≤ n ∧ i = .int .i64 k ∧ OwnB wr (w.heap.size + 1) v (([3,n] ++ (L.take k).map pdigN).map ofN) ∧ v.ownBlock ≠ some (w.heap.size + 1 + 1) ∧ w.heap.size + 2 < wr.heap.size ∧ RowAt wr (some ⟨w.heap.size + 1 + 1,0,none⟩) L ∧ Blk wr w.heap.size 40 [.int .i64 0,.slice none 0 0,.int .i64 0] ∧ Below w.heap.size w wr) (fun _ _ i _=>n - (intOf i).toNat)
 case atStart=>exact ⟨0,by omega,rfl,own1,by simp [Value.ownBlock],by have:=HsT.out;omega,rowT,hbk1,bel1⟩
 case round =>
   clear own1 rowT bel1 hcv hbk1
   obtain ⟨k,hk,rfl,hown,hne,hsz,hrow,hbk,hbel⟩:=hrel
   have hll:(([3,n] ++ (L.take k).map pdigN).map ofN).length = 2 + k:=by
     rw [List.length_map,List.length_append,List.length_map,List.length_take]
     show 2 + _ = _
     omega
   obtain ⟨ao6,c6,hv6,-,-,-,-⟩:=hown.own.shape
   rw [hll] at hv6
   subst hv6
   by_cases hlt:k < n
   · have hlt':k < L.length:=by omega
     obtain ⟨b',o',he,hc⟩:=hrow.at hlt'
     cases he
     have hcx:wr.cell? ⟨w.heap.size + 1 + 1,k,none⟩ = some (.int .u8 (L[k].toNat:Int)):=by have h:=hc k hlt';rw [Nat.zero_add] at h;rw [h];simp [hlt']
     have hdk:=dig_to (HLd.out L[k] (List.getElem_mem _))
     have hown':=own_num hown hll
     have hdn:pdigN L[k] = L[k].toNat - 48:=rfl
     have HNX:Hid (([3,n] ++ (L.take (k + 1)).map pdigN).map ofN = ([3,n] ++ (L.take k).map pdigN).map ofN ++ [ofN (pdigN L[k])]):=by
       show _ = _
       rw [take_snoc L k hlt',List.map_append (f:=pdigN),← List.append_assoc,List.map_append (f:=ofN)]
       rfl
     obtain ⟨d,hde⟩:∃ d,d = pdigN L[k]:=⟨_,rfl⟩
     have hd16:d < 10:=by rw [hde,hdn];omega
     have Hbd:=hid_eq (byte_ofN d (by omega))
     have Hne:=hid_eq hne
     rw [← hde] at HNX hdn
     obtain ⟨x,hx⟩:∃ x,x = L[k].toNat:=⟨_,rfl⟩
     rw [← hx] at hcx hdk hdn
     obtain ⟨pre,hpre⟩:∃ pre,pre = ([3,n] ++ (L.take k).map pdigN).map ofN:=⟨_,rfl⟩
     rw [← hpre] at HNX hown' hll
     have Hrow:=hid_eq hrow
     have hs48b:(x:Int) - 48 = (d:Int):=by omega
     have hs48:((x:Int) - 48) % 256 = (d:Int):=by omega
     clear hc hown hde hdn hx hpre hne hrow hpn
     have hbel':=hbel.size
     have hbl:=hbk.lt
     go_wp2_with (at_builtin;refine wpList_append_own_at _ rfl _ _ 22 rfl (w.heap.size + 1) 5 i0 (.int .u8 0) 1 1 Tryz.underlying22 hi hz0 hz1 hz2 rfl (by decide) _ _ _ rfl (hown'.alloc _) ⟨wr.heap.size,0,none⟩ 1 1 [.int .u8 (d:Int)] rfl rfl (cell_one_new _ _ _) (by intro u hu;simp at hu;subst hu;rfl) (by unfold maxLen;omega) (by omega) (by simp;omega) ?_;intro v7 w7 hown7 hgrow7 hnil7 hat7)
     have R1:OwnB w7 (w.heap.size + 1) v7 (([3,n] ++ (L.take (k + 1)).map pdigN).map ofN):=by
       unfold OwnB
       rw [HNX.out,List.length_append,hll,List.map_append,List.map_cons,List.map_nil,Hbd.out]
       exact hown7
     have R2:=(hbel.alloc hbel' _).grown hgrow7 (by simp;omega) (fun k hk=>Nat.le_trans (Nat.le_succ _) (hown'.lt k hk).1)
     have row7:RowAt w7 (some ⟨w.heap.size + 1 + 1,0,none⟩) L:=RowAt.grown (Hrow.out.below (below_new _ _)) hgrow7 (by intro a ha hc;cases ha;exact Hne.out hc)
     have ne7:v7.ownBlock ≠ some (w.heap.size + 1 + 1):=by
       rcases hat7 with h | h
       · rw [h];exact Hne.out
       · intro hc;rw [hc] at h;simp at h;omega
     have lt7:w.heap.size + 2 < w7.heap.size:=by have:=hgrow7.size;simp at this;omega
     have bk7:=(hbk.alloc (.cells #[.int .u8 (d:Int)] 5)).grown hgrow7 (by intro hc;have:=(hown'.lt w.heap.size hc.symm).1;omega)
     clear hown7 hgrow7 hnil7 hat7 hown' hbel Hrow hbk
     go_roundw
     case rel=>exact ⟨k + 1,by omega,by go_num,R1,ne7,lt7,row7,bk7,R2⟩
     case measure=>simp [intOf];omega
   · have hkn:k = n:=by omega
     have OW:Hid (OwnB wr (w.heap.size + 1) (.slice ao6 (2 + n) c6) (([3,n] ++ L.map pdigN ++ G.take 0).map ofN)):=by
       show OwnB _ _ _ _
       rw [List.take_zero,List.append_nil]
       rw [hkn,List.take_of_length_le (by omega)] at hown
       exact hown
     rw [hkn]
     clear hown hne hrow hll hpn
     go_wp2_with fail
     go_loopw [9,12,13] (fun v us _ wx=>∃ j:Nat,j ≤ draws.length ∧ us = .int .i64 (j:Int) ∧ OwnB wx (w.heap.size + 1) v (([3,n] ++ L.map pdigN ++ G.take j).map ofN) ∧ Blk wx w.heap.size 40 [.int .i64 0,.slice none 0 0,.int .i64 0] ∧ Below w.heap.size w wx) (fun v _ _ _=>match v with | .slice _ l _=>16 - l | _=>0)
     case atStart=>exact ⟨0,by omega,rfl,OW.out,hbk,hbel⟩
     case round =>
       clear hbk hbel OW hsz
       obtain ⟨j,hj,rfl,hown,hbk,hbel⟩:=hrel
       have hrmn:=Hrm.out
       have hnpn:=Hnp.out
       have hbel':=hbel.size
       by_cases hlt:j < draws.length
       · have hG1:=HGx.out j (by omega) (by omega)
         have hll:(([3,n] ++ L.map pdigN ++ G.take j).map ofN).length = 2 + n + j:=by
           have:=(List.getElem?_eq_some_iff.1 hG1).1
           rw [List.length_map,List.length_append,List.length_append,List.length_map,List.length_take,hLl]
           show 2 + _ + _ = _
           omega
         obtain ⟨ao8,c8,hv8,-,-,-,-⟩:=hown.own.shape
         rw [hll] at hv8
         subst hv8
         have hown':=own_num hown hll
         obtain ⟨d,hde⟩:∃ d:Nat,d = 10 + (draws[j]'(by omega)).toNat % 6:=⟨_,rfl⟩
         have hd16:d < 16:=by omega
         have Hbd:=hid_eq (byte_ofN d (by omega))
         have HNX:Hid (([3,n] ++ L.map pdigN ++ G.take (j + 1)).map ofN = ([3,n] ++ L.map pdigN ++ G.take j).map ofN ++ [ofN d]):=by
           show _ = _
           obtain ⟨hjl,hje⟩:=List.getElem?_eq_some_iff.1 hG1
           rw [List.take_succ_eq_append_getElem hjl,hje,← List.append_assoc,List.map_append (f:=ofN) (l₂:=[_]),hde]
           rfl
         obtain ⟨pre,hpre⟩:∃ pre,pre = ([3,n] ++ L.map pdigN ++ G.take j).map ofN:=⟨_,rfl⟩
         rw [← hpre] at HNX hown' hll
         have hbl:=hbk.lt
         have hl16:((2 + n + j:Nat):Int) < 16:=by omega
         obtain ⟨b',o',rfl,hc⟩:=hr.at (show j < draws.length by omega)
         have hcx:wr.cell? ⟨b',o' + j,none⟩ = some (.int .u8 ((draws[j]'(by omega)).toNat:Int)):=(hbel.cell (RowAt.lt hc (show j < draws.length by omega))).trans ((hc j (by omega)).trans (by simp [show j < draws.length from by omega]))
         have hxl:=(draws[j]'(by omega)).toNat_lt
         obtain ⟨x,hx⟩:∃ x,x = (draws[j]'(by omega)).toNat:=⟨_,rfl⟩
         rw [← hx] at hcx hde hxl
         have hje:¬ ((j:Int) = (draws.length:Int)):=by omega
         have hjl:(j:Int) < (draws.length:Int):=by omega
         have hdd:(10:Int) + (x:Int) % 6 = (d:Int):=by omega
         have hdd2:((10:Int) + (x:Int) % 6) % 256 = (d:Int):=by omega
         clear hx hc
         clear hown hpre hG1
         obtain ⟨q,hq⟩:∃ q,q = 2 + n + j:=⟨_,rfl⟩
         have HQ:=hid_eq hq
         rw [← hq] at hown' hll hl16 ⊢
         clear hq hde hrmn hnpn
         go_wp2_with (at_builtin;refine wpList_append_own_at _ rfl _ _ 22 rfl (w.heap.size + 1) 5 i0 (.int .u8 0) 1 1 Tryz.underlying22 hi hz0 hz1 hz2 rfl (by decide) _ _ _ rfl (hown'.alloc _) ⟨wr.heap.size,0,none⟩ 1 1 [.int .u8 (d:Int)] rfl rfl (cell_one_new _ _ _) (by intro u hu;simp at hu;subst hu;rfl) (by unfold maxLen;omega) (by omega) (by simp;omega) ?_;intro v7 w7 hown7 hgrow7 hnil7 hat7)
         have R1:OwnB w7 (w.heap.size + 1) v7 (([3,n] ++ L.map pdigN ++ G.take (j + 1)).map ofN):=by
           unfold OwnB
           rw [HNX.out,List.length_append,hll,List.map_append,List.map_cons,List.map_nil,Hbd.out]
           exact hown7
         have R2:=(hbel.alloc hbel' _).grown hgrow7 (by simp;omega) (fun k hk=>Nat.le_trans (Nat.le_succ _) (hown'.lt k hk).1)
         have bk7:=(hbk.alloc (.cells #[.int .u8 (d:Int)] 5)).grown hgrow7 (by intro hc;have:=(hown'.lt w.heap.size hc.symm).1;omega)
         have hv7:∃ ao9 c9,v7 = .slice ao9 (q + 1) c9:=by
           obtain ⟨ao9,c9,h,-⟩:=R1.own.shape
           rw [HNX.out,List.length_append,hll] at h
           exact ⟨ao9,c9,h⟩
         obtain ⟨ao9,c9,rfl⟩:=hv7
         clear hown7 hgrow7 hnil7 hat7 hown' hbel hbk
         go_roundw
         case rel=>exact ⟨j + 1,by omega,by go_num,R1,bk7,R2⟩
         case measure=>simp;omega
       · have hjr:j = draws.length:=by omega
         have hll:(([3,n] ++ L.map pdigN ++ G.take j).map ofN).length ≤ 2 + n + j:=by
           rw [List.length_map,List.length_append,List.length_append,List.length_map,List.length_take,hLl]
           show 2 + _ + _ ≤ _
           omega
         obtain ⟨ao8,c8,hv8,-,-,-,-⟩:=hown.own.shape
         subst hv8
         obtain ⟨q,hq⟩:∃ q,q = (([3,n] ++ L.map pdigN ++ G.take j).map ofN).length:=⟨_,rfl⟩
         rw [← hq] at hll ⊢
         have hl16:(q:Int) < 16:=by omega
         have c0_:wr.cell? ⟨w.heap.size,0,none⟩ = some (.int .i64 0):=hbk.cell 0 (by simp)
         have c1_:wr.cell? ⟨w.heap.size,1,none⟩ = some (.slice none 0 0):=hbk.cell 1 (by simp)
         have c2_:wr.cell? ⟨w.heap.size,2,none⟩ = some (.int .i64 0):=hbk.cell 2 (by simp)
         have f0_:=hbk.free 0
         have f1_:=hbk.free 1
         have f2_:=hbk.free 2
         try rw [hjr]
         clear hown hq
         go_wp2_with fail
         exact bodyPost_ret (v:=.agg [.int .i64 2,.slice none 0 0,.int .i64 0].toArray) (results_blk Tryz.results53 _ _ rfl (show Blk _ _ 40 [.int .i64 2,.slice none 0 0,.int .i64 0] from ((hbk.set 0 (.int .i64 2)).set 1 (.slice none 0 0)).set 2 (.int .i64 0)) Tryz.underlying40 rfl (by kernel_rfl)) rfl ⟨rfl,((hbel.setCell (p:=⟨w.heap.size,0,none⟩) (Nat.le_refl _) _).setCell (p:=⟨w.heap.size,1,none⟩) (Nat.le_refl _) _).setCell (p:=⟨w.heap.size,2,none⟩) (Nat.le_refl _) _⟩
end Go.Proofs.YtoajfbkblpaejaaGreatDoor
