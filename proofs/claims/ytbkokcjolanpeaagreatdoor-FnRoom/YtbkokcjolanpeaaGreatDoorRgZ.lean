import Derived.Test.YtbkokcjolanpeaaGreatDoorRgY
namespace Go.Proofs.YtbkokcjolanpeaaGreatDoor
open Go.RowKit
def nosTo (bm:List UInt8) (k:Nat):List Nat:=(List.range k).filter (fun i=>decide (2 ≤ i) && bitL bm (i - 1))
theorem nosTo_two (bm:List UInt8):nosTo bm 2 = []:=by
 unfold nosTo
 simp [List.range_succ]
theorem nosTo_yes (bm:List UInt8) (k:Nat) (hk:2 ≤ k) (h:bitL bm (k - 1) = true):nosTo bm (k + 1) = nosTo bm k ++ [k]:=by
 unfold nosTo
 rw [List.range_succ,List.filter_append]
 simp [h,hk]
theorem nosTo_no (bm:List UInt8) (k:Nat) (h:bitL bm (k - 1) = false):nosTo bm (k + 1) = nosTo bm k:=by
 unfold nosTo
 rw [List.range_succ,List.filter_append]
 simp [h]
theorem nosTo_mem (bm:List UInt8) (k n:Nat) (hk:2 ≤ k) (h:bitL bm (k - 1) = true) (hn:k < n):k ∈ nosTo bm n:=by
 unfold nosTo
 rw [List.mem_filter,List.mem_range]
 exact ⟨hn,by simp [h,hk]⟩
theorem nosTo_length (bm:List UInt8) (k:Nat):(nosTo bm k).length ≤ k:=by
 unfold nosTo
 exact Nat.le_trans (List.length_filter_le _ _) (by simp)
def lastN (l:List Nat):Nat:=l.getLastD 0
theorem lastN_snoc (l:List Nat) (x:Nat):lastN (l ++ [x]) = x:=by unfold lastN;simp
def inTab (l:List Nat):Bool:=l.all (fun n=>decide (n ∈ tabNos))
theorem inTab_snoc (l:List Nat) (x:Nat):inTab (l ++ [x]) = (inTab l && decide (x ∈ tabNos)):=by unfold inTab;simp
theorem inTab_no (l:List Nat) (x:Nat) (h:x ∈ l) (hx:x ∉ tabNos):inTab l = false:=by
 unfold inTab
 rw [List.all_eq_false]
 exact ⟨x,h,by simpa using hx⟩
def kindV (no:Nat):Value:=tabKind (tabNos.idxOf no)
def rulesC (l:List Nat):List Value:=l.flatMap (fun (n:Nat)=>[.int .i64 (n:Int),kindV n])
theorem rulesC_snoc (l:List Nat) (x:Nat):rulesC (l ++ [x]) = rulesC l ++ [.int .i64 (x:Int),kindV x]:=by unfold rulesC;simp
def mapEnd (data:List UInt8):Nat:=if bitL (data.drop 4) 0 = true then 20 else 12
def nosOf (data:List UInt8):List Nat:=nosTo ((data.drop 4).take (mapEnd data - 4)) (8 * (mapEnd data - 4) + 1)
def mapC (data:List UInt8):Nat:=if data.length < mapEnd data then 1 else if inTab (nosOf data) = false then 3 else if 12 < mapEnd data ∧ lastN (nosOf data) ≤ 64 then 3 else 0
def mapN (data:List UInt8):List Nat:=if mapC data = 0 then nosOf data else []
def mapE (data:List UInt8):Nat:=if mapC data = 0 then mapEnd data else 0
theorem tab_ix (no:Nat) (h:no ∈ tabNos):tabNos.idxOf no < 14 ∧ tabNos.getD (tabNos.idxOf no) 0 = no:=by
 have hl:tabNos.idxOf no < tabNos.length:=List.idxOf_lt_length_of_mem h
 refine ⟨hl,?_⟩
 rw [List.getD_eq_getElem?_getD,List.getElem?_eq_getElem hl]
 exact List.getElem_idxOf hl
theorem kindV_one (no:Nat) (h:no ∈ tabNos):(kindV no).oneCell' = true:=by
 have h':=(tab_ix no h).1
 unfold kindV
 match tabNos.idxOf no,h' with
 | 0,_ | 1,_ | 2,_ | 3,_ | 4,_ | 5,_ | 6,_ | 7,_ | 8,_ | 9,_ | 10,_ | 11,_ | 12,_ | 13,_=>rfl
theorem Tryz.infoFR:(Tryz.prog.info? 118).map (fun i=>(i.zero,i.size,i.bytes)) = some (some (.agg #[.int .i64 0,.nilIface]),2,24):=by kernel_rfl
theorem readMaps_short (data:List UInt8) (ao:Option Addr) (cap:Nat) (w:World) (h:data.length < 12) :
   Calls Tryz.prog 93 #[.slice ao data.length cap] w fun e w'=>e = .returned (.tuple #[.slice none 0 0,.int .i64 0,.int .i64 1]) ∧ w' = w:=by
 obtain ⟨N,hN⟩:∃ N,N = data.length:=⟨_,rfl⟩
 rw [← hN]
 have hI:¬ (12:Int) ≤ (N:Int):=by omega
 have hI2:(N:Int) < 12:=by omega
 go_enter Tryz.func93,Tryz.ntmps93
 go_wp2_with fail
 go_ret3
 exact ⟨rfl,rfl⟩
theorem ownR_below {w w':World} {base e size n:Nat} {v:Value} {xs:List Value} (h:w.ownsRow base e size v n xs) (hb:Below w.heap.size w w'):w'.ownsRow base e size v n xs :=
 World.ownsRow.kept h (grown_of_below hb none) (by cases hv:v.ownBlock <;> simp)
theorem ownR_mono {w:World} {B base e size n:Nat} {v:Value} {xs:List Value} (h:w.ownsRow base e size v n xs) (hB:B ≤ base):w.ownsRow B e size v n xs:=by
 obtain ⟨h1,h2⟩:=h
 refine ⟨h1,?_⟩
 rcases h2 with h2 | ⟨g,cap,cur,hv,hb,rest⟩
 · exact .inl h2
 · exact .inr ⟨g,cap,cur,hv,by omega,rest⟩
theorem news_of_blk {w:World} {g t:Nat} {cs:List Value} (h:Blk w g t cs):∀ j u,cs[j]? = some u → w.cell? ((⟨g,0,none⟩:Addr).add j) = some u:=by
 intro j u hu
 obtain ⟨hj,he⟩:=List.getElem?_eq_some_iff.1 hu
 rw [Addr.add_mid,Nat.zero_add,h.cell j hj,he]
set_option maxRecDepth 100000 in
set_option maxHeartbeats 4000000 in
theorem readMaps_long (data:List UInt8) (b o cap:Nat) (w:World) (h12:12 ≤ data.length) (hn:data.length ≤ 4096) (hcap:data.length ≤ cap) (hr:RowAt w (some ⟨b,o,none⟩) data) :
   Calls Tryz.prog 93 #[.slice (some ⟨b,o,none⟩) data.length cap] w fun e w'=>∃ v,e = .returned (.tuple #[v,.int .i64 (mapE data:Nat),.int .i64 (mapC data:Nat)]) ∧ w'.ownsRow w.heap.size 118 2 v (mapN data).length (rulesC (mapN data)) ∧ Below w.heap.size w w':=by
 obtain ⟨i0,hi,hz0,hz1,hz2⟩:=info_parts Tryz.infoFR
 obtain ⟨N,hN⟩:∃ N,N = data.length:=⟨_,rfl⟩
 have hd4:(data.drop 4).length = N - 4:=by rw [List.length_drop,hN]
 have HB1:=hideT (hasBit_any (data.drop 4) (some ⟨b,o + 4,none⟩) (cap - 4) 0 w (by omega) (by omega) (RowAt.drop hr 4))
 rw [hd4] at HB1
 obtain ⟨q,hq⟩:∃ c,c = bitL (data.drop 4) 0:=⟨_,rfl⟩
 rw [← hq] at HB1
 obtain ⟨E,hE⟩:∃ E,E = mapEnd data:=⟨_,rfl⟩
 have hEq:E = if q = true then 20 else 12:=by rw [hE,hq];rfl
 obtain ⟨m,hm⟩:∃ m,m = E - 4:=⟨_,rfl⟩
 obtain ⟨bm,hbm⟩:∃ l,l = (data.drop 4).take m:=⟨_,rfl⟩
 have HR:Hid (mapC data = (if N < E then 1 else if inTab (nosTo bm (8 * m + 1)) = false then 3 else if 12 < E ∧ lastN (nosTo bm (8 * m + 1)) ≤ 64 then 3 else 0) ∧ mapN data = (if mapC data = 0 then nosTo bm (8 * m + 1) else []) ∧ mapE data = (if mapC data = 0 then E else 0)):=by
   have e:nosOf data = nosTo bm (8 * m + 1):=by unfold nosOf;rw [hbm,hm,hE]
   refine ⟨?_,?_,?_⟩
   · unfold mapC;rw [e,← hE,← hN]
   · unfold mapN;rw [e]
   · unfold mapE;rw [← hE]
 obtain ⟨RC,hRC⟩:∃ c,c = mapC data:=⟨_,rfl⟩
 obtain ⟨RN,hRN⟩:∃ c,c = mapN data:=⟨_,rfl⟩
 obtain ⟨RE,hRE⟩:∃ c,c = mapE data:=⟨_,rfl⟩
 rw [← hRC,← hRN,← hRE] at HR ⊢
 have HQ:=hideT hEq
 have HN:=hideT hN
 have hI:(12:Int) ≤ (N:Int):=by omega
 have h4N:(4:Int) ≤ (N:Int):=by omega
 have hc4:¬ cap = 4:=by omega
 rw [← hN]
 clear hRC hRN hRE hN hE hq hEq
 go_enter Tryz.func93,Tryz.ntmps93
 go_upto_if 18 with (refine HB1.out.mono ?_;rintro e w1 ⟨rfl,rfl⟩)
 clear HB1
 go_cut [3] (fun e wx=>e = .int .i64 (E:Int) ∧ wx = w.drew)
 case first =>
   cases q
   · have hE12:=HQ.out
     rw [if_neg (by decide)] at hE12
     subst hE12
     go_wp2_with fail
     go_meet
     case rel=>exact ⟨rfl,rfl⟩
   · have hE12:=HQ.out
     rw [if_pos rfl] at hE12
     subst hE12
     go_wp2_with fail
     go_meet
     case rel=>exact ⟨rfl,rfl⟩
 case rest =>
   obtain ⟨rfl,hwc⟩:=hcut
   have bc:Below w.heap.size w wc:=by rw [hwc];exact (Below.refl _ _).drew
   have rc:=hr.below bc
   clear hwc hr
   by_cases hlt:N < E
   · rw [if_pos hlt] at HR
     obtain ⟨r1,r2,r3⟩:=HR.out
     rw [r1] at r2 r3
     rw [if_neg (by decide)] at r2 r3
     subst r1 r2 r3
     have hI3:(N:Int) < (E:Int):=by omega
     go_wp2_with fail
     go_ret3
     exact ⟨_,rfl,World.ownsRow_nil _ _ _ _,bc⟩
   rw [if_neg hlt] at HR
   have hI3:¬ (N:Int) < (E:Int):=by omega
   have hEv:E = 12 ∨ E = 20:=by have:=HQ.out;cases q <;> simp at this <;> omega
   have hEc:(E:Int) ≤ (cap:Int):=by have:=HN.out;omega
   have h4E:(4:Int) ≤ (E:Int):=by omega
   have HFT:=hideT (fun (wx:World)=>fieldTable_any wx)
   have rbm:RowAt wc (some ⟨b,o + 4,none⟩) bm:=by rw [hbm];exact (RowAt.drop rc 4).take m
   have hbl:bm.length = m:=by rw [hbm,List.length_take,hd4];omega
   clear hbm rc hd4
   go_upto_region 8 with (go_at_call 51;refine (HFT.out _).mono ?_;rintro e wT ⟨rfl,kT,bT⟩)
   rw [← hm]
   have HmE:=hideT hm
   obtain ⟨gT,hgT⟩:∃ g,g = wc.heap.size:=⟨_,rfl⟩
   rw [← hgT] at kT ⊢
   have bcT:=bc.trans (bT.mono bc.size)
   have rT:=rbm.below bT
   have hgl:=kT.lt
   have hmv:m = 8 ∨ m = 16:=by omega
   have hM:IntKind.i64.wrap (8 * (m:Int)) = ((8 * m:Nat):Int):=by rw [IntKind.wrap_i64];omega
   obtain ⟨M,hMe⟩:∃ M,M = 8 * m:=⟨_,rfl⟩
   rw [← hMe] at hM HR
   have HBT:Hid (∀ (k:Nat) (wx:World),1 ≤ k → k ≤ M → RowAt wx (some ⟨b,o + 4,none⟩) bm → Calls Tryz.prog 149 #[.slice (some ⟨b,o + 4,none⟩) m (cap - 4),.int .i64 (k:Int)] wx fun e w'=>e = .returned (.bool (bitL bm (k - 1))) ∧ w' = wx.drew):=by
     intro k wx h1 h2 h3
     have h:=hasBit_any bm (some ⟨b,o + 4,none⟩) (cap - 4) (k - 1) wx (by omega) (by omega) h3
     rw [hbl,show k - 1 + 1 = k from by omega] at h
     exact h
   have HRO:=hideT (fun (no:Nat) (wx:World) (h:Blk wx gT 118 tabCellsI)=>ruleOf_any no gT wx h)
   have HTB:Hid (∀ {x:World},Below wT.heap.size wT x → Blk x gT 118 tabCellsI ∧ RowAt x (some ⟨b,o + 4,none⟩) bm):=fun h=>⟨kT.below h kT.lt,rT.below h⟩
   have HTC:Hid (∀ {x:World},Below wT.heap.size wT x → ∀ no,no ∈ tabNos → x.cell? ⟨gT,tabNos.idxOf no * 2,none⟩ = some (.int .i64 (no:Int)) ∧ x.cell? ⟨gT,tabNos.idxOf no * 2 + 1,none⟩ = some (kindV no)):=by
     intro x hx no hno
     obtain ⟨h1,h2⟩:=tab_ix no hno
     have e:=tab_at _ h1
     have kx:=kT.below hx kT.lt
     have l1:tabNos.idxOf no * 2 < tabCellsI.length:=by show _ < 28;omega
     have l2:tabNos.idxOf no * 2 + 1 < tabCellsI.length:=by show _ < 28;omega
     rw [List.getElem?_eq_getElem l1,List.getElem?_eq_getElem l2] at e
     exact ⟨(kx.cell _ l1).trans (by rw [e.1,h2]),(kx.cell _ l2).trans e.2⟩
   have hMb:M ≤ 128:=by omega
   have hM2:2 ≤ M:=by omega
   clear kT rT rbm bT bc hgT HFT hm hMe
   go_wp2_with fail
   go_loopw [2,3,7,8] (fun nv en la no wr=>∃ k:Nat,2 ≤ k ∧ en = .int .i64 (E:Int) ∧ k ≤ M + 1 ∧ no = .int .i64 (k:Int) ∧ la = .int .i64 (lastN (nosTo bm k):Nat) ∧ wr.ownsRow wT.heap.size 118 2 nv (nosTo bm k).length (rulesC (nosTo bm k)) ∧ Hid (inTab (nosTo bm k) = true) ∧ Below wT.heap.size wT wr) (fun _ _ _ no _=>M + 1 - (intOf no).toNat)
   case atStart=>exact ⟨2,Nat.le_refl _,rfl,by omega,rfl,by rw [nosTo_two];rfl,by rw [nosTo_two];exact World.ownsRow_nil _ _ _ _,by rw [nosTo_two];exact (rfl:inTab [] = true),Below.refl _ _⟩
   case round =>
     rename_i nv _ _ _
     obtain ⟨k,hk2,rfl,hkM,rfl,rfl,own,HT,hbx⟩:=hrel
     have hlen:=nosTo_length bm k
     by_cases hle:k ≤ M
     · have hleI:(k:Int) ≤ (M:Int):=by omega
       have HBk:=hideT (HBT.out k wr (by omega) hle (HTB.out hbx).2)
       have HY:=hideT (nosTo_yes bm k hk2)
       have HNO:=hideT (nosTo_no bm k)
       have HME:=hideT (fun n=>nosTo_mem bm k n hk2)
       obtain ⟨bt,hbt⟩:∃ c,c = bitL bm (k - 1):=⟨_,rfl⟩
       rw [← hbt] at HBk HY HNO HME
       clear hbt
       obtain ⟨L,hL⟩:∃ l,l = nosTo bm k:=⟨_,rfl⟩
       rw [← hL] at own HT HY HNO hlen ⊢
       obtain ⟨la,hla⟩:∃ n,n = lastN L:=⟨_,rfl⟩
       rw [← hla]
       have HLA:=hideT hla
       clear hL hla
       cases bt
       · have e:=HNO.out rfl
         have HN1:=hideT e
         clear HNO HY HME e
         go_wp2_with (refine HBk.out.mono ?_;rintro e w1 ⟨rfl,rfl⟩)
         go_roundw
         case rel=>exact ⟨k + 1,by omega,rfl,by omega,by go_num,by rw [HN1.out,HLA.out],by rw [HN1.out];exact own,by rw [HN1.out];exact HT,hbx.drew⟩
         case measure=>simp [intOf];omega
       · have HY1:=hideT (HY.out rfl)
         have HME1:=hideT (HME.out (M + 1) rfl (by omega))
         clear HNO HY HME
         have HRk:=hideT (fun (wx:World) (h:Below wT.heap.size wT wx)=>HRO.out k wx (HTB.out h).1)
         by_cases hin:k ∈ tabNos
         · obtain ⟨hix,-⟩:=tab_ix k hin
           have hrx:ruleIx k = (tabNos.idxOf k:Int):=by unfold ruleIx;rw [if_pos hin]
           rw [hrx] at HRk
           have HCk:=hideT (fun (wx:World) (h:Below wT.heap.size wT wx)=>HTC.out h k hin)
           have hkv:=kindV_one k hin
           obtain ⟨ix,hixe⟩:∃ i,i = tabNos.idxOf k:=⟨_,rfl⟩
           obtain ⟨kv,hkve⟩:∃ i,i = kindV k:=⟨_,rfl⟩
           rw [← hixe] at HRk HCk hix
           rw [← hkve] at HCk hkv
           have HKV:=hideT hkve
           have HIN:=hideT hin
           clear hixe hrx hkve hin
           have hixI:(ix:Int) < 14:=by omega
           have hixn:¬ (ix:Int) < 0:=by omega
           go_wp2_with fail
           refine HBk.out.mono ?_
           rintro e w1 ⟨rfl,rfl⟩
           have bx1:=hbx.drew
           go_wp2_with fail
           refine (HRk.out _ bx1).mono ?_
           rintro e w2 ⟨rfl,b2⟩
           have bx2:=bx1.trans (b2.mono bx1.size)
           have own2:=ownR_below own.drew b2
           obtain ⟨c1,c2⟩:=HCk.out w2 bx2
           have bx3:=bx2.alloc bx2.size (Obj.cells #[.int .i64 (k:Int),kv] 118)
           have hbs:=bx2.size
           clear HBk HRk HCk HRO HBT bx1 b2 own hbx
           go_wp2_with (at_builtin;refine wpList_append_own _ rfl _ _ 111 rfl wT.heap.size 118 i0 (.agg #[.int .i64 0,.nilIface]) 2 24 Tryz.underlying111 hi hz0 hz1 hz2 rfl (by decide) _ _ _ rfl (own2.alloc _) ⟨w2.heap.size,0,none⟩ 1 1 [.int .i64 (k:Int),kv] rfl rfl (news_of_blk (Blk.new w2 118 #[.int .i64 (k:Int),kv])) (by intro u hu;simp at hu;rcases hu with rfl | rfl <;> first | rfl | exact hkv) (by unfold maxLen;omega) (by omega) (by simp;omega) ?_;intro v5 w5 own5 grow5 _)
           have bx5:=bx3.grown grow5 (by simp;omega) (fun g hg=>(own2.lt g hg).1)
           go_roundw
           case rel=>exact ⟨k + 1,by omega,rfl,by omega,by go_num,by rw [HY1.out,lastN_snoc],by rw [HY1.out,List.length_append,rulesC_snoc,← HKV.out];exact own5,by rw [HY1.out];exact (inTab_snoc _ _).trans (by rw [HT.out,decide_eq_true HIN.out];rfl),bx5⟩
           case measure=>simp [intOf];omega
         · have hrx:ruleIx k = -1:=by unfold ruleIx;rw [if_neg hin]
           rw [hrx] at HRk
           have hf:=inTab_no _ k HME1.out hin
           rw [if_pos hf] at HR
           obtain ⟨r1,r2,r3⟩:=HR.out
           rw [r1] at r2 r3
           rw [if_neg (by decide)] at r2 r3
           subst r1 r2 r3
           clear hrx hf hin
           go_wp2_with fail
           refine HBk.out.mono ?_
           rintro e w1 ⟨rfl,rfl⟩
           have bx1:=hbx.drew
           go_wp2_with fail
           refine (HRk.out _ bx1).mono ?_
           rintro e w2 ⟨rfl,b2⟩
           have bx2:=bx1.trans (b2.mono bx1.size)
           go_wp2_with fail
           go_ret3
           exact ⟨_,rfl,World.ownsRow_nil _ _ _ _,bcT.trans (bx2.mono bcT.size)⟩
     · have hleI:¬ (k:Int) ≤ (M:Int):=by omega
       have hkM1:k = M + 1:=by omega
       rw [hkM1] at own HT ⊢
       rw [if_neg (by rw [HT.out];decide)] at HR
       obtain ⟨L,hL⟩:∃ l,l = nosTo bm (M + 1):=⟨_,rfl⟩
       rw [← hL] at own HR ⊢
       obtain ⟨la,hla⟩:∃ n,n = lastN L:=⟨_,rfl⟩
       rw [← hla] at HR ⊢
       have hfin:=ownR_mono own bcT.size
       have HFN:=hideT (And.intro hfin (bcT.trans (hbx.mono bcT.size)))
       clear hL hla own hfin hkM1 HT
       by_cases hbig:12 < E ∧ la ≤ 64
       · rw [if_pos hbig] at HR
         obtain ⟨r1,r2,r3⟩:=HR.out
         rw [r1] at r2 r3
         rw [if_neg (by decide)] at r2 r3
         subst r1 r2 r3
         have hm8:(8:Int) < (m:Int):=by have:=HmE.out;omega
         have hl64:(la:Int) ≤ 64:=by omega
         go_wp2_with fail
         go_ret3
         exact ⟨_,rfl,World.ownsRow_nil _ _ _ _,HFN.out.2⟩
       · rw [if_neg hbig] at HR
         obtain ⟨r1,r2,r3⟩:=HR.out
         rw [r1] at r2 r3
         rw [if_pos rfl] at r2 r3
         subst r1 r2
         have r4:=r3.symm
         subst r4
         by_cases hE12:12 < E
         · have hm8:(8:Int) < (m:Int):=by have:=HmE.out;omega
           have hl64:¬ (la:Int) ≤ 64:=by omega
           go_wp2_with fail
           go_ret3
           exact ⟨_,rfl,HFN.out⟩
         · have hm8:¬ (8:Int) < (m:Int):=by have:=HmE.out;omega
           go_wp2_with fail
           go_ret3
           exact ⟨_,rfl,HFN.out⟩
theorem readMaps_any (data:List UInt8) (b o cap:Nat) (w:World) (hn:data.length ≤ 4096) (hcap:data.length ≤ cap) (hr:RowAt w (some ⟨b,o,none⟩) data) :
   Calls Tryz.prog 93 #[.slice (some ⟨b,o,none⟩) data.length cap] w fun e w'=>∃ v,e = .returned (.tuple #[v,.int .i64 (mapE data:Nat),.int .i64 (mapC data:Nat)]) ∧ w'.ownsRow w.heap.size 118 2 v (mapN data).length (rulesC (mapN data)) ∧ Below w.heap.size w w':=by
 by_cases h12:12 ≤ data.length
 · exact readMaps_long data b o cap w h12 hn hcap hr
 · refine (readMaps_short data _ cap w (by omega)).mono ?_
   rintro e w' ⟨rfl,rfl⟩
   have hc:mapC data = 1:=by
     unfold mapC
     rw [if_pos]
     unfold mapEnd
     split <;> omega
   have hN:mapN data = []:=by unfold mapN;rw [hc];rfl
   have hE:mapE data = 0:=by unfold mapE;rw [hc];rfl
   rw [hc,hN,hE]
   exact ⟨_,rfl,World.ownsRow_nil _ _ _ _,Below.refl _ _⟩
def szN (s:List UInt8):Nat:=if s.all dig = true then numL s else 0
def sdN (l m:Nat) (s:List UInt8):Bool:=s.all dig && decide (l ≤ numL s ∧ numL s ≤ m)
theorem digs_of (s:List UInt8):digs ⟨s.toArray⟩ = s.all dig:=by unfold digs;simp
theorem szN_le (d:Nat) (hd:d ≤ 3) (s:List UInt8) (hs:s.length = d):szN s ≤ 1000:=by
 unfold szN
 split
 · rename_i h
   unfold numL
   match s,hs,h with
   | [],_,_=>simp
   | [a],_,h =>
     simp at h
     have:=dig_to h
     simp
     omega
   | [a,b],_,h =>
     simp at h
     have h1:=dig_to h.1
     have h2:=dig_to h.2
     simp
     omega
   | [a,b,c],_,h =>
     simp at h
     have h1:=dig_to h.1
     have h2:=dig_to h.2.1
     have h3:=dig_to h.2.2
     simp
     omega
   | _ :: _ :: _ :: _ :: _,hs,_=>simp at hs;omega
 · omega
theorem kd_fixedDigits (n:Nat) (hn:n ≤ 1000):Kd 182 (.agg #[.int .i64 (n:Int)]) (.int .i64 (n:Int)) 292 0 n n okDig (fun _=>n) (fun _=>true) :=
 { mE:=ext_fixedDigits (n:Int),cF:=fun _=>by kernel_rfl,HE:=fun w=>extent_fixed (n:Int) w,HF:=fun data ao cap w h1 h2=>fits_fixedDigits n data ao cap w h1 h2,HS:=fun s w _=>sizeIn_fixed n _ w,d3:=by omega,z:=fun _ _=>hn }
theorem kd_fixedText (n:Nat) (hn:n ≤ 1000):Kd 185 (.agg #[.int .i64 (n:Int)]) (.int .i64 (n:Int)) 292 0 n n okTxt (fun _=>n) (fun _=>true) :=
 { mE:=ext_fixedText (n:Int),cF:=fun _=>by kernel_rfl,HE:=fun w=>extent_fixed (n:Int) w,HF:=fun data ao cap w h1 h2=>fits_fixedText n data ao cap w h1 h2,HS:=fun s w _=>sizeIn_fixed n _ w,d3:=by omega,z:=fun _ _=>hn }
theorem kd_fixedBytes (n:Nat) (hn:n ≤ 1000):Kd 190 (.agg #[.int .i64 (n:Int)]) (.int .i64 (n:Int)) 292 0 n n okAny (fun _=>n) (fun _=>true) :=
 { mE:=ext_fixedBytes (n:Int),cF:=fun _=>by kernel_rfl,HE:=fun w=>extent_fixed (n:Int) w,HF:=fun data ao cap w h1 h2=>fits_fixedBytes n data ao cap w h1 h2,HS:=fun s w _=>sizeIn_fixed n _ w,d3:=by omega,z:=fun _ _=>hn }
theorem sizeIn_szN (d l m:Nat) (hd:0 < d) (hd3:d ≤ 3) (s:List UInt8) (w:World) (hs:s.length = d):Calls Tryz.prog 150 #[.agg #[.int .i64 (d:Int),.int .i64 (l:Int),.int .i64 (m:Int)],.string ⟨s.toArray⟩] w fun e w'=>e = .returned (.tuple #[.int .i64 (szN s:Int),.bool (sdN l m s)]) ∧ Below w.heap.size w w':=by
 have hz:(⟨s.toArray⟩:ByteArray).size = d:=by rw [← hs];simp [ByteArray.size]
 refine (sizeIn_counted d l m ⟨s.toArray⟩ w hd (by omega) (by omega)).mono ?_
 rintro e w' ⟨rfl,bel⟩
 refine ⟨?_,bel⟩
 rw [digs_of]
 show Ending.returned (Value.tuple #[.int .i64 (if s.all dig = true then (numL s:Int) else 0),.bool (sdN l m s)]) = _
 unfold szN
 split <;> rfl
theorem kd_countedDigits (d l m:Nat) (hd:0 < d) (hd3:d ≤ 3):Kd 179 (.agg #[.int .i64 (d:Int),.int .i64 (l:Int),.int .i64 (m:Int)]) (.agg #[.int .i64 (d:Int),.int .i64 (l:Int),.int .i64 (m:Int)]) 290 d l m okDig szN (sdN l m) :=
 { mE:=ext_countedDigits (d:Int) (l:Int) (m:Int),cF:=fun _=>by kernel_rfl,HE:=fun w=>extent_counted (d:Int) (l:Int) (m:Int) w,HF:=fun data ao cap w h1 h2=>fits_countedDigits d l m data ao cap w h1 h2,HS:=fun s w hs=>sizeIn_szN d l m hd hd3 s w hs,d3:=hd3,z:=fun s hs=>szN_le d hd3 s hs }
theorem kd_countedBytes (d l m:Nat) (hd:0 < d) (hd3:d ≤ 3):Kd 188 (.agg #[.int .i64 (d:Int),.int .i64 (l:Int),.int .i64 (m:Int)]) (.agg #[.int .i64 (d:Int),.int .i64 (l:Int),.int .i64 (m:Int)]) 290 d l m okAny szN (sdN l m) :=
 { mE:=ext_countedBytes (d:Int) (l:Int) (m:Int),cF:=fun _=>by kernel_rfl,HE:=fun w=>extent_counted (d:Int) (l:Int) (m:Int) w,HF:=fun data ao cap w h1 h2=>fits_countedBytes d l m data ao cap w h1 h2,HS:=fun s w hs=>sizeIn_szN d l m hd hd3 s w hs,d3:=hd3,z:=fun s hs=>szN_le d hd3 s hs }
def kpD (no:Nat):Nat:=if no = 2 then 2 else if no = 48 then 3 else 0
def kpL (no:Nat):Nat:=if no = 2 then 13 else if no = 48 then 0 else (kindOf (no:Int)).2.toNat
def kpM (no:Nat):Nat:=if no = 2 then 19 else if no = 48 then 200 else (kindOf (no:Int)).2.toNat
def kpOk (no:Nat):UInt8 → Bool:=if (kindOf (no:Int)).1 = 2 then okTxt else if (kindOf (no:Int)).1 = 1 ∨ (kindOf (no:Int)).1 = 4 then okDig else okAny
def kpS (no:Nat) (s:List UInt8):Nat:=if no = 2 ∨ no = 48 then szN s else kpL no
def kpB (no:Nat) (s:List UInt8):Bool:=if no = 2 ∨ no = 48 then sdN (kpL no) (kpM no) s else true
def fldC (no:Nat) (rest:List UInt8):Nat:=fC (kpD no) (kpL no) (kpM no) (kpOk no) (kpS no) (kpB no) rest
def fldD (no:Nat) (rest:List UInt8):List UInt8:=fD (kpD no) (kpL no) (kpM no) (kpOk no) (kpS no) (kpB no) rest
def fldE (no:Nat) (rest:List UInt8):Nat:=fE (kpD no) (kpL no) (kpM no) (kpOk no) (kpS no) (kpB no) rest
theorem kd_no (no:Nat) (h:no ∈ tabNos):∃ T x r FE,kindV no = .iface T x ∧ Kd T x r FE (kpD no) (kpL no) (kpM no) (kpOk no) (kpS no) (kpB no):=by
 simp only [tabNos,List.mem_cons,List.not_mem_nil,or_false] at h
 rcases h with rfl | rfl | rfl | rfl | rfl | rfl | rfl | rfl | rfl | rfl | rfl | rfl | rfl | rfl
 · exact ⟨_,_,_,_,rfl,kd_countedDigits 2 13 19 (by omega) (by omega)⟩
 · exact ⟨_,_,_,_,rfl,kd_fixedDigits 6 (by omega)⟩
 · exact ⟨_,_,_,_,rfl,kd_fixedDigits 12 (by omega)⟩
 · exact ⟨_,_,_,_,rfl,kd_fixedDigits 10 (by omega)⟩
 · exact ⟨_,_,_,_,rfl,kd_fixedDigits 6 (by omega)⟩
 · exact ⟨_,_,_,_,rfl,kd_fixedText 12 (by omega)⟩
 · exact ⟨_,_,_,_,rfl,kd_fixedText 2 (by omega)⟩
 · exact ⟨_,_,_,_,rfl,kd_fixedText 8 (by omega)⟩
 · exact ⟨_,_,_,_,rfl,kd_countedBytes 3 0 200 (by omega) (by omega)⟩
 · exact ⟨_,_,_,_,rfl,kd_fixedBytes 8 (by omega)⟩
 · exact ⟨_,_,_,_,rfl,kd_fixedBytes 10 (by omega)⟩
 · exact ⟨_,_,_,_,rfl,kd_fixedBytes 8 (by omega)⟩
 · exact ⟨_,_,_,_,rfl,kd_fixedDigits 3 (by omega)⟩
 · exact ⟨_,_,_,_,rfl,kd_fixedBytes 8 (by omega)⟩
theorem readField_no (no:Nat) (h:no ∈ tabNos) (rest:List UInt8) (b o cap:Nat) (w:World) (hn:rest.length ≤ 4096) (hcap:rest.length ≤ cap) (hr:RowAt w (some ⟨b,o,none⟩) rest) :
   Calls Tryz.prog 94 #[kindV no,.slice (some ⟨b,o,none⟩) rest.length cap] w fun e w'=>∃ v,e = .returned (.tuple #[v,.int .i64 (fldE no rest:Nat),.int .i64 (fldC no rest:Nat)]) ∧ Own w' w.heap.size v (fldD no rest) ∧ Below w.heap.size w w':=by
 obtain ⟨T,x,r,FE,e,K⟩:=kd_no no h
 rw [e]
 exact readField_any K rest b o cap w hn hcap hr
set_option maxHeartbeats 1000000 in
theorem isMti_any (s:ByteArray) (w:World):Calls Tryz.prog 50 #[.string s] w fun e w'=>e = .returned (.bool (decide (s.size = 4) && digs s)) ∧ Below w.heap.size w w':=by
 have HA:=hideT (fun (wx:World)=>allDigits_any s wx)
 obtain ⟨q,hq⟩:∃ q,q = digs s:=⟨_,rfl⟩
 rw [← hq] at HA ⊢
 clear hq
 by_cases h:s.size = 4
 · have hI:(s.size:Int) = 4:=by omega
   rw [decide_eq_true h]
   go_enter Tryz.func50,Tryz.ntmps50
   go_wp2_with (refine (HA.out _).mono ?_;rintro e w2 ⟨rfl,b2⟩)
   go_ret
   exact ⟨by rw [Bool.true_and];rfl,b2⟩
 · have hI:¬ (s.size:Int) = 4:=by omega
   rw [decide_eq_false h]
   go_enter Tryz.func50,Tryz.ntmps50
   go_wp2_with fail
   go_ret
   exact ⟨rfl,Below.refl _ _⟩
def tyC (data:List UInt8):Nat:=if data.length < 4 then 1 else if (data.take 4).all dig = true then 0 else 2
set_option maxRecDepth 100000 in
set_option maxHeartbeats 1000000 in
theorem typeCode_any (data:List UInt8) (ao:Option Addr) (cap:Nat) (w:World) (hn:data.length ≤ 4096) (hcap:data.length ≤ cap) (hr:RowAt w ao data) :
   Calls Tryz.prog 92 #[.slice ao data.length cap] w fun e w'=>e = .returned (.int .i64 (tyC data:Nat)) ∧ Below w.heap.size w w':=by
 obtain ⟨N,hN⟩:∃ N,N = data.length:=⟨_,rfl⟩
 by_cases h4:N < 4
 · have hc:tyC data = 1:=by unfold tyC;rw [if_pos (by omega)]
   have hI:(N:Int) < 4:=by omega
   rw [hc,← hN]
   clear hr hN
   go_enter Tryz.func92,Tryz.ntmps92
   go_wp2_with fail
   go_ret
   exact ⟨rfl,Below.refl _ _⟩
 · have hI:¬ (N:Int) < 4:=by omega
   obtain ⟨b,o,rfl,-⟩:=hr.at (k:=0) (by omega)
   have hl:(data.take 4).length = 4:=by rw [List.length_take];omega
   have hcv:=fun (wx:World) (h:RowAt wx (some ⟨b,o,none⟩) data)=>conv_anyI (data.take 4) (some ⟨b,o,none⟩) 4 cap wx hl (RowAt.take h 4)
   have hcw:=hcv w hr
   have HM:=hideT (fun (wx:World)=>isMti_any ⟨(data.take 4).toArray⟩ wx)
   have hs4:(⟨(data.take 4).toArray⟩:ByteArray).size = 4:=by rw [show (⟨(data.take 4).toArray⟩:ByteArray).size = (data.take 4).length from by simp [ByteArray.size]];exact hl
   rw [hs4,digs_of] at HM
   have hc:tyC data = if (data.take 4).all dig = true then 0 else 2:=by unfold tyC;rw [if_neg (by omega)]
   obtain ⟨q,hq⟩:∃ q,q = (data.take 4).all dig:=⟨_,rfl⟩
   rw [← hq] at HM hc
   obtain ⟨S,hS⟩:∃ S:ByteArray,S = ⟨(data.take 4).toArray⟩:=⟨_,rfl⟩
   rw [← hS] at HM hcw
   have hcI:(4:Int) ≤ (cap:Int):=by omega
   rw [hc,← hN]
   clear hcv hr hq hS hN hs4 hl hc
   cases q
   · go_enter Tryz.func92,Tryz.ntmps92
     go_wp2_with (go_at_call 50;refine (HM.out _).mono ?_;rintro e w2 ⟨rfl,b2⟩)
     go_ret
     exact ⟨rfl,b2⟩
   · go_enter Tryz.func92,Tryz.ntmps92
     go_wp2_with (go_at_call 50;refine (HM.out _).mono ?_;rintro e w2 ⟨rfl,b2⟩)
     go_ret
     exact ⟨rfl,b2⟩
def macP (no at_:Nat):Nat:=if no = 64 ∨ no = 128 then at_ else 0
theorem macPlace_any (no at_:Nat) (w:World):Calls Tryz.prog 95 #[.int .i64 (no:Int),.int .i64 (at_:Int)] w fun e w'=>e = .returned (.int .i64 (macP no at_:Nat)) ∧ w' = w:=by
 by_cases h1:no = 64
 · subst h1
   go_enter Tryz.func95,Tryz.ntmps95
   go_wp2
   go_ret
   exact ⟨rfl,rfl⟩
 · have hI1:¬ (no:Int) = 64:=by omega
   by_cases h2:no = 128
   · subst h2
     go_enter Tryz.func95,Tryz.ntmps95
     go_wp2
     go_ret
     exact ⟨rfl,rfl⟩
   · have hI2:¬ (no:Int) = 128:=by omega
     have hB1:((no:Int) == 64) = false:=by rw [beq_eq_false_iff_ne];exact hI1
     have hB2:((no:Int) == 128) = false:=by rw [beq_eq_false_iff_ne];exact hI2
     have e:macP no at_ = 0:=by unfold macP;rw [if_neg (by omega)]
     rw [e]
     go_enter Tryz.func95,Tryz.ntmps95
     go_wp2
     go_ret
     exact ⟨rfl,rfl⟩
end Go.Proofs.YtbkokcjolanpeaaGreatDoor
