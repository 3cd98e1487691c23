import Derived.Test.YtbkokcjolanpeaaGreatDoorRgN
namespace Go.Proofs.YtbkokcjolanpeaaGreatDoor
open Go.RowKit
set_option maxRecDepth 100000 in
set_option maxHeartbeats 1000000 in
theorem bytes_noneQ (ao:Option Addr) (cap:Nat) (w:World) :
   Calls Tryz.prog 37 #[.slice ao 0 cap] w fun e w'=>∃ v,e = .returned v ∧ OwnB w' w.heap.size v [] ∧ Below w.heap.size w w':=by
 obtain ⟨i0,hi,hz0,hz1,hz2⟩:=info_parts Tryz.info5
 go_enter Tryz.func37,Tryz.ntmps37
 go_wp2_with (first
   | (at_make;refine wpList_make_full _ rfl _ _ 22 rfl w.heap.size 5 i0 (.int .u8 0) 1 Tryz.underlying22 hi hz0 hz1 .i64 .i64 _ _ 0 rfl rfl rfl rfl (by rw [hz2];omega) (by unfold maxLen;omega) (Nat.le_refl _) ?_;intro w0 hown0 hgrow0;have bel0:=below_of_grown hgrow0)
   | (refine wpList_copy_nothing rfl _ _ 22 22 rfl 5 Tryz.underlying22 (by kernel_rfl) _ _ 0 0 0 cap rfl rfl rfl ?_))
 go_ret
 rw [show (madeCells (Value.int .u8 0).cells (0 * 1)).toList = [] from by kernel_rfl] at hown0
 exact ⟨_,rfl,hown0,bel0⟩
theorem bytes_allQ (data:List UInt8) (ao:Option Addr) (cap:Nat) (w:World) (hn:data.length ≤ 1048576) (hr:RowAt w ao data) :
   Calls Tryz.prog 37 #[.slice ao data.length cap] w fun e w'=>∃ v,e = .returned v ∧ OwnB w' w.heap.size v data ∧ Below w.heap.size w w':=by
 by_cases h0:0 < data.length
 · refine (bytes_any ao cap data w hn h0 hr).mono ?_
   rintro e w' ⟨rfl,own,bel⟩
   exact ⟨_,rfl,own,bel⟩
 · obtain rfl:data = []:=List.length_eq_zero_iff.1 (by omega)
   exact bytes_noneQ ao cap w
theorem made16:(madeCells (Value.int .u8 0).cells (16 * 1)).toList = (zeros8 16).map byte:=by rw [made_zero];simp [zeros8,byte]
theorem fill_whole {data:List UInt8} (h:wholeQ data):fillQ data = data:=by unfold fillQ;rw [if_pos h]
theorem mask_whole {data:List UInt8} (K:List UInt8) (h:wholeQ data):maskQ data K = K:=by unfold maskQ;rw [if_pos h]
theorem fill_not {data:List UInt8} (h:¬ wholeQ data):fillQ data = data ++ [128] ++ zeros8 (15 - data.length % 16):=by unfold fillQ;rw [if_neg h]
theorem mask_not {data:List UInt8} (K:List UInt8) (h:¬ wholeQ data):maskQ data K = dblL K:=by unfold maskQ;rw [if_neg h]
theorem zeros8_len (n:Nat):(zeros8 n).length = n:=by simp [zeros8]
theorem chQ_length (f:List UInt8 → List UInt8) (hf:∀ x,(f x).length = 16) (full:List UInt8) (k:Nat):(chQ f full k).length = 16:=by
 cases k with
 | zero=>exact z16_length
 | succ k=>exact hf _
theorem own_app16 {w1:World} {base n:Nat} {v1:Value} {l x:List UInt8} (hl:l.length = n) (hx:x.length = 16) (h:w1.ownsRow base 5 1 v1 (n + 16) (l.map byte ++ x.map byte)):OwnB w1 base v1 (l ++ x):=by
 unfold OwnB
 rw [List.length_append,hl,hx,List.map_append]
 exact h
set_option maxRecDepth 100000 in
set_option maxHeartbeats 4000000 in
theorem cmac_spec (key data:List UInt8) (ak ao:Option Addr) (ck cap:Nat) (w:World) (hk:key.length = 16) (hn:data.length ≤ 4096) (rk:RowAt w ak key) (rd:RowAt w ao data) :
   Calls Tryz.prog 145 #[.slice ak 16 ck,.slice ao data.length cap] w fun e w'=>∃ v,e = .returned v ∧ OwnB w' w.heap.size v (cmacN key data) ∧ Below w.heap.size w w':=by
 obtain ⟨i0,hi,hz0,hz1,hz2⟩:=info_parts Tryz.info5
 have hmz:=made16
 have HA:=hid_of' (fun (x:List UInt8) (g c:Nat) (wx:World) (hx:x.length = 16) (h1:RowAt wx ak key) (h2:RowAt wx (some ⟨g,0,none⟩) x)=>aesE_spec key x ak g 0 ck c wx hk hx h1 h2)
 have HBy:=hid_of' (fun (wx:World) (h:RowAt wx ao data)=>bytes_allQ data ao cap wx (by omega) h)
 have hfl:∀ x,(encL (keyR key) x).length = 16:=fun x=>encL_length _ x (keyR_length key hk)
 obtain ⟨N,hN⟩:∃ N,N = data.length:=⟨_,rfl⟩
 have HN:=hid_of' hN
 have HRES:=hid_of' (cmac_eq key data)
 rw [← hN] at hn HBy ⊢
 have hNI:¬ ((4096:Int) < (N:Int)):=by omega
 obtain ⟨f,hf⟩:∃ f,f = encL (keyR key):=⟨_,rfl⟩
 have hel:=hfl (zeros8 16)
 rw [← hf] at HA hfl hel HRES
 obtain ⟨E0,hE0⟩:∃ E,E = f (zeros8 16):=⟨_,rfl⟩
 rw [← hE0] at hel
 have HE0:=hid_of' hE0
 have HFL:=hid_of' hfl
 clear hN hE0 hfl
 go_enter Tryz.func145,Tryz.ntmps145
 go_wp2_with (first | (at_make;refine wpList_make_full _ rfl _ _ 22 rfl w.heap.size 5 i0 (.int .u8 0) 1 Tryz.underlying22 hi hz0 hz1 .i64 .i64 _ _ 16 rfl rfl rfl rfl (by rw [hz2];omega) (by unfold maxLen;omega) (Nat.le_refl _) ?_;intro w0 hown0 hgrow0;have bel0:=below_of_grown hgrow0) | fail)
 rw [hmz] at hown0
 have kz:=rowAt_block (own_blk hown0)
 refine (HA.out (zeros8 16) _ _ w0 z16_length (rk.below bel0) kz).mono ?_
 rintro e w1 ⟨v1,rfl,own1,bel1⟩
 rw [← HE0.out] at own1
 obtain ⟨g1,c1,hc1,rfl,row1⟩:=own_at own1 hel (by omega)
 have b1:=below_step bel0 bel1
 go_wp2_with fail
 refine (double_spec E0 _ _ w1 hel row1).mono ?_
 rintro e w2 ⟨v2,rfl,own2,bel2⟩
 have hkl:=dblL_length E0
 obtain ⟨K1,hK1⟩:∃ K,K = dblL E0:=⟨_,rfl⟩
 rw [← hK1] at own2 hkl
 obtain ⟨g2,c2,hc2,rfl,row2⟩:=own_at own2 hkl (by omega)
 have b2:=below_step b1 bel2
 have HK1:Hid (K1 = cmacK key):=hid_of' (by rw [hK1,HE0.out,hf];rfl)
 clear hown0 hgrow0 bel0 bel1 own1 row1 bel2 kz hK1
 go_wp2_with fail
 refine (HBy.out w2 (rd.below b2)).mono ?_
 rintro e w3 ⟨v3,rfl,own3,bel3⟩
 have row3:=row2.below bel3
 have b3:=below_step b2 bel3
 have own3':=own3.mono b2.size
 clear row2 own2 own3
 have hs3:=b3.size
 have hdl:data.length = N:=HN.out.symm
 have OD:=hid_of' own3'
 obtain ⟨ao3,c3,hv3,-,-,-,-⟩:=own3'.own.shape
 rw [hdl] at hv3
 subst hv3
 clear own3'
 obtain ⟨B,hB⟩:∃ B:Bool,B = !decide (wholeQ data):=⟨_,rfl⟩
 have HB:=hid_of' hB
 clear hB
 go_upto_region 6 with fail
 go_cut [34] (fun b wx=>b = .bool B ∧ wx = w3)
 case first =>
   by_cases hN0:(N:Int) = 0
   · go_wp2_with fail
     go_meet
     case rel =>
       refine ⟨?_,rfl⟩
       rw [HB.out]
       have:¬ wholeQ data:=by unfold wholeQ;rw [hdl];omega
       simp [this]
   · by_cases hr0:Int.tmod (N:Int) 16 = 0
     · go_wp2_with fail
       go_meet
       case rel =>
         rw [Int.tmod_eq_emod_of_nonneg (by omega)] at hr0
         refine ⟨?_,rfl⟩
         rw [HB.out]
         have:wholeQ data:=by
           unfold wholeQ;rw [hdl];omega
         simp [this]
         omega
     · go_wp2_with fail
       go_meet
       case rel =>
         rw [Int.tmod_eq_emod_of_nonneg (by omega)] at hr0
         refine ⟨?_,rfl⟩
         rw [HB.out]
         have:¬ wholeQ data:=by
           unfold wholeQ;rw [hdl];omega
         simp [this]
         omega
 case rest =>
   obtain ⟨rfl,hwc⟩:=hcut
   subst hwc
   go_upto_if 34 with fail
   go_cut [6,7] (fun f m wx=>∃ gM cM,m = .slice (some ⟨gM,0,none⟩) 16 cM ∧ RowAt wx (some ⟨gM,0,none⟩) (maskQ data K1) ∧ OwnB wx w.heap.size f (fillQ data) ∧ Below w.heap.size w wx)
   case first =>
     cases hBv:B
     · subst hBv
       have hw:wholeQ data:=by simpa using HB.out
       go_wp2_with fail
       go_meet
       case rel=>exact ⟨g2,c2,rfl,by rw [mask_whole K1 hw];exact row3,by rw [fill_whole hw];exact OD.out,b3⟩
     · subst hBv
       have hw:¬ wholeQ data:=by simpa using HB.out
       have hmk:=mask_not K1 hw
       have hfn:=fill_not hw
       have hkk:=dblL_length K1
       obtain ⟨DK,hDK⟩:∃ D,D = dblL K1:=⟨_,rfl⟩
       have HD2:=hid_of' (fun (wx:World) (h:RowAt wx (some ⟨g2,0,none⟩) K1)=>double_spec K1 (some ⟨g2,0,none⟩) c2 wx hkl h)
       rw [← hDK] at hkk hmk HD2
       have HMK:=hid_of' hmk
       rw [hdl] at hfn
       have HFN:=hid_of' hfn
       have hw':¬ (N % 16 = 0 ∧ 0 < N):=by rw [← hdl];exact hw
       obtain ⟨T,HT,hT16,hTN,hTm⟩:∃ T,Hid (T = N + 1 + (15 - N % 16)) ∧ T % 16 = 0 ∧ N + 1 ≤ T ∧ T < N + 17:=⟨N + 1 + (15 - N % 16),rfl,by omega,by omega,by omega⟩
       clear hw hmk hfn hDK hw'
       go_wp2_with fail
       refine (HD2.out _ row3).mono ?_
       rintro e w4 ⟨v4,rfl,own4,bel4⟩
       have b4:=below_step b3 bel4
       obtain ⟨g4,c4,hc4,rfl,row4⟩:=own_at own4 hkk (by omega)
       have hg4:wc.heap.size ≤ g4:=own4.low g4 rfl
       have hg4':g4 < w4.heap.size:=row4.blk (by omega)
       have hlt3:∀ k,(Value.slice ao3 N c3).ownBlock = some k → k < wc.heap.size:=fun k hk=>((own_num OD.out hdl).lt k hk).2
       have hownD:=own_num (OD.out.below bel4) hdl
       have hs4:=b4.size
       clear own4
       go_wp2_with (at_builtin;refine wpList_append_own_at _ rfl _ _ 22 rfl w.heap.size 5 i0 (.int .u8 0) 1 1 Tryz.underlying22 hi hz0 hz1 hz2 rfl (by decide) _ _ _ rfl (hownD.alloc _) ⟨w4.heap.size,0,none⟩ 1 1 [.int .u8 128] rfl rfl (cell_one_new _ _ _) (by intro u hu;simp at hu;subst hu;rfl) (by unfold maxLen;omega) (by omega) (by simp;omega) ?_;intro v5 w5 hown5 hgrow5 hnil5 hat5)
       have R5:OwnB w5 w.heap.size v5 (data ++ [128] ++ zeros8 0):=by
         unfold OwnB
         rw [show zeros8 0 = [] from rfl,List.append_nil,List.length_append,hdl,List.map_append]
         exact hown5
       have B5:=(b4.alloc hs4 _).grown hgrow5 (by simp;omega) (fun k hk=>(hownD.lt k hk).1)
       have row5:RowAt w5 (some ⟨g4,0,none⟩) DK:=RowAt.grown (row4.below (below_new _ _)) hgrow5 (by intro a ha hc;cases ha;have:=hlt3 g4 hc;omega)
       have ne5:v5.ownBlock ≠ some g4:=by
         rcases hat5 with h | h
         · intro hc;rw [hc] at h;have:=hlt3 g4 h.symm;omega
         · intro hc;rw [hc] at h;simp at h;omega
       have lt5:g4 < w5.heap.size:=by have:=hgrow5.size;simp at this;omega
       clear hown5 hgrow5 hnil5 hat5 hownD row4 bel4 b4 hs4 hlt3 row3 hg4 hg4'
       go_loopw [6] (fun v wr=>∃ j:Nat,N + 1 + j ≤ T ∧ OwnB wr w.heap.size v (data ++ [128] ++ zeros8 j) ∧ v.ownBlock ≠ some g4 ∧ g4 < wr.heap.size ∧ RowAt wr (some ⟨g4,0,none⟩) DK ∧ Below w.heap.size w wr) (fun v _=>match v with | .slice _ l _=>T - l | _=>0)
       case atStart=>exact ⟨0,hTN,R5,ne5,lt5,row5,B5⟩
       case round =>
         clear R5 B5 row5 ne5 lt5
         obtain ⟨j,hj,hown,hne,hlt,hrow4,hbel⟩:=hrel
         have hll:(data ++ [128] ++ zeros8 j).length = N + 1 + j:=by rw [List.length_append,List.length_append,zeros8_len,hdl];rfl
         obtain ⟨ao6,c6,hv6,-,-,-,-⟩:=hown.own.shape
         rw [hll] at hv6
         subst hv6
         obtain ⟨q,hq⟩:∃ q,q = N + 1 + j:=⟨_,rfl⟩
         have HQ:=hid_of' hq
         have hown':wr.ownsRow w.heap.size 5 1 (.slice ao6 q c6) q ((data ++ [128] ++ zeros8 j).map byte):=by rw [hq];exact own_num hown hll
         have OWN:Hid (OwnB wr w.heap.size (.slice ao6 q c6) (data ++ [128] ++ zeros8 j)):=by rw [hq];exact hown
         rw [← hq] at hj hne ⊢
         have hNq:N + 1 ≤ q:=by omega
         clear hq hown hll
         have hsz:=hbel.size
         by_cases hdone:q = T
         · have hrm:Int.tmod (q:Int) 16 = 0:=by rw [Int.tmod_eq_emod_of_nonneg (by omega)];omega
           have hrm2:(q:Int) % 16 = 0:=by omega
           clear hown'
           go_wp2_with fail
           go_meet
           case rel=>exact ⟨g4,c4,rfl,by rw [HMK.out];exact hrow4,by rw [HFN.out,show 15 - N % 16 = j from by have:=HQ.out;have:=HT.out;omega];exact OWN.out,hbel⟩
         · have hrm2:((q:Int) % 16 != 0) = true:=by rw [bne_iff_ne];omega
           have hrm:¬ Int.tmod (q:Int) 16 = 0:=by rw [Int.tmod_eq_emod_of_nonneg (by omega)];omega
           go_wp2_with (at_builtin;refine wpList_append_own_at _ rfl _ _ 22 rfl w.heap.size 5 i0 (.int .u8 0) 1 1 Tryz.underlying22 hi hz0 hz1 hz2 rfl (by decide) _ _ _ rfl (hown'.alloc _) ⟨wr.heap.size,0,none⟩ 1 1 [.int .u8 0] rfl rfl (cell_one_new _ _ _) (by intro u hu;simp at hu;subst hu;rfl) (by unfold maxLen;omega) (by omega) (by simp;omega) ?_;intro v7 w7 hown7 hgrow7 hnil7 hat7)
           have hll:(data ++ [128] ++ zeros8 j).length = q:=by have:=hown'.1;simpa using this
           have R1:OwnB w7 w.heap.size v7 (data ++ [128] ++ zeros8 (j + 1)):=by
             have e:data ++ [128] ++ zeros8 (j + 1) = (data ++ [128] ++ zeros8 j) ++ [0]:=by unfold zeros8;rw [List.append_assoc (data ++ [128]),List.replicate_succ']
             unfold OwnB
             rw [e,List.length_append,hll,List.map_append]
             exact hown7
           have R2:=(hbel.alloc hsz _).grown hgrow7 (by simp;omega) (fun k hk=>(hown'.lt k hk).1)
           have row7:RowAt w7 (some ⟨g4,0,none⟩) DK:=RowAt.grown (hrow4.below (below_new _ _)) hgrow7 (by intro a ha hc;cases ha;exact hne hc)
           have ne7:v7.ownBlock ≠ some g4:=by
             rcases hat7 with h | h
             · rw [h];exact hne
             · intro hc;rw [hc] at h;simp at h;omega
           have lt7:g4 < w7.heap.size:=by have:=hgrow7.size;simp at this;omega
           have hv7:∃ ao8 c8,v7 = .slice ao8 (q + 1) c8:=by
             obtain ⟨ao8,c8,h,-⟩:=R1.own.shape
             have hl2:(data ++ [128] ++ zeros8 (j + 1)).length = q + 1:=by
               rw [List.length_append,List.length_append,zeros8_len,hdl,HQ.out]
               rfl
             rw [hl2] at h
             exact ⟨ao8,c8,h⟩
           obtain ⟨ao8,c8,rfl⟩:=hv7
           clear hown7 hgrow7 hnil7 hat7 hown' hbel hrow4
           go_roundw
           case rel=>exact ⟨j + 1,by have:=HQ.out;omega,R1,ne7,lt7,row7,R2⟩
           case measure=>simp;omega
   case rest =>
     obtain ⟨gM,cM,rfl,rM0,oF,bC⟩:=hcut
     clear row3 b3 hs3 OD
     have hFl0:=fillQ_length data
     have hmp:=macBlocks_posQ data
     have hnB:=nB_len data
     have hMl0:=maskQ_length data K1 hkl
     have HFX:=hid_of' (show fullX data K1 = (fillQ data).take (16 * ((macBlocksQ data).length - 1)) ++ xorL ((fillQ data).drop (16 * ((macBlocksQ data).length - 1))) (maskQ data K1) from rfl)
     have hFXl:=fullX_length data K1 hkl
     rw [HK1.out.symm] at HRES
     obtain ⟨m,hm⟩:∃ m,m = (macBlocksQ data).length:=⟨_,rfl⟩
     rw [← hm] at hFl0 hmp hnB HFX hFXl HRES
     have hm257:m ≤ 257:=by rw [hnB,hdl];split <;> omega
     obtain ⟨F,hF⟩:∃ F,F = fillQ data:=⟨_,rfl⟩
     obtain ⟨M,hM⟩:∃ M,M = maskQ data K1:=⟨_,rfl⟩
     obtain ⟨FX,hFX⟩:∃ X,X = fullX data K1:=⟨_,rfl⟩
     rw [← hF] at hFl0 HFX oF
     rw [← hM] at hMl0 HFX rM0
     rw [← hFX] at HFX hFXl HRES
     obtain ⟨n,hn16⟩:∃ n,n = 16 * (m - 1):=⟨_,rfl⟩
     rw [← hn16] at HFX
     obtain ⟨T,hT⟩:∃ T,T = 16 * m:=⟨_,rfl⟩
     rw [← hT] at hFl0 hFXl
     have HTm:=hid_of' hT
     have hTn:(T:Int) - 16 = (n:Int):=by omega
     have hTn2:T - n = 16:=by omega
     have hnT:n ≤ T:=by omega
     have hTb:T ≤ 4112:=by omega
     have hT0:0 < T:=by omega
     have htl:(F.take n).length = n:=by rw [List.length_take];omega
     have hdrl:(F.drop n).length = 16:=by rw [List.length_drop];omega
     obtain ⟨gF,cF,hcF,rfl,rF0⟩:=own_at oF hFl0 hT0
     have hncF:n ≤ cF:=by omega
     have hcI:(n:Int) ≤ (cF:Int):=by omega
     have hnTI:(n:Int) ≤ (T:Int):=by omega
     have hcn:¬ cF = n:=by omega
     have HBy2:=hid_of' (fun (wx:World) (h:RowAt wx (some ⟨gF,0,none⟩) (F.take n))=>bytes_allQ (F.take n) (some ⟨gF,0,none⟩) cF wx (by omega) h)
     rw [htl] at HBy2
     have HX2:=hid_of' (fun (wx:World) (h1:RowAt wx (some ⟨gF,n,none⟩) (F.drop n)) (h2:RowAt wx (some ⟨gM,0,none⟩) M)=>xor16s (F.drop n) M gF n (cF - n) gM 0 cM wx hdrl hMl0 h1 h2)
     obtain ⟨X,hX⟩:∃ X,X = xorL (F.drop n) M:=⟨_,rfl⟩
     have hXl:X.length = 16:=by rw [hX,xorL_length _ _ (by omega)];exact hdrl
     rw [← hX] at HFX HX2
     have rT0:RowAt wc (some ⟨gF,0,none⟩) (F.take n):=rF0.take n
     have rD0:RowAt wc (some ⟨gF,n,none⟩) (F.drop n):=by have h:=rF0.drop n;rwa [Nat.zero_add] at h
     clear oF rF0 hm hF hM hFX hX hn16 hT hnB hmp hMl0 HBy HK1 HB HN hdl hdrl hFl0
     go_upto_region 12 with fail
     obtain ⟨V,hV⟩:∃ V,V = World.drew wc:=⟨_,rfl⟩
     have bV:Below w.heap.size w V:=by rw [hV];exact bC.drew
     have hwV:=bV.size
     have rT:RowAt V (some ⟨gF,0,none⟩) (F.take n):=by rw [hV];exact rT0.drew1
     have rD:RowAt V (some ⟨gF,n,none⟩) (F.drop n):=by rw [hV];exact rD0.drew1
     have rM:RowAt V (some ⟨gM,0,none⟩) M:=by rw [hV];exact rM0.drew1
     clear rT0 rD0 rM0 bC
     have b_0:Below V.heap.size V V:=Below.refl _ _
     have rowT:Hid (∀ {x},Below V.heap.size V x → RowAt x (some ⟨gF,0,none⟩) (F.take n)):=fun h=>rT.below h
     have rowD:Hid (∀ {x},Below V.heap.size V x → RowAt x (some ⟨gF,n,none⟩) (F.drop n)):=fun h=>rD.below h
     have rowM:Hid (∀ {x},Below V.heap.size V x → RowAt x (some ⟨gM,0,none⟩) M):=fun h=>rM.below h
     have keep:Hid (∀ {B x},Below B V x → True):=fun _=>trivial
     clear rT rD rM
     refine wp_region_held_drew (S:=fun _=>True) (by kernel_rfl) trivial (fun hHeld=>?_)
     rw [← hV]
     clear hV
     refine tkA (i:=0) (v:=(.slice (some ⟨gF,0,none⟩) T cF)) rfl hHeld ?_
     try dsimp only [Act.put]
     refine tkA (i:=1) (v:=(.int .i64 (n:Int))) rfl hHeld ?_
     dsimp only [Act.put,List.getElem_toArray,List.getElem_cons_zero,List.getElem_cons_succ]
     simp only [List.setIfInBounds_toArray,List.set_cons_succ,List.set_cons_zero]
     refine tkA (i:=2) (v:=(.slice (some ⟨gF,0,none⟩) n cF)) rfl hHeld ?_
     try dsimp only [Act.put]
     refine tkA (i:=4) (v:=(.slice (some ⟨gF,0,none⟩) T cF)) rfl hHeld ?_
     dsimp only [Act.put,List.getElem_toArray,List.getElem_cons_zero,List.getElem_cons_succ]
     simp only [List.setIfInBounds_toArray,List.set_cons_succ,List.set_cons_zero]
     refine tkA (i:=5) (v:=(.int .i64 (n:Int))) rfl hHeld ?_
     try dsimp only [Act.put]
     refine tkA (i:=6) (v:=(.slice (some ⟨gF,n,none⟩) 16 (cF - n))) rfl hHeld ?_
     dsimp only [Act.put,List.getElem_toArray,List.getElem_cons_zero,List.getElem_cons_succ]
     simp only [List.setIfInBounds_toArray,List.set_cons_succ,List.set_cons_zero]
     refine tkA (i:=7) (v:=(.slice (some ⟨gM,0,none⟩) 16 cM)) rfl hHeld ?_
     try dsimp only [Act.put]
     refine rdy1 3 (fun K hK=>?_)
     go_simp
     refine (HBy2.out _ (rowT.out b_0)).mono ?_
     rintro e w_1 ⟨v_1,rfl,own_1,bel_1⟩
     have b_1:=below_step b_0 bel_1
     go_wp2_with fail
     refine hK.out _ _ (keep.out b_1) (fun hHeld=>?_)
     clear hK K
     try dsimp only [Act.put]
     refine rdy1 8 (fun K hK=>?_)
     go_simp
     refine (HX2.out _ (rowD.out b_1) (rowM.out b_1)).mono ?_
     rintro e w_2 ⟨rfl,blk_2,bel_2⟩
     have cp_2:=own_1.below bel_2
     have b_2:=below_step b_1 bel_2
     have rowX_2:=rowAt_block blk_2
     go_wp2_with fail
     refine hK.out _ _ (keep.out b_2) (fun hHeld=>?_)
     clear hK K
     try dsimp only [Act.put]
     refine rdy1 9 (fun K hK=>?_)
     rw [if_pos (by rfl)]
     refine wp_append_to (some 59) rfl _ _ 22 rfl w.heap.size 5 i0 (.int .u8 0) 1 1 Tryz.underlying22 hi hz0 hz1 hz2 rfl (by decide) _ n ((F.take n).map byte) rfl (own_num (cp_2.mono (Nat.le_trans hwV (Nat.le_refl _))) htl) ⟨w_1.heap.size,0,none⟩ 16 16 (X.map byte) rfl (by rw [List.length_map,hXl]) (row_news rowX_2) (all_one _) (by unfold maxLen;omega) (by omega) (Nat.le_trans hwV b_2.size) ?_
     intro v_3 w_3 own_3 grow_3 nil_3
     have bz:Below w.heap.size w w_3:=(bV.trans (b_2.mono hwV)).grown grow_3 (Nat.le_trans hwV b_2.size) (fun k hk=>((own_num (cp_2.mono (Nat.le_trans hwV (Nat.le_refl _))) htl).lt k hk).1)
     try dsimp only [Act.put]
     refine hK.out _ _ (keep.out b_2) (fun hHeld=>?_)
     clear hK K
     try dsimp only [Act.put]
     refine rdy1 10 (fun K hK=>?_)
     go_simp
     refine hK.out _ _ (keep.out b_2) (fun hHeld=>?_)
     clear hK K
     try dsimp only [Act.put]
     refine wpAnyH_done (by kernel_rfl) ?_ _
     have oX:OwnB w_3 w.heap.size v_3 FX:=by rw [HFX.out];exact own_app16 htl hXl own_3
     obtain ⟨gX,cX,hcX,rfl,rX⟩:=own_at oX hFXl hT0
     have hw3:=bz.size
     clear own_3 grow_3 nil_3 hHeld cp_2 own_1 bel_1 b_1 bel_2 b_2 rowX_2 blk_2 HBy2 HX2 rowT rowD rowM keep bV hwV b_0
     go_wp2_with (at_make;refine wpList_make_full _ rfl _ _ 22 rfl w.heap.size 5 i0 (.int .u8 0) 1 Tryz.underlying22 hi hz0 hz1 .i64 .i64 _ _ 16 rfl rfl rfl rfl (by rw [hz2];omega) (by unfold maxLen;omega) hw3 ?_;intro w9 hown9 hgrow9;have bel9:=below_of_grown hgrow9)
     rw [hmz] at hown9
     have own9:OwnB w9 w.heap.size (.slice (some ⟨w_3.heap.size,0,none⟩) 16 16) (chQ f FX 0):=hown9
     have B9:=bz.trans (bel9.mono hw3)
     have rX9:=rX.below bel9
     clear hown9 hgrow9 bel9 bz oX rX
     go_loopw [9,10] (fun v i wr=>∃ k:Nat,k ≤ m ∧ i = .int .i64 ((16 * k:Nat):Int) ∧ OwnB wr w.heap.size v (chQ f FX k) ∧ RowAt wr (some ⟨gX,0,none⟩) FX ∧ Below w.heap.size w wr) (fun _ i _=>T + 16 - (intOf i).toNat)
     case atStart=>exact ⟨0,Nat.zero_le _,rfl,own9,rX9,B9⟩
     case round =>
       clear own9 rX9 B9
       obtain ⟨k,hk2,rfl,hown,rX,hbel⟩:=hrel
       obtain ⟨a,ha⟩:∃ a,a = 16 * k:=⟨_,rfl⟩
       have HA2:=hid_of' ha
       have HS:=hid_of' (show chQ f FX (k + 1) = f (xorL (chQ f FX k) ((FX.drop (16 * k)).take 16)) from rfl)
       have hhl:=chQ_length f HFL.out FX k
       have hfr:RowAt wr (some ⟨gX,16 * k,none⟩) ((FX.drop (16 * k)).take 16):=by have h:=(rX.drop (16 * k)).take 16;rwa [Nat.zero_add] at h
       rw [← ha] at HS hfr ⊢
       clear ha
       by_cases hlt:a < T
       · have hyl:((FX.drop a).take 16).length = 16:=by rw [List.length_take,List.length_drop,hFXl];have:=HA2.out;have:=HTm.out;omega
         obtain ⟨Y,hY⟩:∃ Y,Y = (FX.drop a).take 16:=⟨_,rfl⟩
         obtain ⟨Pk,hP⟩:∃ P,P = chQ f FX k:=⟨_,rfl⟩
         rw [← hY] at HS hfr hyl
         rw [← hP] at HS hown hhl
         obtain ⟨g,c,hgc,hv,rowP⟩:=own_at hown hhl (by omega)
         subst hv
         have hsz:=hbel.size
         have HXY:=hid_of' (fun (cp:Nat) (wx:World) (h1:RowAt wx (some ⟨g,0,none⟩) Pk) (h2:RowAt wx (some ⟨gX,a,none⟩) Y)=>xor16s Pk Y g 0 c gX a cp wx hhl hyl h1 h2)
         have hxl:(xorL Pk Y).length = 16:=by rw [xorL_length _ _ (by omega),hhl]
         obtain ⟨XY,hXY⟩:∃ x,x = xorL Pk Y:=⟨_,rfl⟩
         rw [← hXY] at HS HXY hxl
         have haI:(a:Int) < (T:Int):=by omega
         have haI0:(0:Int) ≤ (a:Int):=by omega
         have hwa:IntKind.i64.wrap ((a:Int) + 16) = (a:Int) + 16:=by rw [IntKind.wrap_i64];omega
         have h8c:((a:Int) + 16) ≤ (cX:Int):=by have:=HA2.out;have:=HTm.out;omega
         have h8a:(a:Int) ≤ (a:Int) + 16:=by omega
         clear hY hP hXY
         go_wp2_with (first
           | (go_at_call 143;refine (HXY.out _ _ rowP hfr).mono ?_;rintro e1 w1' ⟨rfl,blk1,bel1⟩;have rowX:=rowAt_block blk1;have b1':=(hbel.trans (bel1.mono hsz));have rk1:=rk.below b1')
           | (go_at_call 144;refine (HA.out _ _ _ _ hxl rk1 rowX).mono ?_;rintro e2 w2' ⟨v2,rfl,own2,bel2⟩))
         have b2':=b1'.trans (bel2.mono b1'.size)
         have R1:OwnB w2' w.heap.size v2 (chQ f FX (k + 1)):=by rw [HS.out];exact own2.mono b1'.size
         have rX2:=(rX.below bel1).below bel2
         clear own2 blk1 hown bel1 bel2 hbel rowX rk1 b1' rowP hfr rX
         go_wp2
         go_roundw
         case rel=>exact ⟨k + 1,by have:=HA2.out;have:=HTm.out;omega,by have:=HA2.out;go_num,R1,rX2,b2'⟩
         case measure=>simp [intOf];omega
       · go_wp2
         go_ret
         have hkm:k = m:=by have:=HA2.out;have:=HTm.out;omega
         refine ⟨_,rfl,?_,hbel⟩
         rw [HRES.out,← hkm]
         exact hown
set_option maxHeartbeats 400000 in
theorem isUse_any (u:Int) (w:World) :
   Calls Tryz.prog 30 #[.int .i64 u] w fun e w'=>e = .returned (.bool (decide (1 ≤ u) && decide (u ≤ 3))) ∧ w' = w:=by
 by_cases h:1 ≤ u
 · go_enter Tryz.func30,Tryz.ntmps30
   go_wp2
   go_ret
   exact ⟨by simp [h],rfl⟩
 · go_enter Tryz.func30,Tryz.ntmps30
   go_wp2
   go_ret
   exact ⟨by rw [decide_eq_false (show ¬ 1 ≤ u from by omega)];rfl,rfl⟩
theorem Own.at' {w:World} {base n:Nat} {v:Value} {l:List UInt8} (h:Own w base v l) (hl:l.length = n) (h0:0 < n):∃ g cap,n ≤ cap ∧ v = .slice (some ⟨g,0,none⟩) n cap ∧ w.rangeAt g 0 (l.map byte) ∧ base ≤ g ∧ g < w.heap.size:=by
 subst hl
 have hq:=h
 obtain ⟨t,h⟩:=h
 obtain ⟨ao,cap,rfl,row,hg,-,-⟩:=hq.shape
 rcases h.2 with ⟨-,hn⟩ | ⟨g,cap',cur,hv,hb,hh,hn,hm,hs,ht⟩
 · omega
 · simp only [Value.slice.injEq,true_and] at hv
   obtain ⟨rfl,rfl⟩:=hv
   obtain ⟨g',o',he,hr⟩:=row.range (by omega)
   cases he
   exact ⟨g,cap,hn,rfl,hr,hb,lt_of_block hh⟩
theorem Blk.apart {w:World} {g g' t t':Nat} {cs cs':List Value} (h:Blk w g t cs) (h':Blk w g' t' cs') (hn:t ≠ t'):some g ≠ some g':=by
 intro he
 cases he
 unfold Blk at h h'
 rw [h] at h'
 simp only [Option.some.injEq,Obj.cells.injEq] at h'
 exact hn h'.2.1
def sealK (master:List UInt8):List UInt8:=cmacN master [69]
set_option maxRecDepth 100000 in
set_option maxHeartbeats 2000000 in
theorem sealing_any (master:List UInt8) (kb ko ck:Nat) (w:World) (hk:master.length = 16) (rk:w.rangeAt kb ko (master.map byte)) :
   Calls Tryz.prog 33 #[.slice (some ⟨kb,ko,none⟩) 16 ck] w fun e w'=>∃ S1 S2 S3 S4,e = .returned (.agg (aesCells ((keysUpto (sealK master) 11).map byte) S1 S2 S3 S4).toArray) ∧ Tabs w' S1 S2 S3 S4 ∧ Below w.heap.size w w':=by
 have hz:=(zero_of_info Tryz.zero93).1
 have hEl:(sealK master).length = 16:=cmacN_length master [69] hk
 have HC:=hid_of' (fun (c:Nat) (g:Nat) (wx:World) (hc:1 ≤ c) (h1:wx.rangeAt kb ko (master.map byte)) (h2:RowAt wx (some ⟨g,0,none⟩) [69])=>cmac_some master [69] kb ko ck c (some ⟨g,0,none⟩) wx hk (by simp) (by simpa using hc) h1 h2)
 obtain ⟨E,hE⟩:∃ E,E = sealK master:=⟨_,rfl⟩
 have hE':cmacN master [69] = E:=hE.symm
 rw [hE'] at HC
 rw [← hE] at hEl ⊢
 have HNew:=hid_of' (fun wx=>newAes_any E wx hEl)
 have hEm:(E.map byte).length = 16:=by rw [List.length_map,hEl]
 have hks:((keysUpto E 11).map byte).length = 176:=by rw [List.length_map,keysUpto_length E hEl]
 obtain ⟨w0,hw0⟩:∃ x,x = (w.alloc (.cells zeroAes.toArray 93)).alloc (.cells #[.int .u8 69] 5):=⟨_,rfl⟩
 have b0:Below w.heap.size w w0:=by rw [hw0];exact ((Below.refl _ w).alloc (Nat.le_refl _) _).alloc (by simp) _
 have k0:Blk w0 w.heap.size 93 zeroAes:=by rw [hw0];exact (Blk.new w _ _).alloc _
 have r69:RowAt w0 (some ⟨w.heap.size + 1,0,none⟩) [69]:=by rw [hw0];exact rowAt_block (t:=5) (Blk.new2 w _ _ _)
 have rk0:=range_below rk b0
 clear hE hE' rk
 go_enter Tryz.func33,Tryz.ntmps33
 go_wp2_with fail
 rw [← hw0]
 clear hw0
 refine (HC.out _ _ w0 (Nat.le_refl _) rk0 r69).mono ?_
 rintro e w1 ⟨v1,rfl,own1,bel1⟩
 obtain ⟨g1,c1,hc1,rfl,rg1,-,-⟩:=Own.at' own1 hEl (by omega)
 have k1:=k0.below bel1 k0.lt
 have b1:=below_step b0 bel1
 have har:=fun c (wx:World)=>run_arrayAt (P:=Tryz.prog) (w:=wx) 88 5 16 (some ⟨g1,0,none⟩) 16 c Tryz.underlying88 (Nat.le_refl _)
 clear k0 own1 bel1 b0
 go_wp2_with (first
   | (refine wpList_load_mid rfl 88 _ rfl g1 0 rfl (E.map byte) _ rg1 Tryz.underlying88 rfl (by rw [hEm];kernel_rfl) ?_)
   | (go_at_call 76;refine (HNew.out _).mono ?_;rintro e w2 ⟨S1,S2,S3,S4,rfl,t1,t2,t3,t4,bel2⟩;have htl:=aesCells_length ((keysUpto E 11).map byte) S1 S2 S3 S4 hks;have k2:=k1.below bel2 k1.lt;have b2:=below_step b1 bel2)
   | (refine store_blk rfl 93 _ _ rfl _ rfl rfl k2 (by rw [htl];kernel_rfl) (by rw [htl];exact zeroAes_length) (allOne_aes _ _ _ _ _) ?_;intro w3 hb3 hg3 hs3))
 have l2:=b2.size
 exact bodyPost_ret (v:=.agg (aesCells ((keysUpto E 11).map byte) S1 S2 S3 S4).toArray) (results_blk Tryz.results33 _ _ rfl hb3 Tryz.underlying93 rfl (by rw [htl];kernel_rfl)) rfl ⟨S1,S2,S3,S4,rfl,⟨t1.grown hg3 (t1.apart k2 (by decide)),t2.grown hg3 (t2.apart k2 (by decide)),t3.grown hg3 (t3.apart k2 (by decide)),t4.grown hg3 (t4.apart k2 (by decide))⟩,b2.grown hg3 l2 (by intro k hk;cases hk;exact Nat.le_refl _)⟩
end Go.Proofs.YtbkokcjolanpeaaGreatDoor
