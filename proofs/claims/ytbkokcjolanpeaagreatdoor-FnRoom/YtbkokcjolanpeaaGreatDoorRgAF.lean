import Derived.Test.YtbkokcjolanpeaaGreatDoorRgAE
namespace Go.Proofs.YtbkokcjolanpeaaGreatDoor
open Go.RowKit
theorem ruleZ_in (no:Int) (h:inZ no = true):ruleZ no = (tabNos.idxOf no.toNat:Int):=by
 unfold inZ at h
 rw [Bool.and_eq_true,decide_eq_true_eq,decide_eq_true_eq] at h
 unfold ruleZ ruleIx
 rw [if_pos h.1,if_pos h.2]
theorem ruleZ_out (no:Int) (h:inZ no = false):ruleZ no = -1:=by
 unfold ruleZ ruleIx
 by_cases h0:0 ≤ no
 · rw [if_pos h0,if_neg]
   intro hm
   unfold inZ at h
   rw [decide_eq_true h0,decide_eq_true hm] at h
   exact absurd h (by decide)
 · rw [if_neg h0]
theorem own_ne {w:World} {B g t:Nat} {v:Value} {l:List UInt8} {cs:List Value} (h:OwnB w B v l) (hb:Blk w g t cs) (ht:t ≠ 5):v.ownBlock ≠ some g:=by
 rcases h.2 with ⟨rfl,-⟩ | ⟨g',cap,cur,rfl,-,hh,-⟩
 · intro e;cases e
 · intro e
   have e2:g' = g:=Option.some.inj e
   subst e2
   have hb2:w.heap[g']? = _:=hb
   rw [hh] at hb2
   simp only [Option.some.injEq,Obj.cells.injEq] at hb2
   exact ht hb2.2.1.symm
theorem row_of_blkT {w:World} {g t:Nat} {l:List UInt8} (h:Blk w g t (l.map byte)):RowAt w (some ⟨g,0,none⟩) l:=by
 refine .inr ⟨g,0,rfl,fun i hi=>?_⟩
 rw [Nat.zero_add,h.cell i (by simpa using hi)]
 simp [byte,hi]
theorem pad_fit:∀ n ∈ tabNos,kpM n < 10 ^ kpD n ∨ kpD n = 0:=by decide
set_option maxRecDepth 100000 in
set_option maxHeartbeats 40000000 in
theorem encodeI_any (s:ByteArray) (L:List (Int × List UInt8)) (hsz:∀ p ∈ L,p.2.length ≤ 1048576) (hL:L.length ≤ 2097152) (v:Value) (w:World) (F:Fr w v L) (hT:∀ w',Below w.heap.size w w' → Lib.TabIs Tryz.prog w' "internal/strconv.uint64pow10" .u64 Lib.pow10Tab) :
   Calls Tryz.prog 21 #[.agg #[.string s,v]] w fun e w'=>∃ v',e = .returned v' ∧ Own w' w.heap.size v' (encLI s L) ∧ Below w.heap.size w w':=by
 obtain ⟨x1,c1,rfl⟩:=F.sh
 obtain ⟨n,hn⟩:∃ n,n = L.length:=⟨_,rfl⟩
 have HN:=hideT hn
 have HM:=hideT (fun (wx:World)=>isMti_any s wx)
 have HTT:=hideT hT
 have HSZ:=hideT (getD_le hsz)
 have HRS:=hideT (restE_small L)
 have HNOK:=hideT (okL_no L)
 have HYOK:=hideT (okL_yes L)
 have F':=F
 rw [← hn] at F' HNOK HYOK hL ⊢
 have HF:=hideT F'
 obtain ⟨W,hW⟩:∃ y,y = w.alloc (Obj.cells #[.string s,.slice x1 n c1] 32):=⟨_,rfl⟩
 have kM:Blk W w.heap.size 32 [.string s,.slice x1 n c1]:=by rw [hW];exact Blk.new _ _ _
 have bW:Below w.heap.size w W:=by rw [hW];exact below_newT _ _
 have HW:=hideT hW
 have m0:=kM.cell 0 (by simp)
 have HBAD:=hideT (encL_bad s L)
 have HGOOD:=hideT (encL_good s L)
 obtain ⟨dg,hdg⟩:∃ q,q = (decide (s.size = 4) && digs s):=⟨_,rfl⟩
 have HDG:=hideT hdg
 rw [← hdg] at HM HBAD HGOOD
 clear hdg hn hW F F' hsz hT
 cases dg
 · have HE:Hid (encLI s L = []):=HBAD.out (.inl rfl)
   go_enter Tryz.func21,Tryz.ntmps21
   go_upto_region 1 with fail
   rw [← show W = _ from HW]
   go_wp2_with fail
   refine (HM.out _).mono ?_
   rintro e w2 ⟨rfl,b2⟩
   go_wp2_with fail
   go_ret
   exact ⟨_,rfl,by rw [HE.out];exact own_nilI _ _,bW.trans (b2.mono bW.size)⟩
 · have hs4:Hid (s.size = 4):=by
     show s.size = 4
     have h:=HDG.out
     exact of_decide_eq_true (Bool.and_eq_true _ _ ▸ h.symm).1
   go_enter Tryz.func21,Tryz.ntmps21
   go_upto_region 1 with fail
   rw [← show W = _ from HW]
   go_wp2_with fail
   refine (HM.out _).mono ?_
   rintro e w2 ⟨rfl,b2⟩
   have kM2:=kM.below b2 kM.lt
   have bw2:=bW.trans (b2.mono bW.size)
   clear kM b2 HW HM bW m0
   go_wp2_with fail
   refine (fieldTable_any _).mono ?_
   rintro e w3 ⟨rfl,kT3,b3⟩
   have kM3:=kM2.below b3 kM2.lt
   have bw3:=bw2.trans (b3.mono bw2.size)
   obtain ⟨gT,hgT⟩:∃ q,q = w2.heap.size:=⟨_,rfl⟩
   have hgTw:w.heap.size < gT:=by rw [hgT];exact kM2.lt
   rw [← hgT] at kT3 ⊢
   clear hgT kM2 b3 bw2
   obtain ⟨gA,hgA⟩:∃ q,q = w3.heap.size:=⟨_,rfl⟩
   have hgAT:gT < gA:=by rw [hgA];exact kT3.lt
   obtain ⟨Y,hY⟩:∃ y,y = w3.alloc (Obj.cells #[.int .u8 0,.int .u8 0,.int .u8 0,.int .u8 0,.int .u8 0,.int .u8 0,.int .u8 0,.int .u8 0,.int .u8 0,.int .u8 0,.int .u8 0,.int .u8 0,.int .u8 0,.int .u8 0,.int .u8 0,.int .u8 0] 88):=⟨_,rfl⟩
   have kA:Blk Y gA 88 ((bmE L 0).map byte):=by rw [hY,hgA];exact Blk.new w3 88 #[.int .u8 0,.int .u8 0,.int .u8 0,.int .u8 0,.int .u8 0,.int .u8 0,.int .u8 0,.int .u8 0,.int .u8 0,.int .u8 0,.int .u8 0,.int .u8 0,.int .u8 0,.int .u8 0,.int .u8 0,.int .u8 0]
   have bY:Below w3.heap.size w3 Y:=by rw [hY];exact below_newT _ _
   have kT:=kT3.below bY kT3.lt
   have kM:=kM3.below bY kM3.lt
   have bel:=bw3.trans (bY.mono bw3.size)
   obtain ⟨B,hB⟩:∃ q,q = Y.heap.size:=⟨_,rfl⟩
   have hBg:gA < B:=by rw [hB];exact kA.lt
   have hBc:B ≤ Y.heap.size:=by rw [hB];exact Nat.le_refl _
   have HGA:=hideT hgA
   have HY:=hideT hY
   clear hgA hY hB kT3 kM3 bw3 bY
   go_upto_region 7 with fail
   rw [← show Y = _ from HY,← show gA = _ from HGA]
   clear HY HGA
   have m1:=kM.cell 1 (by simp)
   go_wp2_with fail
   go_loopw [5,6,19] (fun rv bv i wr=>∃ (k:Nat) (r:Value),k ≤ n ∧ i = .int .i64 (k:Int) ∧ rv = r ∧ bv = .int .i64 (bef L k) ∧ OwnB wr B r (restE L k) ∧ Blk wr gA 88 ((bmE L k).map byte) ∧ Blk wr gT 118 tabCellsI ∧ Blk wr w.heap.size 32 [.string s,.slice x1 n c1] ∧ Below w.heap.size w wr ∧ B ≤ wr.heap.size ∧ Hid (∀ j,j < k → okF (bef L j) (L.getD j (0,[])) = true)) (fun _ _ i _=>n - (intOf i).toNat)
   case atStart=>exact ⟨0,_,Nat.zero_le _,rfl,rfl,rfl,World.ownsRow_nil _ _ _ _,kA,kT,kM,bel,hBc,fun j h=>absurd h (Nat.not_lt_zero j)⟩
   case round =>
     clear kA kT kM bel hBc m1
     obtain ⟨k,r,hk,rfl,hre,rfl,own,kA,kT,kM,hbx,hBr,HOK⟩:=hrel
     have hre2:=hre.symm
     subst hre2
     clear hre
     by_cases hlt:k < n
     · have hltI:(k:Int) < (n:Int):=by omega
       have hkL:k < L.length:=by rw [← HN.out];exact hlt
       obtain ⟨g,o,cc,ai,ci,ev,p1w,p2w,r0⟩:=HF.out.at_ k hkL
       simp only [Value.slice.injEq] at ev
       obtain ⟨rfl,-,rfl⟩:=ev
       have hlw:=World.block_lt_of_cell? w _ p1w
       have p1:=(hbx.cell (p:=⟨g,o + k * 2,none⟩) hlw).trans p1w
       have p2:=(hbx.cell (p:=⟨g,o + k * 2 + 1,none⟩) hlw).trans p2w
       have hdl:=HSZ.out k
       have HOF:Hid (okF (bef L k) (L.getD k (0,[])) = (decide (bef L k < (L.getD k (0,[])).1) && (inZ (L.getD k (0,[])).1 && fitsN (kpL (L.getD k (0,[])).1.toNat) (kpM (L.getD k (0,[])).1.toNat) (kpOk (L.getD k (0,[])).1.toNat) (L.getD k (0,[])).2))):=rfl
       have HNX:Hid (bef L (k + 1) = (L.getD k (0,[])).1):=rfl
       have HB1:Hid (bmE L (k + 1) = setLI (bmE L k) ((L.getD k (0,[])).1.toNat - 1)):=rfl
       have HRR:Hid (restE L (k + 1) = restE L k ++ (padL (kpD (L.getD k (0,[])).1.toNat) (L.getD k (0,[])).2.length ++ (L.getD k (0,[])).2)):=rfl
       have HBK:Hid (okF (bef L k) (L.getD k (0,[])) = false → encLI s L = []):=fun h=>HBAD.out (.inr (HNOK.out k hlt h))
       have HRL:=hideT (HRS.out k HOK.out)
       have hXl:=bmE_length L k
       clear p1w p2w hlw
       obtain ⟨ob,hob⟩:∃ q,q = okF (bef L k) (L.getD k (0,[])):=⟨_,rfl⟩
       obtain ⟨no,hno⟩:∃ q,q = (L.getD k (0,[])).1:=⟨_,rfl⟩
       obtain ⟨d,hd⟩:∃ q,q = (L.getD k (0,[])).2:=⟨_,rfl⟩
       obtain ⟨la,hla⟩:∃ q,q = bef L k:=⟨_,rfl⟩
       obtain ⟨R,hR⟩:∃ q,q = restE L k:=⟨_,rfl⟩
       obtain ⟨BM,hBM⟩:∃ q,q = bmE L k:=⟨_,rfl⟩
       have HOB:=hideT hob
       rw [← hob] at HOF HBK
       rw [← hno] at p1 HOF HNX HB1 HRR
       rw [← hd] at p2 r0 hdl HOF HRR
       rw [← hla] at HOF ⊢
       rw [← hR] at own HRR HRL
       rw [← hBM] at kA HB1 hXl
       have HXL:=hideT hXl
       obtain ⟨l,hl⟩:∃ q,q = d.length:=⟨_,rfl⟩
       have HL:=hideT hl
       rw [← hl] at p2
       have HDL:=hideT hdl
       clear hob hno hd hla hR hBM hl hXl hdl
       obtain ⟨Y,hY⟩:∃ y,y = wr.alloc (Obj.cells #[.int .i64 no,.slice ai l ci] 29):=⟨_,rfl⟩
       have kF:Blk Y wr.heap.size 29 [.int .i64 no,.slice ai l ci]:=by rw [hY];exact Blk.new _ _ _
       have bY:Below wr.heap.size wr Y:=by rw [hY];exact below_newT _ _
       have kAY:=kA.below bY kA.lt
       have kTY:=kT.below bY kT.lt
       have kMY:=kM.below bY kM.lt
       have ownY:=own.below bY
       have belY:=hbx.trans (bY.mono hbx.size)
       have hBY:=Nat.le_trans hBr bY.size
       have hrF:=fun j hj=>World.ownsRow.lt own j hj
       obtain ⟨gF,hgF⟩:∃ q,q = wr.heap.size:=⟨_,rfl⟩
       rw [← hgF] at kF hrF
       have HGF:=hideT hgF
       have hgFB:B ≤ gF:=by rw [hgF];exact hBr
       have HY:=hideT hY
       have HRF:=hideT hrF
       have HRU:=hideT (fun (wx:World) (h:Blk wx gT 118 tabCellsI)=>ruleOf_int no gT wx h)
       clear hY hgF own kA kT kM hbx hBr bY hrF
       go_upto_region 10 with fail
       rw [← show Y = _ from HY,← show gF = _ from HGF]
       clear HY HGF p1 p2
       have f0:=kF.cell 0 (by simp)
       cases hz:inZ no
       · have HE:Hid (encLI s L = []):=HBK.out (by rw [HOF.out,hz];simp)
         rw [ruleZ_out no hz] at HRU
         clear hz HOF HBK
         go_wp2_with fail
         refine (HRU.out _ kTY).mono ?_
         rintro e w4 ⟨rfl,b4⟩
         have kF4:=kF.below b4 kF.lt
         have kT4:=kTY.below b4 kTY.lt
         have kM4:=kMY.below b4 kMY.lt
         have kA4:=kAY.below b4 kAY.lt
         have own4:=ownY.below b4
         have bel4:=belY.trans (b4.mono belY.size)
         have hB4:=Nat.le_trans hBY b4.size
         clear kF kTY kMY kAY ownY belY hBY b4 HRU f0
         go_upto_region 11 with fail
         obtain ⟨V,hV⟩:∃ V,V = World.drew w4:=⟨_,rfl⟩
         have b_0:Below V.heap.size V V:=Below.refl _ _
         have bV:Below w4.heap.size w4 V:=by rw [hV];exact (Below.refl _ _).drew
         have belV:=bel4.trans (bV.mono bel4.size)
         have kFV:=kF4.below bV kF4.lt
         have kTV:=kT4.below bV kT4.lt
         have kMV:=kM4.below bV kM4.lt
         have kAV:=kA4.below bV kA4.lt
         have ownV:=own4.below bV
         have hBV:=Nat.le_trans hB4 bV.size
         have keep:Hid (∀ {y},Below V.heap.size V y → Blk y gF 29 [.int .i64 no,.slice ai l ci] ∧ Blk y gT 118 tabCellsI):=fun h=>⟨kFV.below h kFV.lt,kTV.below h kTV.lt⟩
         refine wp_region_held_drew (S:=fun y=>Blk y gF 29 [.int .i64 no,.slice ai l ci] ∧ Blk y gT 118 tabCellsI) (by kernel_rfl) (by rw [← hV];exact ⟨kFV,kTV⟩) (fun hHeld=>?_)
         rw [← hV] at hHeld ⊢
         clear hV bV kF4 kT4 kM4 kA4 own4 bel4 hB4
         refine tkA (i:=0) (v:=(.int .i64 (-1))) rfl hHeld ?_
         try dsimp only [Act.put]
         refine tkA (i:=1) (v:=(.bool true)) rfl hHeld ?_
         dsimp only [Act.put,List.getElem_toArray,List.getElem_cons_zero,List.getElem_cons_succ]
         simp only [List.setIfInBounds_toArray,List.set_cons_succ,List.set_cons_zero]
         refine tkA (i:=2) (v:=(.bool true)) rfl hHeld ?_
         try dsimp only [Act.put]
         refine tk (i:=3) (v:=undef) rfl (Or.inr ⟨by rfl,rfl⟩) hHeld ?_
         dsimp only [Act.put,List.getElem_toArray,List.getElem_cons_zero,List.getElem_cons_succ]
         simp only [List.setIfInBounds_toArray,List.set_cons_succ,List.set_cons_zero]
         refine tk (i:=4) (v:=undef) rfl (Or.inr ⟨by rfl,rfl⟩) hHeld ?_
         try dsimp only [Act.put]
         refine tk (i:=5) (v:=undef) rfl (Or.inr ⟨by rfl,rfl⟩) hHeld ?_
         dsimp only [Act.put,List.getElem_toArray,List.getElem_cons_zero,List.getElem_cons_succ]
         simp only [List.setIfInBounds_toArray,List.set_cons_succ,List.set_cons_zero]
         refine tk (i:=6) (v:=undef) rfl (Or.inr ⟨by rfl,rfl⟩) hHeld ?_
         try dsimp only [Act.put]
         refine tkA (i:=7) (v:=(.bool true)) rfl hHeld ?_
         dsimp only [Act.put,List.getElem_toArray,List.getElem_cons_zero,List.getElem_cons_succ]
         simp only [List.setIfInBounds_toArray,List.set_cons_succ,List.set_cons_zero]
         refine tkA (i:=8) (v:=(.bool true)) rfl hHeld ?_
         try dsimp only [Act.put]
         refine tk (i:=9) (v:=undef) rfl (Or.inr ⟨by rfl,rfl⟩) hHeld ?_
         dsimp only [Act.put,List.getElem_toArray,List.getElem_cons_zero,List.getElem_cons_succ]
         simp only [List.setIfInBounds_toArray,List.set_cons_succ,List.set_cons_zero]
         refine tk (i:=10) (v:=undef) rfl (Or.inr ⟨by rfl,rfl⟩) hHeld ?_
         try dsimp only [Act.put]
         refine tk (i:=11) (v:=undef) rfl (Or.inr ⟨by rfl,rfl⟩) hHeld ?_
         dsimp only [Act.put,List.getElem_toArray,List.getElem_cons_zero,List.getElem_cons_succ]
         simp only [List.setIfInBounds_toArray,List.set_cons_succ,List.set_cons_zero]
         refine tk (i:=12) (v:=undef) rfl (Or.inr ⟨by rfl,rfl⟩) hHeld ?_
         try dsimp only [Act.put]
         refine tk (i:=13) (v:=undef) rfl (Or.inr ⟨by rfl,rfl⟩) hHeld ?_
         dsimp only [Act.put,List.getElem_toArray,List.getElem_cons_zero,List.getElem_cons_succ]
         simp only [List.setIfInBounds_toArray,List.set_cons_succ,List.set_cons_zero]
         refine tk (i:=14) (v:=undef) rfl (Or.inr ⟨by rfl,rfl⟩) hHeld ?_
         try dsimp only [Act.put]
         refine tk (i:=15) (v:=undef) rfl (Or.inr ⟨by rfl,rfl⟩) hHeld ?_
         dsimp only [Act.put,List.getElem_toArray,List.getElem_cons_zero,List.getElem_cons_succ]
         simp only [List.setIfInBounds_toArray,List.set_cons_succ,List.set_cons_zero]
         refine tk (i:=16) (v:=undef) rfl (Or.inr ⟨by rfl,rfl⟩) hHeld ?_
         try dsimp only [Act.put]
         refine tk (i:=17) (v:=undef) rfl (Or.inr ⟨by rfl,rfl⟩) hHeld ?_
         dsimp only [Act.put,List.getElem_toArray,List.getElem_cons_zero,List.getElem_cons_succ]
         simp only [List.setIfInBounds_toArray,List.set_cons_succ,List.set_cons_zero]
         refine tkA (i:=18) (v:=(.bool true)) rfl hHeld ?_
         try dsimp only [Act.put]
         refine wpAnyH_done (by kernel_rfl) ?_ _
         have bZ:=b_0
         clear hHeld
         go_wp2_with fail
         go_ret
         exact ⟨_,rfl,by rw [HE.out];exact own_nilI _ _,belV.trans (bZ.mono belV.size)⟩
       · obtain ⟨hn0,hmt⟩:0 ≤ no ∧ no.toNat ∈ tabNos:=by
           have h:=hz
           unfold inZ at h
           rw [Bool.and_eq_true,decide_eq_true_eq,decide_eq_true_eq] at h
           exact h
         rw [ruleZ_in no hz] at HRU
         rw [hz,Bool.true_and] at HOF
         obtain ⟨m,hm⟩:∃ q,q = no.toNat:=⟨_,rfl⟩
         obtain rfl:no = (m:Int):=by omega
         rw [← hm] at HOF HB1 HRR HRU hmt
         obtain ⟨ix,hix⟩:∃ q,q = tabNos.idxOf m:=⟨_,rfl⟩
         have hti:=tab_ix m hmt
         have h2m:=tab_le m hmt
         obtain ⟨T,x,rr,FE,hkv,K⟩:=kd_no m hmt
         have HTK:Hid (∀ y,Blk y gT 118 tabCellsI → y.cell? ⟨gT,ix * 2 + 1,none⟩ = some (.iface T x)):=by
           intro y ky
           have h1:=(tab_at ix (by rw [hix];exact hti.1)).2
           have h2:ix * 2 + 1 < tabCellsI.length:=by show ix * 2 + 1 < 28;have:=hti.1;omega
           rw [List.getElem?_eq_getElem h2] at h1
           rw [ky.cell _ h2]
           refine h1.trans ?_
           rw [hix]
           show some (kindV m) = _
           rw [hkv]
         rw [← hix] at HRU
         have hix14:ix < 14:=by rw [hix];exact hti.1
         have hixI:((ix:Int) < 14):=by omega
         have hix0:¬ (ix:Int) < 0:=by omega
         have HFI:=hideT (fun (wx:World) (h:RowAt wx ai d)=>K.HF d ai ci wx HDL.out h)
         have hKK:=hideT K
         rw [show d.length = l from HL.out.symm] at HFI
         obtain ⟨fq,hfq⟩:∃ q,q = fitsN (kpL m) (kpM m) (kpOk m) d:=⟨_,rfl⟩
         rw [← hfq] at HOF HFI
         have HFQ:=hideT hfq
         have HMT:=hideT hmt
         have HH2:=hideT h2m
         clear hz hn0 hm hix hti hkv K hmt hfq h2m
         by_cases hle:(m:Int) ≤ la
         · have HE:Hid (encLI s L = []):=HBK.out (by rw [HOF.out,decide_eq_false (by omega)];rfl)
           clear HOF HBK HFI hKK
           go_wp2_with fail
           refine (HRU.out _ kTY).mono ?_
           rintro e w4 ⟨rfl,b4⟩
           have kF4:=kF.below b4 kF.lt
           have kT4:=kTY.below b4 kTY.lt
           have kM4:=kMY.below b4 kMY.lt
           have kA4:=kAY.below b4 kAY.lt
           have own4:=ownY.below b4
           have bel4:=belY.trans (b4.mono belY.size)
           have hB4:=Nat.le_trans hBY b4.size
           clear kF kTY kMY kAY ownY belY hBY b4 HRU f0
           go_upto_region 11 with fail
           obtain ⟨V,hV⟩:∃ V,V = World.drew w4:=⟨_,rfl⟩
           have b_0:Below V.heap.size V V:=Below.refl _ _
           have bV:Below w4.heap.size w4 V:=by rw [hV];exact (Below.refl _ _).drew
           have belV:=bel4.trans (bV.mono bel4.size)
           have kFV:=kF4.below bV kF4.lt
           have kTV:=kT4.below bV kT4.lt
           have kMV:=kM4.below bV kM4.lt
           have kAV:=kA4.below bV kA4.lt
           have ownV:=own4.below bV
           have hBV:=Nat.le_trans hB4 bV.size
           have keep:Hid (∀ {y},Below V.heap.size V y → Blk y gF 29 [.int .i64 (m:Int),.slice ai l ci] ∧ Blk y gT 118 tabCellsI):=fun h=>⟨kFV.below h kFV.lt,kTV.below h kTV.lt⟩
           refine wp_region_held_drew (S:=fun y=>Blk y gF 29 [.int .i64 (m:Int),.slice ai l ci] ∧ Blk y gT 118 tabCellsI) (by kernel_rfl) (by rw [← hV];exact ⟨kFV,kTV⟩) (fun hHeld=>?_)
           rw [← hV] at hHeld ⊢
           clear hV bV kF4 kT4 kM4 kA4 own4 bel4 hB4
           refine tkA (i:=0) (v:=(.int .i64 (ix:Int))) rfl hHeld ?_
           dsimp only [Act.put,List.getElem_toArray,List.getElem_cons_zero,List.getElem_cons_succ]
           simp only [List.setIfInBounds_toArray,List.set_cons_succ,List.set_cons_zero]
           refine tkA (i:=1) (v:=(.bool false)) rfl hHeld ?_
           try dsimp only [Act.put]
           refine tkA (i:=2) (v:=(.bool false)) rfl hHeld ?_
           dsimp only [Act.put,List.getElem_toArray,List.getElem_cons_zero,List.getElem_cons_succ]
           simp only [List.setIfInBounds_toArray,List.set_cons_succ,List.set_cons_zero]
           refine tkA (i:=3) (v:=(.pointer (some ⟨gF,0,none⟩))) rfl hHeld ?_
           try dsimp only [Act.put]
           refine tk (i:=4) (v:=(.int .i64 (m:Int))) rfl (Or.inl ⟨by rfl,fun w1 h=>by have hc:w1.cell? ⟨gF,0,none⟩ = some (.int .i64 (m:Int)):=h.1.cell 0 (by simp);go_simp⟩) hHeld ?_
           dsimp only [Act.put,List.getElem_toArray,List.getElem_cons_zero,List.getElem_cons_succ]
           simp only [List.setIfInBounds_toArray,List.set_cons_succ,List.set_cons_zero]
           refine tkA (i:=5) (v:=(.int .i64 la)) rfl hHeld ?_
           try dsimp only [Act.put]
           refine tkA (i:=6) (v:=(.bool true)) rfl hHeld ?_
           dsimp only [Act.put,List.getElem_toArray,List.getElem_cons_zero,List.getElem_cons_succ]
           simp only [List.setIfInBounds_toArray,List.set_cons_succ,List.set_cons_zero]
           refine tkA (i:=7) (v:=(.bool true)) rfl hHeld ?_
           try dsimp only [Act.put]
           refine tkA (i:=8) (v:=(.bool true)) rfl hHeld ?_
           dsimp only [Act.put,List.getElem_toArray,List.getElem_cons_zero,List.getElem_cons_succ]
           simp only [List.setIfInBounds_toArray,List.set_cons_succ,List.set_cons_zero]
           refine tk (i:=9) (v:=undef) rfl (Or.inr ⟨by rfl,rfl⟩) hHeld ?_
           try dsimp only [Act.put]
           refine tk (i:=10) (v:=undef) rfl (Or.inr ⟨by rfl,rfl⟩) hHeld ?_
           dsimp only [Act.put,List.getElem_toArray,List.getElem_cons_zero,List.getElem_cons_succ]
           simp only [List.setIfInBounds_toArray,List.set_cons_succ,List.set_cons_zero]
           refine tk (i:=11) (v:=undef) rfl (Or.inr ⟨by rfl,rfl⟩) hHeld ?_
           try dsimp only [Act.put]
           refine tk (i:=12) (v:=undef) rfl (Or.inr ⟨by rfl,rfl⟩) hHeld ?_
           dsimp only [Act.put,List.getElem_toArray,List.getElem_cons_zero,List.getElem_cons_succ]
           simp only [List.setIfInBounds_toArray,List.set_cons_succ,List.set_cons_zero]
           refine tk (i:=13) (v:=undef) rfl (Or.inr ⟨by rfl,rfl⟩) hHeld ?_
           try dsimp only [Act.put]
           refine tk (i:=14) (v:=undef) rfl (Or.inr ⟨by rfl,rfl⟩) hHeld ?_
           dsimp only [Act.put,List.getElem_toArray,List.getElem_cons_zero,List.getElem_cons_succ]
           simp only [List.setIfInBounds_toArray,List.set_cons_succ,List.set_cons_zero]
           refine tk (i:=15) (v:=undef) rfl (Or.inr ⟨by rfl,rfl⟩) hHeld ?_
           try dsimp only [Act.put]
           refine tk (i:=16) (v:=undef) rfl (Or.inr ⟨by rfl,rfl⟩) hHeld ?_
           dsimp only [Act.put,List.getElem_toArray,List.getElem_cons_zero,List.getElem_cons_succ]
           simp only [List.setIfInBounds_toArray,List.set_cons_succ,List.set_cons_zero]
           refine tk (i:=17) (v:=undef) rfl (Or.inr ⟨by rfl,rfl⟩) hHeld ?_
           try dsimp only [Act.put]
           refine tkA (i:=18) (v:=(.bool true)) rfl hHeld ?_
           dsimp only [Act.put,List.getElem_toArray,List.getElem_cons_zero,List.getElem_cons_succ]
           simp only [List.setIfInBounds_toArray,List.set_cons_succ,List.set_cons_zero]
           refine wpAnyH_done (by kernel_rfl) ?_ _
           have bZ:=b_0
           clear hHeld
           go_wp2_with fail
           go_ret
           exact ⟨_,rfl,by rw [HE.out];exact own_nilI _ _,belV.trans (bZ.mono belV.size)⟩
         · rw [decide_eq_true (by omega),Bool.true_and] at HOF
           cases fq
           · have HE:Hid (encLI s L = []):=HBK.out HOF.out
             clear HOF HBK hKK
             go_wp2_with fail
             refine (HRU.out _ kTY).mono ?_
             rintro e w4 ⟨rfl,b4⟩
             have kF4:=kF.below b4 kF.lt
             have kT4:=kTY.below b4 kTY.lt
             have kM4:=kMY.below b4 kMY.lt
             have kA4:=kAY.below b4 kAY.lt
             have own4:=ownY.below b4
             have bel4:=belY.trans (b4.mono belY.size)
             have hB4:=Nat.le_trans hBY b4.size
             clear kF kTY kMY kAY ownY belY hBY b4 HRU f0
             go_upto_region 11 with fail
             obtain ⟨V,hV⟩:∃ V,V = World.drew w4:=⟨_,rfl⟩
             have b_0:Below V.heap.size V V:=Below.refl _ _
             have bV:Below w4.heap.size w4 V:=by rw [hV];exact (Below.refl _ _).drew
             have belV:=bel4.trans (bV.mono bel4.size)
             have kFV:=kF4.below bV kF4.lt
             have kTV:=kT4.below bV kT4.lt
             have kMV:=kM4.below bV kM4.lt
             have kAV:=kA4.below bV kA4.lt
             have ownV:=own4.below bV
             have hBV:=Nat.le_trans hB4 bV.size
             have keep:Hid (∀ {y},Below V.heap.size V y → Blk y gF 29 [.int .i64 (m:Int),.slice ai l ci] ∧ Blk y gT 118 tabCellsI):=fun h=>⟨kFV.below h kFV.lt,kTV.below h kTV.lt⟩
             refine wp_region_held_drew (S:=fun y=>Blk y gF 29 [.int .i64 (m:Int),.slice ai l ci] ∧ Blk y gT 118 tabCellsI) (by kernel_rfl) (by rw [← hV];exact ⟨kFV,kTV⟩) (fun hHeld=>?_)
             rw [← hV] at hHeld ⊢
             clear hV bV kF4 kT4 kM4 kA4 own4 bel4 hB4
             refine tkA (i:=0) (v:=(.int .i64 (ix:Int))) rfl hHeld ?_
             try dsimp only [Act.put]
             refine tkA (i:=1) (v:=(.bool false)) rfl hHeld ?_
             dsimp only [Act.put,List.getElem_toArray,List.getElem_cons_zero,List.getElem_cons_succ]
             simp only [List.setIfInBounds_toArray,List.set_cons_succ,List.set_cons_zero]
             refine tkA (i:=2) (v:=(.bool false)) rfl hHeld ?_
             try dsimp only [Act.put]
             refine tkA (i:=3) (v:=(.pointer (some ⟨gF,0,none⟩))) rfl hHeld ?_
             dsimp only [Act.put,List.getElem_toArray,List.getElem_cons_zero,List.getElem_cons_succ]
             simp only [List.setIfInBounds_toArray,List.set_cons_succ,List.set_cons_zero]
             refine tk (i:=4) (v:=(.int .i64 (m:Int))) rfl (Or.inl ⟨by rfl,fun w1 h=>by have hc:w1.cell? ⟨gF,0,none⟩ = some (.int .i64 (m:Int)):=h.1.cell 0 (by simp);go_simp⟩) hHeld ?_
             try dsimp only [Act.put]
             refine tkA (i:=5) (v:=(.int .i64 la)) rfl hHeld ?_
             dsimp only [Act.put,List.getElem_toArray,List.getElem_cons_zero,List.getElem_cons_succ]
             simp only [List.setIfInBounds_toArray,List.set_cons_succ,List.set_cons_zero]
             refine tkA (i:=6) (v:=(.bool false)) rfl hHeld ?_
             try dsimp only [Act.put]
             refine tkA (i:=7) (v:=(.bool false)) rfl hHeld ?_
             dsimp only [Act.put,List.getElem_toArray,List.getElem_cons_zero,List.getElem_cons_succ]
             simp only [List.setIfInBounds_toArray,List.set_cons_succ,List.set_cons_zero]
             refine tkA (i:=8) (v:=(.bool false)) rfl hHeld ?_
             try dsimp only [Act.put]
             refine tkA (i:=9) (v:=(.slice (some ⟨gT,0,none⟩) 14 14)) rfl hHeld ?_
             dsimp only [Act.put,List.getElem_toArray,List.getElem_cons_zero,List.getElem_cons_succ]
             simp only [List.setIfInBounds_toArray,List.set_cons_succ,List.set_cons_zero]
             refine tkA (i:=10) (v:=(.int .i64 (ix:Int))) rfl hHeld ?_
             try dsimp only [Act.put]
             refine tkA (i:=11) (v:=(.pointer (some ⟨gT,ix * 2,none⟩))) rfl hHeld ?_
             dsimp only [Act.put,List.getElem_toArray,List.getElem_cons_zero,List.getElem_cons_succ]
             simp only [List.setIfInBounds_toArray,List.set_cons_succ,List.set_cons_zero]
             refine tkA (i:=12) (v:=(.pointer (some ⟨gT,ix * 2 + 1,none⟩))) rfl hHeld ?_
             try dsimp only [Act.put]
             refine tk (i:=13) (v:=(.iface T x)) rfl (Or.inl ⟨by rfl,fun w1 h=>by have hc:=HTK.out _ h.2;go_simp⟩) hHeld ?_
             dsimp only [Act.put,List.getElem_toArray,List.getElem_cons_zero,List.getElem_cons_succ]
             simp only [List.setIfInBounds_toArray,List.set_cons_succ,List.set_cons_zero]
             refine tkA (i:=14) (v:=(.pointer (some ⟨gF,1,none⟩))) rfl hHeld ?_
             try dsimp only [Act.put]
             refine tk (i:=15) (v:=(.slice ai l ci)) rfl (Or.inl ⟨by rfl,fun w1 h=>by have hc:w1.cell? ⟨gF,1,none⟩ = some (.slice ai l ci):=h.1.cell 1 (by simp);go_simp⟩) hHeld ?_
             dsimp only [Act.put,List.getElem_toArray,List.getElem_cons_zero,List.getElem_cons_succ]
             simp only [List.setIfInBounds_toArray,List.set_cons_succ,List.set_cons_zero]
             refine rdy1 16 (fun K hK=>?_)
             go_simp
             refine (HFI.out _ (r0.below belV)).mono ?_
             rintro e w_1 ⟨rfl,b_1⟩
             go_wp2_with fail
             refine hK.out _ _ (keep.out b_1) (fun hHeld=>?_)
             clear hK K
             try dsimp only [Act.put]
             refine tkA (i:=17) (v:=(.bool true)) rfl hHeld ?_
             try dsimp only [Act.put]
             refine tkA (i:=18) (v:=(.bool true)) rfl hHeld ?_
             dsimp only [Act.put,List.getElem_toArray,List.getElem_cons_zero,List.getElem_cons_succ]
             simp only [List.setIfInBounds_toArray,List.set_cons_succ,List.set_cons_zero]
             refine wpAnyH_done (by kernel_rfl) ?_ _
             have bZ:=b_1
             clear hHeld
             go_wp2_with fail
             go_ret
             exact ⟨_,rfl,by rw [HE.out];exact own_nilI _ _,belV.trans (bZ.mono belV.size)⟩
           · clear HBK
             go_wp2_with fail
             refine (HRU.out _ kTY).mono ?_
             rintro e w4 ⟨rfl,b4⟩
             have kF4:=kF.below b4 kF.lt
             have kT4:=kTY.below b4 kTY.lt
             have kM4:=kMY.below b4 kMY.lt
             have kA4:=kAY.below b4 kAY.lt
             have own4:=ownY.below b4
             have bel4:=belY.trans (b4.mono belY.size)
             have hB4:=Nat.le_trans hBY b4.size
             clear kF kTY kMY kAY ownY belY hBY b4 HRU f0
             go_upto_region 11 with fail
             obtain ⟨V,hV⟩:∃ V,V = World.drew w4:=⟨_,rfl⟩
             have b_0:Below V.heap.size V V:=Below.refl _ _
             have bV:Below w4.heap.size w4 V:=by rw [hV];exact (Below.refl _ _).drew
             have belV:=bel4.trans (bV.mono bel4.size)
             have kFV:=kF4.below bV kF4.lt
             have kTV:=kT4.below bV kT4.lt
             have kMV:=kM4.below bV kM4.lt
             have kAV:=kA4.below bV kA4.lt
             have ownV:=own4.below bV
             have hBV:=Nat.le_trans hB4 bV.size
             have keep:Hid (∀ {y},Below V.heap.size V y → Blk y gF 29 [.int .i64 (m:Int),.slice ai l ci] ∧ Blk y gT 118 tabCellsI):=fun h=>⟨kFV.below h kFV.lt,kTV.below h kTV.lt⟩
             refine wp_region_held_drew (S:=fun y=>Blk y gF 29 [.int .i64 (m:Int),.slice ai l ci] ∧ Blk y gT 118 tabCellsI) (by kernel_rfl) (by rw [← hV];exact ⟨kFV,kTV⟩) (fun hHeld=>?_)
             rw [← hV] at hHeld ⊢
             clear hV bV kF4 kT4 kM4 kA4 own4 bel4 hB4
             refine tkA (i:=0) (v:=(.int .i64 (ix:Int))) rfl hHeld ?_
             try dsimp only [Act.put]
             refine tkA (i:=1) (v:=(.bool false)) rfl hHeld ?_
             dsimp only [Act.put,List.getElem_toArray,List.getElem_cons_zero,List.getElem_cons_succ]
             simp only [List.setIfInBounds_toArray,List.set_cons_succ,List.set_cons_zero]
             refine tkA (i:=2) (v:=(.bool false)) rfl hHeld ?_
             try dsimp only [Act.put]
             refine tkA (i:=3) (v:=(.pointer (some ⟨gF,0,none⟩))) rfl hHeld ?_
             dsimp only [Act.put,List.getElem_toArray,List.getElem_cons_zero,List.getElem_cons_succ]
             simp only [List.setIfInBounds_toArray,List.set_cons_succ,List.set_cons_zero]
             refine tk (i:=4) (v:=(.int .i64 (m:Int))) rfl (Or.inl ⟨by rfl,fun w1 h=>by have hc:w1.cell? ⟨gF,0,none⟩ = some (.int .i64 (m:Int)):=h.1.cell 0 (by simp);go_simp⟩) hHeld ?_
             try dsimp only [Act.put]
             refine tkA (i:=5) (v:=(.int .i64 la)) rfl hHeld ?_
             dsimp only [Act.put,List.getElem_toArray,List.getElem_cons_zero,List.getElem_cons_succ]
             simp only [List.setIfInBounds_toArray,List.set_cons_succ,List.set_cons_zero]
             refine tkA (i:=6) (v:=(.bool false)) rfl hHeld ?_
             try dsimp only [Act.put]
             refine tkA (i:=7) (v:=(.bool false)) rfl hHeld ?_
             dsimp only [Act.put,List.getElem_toArray,List.getElem_cons_zero,List.getElem_cons_succ]
             simp only [List.setIfInBounds_toArray,List.set_cons_succ,List.set_cons_zero]
             refine tkA (i:=8) (v:=(.bool false)) rfl hHeld ?_
             try dsimp only [Act.put]
             refine tkA (i:=9) (v:=(.slice (some ⟨gT,0,none⟩) 14 14)) rfl hHeld ?_
             dsimp only [Act.put,List.getElem_toArray,List.getElem_cons_zero,List.getElem_cons_succ]
             simp only [List.setIfInBounds_toArray,List.set_cons_succ,List.set_cons_zero]
             refine tkA (i:=10) (v:=(.int .i64 (ix:Int))) rfl hHeld ?_
             try dsimp only [Act.put]
             refine tkA (i:=11) (v:=(.pointer (some ⟨gT,ix * 2,none⟩))) rfl hHeld ?_
             dsimp only [Act.put,List.getElem_toArray,List.getElem_cons_zero,List.getElem_cons_succ]
             simp only [List.setIfInBounds_toArray,List.set_cons_succ,List.set_cons_zero]
             refine tkA (i:=12) (v:=(.pointer (some ⟨gT,ix * 2 + 1,none⟩))) rfl hHeld ?_
             try dsimp only [Act.put]
             refine tk (i:=13) (v:=(.iface T x)) rfl (Or.inl ⟨by rfl,fun w1 h=>by have hc:=HTK.out _ h.2;go_simp⟩) hHeld ?_
             dsimp only [Act.put,List.getElem_toArray,List.getElem_cons_zero,List.getElem_cons_succ]
             simp only [List.setIfInBounds_toArray,List.set_cons_succ,List.set_cons_zero]
             refine tkA (i:=14) (v:=(.pointer (some ⟨gF,1,none⟩))) rfl hHeld ?_
             try dsimp only [Act.put]
             refine tk (i:=15) (v:=(.slice ai l ci)) rfl (Or.inl ⟨by rfl,fun w1 h=>by have hc:w1.cell? ⟨gF,1,none⟩ = some (.slice ai l ci):=h.1.cell 1 (by simp);go_simp⟩) hHeld ?_
             dsimp only [Act.put,List.getElem_toArray,List.getElem_cons_zero,List.getElem_cons_succ]
             simp only [List.setIfInBounds_toArray,List.set_cons_succ,List.set_cons_zero]
             refine rdy1 16 (fun K hK=>?_)
             go_simp
             refine (HFI.out _ (r0.below belV)).mono ?_
             rintro e w_1 ⟨rfl,b_1⟩
             go_wp2_with fail
             refine hK.out _ _ (keep.out b_1) (fun hHeld=>?_)
             clear hK K
             try dsimp only [Act.put]
             refine tkA (i:=17) (v:=(.bool false)) rfl hHeld ?_
             try dsimp only [Act.put]
             refine tkA (i:=18) (v:=(.bool false)) rfl hHeld ?_
             dsimp only [Act.put,List.getElem_toArray,List.getElem_cons_zero,List.getElem_cons_succ]
             simp only [List.setIfInBounds_toArray,List.set_cons_succ,List.set_cons_zero]
             refine wpAnyH_done (by kernel_rfl) ?_ _
             have bZ:=b_1
             clear hHeld
             have kF6:=kFV.below bZ kFV.lt
             have kT6:=kTV.below bZ kTV.lt
             have kM6:=kMV.below bZ kMV.lt
             have kA6:=kAV.below bZ kAV.lt
             have own6:=ownV.below bZ
             have bel6:=belV.trans (bZ.mono belV.size)
             have hB6:=Nat.le_trans hBV bZ.size
             have HSB:Hid (∀ (wx:World),Blk wx gA 88 (BM.map byte) → Calls Tryz.prog 54 #[.slice (some ⟨gA,0,none⟩) 16 16,.int .i64 (m:Int)] wx fun e w'=>e = .returned (.tuple #[]) ∧ Blk w' gA 88 ((setLI BM (m - 1)).map byte) ∧ wx.grownBy w' (some gA) ∧ w'.heap.size = wx.heap.size):=by
               intro wx h
               have h1:=setBit_any BM gA 16 88 (m - 1) wx (by rw [HXL.out];omega) (by rw [HXL.out];have:=HH2.out;omega) h
               rw [HXL.out,show m - 1 + 1 = m from by have:=HH2.out;omega] at h1
               exact h1
             obtain ⟨BM2,hBM2⟩:∃ q,q = setLI BM (m - 1):=⟨_,rfl⟩
             rw [← hBM2] at HSB HB1
             have hfit:l ≤ kpM m:=by
               have h:=fits_len (show fitsN (kpL m) (kpM m) (kpOk m) d = true from HFQ.out.symm)
               rw [HL.out];exact h
             have HLO0:=hideT (fun (wx:World) (hb:Below w.heap.size w wx)=>lengthOf_any hKK.out l ai ci wx (fun w' hb2=>HTT.out w' (hb.trans (hb2.mono hb.size))) (by rcases pad_fit m HMT.out with h | h;exact .inl (by omega);exact .inr h))
             obtain ⟨PL,hPL⟩:∃ q,q = padL (kpD m) l:=⟨_,rfl⟩
             have hPl:PL.length ≤ 3:=by rw [hPL,padL_length];exact kpD_le m
             rw [← hPL] at HLO0
             have HLO:=HLO0
             have HR1:Hid (restE L (k + 1) = (R ++ PL) ++ d):=by show _ = _;rw [HRR.out,hPL,HL.out,List.append_assoc]
             have hRk:R.length ≤ 2097152 * 203:=Nat.le_trans HRL.out (Nat.mul_le_mul_right 203 (by omega))
             have hlP:R.length + PL.length ≤ 1073741824:=by omega
             have hlD:(R ++ PL).length + d.length ≤ 1073741824:=by rw [List.length_append];have:=HDL.out;omega
             have HLP:=hideT hlP
             have HLD:=hideT hlD
             have hrF:=HRF.out
             clear hBM2 hPL hPl hfit hRk hlP hlD HLO0 HRR kFV kTV kMV kAV ownV belV hBV bZ HFQ hKK HFI HRL keep
             go_upto_region 13 with fail
             obtain ⟨U,hU⟩:∃ V,V = World.drew w_1:=⟨_,rfl⟩
             have bU:Below w_1.heap.size w_1 U:=by rw [hU];exact (Below.refl _ _).drew
             have belU:=bel6.trans (bU.mono bel6.size)
             have kFU:=kF6.below bU kF6.lt
             have kTU:=kT6.below bU kT6.lt
             have kMU:=kM6.below bU kM6.lt
             have kAU:=kA6.below bU kA6.lt
             have ownU:=own6.below bU
             have hBU:=Nat.le_trans hB6 bU.size
             refine wp_region_held_drew (S:=fun y=>Blk y gF 29 [.int .i64 (m:Int),.slice ai l ci]) (by kernel_rfl) (by rw [← hU];exact kFU) (fun hHeld=>?_)
             rw [← hU] at hHeld ⊢
             clear hU bU kF6 kT6 kM6 kA6 own6 bel6 hB6
             refine tkA (i:=0) (v:=(.slice (some ⟨gA,0,none⟩) 16 16)) rfl hHeld ?_
             try dsimp only [Act.put]
             refine tkA (i:=1) (v:=(.pointer (some ⟨gF,0,none⟩))) rfl hHeld ?_
             dsimp only [Act.put,List.getElem_toArray,List.getElem_cons_zero,List.getElem_cons_succ]
             simp only [List.setIfInBounds_toArray,List.set_cons_succ,List.set_cons_zero]
             refine tk (i:=2) (v:=(.int .i64 (m:Int))) rfl (Or.inl ⟨by rfl,fun w1 h=>by have hc:w1.cell? ⟨gF,0,none⟩ = some (.int .i64 (m:Int)):=h.cell 0 (by simp);go_simp⟩) hHeld ?_
             try dsimp only [Act.put]
             refine rdy1 3 (fun K hK=>?_)
             go_simp
             refine (HSB.out _ kAU).mono ?_
             rintro e w5 ⟨rfl,kA5,gr5,-⟩
             have kT5:=kTU.grown gr5 (fun e=>by cases e;omega)
             have kM5:=kMU.grown gr5 (fun e=>by cases e;omega)
             have kF5:=kFU.grown gr5 (fun e=>by cases e;omega)
             have own5:OwnB w5 B r R:=World.ownsRow.kept ownU gr5 (by
               cases hv:r.ownBlock
               · exact .inl rfl
               · refine .inr (fun e=>?_)
                 have h1:=(hrF _ hv).1
                 have h2:=Option.some.inj e
                 omega)
             have bel5:=belU.grown gr5 belU.size (fun j hj=>by cases hj;omega)
             have hB5:=Nat.le_trans hBU gr5.size
             go_wp2_with fail
             refine hK.out _ _ kF5 (fun hHeld=>?_)
             clear hK K
             try dsimp only [Act.put]
             refine wpAnyH_done (by kernel_rfl) ?_ _
             clear hHeld
             clear kFU kTU kMU kAU ownU belU hBU gr5 HSB
             go_upto_region 14 with fail
             obtain ⟨X,hX⟩:∃ V,V = World.drew w5:=⟨_,rfl⟩
             have bX:Below w5.heap.size w5 X:=by rw [hX];exact (Below.refl _ _).drew
             have belX:=bel5.trans (bX.mono bel5.size)
             have kFX:=kF5.below bX kF5.lt
             have kTX:=kT5.below bX kT5.lt
             have kMX:=kM5.below bX kM5.lt
             have kAX:=kA5.below bX kA5.lt
             have ownX:=own5.below bX
             have hBX:=Nat.le_trans hB5 bX.size
             refine wp_region_held_drew (S:=fun y=>Blk y gF 29 [.int .i64 (m:Int),.slice ai l ci] ∧ Blk y gT 118 tabCellsI) (by kernel_rfl) (by rw [← hX];exact ⟨kFX,kTX⟩) (fun hHeld=>?_)
             rw [← hX] at hHeld ⊢
             clear hX bX kF5 kT5 kM5 kA5 own5 bel5 hB5
             refine tkA (i:=0) (v:=(r)) rfl hHeld ?_
             dsimp only [Act.put,List.getElem_toArray,List.getElem_cons_zero,List.getElem_cons_succ]
             simp only [List.setIfInBounds_toArray,List.set_cons_succ,List.set_cons_zero]
             refine tkA (i:=1) (v:=(.slice (some ⟨gT,0,none⟩) 14 14)) rfl hHeld ?_
             try dsimp only [Act.put]
             refine tkA (i:=2) (v:=(.int .i64 (ix:Int))) rfl hHeld ?_
             dsimp only [Act.put,List.getElem_toArray,List.getElem_cons_zero,List.getElem_cons_succ]
             simp only [List.setIfInBounds_toArray,List.set_cons_succ,List.set_cons_zero]
             refine tkA (i:=3) (v:=(.pointer (some ⟨gT,ix * 2,none⟩))) rfl hHeld ?_
             try dsimp only [Act.put]
             refine tkA (i:=4) (v:=(.pointer (some ⟨gT,ix * 2 + 1,none⟩))) rfl hHeld ?_
             dsimp only [Act.put,List.getElem_toArray,List.getElem_cons_zero,List.getElem_cons_succ]
             simp only [List.setIfInBounds_toArray,List.set_cons_succ,List.set_cons_zero]
             refine tk (i:=5) (v:=(.iface T x)) rfl (Or.inl ⟨by rfl,fun w1 h=>by have hc:=HTK.out _ h.2;go_simp⟩) hHeld ?_
             try dsimp only [Act.put]
             refine tkA (i:=6) (v:=(.pointer (some ⟨gF,1,none⟩))) rfl hHeld ?_
             dsimp only [Act.put,List.getElem_toArray,List.getElem_cons_zero,List.getElem_cons_succ]
             simp only [List.setIfInBounds_toArray,List.set_cons_succ,List.set_cons_zero]
             refine tk (i:=7) (v:=(.slice ai l ci)) rfl (Or.inl ⟨by rfl,fun w1 h=>by have hc:w1.cell? ⟨gF,1,none⟩ = some (.slice ai l ci):=h.1.cell 1 (by simp);go_simp⟩) hHeld ?_
             try dsimp only [Act.put]
             refine rdy1 8 (fun K hK=>?_)
             go_simp
             refine (HLO.out _ belX).mono ?_
             rintro e w7 ⟨rfl,b7⟩
             have own7:=ownX.below b7
             have kA7:=kAX.below b7 kAX.lt
             have kM7:=kMX.below b7 kMX.lt
             have kT7:=kTX.below b7 kTX.lt
             have kF7:=kFX.below b7 kFX.lt
             have bel7:=belX.trans (b7.mono belX.size)
             have hB7:=Nat.le_trans hBX b7.size
             have HG7:Hid (gF < w7.heap.size):=kF7.lt
             go_wp2_with fail
             refine hK.out _ _ ⟨kF7,kT7⟩ (fun hHeld=>?_)
             clear hK K
             try dsimp only [Act.put]
             refine rdy1 9 (fun K hK=>?_)
             rw [if_pos (by rfl)]
             refine wp_append_text _ _ rfl B _ _ PL rfl own7 rfl HLP.out hB7 ?_
             intro v8 w8 own8 gr8
             have kA8:=kA7.grown gr8 (fun e=>by have:=(World.ownsRow.lt own7 _ e.symm).1;omega)
             have kM8:=kM7.grown gr8 (fun e=>by have:=(World.ownsRow.lt own7 _ e.symm).1;omega)
             have kT8:=kT7.grown gr8 (fun e=>by have:=(World.ownsRow.lt own7 _ e.symm).1;omega)
             have kF8:=kF7.grown gr8 (fun e=>by have:=(hrF _ e.symm).2;omega)
             have bel8:=bel7.grown gr8 bel7.size (fun j hj=>by have:=(World.ownsRow.lt own7 _ hj).1;omega)
             have hB8:=Nat.le_trans hB7 gr8.size
             refine hK.out _ _ ⟨kF8,kT8⟩ (fun hHeld=>?_)
             clear hK K
             try dsimp only [Act.put]
             refine rdy1 10 (fun K hK=>?_)
             go_simp
             refine hK.out _ _ ⟨kF8,kT8⟩ (fun hHeld=>?_)
             clear hK K
             try dsimp only [Act.put]
             refine wpAnyH_done (by kernel_rfl) ?_ _
             clear hHeld
             clear gr8 own7 kA7 kM7 kT7 kF7 bel7 hB7 b7 kFX kTX kMX kAX ownX belX hBX HLO HTK
             have f81:=kF8.cell 1 (by simp)
             have f80:=kF8.cell 0 (by simp)
             have HRD:=hideT (r0.below bel8)
             have hne8:=own_ne own8 kF8 (by decide)
             have HNE8:=hideT hne8
             clear r0 hne8
             go_upto_region 16 with (at_builtin;refine wpList_append_bytes rfl _ _ rfl B _ _ d rfl own8 ai ci (by rw [← show l = d.length from HL.out];rfl) HRD.out HLD.out hB8 ?_;intro v9 w9 own9 gr9)
             have kA9:=kA8.grown gr9 (fun e=>by have:=(World.ownsRow.lt own8 _ e.symm).1;omega)
             have kM9:=kM8.grown gr9 (fun e=>by have:=(World.ownsRow.lt own8 _ e.symm).1;omega)
             have kT9:=kT8.grown gr9 (fun e=>by have:=(World.ownsRow.lt own8 _ e.symm).1;omega)
             have kF9:=kF8.grown gr9 (fun e=>HNE8.out e.symm)
             have bel9:=bel8.grown gr9 bel8.size (fun j hj=>by have:=(World.ownsRow.lt own8 _ hj).1;omega)
             have hB9:=Nat.le_trans hB8 gr9.size
             have f9:=kF9.cell 0 (by simp)
             clear gr9 own8 kA8 kM8 kT8 kF8 bel8 hB8 f81 f80 HRD HNE8 kF9
             go_wp2_with fail
             go_roundw
             case rel=>exact ⟨k + 1,_,by omega,by go_num,rfl,by rw [HNX.out],by rw [HR1.out];exact own9,by rw [HB1.out];exact kA9,kT9,kM9,bel9,hB9,fun j hj=>by
               by_cases hjk:j = k
               · rw [hjk,← HOB.out];exact HOF.out
               · exact HOK.out j (by omega)⟩
             case measure=>simp [intOf];omega
     · have hltI:¬ (k:Int) < (n:Int):=by omega
       obtain rfl:k = n:=by omega
       have hok:=HYOK.out (fun i hi=>HOK.out i hi)
       have HEQ:=hideT (HGOOD.out trivial hok)
       have h14:=okL_len hok
       have HRL:=HRS.out k HOK.out
       have hXl:=bmE_length L k
       have hnL:k = L.length:=HN.out
       have HMP:Hid (mapsE L = if 64 < bef L k then setLI (bmE L k) 0 else (bmE L k).take 8):=by rw [hnL];exact (rfl:mapsE L = mapsE L)
       rw [← hnL] at HEQ h14
       obtain ⟨la,hla⟩:∃ q,q = bef L k:=⟨_,rfl⟩
       obtain ⟨R,hR⟩:∃ q,q = restE L k:=⟨_,rfl⟩
       obtain ⟨BM,hBM⟩:∃ q,q = bmE L k:=⟨_,rfl⟩
       rw [← hla] at HMP ⊢
       rw [← hR] at own HEQ HRL
       rw [← hBM] at kA HMP hXl
       have hRs:R.length ≤ 14 * 203:=Nat.le_trans HRL (Nat.mul_le_mul_right 203 h14)
       have HXL:=hideT hXl
       have HRS2:=hideT hRs
       have hsl:s.data.toList.length = 4:=by rw [Array.length_toList];exact hs4.out
       have HSL:=hideT hsl
       obtain ⟨ar,cr,hre,rR,hRlow,-⟩:=own.own.shape
       have HRE:=hideT hre
       clear hok h14 HRL hXl hla hR hBM hnL hRs hsl HOK HYOK HNOK HRS hre hRlow HF
       by_cases h64:64 < la
       · rw [if_pos h64] at HMP
         have h64I:(64:Int) < la:=h64
         have HSB:Hid (∀ (wx:World),Blk wx gA 88 (BM.map byte) → Calls Tryz.prog 54 #[.slice (some ⟨gA,0,none⟩) 16 16,.int .i64 1] wx fun e w'=>e = .returned (.tuple #[]) ∧ Blk w' gA 88 ((setLI BM 0).map byte) ∧ wx.grownBy w' (some gA) ∧ w'.heap.size = wx.heap.size):=by
           intro wx h
           have h1:=setBit_any BM gA 16 88 0 wx (by rw [HXL.out];omega) (by rw [HXL.out];omega) h
           rw [HXL.out] at h1
           exact h1
         have hMl:(setLI BM 0).length = 16:=by rw [setLI_length];exact HXL.out
         obtain ⟨BM2,hBM2⟩:∃ q,q = setLI BM 0:=⟨_,rfl⟩
         rw [← hBM2] at HSB HMP hMl
         have HML:=hideT hMl
         clear hBM2 hMl
         have hrF:=fun j hj=>World.ownsRow.lt own j hj
         go_upto_region 22 with (go_at_call 54;refine (HSB.out _ kA).mono ?_;rintro e w5 ⟨rfl,kA5,gr5,-⟩)
         have kM5:=kM.grown gr5 (fun e=>by cases e;omega)
         have own5:OwnB w5 B r R:=World.ownsRow.kept own gr5 (by
           cases hv:r.ownBlock
           · exact .inl rfl
           · refine .inr (fun e=>?_)
             have h1:=(hrF _ hv).1
             have h2:=Option.some.inj e
             omega)
         have bel5:=hbx.grown gr5 hbx.size (fun j hj=>by cases hj;omega)
         have rM:=row_of_blkT kA5
         clear gr5 kA kM own hbx hrF kA5 rR
         have m0:=kM5.cell 0 (by simp)
         obtain ⟨vc,wc,hrun,ownc,belc⟩:=conv_T w5 s (by rw [hs4.out];omega)
         obtain ⟨gc,cc2,rfl,-,-,rc⟩:=ownc.row
         have rM2:=rM.below belc
         obtain ⟨ar5,cr5,rfl,rR5,-⟩:=own5.own.shape
         have rR6:=rR5.below belc
         have bel6:=bel5.trans (belc.mono bel5.size)
         clear ownc belc rM own5 rR5 kM5 bel5
         go_wp2_with fail
         obtain ⟨Wb,hWb⟩:∃ y,y = wc.alloc (Obj.cells #[.slice (some ⟨gc,0,none⟩) s.size cc2,.slice (some ⟨gA,0,none⟩) 16 16,.slice ar5 R.length cr5] 22):=⟨_,rfl⟩
         rw [← hWb]
         have bB:Below wc.heap.size wc Wb:=by rw [hWb];exact below_newT _ _
         have kB:Blk Wb wc.heap.size 22 [.slice (some ⟨gc,0,none⟩) s.size cc2,.slice (some ⟨gA,0,none⟩) 16 16,.slice ar5 R.length cr5]:=by rw [hWb];exact Blk.new _ _ _
         have bel7:=bel6.trans (bB.mono bel6.size)
         clear hWb
         refine (concatN_any [.slice (some ⟨gc,0,none⟩) s.size cc2,.slice (some ⟨gA,0,none⟩) 16 16,.slice ar5 R.length cr5] [s.data.toList,BM2,R] wc.heap.size 0 3 3 Wb rfl rfl (by omega) (by simp only [List.flatten_cons,List.flatten_nil,List.length_append,List.length_nil];have h1:=HSL.out;have h2:=HML.out;have h3:=HRS2.out;omega) (fun i x hx=>by
             obtain ⟨hlt,rfl⟩:=List.getElem?_eq_some_iff.1 hx
             have h:=kB.cell i hlt
             rw [Nat.zero_add]
             exact h) (fun i hi=>by
             match i,hi with
             | 0,_=>exact ⟨_,_,(by show Value.slice _ s.size _ = Value.slice _ s.data.toList.length _;rw [Array.length_toList];rfl),rc.below bB⟩
             | 1,_=>exact ⟨some ⟨gA,0,none⟩,16,(by show Value.slice _ 16 _ = Value.slice _ BM2.length _;rw [HML.out]),rM2.below bB⟩
             | 2,_=>exact ⟨_,_,rfl,rR6.below bB⟩)).mono ?_
         rintro e w9 ⟨v9,rfl,own9,b9⟩
         go_wp2_with fail
         go_ret
         exact ⟨_,rfl,(by
           have e9:[s.data.toList,BM2,R].flatten = encLI s L:=by rw [HEQ.out,HMP.out];simp
           rw [← e9]
           exact own9.own.monoI bel7.size),bel7.trans (b9.mono bel7.size)⟩
       · rw [if_neg h64] at HMP
         have h64I:¬ (64:Int) < la:=h64
         have hMl:(BM.take 8).length = 8:=by rw [List.length_take,HXL.out];rfl
         have rM:=RowAt.take (row_of_blkT kA) 8
         obtain ⟨BM2,hBM2⟩:∃ q,q = BM.take 8:=⟨_,rfl⟩
         rw [← hBM2] at HMP hMl rM
         have HML:=hideT hMl
         clear hBM2 hMl
         go_upto_region 22 with fail
         have kM5:=kM
         have own5:=own
         have bel5:=hbx
         obtain ⟨w5,hw5⟩:∃ y,y = wr:=⟨_,rfl⟩
         rw [← hw5] at kM5 own5 bel5 rM ⊢
         clear kA kM own hbx rR hw5
         have m0:=kM5.cell 0 (by simp)
         obtain ⟨vc,wc,hrun,ownc,belc⟩:=conv_T w5 s (by rw [hs4.out];omega)
         obtain ⟨gc,cc2,rfl,-,-,rc⟩:=ownc.row
         have rM2:=rM.below belc
         obtain ⟨ar5,cr5,rfl,rR5,-⟩:=own5.own.shape
         have rR6:=rR5.below belc
         have bel6:=bel5.trans (belc.mono bel5.size)
         clear ownc belc rM own5 rR5 kM5 bel5
         go_wp2_with fail
         obtain ⟨Wb,hWb⟩:∃ y,y = wc.alloc (Obj.cells #[.slice (some ⟨gc,0,none⟩) s.size cc2,.slice (some ⟨gA,0,none⟩) 8 16,.slice ar5 R.length cr5] 22):=⟨_,rfl⟩
         rw [← hWb]
         have bB:Below wc.heap.size wc Wb:=by rw [hWb];exact below_newT _ _
         have kB:Blk Wb wc.heap.size 22 [.slice (some ⟨gc,0,none⟩) s.size cc2,.slice (some ⟨gA,0,none⟩) 8 16,.slice ar5 R.length cr5]:=by rw [hWb];exact Blk.new _ _ _
         have bel7:=bel6.trans (bB.mono bel6.size)
         clear hWb
         refine (concatN_any [.slice (some ⟨gc,0,none⟩) s.size cc2,.slice (some ⟨gA,0,none⟩) 8 16,.slice ar5 R.length cr5] [s.data.toList,BM2,R] wc.heap.size 0 3 3 Wb rfl rfl (by omega) (by simp only [List.flatten_cons,List.flatten_nil,List.length_append,List.length_nil];have h1:=HSL.out;have h2:=HML.out;have h3:=HRS2.out;omega) (fun i x hx=>by
             obtain ⟨hlt,rfl⟩:=List.getElem?_eq_some_iff.1 hx
             have h:=kB.cell i hlt
             rw [Nat.zero_add]
             exact h) (fun i hi=>by
             match i,hi with
             | 0,_=>exact ⟨_,_,(by show Value.slice _ s.size _ = Value.slice _ s.data.toList.length _;rw [Array.length_toList];rfl),rc.below bB⟩
             | 1,_=>exact ⟨some ⟨gA,0,none⟩,16,(by show Value.slice _ 8 _ = Value.slice _ BM2.length _;rw [HML.out]),rM2.below bB⟩
             | 2,_=>exact ⟨_,_,rfl,rR6.below bB⟩)).mono ?_
         rintro e w9 ⟨v9,rfl,own9,b9⟩
         go_wp2_with fail
         go_ret
         exact ⟨_,rfl,(by
           have e9:[s.data.toList,BM2,R].flatten = encLI s L:=by rw [HEQ.out,HMP.out];simp
           rw [← e9]
           exact own9.own.monoI bel7.size),bel7.trans (b9.mono bel7.size)⟩
end Go.Proofs.YtbkokcjolanpeaaGreatDoor
