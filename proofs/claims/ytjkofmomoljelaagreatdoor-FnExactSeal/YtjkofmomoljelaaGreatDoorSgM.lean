import Derived.Test.YtjkofmomoljelaaGreatDoorSgL
namespace Go.Proofs.YtjkofmomoljelaaGreatDoor
open Go.RowKit
theorem sealL_le (master key:List UInt8) (s:ByteArray) (L:List (Int × List UInt8)):(sealL master key s L).length ≤ 8192:=by
 unfold sealL
 split
 · simp
 · split
   · rw [List.length_append]
     have h1:=macL_le master key (aheadL s L)
     have h2:=(encLI_small s (sealF L)).1
     have h3:(aheadL s L).length ≤ (encLI s (sealF L)).length:=by unfold aheadL;rw [List.length_take];omega
     omega
   · simp
theorem Own.keeps {w w':World} {hi lo:Nat} {v:Value} {l:List UInt8} (h:Own w lo v l) (k:Keeps hi w w') (hl:hi ≤ lo):Own w' lo v l:=by
 obtain ⟨t,h1,h2⟩:=h
 refine ⟨t,h1,?_⟩
 rcases h2 with h2 | ⟨g,cap,cur,hv,hb,hh,hrest⟩
 · exact .inl h2
 · exact .inr ⟨g,cap,cur,hv,hb,(k g (by omega) (lt_of_block hh)).trans hh,hrest⟩
theorem ownR_low {w w':World} {lo g e size n:Nat} {v:Value} {xs:List Value} (h:w.ownsRow lo e size v n xs) (hg:w.grownBy w' (some g)) (hl:g < lo):w'.ownsRow lo e size v n xs:=by
 refine World.ownsRow.kept h hg ?_
 cases hb:v.ownBlock with
 | none=>exact .inl rfl
 | some k=>exact .inr (fun e=>by cases e;have:=(h.lt _ hb).1;omega)
theorem Own.low {w w':World} {lo g:Nat} {v:Value} {l:List UInt8} (h:Own w lo v l) (hg:w.grownBy w' (some g)) (hl:g < lo):Own w' lo v l:=by
 obtain ⟨t,h⟩:=h
 exact ⟨t,ownR_low h hg hl⟩
theorem Z.Fs.low {w w':World} {lo g:Nat} {v:Value} {L:List (Int × List UInt8)} {vs:List Value} (h:Z.Fs w lo v L vs) (hg:w.grownBy w' (some g)) (hl:g < lo):Z.Fs w' lo v L vs :=
 ⟨h.len,ownR_low h.row hg hl,fun i hi=>(h.own i hi).low hg hl,h.sep,h.ap⟩
theorem Z.Fs.fr {w:World} {lo:Nat} {v:Value} {L:List (Int × List UInt8)} {vs:List Value} (h:Z.Fs w lo v L vs):Fr w v L:=by
 refine ⟨h.shape,fun i hi=>?_⟩
 obtain ⟨g,c,ai,ci,hv,c1,c2,r,-⟩:=h.at hi
 exact ⟨g,0,c,ai,ci,hv,by rw [Nat.zero_add];exact c1,by rw [Nat.zero_add];exact c2,r⟩
set_option maxRecDepth 100000 in
set_option maxHeartbeats 8000000 in
theorem lawSeal_main (master key:List UInt8) (s:ByteArray) (L:List (Int × List UInt8)) (am ak:Option Addr) (cm ck:Nat) (v:Value) (y0 y1:Addr) (w:World) (hnm:master.length ≤ 1048576) (hnk:key.length ≤ 1048576) (hs0:Sents w y0 y1) (rm:RowAt w am master) (rk:RowAt w ak key) (F:Fr w v L) (hz:s.size ≤ maxLen) (hn:L.length ≤ maxLen) (hs:∀ p ∈ L,p.2.length ≤ maxLen) (hT:∀ w',Below w.heap.size w w' → Lib.TabIs Tryz.prog w' "internal/strconv.uint64pow10" .u64 Lib.pow10Tab) :
   Calls Tryz.prog 5 #[.slice am master.length cm,.slice ak key.length ck,.agg #[.string s,v]] w fun e w'=>e = .returned (.bool true) ∧ Below w.heap.size w w':=by
 obtain ⟨x1,c1,rfl⟩:=F.sh
 have HSM:=hideT (fun (wx:World) (h:Fr wx (.slice x1 L.length c1) L)=>szMsg_any s L _ wx h hz hn hs)
 have HTM0:=hideT (fun (wx:World) (h:Fr wx (.slice x1 L.length c1) L)=>toMsg_any s L _ wx h)
 have HTA:=hideT (fun (wx:World) (h:RowAt wx am master)=>toByteS_any am cm master wx hnm h)
 have HTK:=hideT (fun (wx:World) (h:RowAt wx ak key)=>toByteS_any ak ck key wx hnk h)
 have HSS0:=hideT (fun hsz hL (g1 g2 g3:Nat) (wx:World) (r1:RowAt wx (some ⟨g1,0,none⟩) master) (r2:RowAt wx (some ⟨g2,0,none⟩) key) (h:Fr wx (.slice (some ⟨g3,0,none⟩) L.length L.length) L)=>sealS_any master key s L hz hsz hL (some ⟨g1,0,none⟩) (some ⟨g2,0,none⟩) master.length key.length _ wx hnm (Nat.le_refl _) r1 r2 h)
 have HSI0:=hideT (fun hsz hL (g1 g2 g3:Nat) (wx:World) (hw:Below w.heap.size w wx) (r1:RowAt wx (some ⟨g1,0,none⟩) master) (r2:RowAt wx (some ⟨g2,0,none⟩) key) (h:Fr wx (.slice (some ⟨g3,0,none⟩) L.length L.length) L)=>seal_any master key s L hsz hL (some ⟨g1,0,none⟩) (some ⟨g2,0,none⟩) master.length key.length _ y0 y1 wx (Nat.le_refl _) (hs0.below hw) r1 r2 h (fun w' hb=>hT w' (hw.trans (hb.mono hw.size))))
 have HEM0:=hideT (fun hsz hL (g1 g2:Nat) (lo1 lo2:Nat) (vs1 vs2:List Value) (wx:World) (F1:Z.Fs wx lo1 (.slice (some ⟨g1,0,none⟩) L.length L.length) L vs1) (F2:Z.Fs wx lo2 (.slice (some ⟨g2,0,none⟩) L.length L.length) L vs2)=>Z.eqMsg_any s L hsz hL _ _ lo1 lo2 vs1 vs2 wx F1 F2)
 have HMM0:=hideT (fun hsz hL hM (g lo:Nat) (vs:List Value) (wx:World) (F:Z.Fs wx lo (.slice (some ⟨g,0,none⟩) L.length L.length) L vs) (hlo:lo ≤ wx.heap.size) (hi:Nat) (U:Under (.slice (some ⟨g,0,none⟩) L.length L.length) vs L.length hi)=>Z.markMsg_any s L hsz hL (1 + master.length + key.length) hM _ lo vs wx F hlo hi U)
 have HEL:=sealL_le master key s L
 have HTOT:=hideT (fun (h:(s.size:Int) + (L.length:Int) + (totL L:Nat) ≤ 1048576)=>(⟨fun p hp=>by have:=totL_mem L p hp;omega,by omega,by rw [markN_tot];omega⟩:(∀ p ∈ L,p.2.length ≤ 1048576) ∧ L.length ≤ 1048576 ∧ Z.markN L (1 + master.length + key.length) ≤ 4194304))
 have HEA:=hideT (fun (a1 a2:Option Addr) (q1 q2:Nat) (wx:World) (h1:RowAt wx a1 master) (h2:RowAt wx a2 master)=>eqByteS_any a1 a2 q1 q2 master wx hnm h1 h2)
 have HEK:=hideT (fun (a1 a2:Option Addr) (q1 q2:Nat) (wx:World) (h1:RowAt wx a1 key) (h2:RowAt wx a2 key)=>eqByteS_any a1 a2 q1 q2 key wx hnk h1 h2)
 have HMA:=hideT (fun (lo:Nat) (a:Option Addr) (q:Nat) (wx:World) (h:Own wx lo (.slice a master.length q) master)=>markByteS_any lo a q master 1 wx hnm (by omega) h)
 have HMK:=hideT (fun (lo:Nat) (a:Option Addr) (q:Nat) (wx:World) (h:Own wx lo (.slice a key.length q) key)=>markByteS_any lo a q key (1 + master.length) wx hnk (by omega) h)
 obtain ⟨mk,hmk⟩:∃ q,q = Z.markN L (1 + master.length + key.length):=⟨_,rfl⟩
 obtain ⟨E,hE⟩:∃ q,q = sealL master key s L:=⟨_,rfl⟩
 rw [← hmk] at HMM0 HTOT
 rw [← hE] at HSS0 HSI0 HEL
 have HEB:=hideT (fun (a1 a2:Option Addr) (q1 q2:Nat) (wx:World) (h1:RowAt wx a1 E) (h2:RowAt wx a2 E)=>eqByteS_any a1 a2 q1 q2 E wx (by omega) h1 h2)
 have HMB:=hideT (fun (lo:Nat) (a:Option Addr) (q:Nat) (wx:World) (h:Own wx lo (.slice a E.length q) E)=>markByteS_any lo a q E 1 wx (by omega) (by omega) h)
 have HHB:=hideT (fun (a:Option Addr) (q:Nat) (wx:World) (h:RowAt wx a (marks 1 E.length))=>heldByteS_any a q E.length 1 wx (by omega) (by omega) h)
 obtain ⟨ne,hne⟩:∃ q,q = E.length:=⟨_,rfl⟩
 obtain ⟨n,hnn⟩:∃ q,q = L.length:=⟨_,rfl⟩
 obtain ⟨n1,hn1⟩:∃ q,q = master.length:=⟨_,rfl⟩
 obtain ⟨n2,hn2⟩:∃ q,q = key.length:=⟨_,rfl⟩
 rw [← hnn] at F HSM HTM0 HSS0 HSI0 HEM0 HMM0 HTOT ⊢
 rw [← hne] at HSS0 HEB HMB HHB
 rw [← hn1] at HTA HSS0 HSI0 HMM0 HEA HMA HMK hnm ⊢
 rw [← hn2] at HTK HSS0 HSI0 HMM0 HEK HMK hnk ⊢
 obtain ⟨mb,hmb⟩:∃ q,q = 1 + ne:=⟨_,rfl⟩
 rw [← hmb] at HMB HHB
 obtain ⟨k1m,hk1m⟩:∃ q,q = 1 + n1:=⟨_,rfl⟩
 rw [← hk1m] at HMA HMK HMM0
 obtain ⟨k2m,hk2m⟩:∃ q,q = k1m + n2:=⟨_,rfl⟩
 rw [← hk2m] at HMK HMM0
 have hmb0:¬ (mb:Int) < 0:=by omega
 have hmk0:¬ (mk:Int) < 0:=by omega
 have hn1I:¬ (1048576:Int) < (n1:Int):=by omega
 have hn2I:¬ (1048576:Int) < (n2:Int):=by omega
 have HNE:=hideT hne
 have HNN:=hideT hnn
 have HF:=hideT F
 have HRM:=hideT rm
 have HRK:=hideT rk
 obtain ⟨W,hW⟩:∃ y,y = w.alloc (Obj.cells #[.string s,.slice x1 n c1] 46):=⟨_,rfl⟩
 obtain ⟨g0,hg0⟩:∃ q,q = w.heap.size:=⟨_,rfl⟩
 have k0:Blk W g0 46 [.string s,.slice x1 n c1]:=by rw [hW,hg0];exact Blk.new _ _ _
 have bW:Below w.heap.size w W:=by rw [hW];exact below_newT _ _
 have HW:=hideT hW
 have HG0:=hideT hg0
 clear hmk hE hne hnn hn1 hn2 hmb hk1m hk2m hW hg0 F hz hn hs hT HEL hs0 rm rk hnm hnk
 go_enter Tryz.func5,Tryz.ntmps5
 go_upto_region 6 with fail
 rw [← show W = _ from HW,← show g0 = _ from HG0]
 clear HW HG0
 go_wp2_with (refine load_blk rfl 46 _ rfl g0 rfl k0 Tryz.underlying46 rfl (by kernel_rfl) ?_)
 refine (HSM.out _ (HF.out.below bW)).mono ?_
 rintro e w1 ⟨r,rfl,hr1,hr2,hr3,b1⟩
 have bz1:=bW.trans (b1.mono bW.size)
 have k1:=k0.below b1 k0.lt
 clear k0 b1 bW HSM
 by_cases hneg:r < 0
 · clear hr3
   go_wp2_with fail
   go_ret
   exact ⟨rfl,bz1⟩
 obtain ⟨hsz,hL,hM⟩:=HTOT.out (hr3 (by omega))
 have HTM:=hideT (fun (wx:World) (h:Fr wx (.slice x1 n c1) L)=>HTM0.out wx h hL hsz)
 have HSS:=hideT (HSS0.out hsz hL)
 have HSI:=hideT (HSI0.out hsz hL)
 have HEM:=hideT (HEM0.out hsz hL)
 have HMM:=hideT (HMM0.out hsz hL hM)
 clear HTM0 HSS0 HSI0 HEM0 HMM0 hsz hL hM HTOT hr3
 go_upto_region 9 with fail
 clear hr1 hr2 hneg
 obtain ⟨V,hV⟩:∃ V,V = World.drew w1:=⟨_,rfl⟩
 have b_0:Below V.heap.size V V:=Below.refl _ _
 have bV:Below w1.heap.size w1 V:=by rw [hV];exact (Below.refl _ _).drew
 have belV:=bz1.trans (bV.mono bz1.size)
 have k0V:=k1.below bV k1.lt
 have keep:Hid (∀ {y},Below V.heap.size V y → Blk y g0 46 [.string s,.slice x1 n c1]):=fun h=>k0V.below h k0V.lt
 refine wp_region_held_drew (S:=fun y=>Blk y g0 46 [.string s,.slice x1 n c1]) (by kernel_rfl) (by rw [← hV];exact k0V) (fun hHeld=>?_)
 rw [← hV] at hHeld ⊢
 clear hV
 refine tk (i:=0) (v:=(.slice am n1 cm)) rfl (Or.inl ⟨by rfl,?_⟩) hHeld ?_
 · intro _ _;go_simp
 try dsimp only [Act.put]
 refine tk (i:=2) (v:=(.slice ak n2 ck)) rfl (Or.inl ⟨by rfl,?_⟩) hHeld ?_
 · intro _ _;go_simp
 dsimp only [Act.put,List.getElem_toArray,List.getElem_cons_zero,List.getElem_cons_succ]
 simp only [List.setIfInBounds_toArray,List.set_cons_succ,List.set_cons_zero]
 refine tk (i:=4) (v:=(.agg #[.string s,.slice x1 n c1])) rfl (Or.inl ⟨by rfl,fun w1 h=>by have hc0:=h.cell 0 (by simp);have hc1:=h.cell 1 (by simp);go_simp⟩) hHeld ?_
 try dsimp only [Act.put]
 refine rdy1 1 (fun K hK=>?_)
 go_simp
 refine (HTA.out _ (HRM.out.below belV)).mono ?_
 rintro e u1 ⟨rfl,oA,b_1⟩
 obtain ⟨aA,qA,eA,rA,-⟩:=oA.shape
 simp only [Value.slice.injEq] at eA
 obtain ⟨rfl,-,-⟩:=eA
 clear oA
 have bz_1:=belV.trans (b_1.mono belV.size)
 go_wp2_with fail
 refine hK.out _ _ (keep.out b_1) (fun hHeld=>?_)
 clear hK K
 try dsimp only [Act.put]
 refine rdy1 3 (fun K hK=>?_)
 go_simp
 refine (HTK.out _ (HRK.out.below bz_1)).mono ?_
 rintro e u3 ⟨rfl,oB,c_3⟩
 obtain ⟨aB,qB,eB,rB,-⟩:=oB.shape
 simp only [Value.slice.injEq] at eB
 obtain ⟨rfl,-,-⟩:=eB
 clear oB
 have rA3:=rA.below c_3
 have b_3:=b_1.trans (c_3.mono b_1.size)
 have bz_3:=belV.trans (b_3.mono belV.size)
 clear rA
 go_wp2_with fail
 refine hK.out _ _ (keep.out b_3) (fun hHeld=>?_)
 clear hK K
 try dsimp only [Act.put]
 refine rdy1 5 (fun K hK=>?_)
 go_simp
 refine (HTM.out _ (HF.out.below bz_3)).mono ?_
 rintro e u5 ⟨gC,rfl,⟨vsC,FC⟩,c_5⟩
 have HFC:=hideT FC.fr
 have rA5:=rA3.below c_5
 have rB5:=rB.below c_5
 have b_5:=b_3.trans (c_5.mono b_3.size)
 have bz_5:=belV.trans (b_5.mono belV.size)
 clear FC rA3 rB
 go_wp2_with fail
 refine hK.out _ _ (keep.out b_5) (fun hHeld=>?_)
 clear hK K
 try dsimp only [Act.put]
 refine rdy1 6 (fun K hK=>?_)
 go_simp
 refine (HSS.out _ _ _ _ rA5 rB5 HFC.out).mono ?_
 rintro e u6 ⟨ao,co,rfl,rS6,c_6⟩
 have b_6:=b_5.trans (c_6.mono b_5.size)
 go_wp2_with fail
 refine hK.out _ _ (keep.out b_6) (fun hHeld=>?_)
 clear hK K
 try dsimp only [Act.put]
 refine rdy1 7 (fun K hK=>?_)
 go_simp
 refine hK.out _ _ (keep.out b_6) (fun hHeld=>?_)
 clear hK K
 try dsimp only [Act.put]
 refine wpAnyH_done (by kernel_rfl) ?_ _
 have bV6:=b_6
 clear hHeld
 have b16:=bV.trans (bV6.mono bV.size)
 have bz3:=bz1.trans (b16.mono bz1.size)
 have k3:=k1.below b16 k1.lt
 obtain ⟨w3,hw3⟩:∃ y,y = u6:=⟨_,rfl⟩
 rw [← hw3] at rS6 b16 bz3 k3 ⊢
 have rS3:=rS6
 clear hw3 rS6 b16 k1 bz1 bV bV6 belV k0V keep b_0 b_1 b_3 b_5 c_3 c_5 c_6 bz_1 bz_3 bz_5 rA5 rB5 HFC HSS
 go_wp2_with fail
 refine (HTA.out _ (HRM.out.below bz3)).mono ?_
 rintro e w4 ⟨rfl,oA4,b4⟩
 obtain ⟨gA,hgA⟩:∃ q,q = w3.heap.size:=⟨_,rfl⟩
 have hlA:w3.heap.size ≤ gA:=by rw [hgA];exact Nat.le_refl _
 have hlA2:=(own_lt oA4 w3.heap.size rfl).2
 rw [← hgA] at oA4 hlA2 ⊢
 have bz4:=bz3.trans (b4.mono bz3.size)
 clear hgA
 go_wp2_with fail
 refine (HTK.out _ (HRK.out.below bz4)).mono ?_
 rintro e w5 ⟨rfl,oB5,b5⟩
 obtain ⟨gB,hgB⟩:∃ q,q = w4.heap.size:=⟨_,rfl⟩
 have hAB:gA < gB:=by rw [hgB];exact hlA2
 have hlB2:=(own_lt oB5 w4.heap.size rfl).2
 have oA5:=oA4.below b5
 have b35:=b4.trans (b5.mono b4.size)
 have hlB:w4.heap.size ≤ gB:=by rw [hgB];exact Nat.le_refl _
 rw [← hgB] at oB5 hlB2 ⊢
 have bz5:=bz3.trans (b35.mono bz3.size)
 have k5:=k3.below b35 k3.lt
 clear hgB oA4 b4 b5 bz4
 go_upto_region 12 with fail
 go_wp2_with (refine load_blk rfl 46 _ rfl g0 rfl k5 Tryz.underlying46 rfl (by kernel_rfl) ?_)
 refine (HTM.out _ (HF.out.below bz5)).mono ?_
 rintro e w6 ⟨gX,rfl,⟨vsX,FX⟩,b6⟩
 obtain ⟨loX,hloX⟩:∃ q,q = w5.heap.size:=⟨_,rfl⟩
 have hBX:gB < loX:=by rw [hloX];exact hlB2
 have hloX3:w3.heap.size ≤ loX:=by rw [hloX];exact b35.size
 have oA6:=oA5.below b6
 have oB6:=oB5.below b6
 have b36:=b35.trans (b6.mono b35.size)
 obtain ⟨X4,hX4⟩:∃ y,y = w6.alloc (Obj.cells #[.string s,.slice (some ⟨gX,0,none⟩) n n] 30):=⟨_,rfl⟩
 obtain ⟨gM,hgM⟩:∃ q,q = w6.heap.size:=⟨_,rfl⟩
 have U4:=FX.under
 rw [← HNN.out,← hgM] at U4
 rw [← hloX] at FX
 have kX4:Blk X4 gM 30 [.string s,.slice (some ⟨gX,0,none⟩) n n]:=by rw [hX4,hgM];exact Blk.new _ _ _
 have bX4:Below w6.heap.size w6 X4:=by rw [hX4];exact below_newT _ _
 have FX4:=FX.below bX4
 have oAX:=oA6.below bX4
 have oBX:=oB6.below bX4
 have b3x:=b36.trans (bX4.mono b36.size)
 have hlM:loX ≤ gM:=by rw [hgM,hloX];exact b6.size
 have HU4:=hideT U4
 have HX4:=hideT hX4
 have HGM:=hideT hgM
 clear hX4 hgM FX b6 bX4 U4 hloX oA5 oB5 oA6 oB6 b35 b36 bz5 k5 hlB2
 go_upto_region 13 with fail
 rw [← show X4 = _ from HX4,← show gM = _ from HGM]
 clear HX4 HGM
 have HFX:=hideT FX4.fr
 obtain ⟨aA,qA,eA,rA,-⟩:=oAX.shape
 simp only [Value.slice.injEq] at eA
 obtain ⟨rfl,-,rfl⟩:=eA
 obtain ⟨aB,qB,eB,rB,-⟩:=oBX.shape
 simp only [Value.slice.injEq] at eB
 obtain ⟨rfl,-,rfl⟩:=eB
 go_wp2_with (refine load_blk rfl 30 _ rfl gM rfl kX4 Tryz.underlying30 rfl (by kernel_rfl) ?_)
 refine (HSI.out _ _ _ _ (bz3.trans (b3x.mono bz3.size)) rA rB HFX.out).mono ?_
 rintro e w7 ⟨v7,rfl,own7,b7⟩
 obtain ⟨a7,q7,rfl,r7,-⟩:=own7.shape
 rw [← HNE.out] at own7 ⊢
 have hgMX:gM < X4.heap.size:=kX4.lt
 obtain ⟨lo7,hlo7⟩:∃ q,q = X4.heap.size:=⟨_,rfl⟩
 rw [← hlo7] at own7 hgMX
 have kX7:=kX4.below b7 kX4.lt
 have FX7:=FX4.below b7
 have oA7:=oAX.below b7
 have oB7:=oBX.below b7
 have b37:=b3x.trans (b7.mono b3x.size)
 have rS7:=rS3.below b37
 clear hlo7 kX4 FX4 HFX b7 b3x rA rB oAX oBX
 go_wp2_with fail
 refine (HEB.out _ _ _ _ _ r7 rS7).mono ?_
 rintro e w8 ⟨rfl,m8,hw8⟩
 have b8:Below w7.heap.size w7 w8:=by rw [hw8];exact below_drewN _ _
 have kX8:=kX7.below b8 kX7.lt
 have FX8:=FX7.below b8
 have oA8:=oA7.below b8
 have oB8:=oB7.below b8
 have own8:=own7.below b8
 have b38:=b37.trans (b8.mono b37.size)
 clear hw8 b8 kX7 FX7 oA7 oB7 own7 b37 rS7 r7
 have bz8:=bz3.trans (b38.mono bz3.size)
 go_wp2_with fail
 refine (HTA.out _ (HRM.out.below bz8)).mono ?_
 rintro e w9 ⟨rfl,oD,b9⟩
 obtain ⟨aD,qD,eD,rD,-⟩:=oD.shape
 simp only [Value.slice.injEq] at eD
 obtain ⟨rfl,-,-⟩:=eD
 have oA9:=oA8.below b9
 obtain ⟨aA,qA,eA,rA,-⟩:=oA9.shape
 simp only [Value.slice.injEq] at eA
 obtain ⟨rfl,-,-⟩:=eA
 go_wp2_with fail
 refine (HEA.out _ _ _ _ _ rA rD).mono ?_
 rintro e w10 ⟨rfl,m10,hw10⟩
 have b10:Below w8.heap.size w8 w10:=b9.trans ((show Below w9.heap.size w9 w10 from by rw [hw10];exact below_drewN _ _).mono b9.size)
 have kX10:=kX8.below b10 kX8.lt
 have FX10:=FX8.below b10
 have oA10:=oA8.below b10
 have oB10:=oB8.below b10
 have own10:=own8.below b10
 have b310:=b38.trans (b10.mono b38.size)
 have bz10:=bz3.trans (b310.mono bz3.size)
 clear hw10 b9 b10 kX8 FX8 oA8 oB8 own8 b38 bz8 oD rD oA9 rA
 go_wp2_with fail
 refine (HTK.out _ (HRK.out.below bz10)).mono ?_
 rintro e w11 ⟨rfl,oD,b11⟩
 obtain ⟨aD,qD,eD,rD,-⟩:=oD.shape
 simp only [Value.slice.injEq] at eD
 obtain ⟨rfl,-,-⟩:=eD
 have oB11:=oB10.below b11
 obtain ⟨aB,qB,eB,rB,-⟩:=oB11.shape
 simp only [Value.slice.injEq] at eB
 obtain ⟨rfl,-,-⟩:=eB
 go_wp2_with fail
 refine (HEK.out _ _ _ _ _ rB rD).mono ?_
 rintro e w12 ⟨rfl,m12,hw12⟩
 have b12:Below w10.heap.size w10 w12:=b11.trans ((show Below w11.heap.size w11 w12 from by rw [hw12];exact below_drewN _ _).mono b11.size)
 have kX12:=kX10.below b12 kX10.lt
 have FX12:=FX10.below b12
 have oA12:=oA10.below b12
 have oB12:=oB10.below b12
 have own12:=own10.below b12
 have b312:=b310.trans (b12.mono b310.size)
 clear hw12 b11 b12 kX10 FX10 oA10 oB10 own10 b310 bz10 oD rD oB11 rB
 go_upto_region 20 with fail
 obtain ⟨V,hV⟩:∃ V,V = World.drew w12:=⟨_,rfl⟩
 have b_0:Below V.heap.size V V:=Below.refl _ _
 have bV:Below w12.heap.size w12 V:=by rw [hV];exact (Below.refl _ _).drew
 have b3V:=b312.trans (bV.mono b312.size)
 have belV:=bz3.trans (b3V.mono bz3.size)
 have kXV:=kX12.below bV kX12.lt
 have k0V:=k3.below b3V k3.lt
 have FXV:=FX12.below bV
 have oAV:=oA12.below bV
 have oBV:=oB12.below bV
 have ownV:=own12.below bV
 have keep:Hid (∀ {y},Below V.heap.size V y → Blk y gM 30 [.string s,.slice (some ⟨gX,0,none⟩) n n] ∧ Blk y g0 46 [.string s,.slice x1 n c1]):=fun h=>⟨kXV.below h kXV.lt,k0V.below h k0V.lt⟩
 refine wp_region_held_drew (S:=fun y=>Blk y gM 30 [.string s,.slice (some ⟨gX,0,none⟩) n n] ∧ Blk y g0 46 [.string s,.slice x1 n c1]) (by kernel_rfl) (by rw [← hV];exact ⟨kXV,k0V⟩) (fun hHeld=>?_)
 rw [← hV] at hHeld ⊢
 clear hV bV kX12 FX12 oA12 oB12 own12 b312
 refine tk (i:=0) (v:=(.agg #[.string s,.slice (some ⟨gX,0,none⟩) n n])) rfl (Or.inl ⟨by rfl,fun w1 h=>by have hc0:=h.1.cell 0 (by simp);have hc1:=h.1.cell 1 (by simp);go_simp⟩) hHeld ?_
 dsimp only [Act.put,List.getElem_toArray,List.getElem_cons_zero,List.getElem_cons_succ]
 simp only [List.setIfInBounds_toArray,List.set_cons_succ,List.set_cons_zero]
 refine tk (i:=1) (v:=(.agg #[.string s,.slice x1 n c1])) rfl (Or.inl ⟨by rfl,fun w1 h=>by have hc0:=h.2.cell 0 (by simp);have hc1:=h.2.cell 1 (by simp);go_simp⟩) hHeld ?_
 try dsimp only [Act.put]
 refine rdy1 2 (fun K hK=>?_)
 go_simp
 refine (HTM.out _ (HF.out.below belV)).mono ?_
 rintro e u_1 ⟨gC,rfl,⟨vsC,FC⟩,b_1⟩
 go_wp2_with fail
 refine hK.out _ _ (keep.out b_1) (fun hHeld=>?_)
 clear hK K
 try dsimp only [Act.put]
 refine rdy1 3 (fun K hK=>?_)
 go_simp
 refine (HEM.out _ _ _ _ _ _ _ (FXV.below b_1) FC).mono ?_
 rintro e u_2 ⟨rfl,c_2⟩
 have b_2:=b_1.trans (c_2.mono b_1.size)
 go_wp2_with fail
 refine hK.out _ _ (keep.out b_2) (fun hHeld=>?_)
 clear hK K
 try dsimp only [Act.put]
 refine tk (i:=4) (v:=(.bool false)) rfl (Or.inl ⟨by rfl,?_⟩) hHeld ?_
 · intro _ _;go_simp
 dsimp only [Act.put,List.getElem_toArray,List.getElem_cons_zero,List.getElem_cons_succ]
 simp only [List.setIfInBounds_toArray,List.set_cons_succ,List.set_cons_zero]
 refine wpAnyH_done (by kernel_rfl) ?_ _
 have bV8:=b_2
 clear hHeld
 have kX13:=kXV.below bV8 kXV.lt
 have FX13:=FXV.below bV8
 have oA13:=oAV.below bV8
 have oB13:=oBV.below bV8
 have own13:=ownV.below bV8
 have b313:=b3V.trans (bV8.mono b3V.size)
 obtain ⟨w13x,hw13⟩:∃ y,y = u_2:=⟨_,rfl⟩
 rw [← hw13] at kX13 FX13 oA13 oB13 own13 b313 ⊢
 clear kXV FXV oAV oBV ownV b3V bV8 belV k0V keep b_0 hw13
 go_wp2_with fail
 refine (HMA.out _ _ _ _ oA13).mono ?_
 rintro e w14a ⟨rfl,-,ga⟩
 have ga':w13x.grownBy w14a (some gA):=ga
 have oB14:=oB13.low ga' hAB
 have FX14:=FX13.low ga' (by omega)
 have own14:=own13.low ga' (by omega)
 have kX14:=kX13.grown ga' (fun e=>by cases e;omega)
 have b314:=b313.grown ga' b313.size (fun j hj=>by cases hj;exact hlA)
 clear ga ga' oA13 oB13 FX13 own13 kX13 b313
 go_wp2_with fail
 refine (HMK.out _ _ _ _ oB14).mono ?_
 rintro e w15 ⟨rfl,-,gb⟩
 have gb':w14a.grownBy w15 (some gB):=gb
 have FX15:=FX14.low gb' hBX
 have own15:=own14.low gb' (by omega)
 have kX15:=kX14.grown gb' (fun e=>by cases e;omega)
 have b315:=b314.grown gb' b314.size (fun j hj=>by cases hj;omega)
 have hlo15:loX ≤ w15.heap.size:=by have:=kX15.lt;omega
 clear gb gb' oB14 FX14 own14 kX14 b314
 go_wp2_with (refine load_blk rfl 30 _ rfl gM rfl kX15 Tryz.underlying30 rfl (by kernel_rfl) ?_)
 refine (HMM.out _ _ _ _ FX15 hlo15 gM HU4.out).mono ?_
 rintro e w16 ⟨rfl,-,b16,kp16⟩
 have own16:=own15.keeps kp16 (by omega)
 have b316:Below w3.heap.size w3 w16:=b315.trans (b16.mono hloX3)
 obtain ⟨a16,q16,e16,r16,-⟩:=own16.shape
 simp only [Value.slice.injEq] at e16
 obtain ⟨rfl,-,rfl⟩:=e16
 have rS16:=rS3.below b316
 clear own15 kX15 FX15 b315 b16 kp16 hlo15
 go_wp2_with fail
 refine (HEB.out _ _ _ _ _ r16 rS16).mono ?_
 rintro e w17 ⟨rfl,m17,hw17⟩
 have b17:Below w16.heap.size w16 w17:=by rw [hw17];exact below_drewN _ _
 have own17:=own16.below b17
 have b317:=b316.trans (b17.mono b316.size)
 clear hw17 b17 own16 b316 r16 rS16
 go_wp2_with fail
 refine (HMB.out _ _ _ _ own17).mono ?_
 rintro e w18 ⟨rfl,own18,g18⟩
 have b318:=b317.grown g18 b317.size (fun j hj=>by have:=(own_lt own17 j hj).1;omega)
 obtain ⟨a18,q18,e18,r18,-⟩:=own18.shape
 simp only [Value.slice.injEq] at e18
 obtain ⟨rfl,-,rfl⟩:=e18
 clear own17 g18 b317
 go_wp2_with fail
 refine (HHB.out _ _ _ r18).mono ?_
 rintro e w14 ⟨rfl,hw19⟩
 have hw19b:=hw19.symm
 subst hw19b
 clear hw19
 have k14:=k3.below b318 k3.lt
 have bz14:=bz3.trans (b318.mono bz3.size)
 go_upto_region 36 with fail
 obtain ⟨V,hV⟩:∃ V,V = World.drew w18:=⟨_,rfl⟩
 have b_0:Below V.heap.size V V:=Below.refl _ _
 have bV:Below w18.heap.size w18 V:=by rw [hV];exact (Below.refl _ _).drew
 have belV:=bz14.trans (bV.mono bz14.size)
 have k0V:=k14.below bV k14.lt
 have keep:Hid (∀ {y},Below V.heap.size V y → Blk y g0 46 [.string s,.slice x1 n c1]):=fun h=>k0V.below h k0V.lt
 refine wp_region_held_drew (S:=fun y=>Blk y g0 46 [.string s,.slice x1 n c1]) (by kernel_rfl) (by rw [← hV];exact k0V) (fun hHeld=>?_)
 rw [← hV] at hHeld ⊢
 clear hV
 refine tk (i:=0) (v:=(.slice am n1 cm)) rfl (Or.inl ⟨by rfl,?_⟩) hHeld ?_
 · intro _ _;go_simp
 try dsimp only [Act.put]
 refine tk (i:=2) (v:=(.slice ak n2 ck)) rfl (Or.inl ⟨by rfl,?_⟩) hHeld ?_
 · intro _ _;go_simp
 dsimp only [Act.put,List.getElem_toArray,List.getElem_cons_zero,List.getElem_cons_succ]
 simp only [List.setIfInBounds_toArray,List.set_cons_succ,List.set_cons_zero]
 refine tk (i:=4) (v:=(.agg #[.string s,.slice x1 n c1])) rfl (Or.inl ⟨by rfl,fun w1 h=>by have hc0:=h.cell 0 (by simp);have hc1:=h.cell 1 (by simp);go_simp⟩) hHeld ?_
 try dsimp only [Act.put]
 refine rdy1 1 (fun K hK=>?_)
 go_simp
 refine (HTA.out _ (HRM.out.below belV)).mono ?_
 rintro e u1 ⟨rfl,oA,b_1⟩
 obtain ⟨aA,qA,eA,rA,-⟩:=oA.shape
 simp only [Value.slice.injEq] at eA
 obtain ⟨rfl,-,-⟩:=eA
 clear oA
 have bz_1:=belV.trans (b_1.mono belV.size)
 go_wp2_with fail
 refine hK.out _ _ (keep.out b_1) (fun hHeld=>?_)
 clear hK K
 try dsimp only [Act.put]
 refine rdy1 3 (fun K hK=>?_)
 go_simp
 refine (HTK.out _ (HRK.out.below bz_1)).mono ?_
 rintro e u3 ⟨rfl,oB,c_3⟩
 obtain ⟨aB,qB,eB,rB,-⟩:=oB.shape
 simp only [Value.slice.injEq] at eB
 obtain ⟨rfl,-,-⟩:=eB
 clear oB
 have rA3:=rA.below c_3
 have b_3:=b_1.trans (c_3.mono b_1.size)
 have bz_3:=belV.trans (b_3.mono belV.size)
 clear rA
 go_wp2_with fail
 refine hK.out _ _ (keep.out b_3) (fun hHeld=>?_)
 clear hK K
 try dsimp only [Act.put]
 refine rdy1 5 (fun K hK=>?_)
 go_simp
 refine (HTM.out _ (HF.out.below bz_3)).mono ?_
 rintro e u5 ⟨gC,rfl,⟨vsC,FC⟩,c_5⟩
 have HFC:=hideT FC.fr
 have rA5:=rA3.below c_5
 have rB5:=rB.below c_5
 have b_5:=b_3.trans (c_5.mono b_3.size)
 have bz_5:=belV.trans (b_5.mono belV.size)
 clear FC rA3 rB
 go_wp2_with fail
 refine hK.out _ _ (keep.out b_5) (fun hHeld=>?_)
 clear hK K
 try dsimp only [Act.put]
 refine rdy1 6 (fun K hK=>?_)
 go_simp
 refine (HSI.out _ _ _ _ bz_5 rA5 rB5 HFC.out).mono ?_
 rintro e u6 ⟨v6,rfl,own6,c_6⟩
 obtain ⟨a6,q6,rfl,r6,-⟩:=own6.shape
 rw [← HNE.out] at own6 ⊢
 have b_6:=b_5.trans (c_6.mono b_5.size)
 go_wp2_with fail
 refine hK.out _ _ (keep.out b_6) (fun hHeld=>?_)
 clear hK K
 try dsimp only [Act.put]
 refine rdy1 7 (fun K hK=>?_)
 go_simp
 refine hK.out _ _ (keep.out b_6) (fun hHeld=>?_)
 clear hK K
 try dsimp only [Act.put]
 refine wpAnyH_done (by kernel_rfl) ?_ _
 have bV6:=b_6
 clear hHeld
 have b1420:=bV.trans (bV6.mono bV.size)
 have rH:=r18.below b1420
 have rS20:=rS3.below (b318.trans (b1420.mono b318.size))
 have bz20:=bz14.trans (b1420.mono bz14.size)
 clear b1420 r18 own18 own6 bV bV6 belV k0V keep b_0 b_1 b_3 b_5 c_3 c_5 c_6 bz_1 bz_3 bz_5 rA5 rB5 HFC bz14 b318 k14
 go_wp2_with fail
 refine (HEB.out _ _ _ _ _ r6 rS20).mono ?_
 rintro e w21 ⟨rfl,m21,hw21⟩
 have b21:Below u6.heap.size u6 w21:=by rw [hw21];exact below_drewN _ _
 have rH21:=rH.below b21
 have bz21:=bz20.trans (b21.mono bz20.size)
 clear hw21 b21 rH rS20 r6 bz20
 go_wp2_with fail
 refine (HHB.out _ _ _ rH21).mono ?_
 rintro e w22 ⟨rfl,hw22⟩
 have hw22b:=hw22.symm
 subst hw22b
 clear hw22
 go_wp2_with fail
 go_ret
 exact ⟨rfl,bz21⟩
set_option maxHeartbeats 1000000 in
theorem lawSeal (master key:List UInt8) (s:ByteArray) (L:List (Int × List UInt8)) (am ak:Option Addr) (cm ck:Nat) (v:Value) (y0 y1:Addr) (w:World) (hnm:master.length ≤ maxLen) (hnk:key.length ≤ maxLen) (hs0:Sents w y0 y1) (rm:RowAt w am master) (rk:RowAt w ak key) (F:Fr w v L) (hz:s.size ≤ maxLen) (hn:L.length ≤ maxLen) (hs:∀ p ∈ L,p.2.length ≤ maxLen) (hT:∀ w',Below w.heap.size w w' → Lib.TabIs Tryz.prog w' "internal/strconv.uint64pow10" .u64 Lib.pow10Tab) :
   Calls Tryz.prog 5 #[.slice am master.length cm,.slice ak key.length ck,.agg #[.string s,v]] w fun e w'=>e = .returned (.bool true) ∧ Below w.heap.size w w':=by
 unfold maxLen at hnm hnk
 by_cases q1:master.length ≤ 1048576
 · by_cases q2:key.length ≤ 1048576
   · exact lawSeal_main master key s L am ak cm ck v y0 y1 w q1 q2 hs0 rm rk F hz hn hs hT
   · have bW:Below w.heap.size w (w.alloc (Obj.cells #[.string s,v] 46)):=below_newT _ _
     clear hs0 rm rk F hs hT
     go_enter Tryz.func5,Tryz.ntmps5
     go_wp2_with fail
     go_ret
     exact ⟨rfl,bW⟩
 · have bW:Below w.heap.size w (w.alloc (Obj.cells #[.string s,v] 46)):=below_newT _ _
   clear hs0 rm rk F hs hT
   go_enter Tryz.func5,Tryz.ntmps5
   go_wp2_with fail
   go_ret
   exact ⟨rfl,bW⟩
end Go.Proofs.YtjkofmomoljelaaGreatDoor
