import Derived.Test.YtbkokcjolanpeaaGreatDoorRgAU
import Derived.Test.YtbkokcjolanpeaaGreatDoorRgAS
import Derived.Test.YtbkokcjolanpeaaGreatDoorRgAV
namespace Go.Proofs.YtbkokcjolanpeaaGreatDoor
open Go.RowKit
def mti0:ByteArray:=⟨#[48,49,48,48]⟩
def stan1:List UInt8:=[48,48,48,48,48,49]
def askL:List (Int × List UInt8):=[(2,pan5),(11,stan1)]
theorem mti0_ok:(decide (mti0.size = 4) && digs mti0) = true:=by kernel_rfl
theorem askL_ok:okL askL = true:=by kernel_rfl
theorem askL_keep:keepF askL = askL:=by kernel_rfl
theorem askL_no:sealNo askL = 64:=by kernel_rfl
structure AskD (m D:List UInt8):Prop where
 hm:m.length = 8
 len:D.length ≤ 4096
 op:opB masterL (blkN 0 2 1) D = true
 C:dC D = 0
 M:dM D = mti0
 L:castL (dL D) = askL ++ [(64,m)]
theorem ask_facts:∃ m,AskD m (sealL masterL (blkN 0 2 1) mti0 askL):=by
 have hk:(keyQ 0 2 1).length = 16:=by unfold keyQ;rw [List.length_set,List.length_set];rfl
 have e:blkN 0 2 1 = wrapN masterL (keyQ 0 2 1) 2 1:=by
   unfold blkN wrapL
   rw [if_pos (by unfold okW;exact ⟨rfl,hk,by omega,by omega,by omega,by omega⟩),Int.toNat_natCast,Int.toNat_natCast]
 have hok:∀ m:List UInt8,m.length = 8 → okL (askL ++ [(64,m)]) = true:=fun m h=>okL_mac (.inl rfl) askL_ok (by decide) m h
 have hlen:=(dec_mac mti0 askL 64 zeroM (.inl rfl) mti0_ok (hok zeroM rfl)).2.2.2
 have hA4:(aheadK mti0 askL 64).length ≤ 4096:=by rw [List.length_append] at hlen;omega
 obtain ⟨hc,hml⟩:=mac_wrapped masterL (keyQ 0 2 1) (aheadK mti0 askL 64) 1 rfl hk (by omega) hA4
 rw [← e] at hc hml
 have hRl:(retailL (keyQ 0 2 1) (aheadK mti0 askL 64)).length = 8:=by unfold retailL;rw [if_pos ⟨hk,hA4⟩];exact retailN_length _ _
 have hsl:=seal_is masterL (blkN 0 2 1) mti0 askL mti0_ok (by unfold sealF;rw [askL_keep,askL_no];exact hok zeroM rfl) (by rw [askL_keep,askL_no];exact hc)
 rw [askL_keep,askL_no,hml] at hsl
 obtain ⟨d1,d2,d3,d4⟩:=dec_mac mti0 askL 64 _ (.inl rfl) mti0_ok (hok _ hRl)
 refine ⟨retailL (keyQ 0 2 1) (aheadK mti0 askL 64),?_⟩
 rw [hsl]
 refine ⟨hRl,d4,?_,d1,d2,d3⟩
 rw [op_mac masterL _ mti0 _ _ _ hRl (.inl rfl) mti0_ok (hok _ hRl) hc,hml]
 exact decide_eq_true rfl
theorem lks3 (c:Nat):((List.range 3).map (lkN c)).length = 3:=by simp
theorem lks3_get (c i:Nat) (h:i < 3):((List.range 3).map (lkN c)).getD i ([],[],0) = lkN c i:=by
 rw [List.getD_eq_getElem?_getD,List.getElem?_map,List.getElem?_range h];rfl
theorem LksAt.elt {w:World} {al:Option Addr} {c:Nat} (h:LksAt w al ((List.range 3).map (lkN c))):∃ QL:List (List Value),QL.length = 3 ∧ EltAt 3 w al QL ∧ ∀ i,i < QL.length → ∃ v0 v1 f,QL.getD i [] = [v0,v1,.int .i64 f] ∧ (f = 0 ∨ f = 3):=by
 obtain ⟨g,o,a1,c1,a2,c2,rfl,p1,p2,p3,-⟩:=h 0 (by rw [lks3];omega)
 obtain ⟨g1,o1,a3,c3,a4,c4,e1,q1,q2,q3,-⟩:=h 1 (by rw [lks3];omega)
 obtain ⟨g2,o2,a5,c5,a6,c6,e2,r1,r2,r3,-⟩:=h 2 (by rw [lks3];omega)
 cases e1
 cases e2
 rw [lks3_get c 0 (by omega)] at p1 p2 p3
 rw [lks3_get c 1 (by omega)] at q1 q2 q3
 rw [lks3_get c 2 (by omega)] at r1 r2 r3
 refine ⟨[[.slice a1 (lkN c 0).1.length c1,.slice a2 (lkN c 0).2.1.length c2,.int .i64 (lkN c 0).2.2],[.slice a3 (lkN c 1).1.length c3,.slice a4 (lkN c 1).2.1.length c4,.int .i64 (lkN c 1).2.2],[.slice a5 (lkN c 2).1.length c5,.slice a6 (lkN c 2).2.1.length c6,.int .i64 (lkN c 2).2.2]],rfl,fun i hi=>⟨g,o,rfl,?_,fun j hj=>?_⟩,fun i hi=>?_⟩
 · have hi3:i = 0 ∨ i = 1 ∨ i = 2:=by have:i < 3:=hi;omega
   rcases hi3 with rfl | rfl | rfl <;> rfl
 · have hi3:i = 0 ∨ i = 1 ∨ i = 2:=by have:i < 3:=hi;omega
   have hj3:j = 0 ∨ j = 1 ∨ j = 2:=by omega
   rcases hi3 with rfl | rfl | rfl <;> rcases hj3 with rfl | rfl | rfl
   · exact p1
   · exact p2
   · exact p3
   · exact q1
   · exact q2
   · exact q3
   · exact r1
   · exact r2
   · exact r3
 · have hi3:i = 0 ∨ i = 1 ∨ i = 2:=by have:i < 3:=hi;omega
   rcases hi3 with rfl | rfl | rfl
   · exact ⟨_,_,_,rfl,fmtN_ok c 0⟩
   · exact ⟨_,_,_,rfl,fmtN_ok c 1⟩
   · exact ⟨_,_,_,rfl,fmtN_ok c 2⟩
theorem RtsAt.elt {w:World} {ar:Option Addr} (h:RtsAt w ar rtsN):EltAt 2 w ar qrN:=by
 rcases h with h | ⟨g,o,rfl,hc⟩
 · simp [rtsN] at h
 · intro i hi
   have hi6:i < 6:=hi
   obtain ⟨r,hr⟩:∃ r,rtsN[i]? = some r:=⟨_,List.getElem?_eq_getElem (by show i < 6;exact hi6)⟩
   obtain ⟨p1,p2⟩:=hc i r hr
   have hq:qrN.getD i [] = [.string r.1,.int .i64 r.2]:=by
     unfold qrN
     rw [List.getD_eq_getElem?_getD,List.getElem?_map,hr]
     rfl
   refine ⟨g,o,rfl,by rw [hq];rfl,fun j hj=>?_⟩
   rw [hq]
   have hj2:j = 0 ∨ j = 1:=by omega
   rcases hj2 with rfl | rfl
   · exact p1
   · exact p2
def evX (dv:Value) (evs:List Ev):List Value:=evs.flatMap (evC 0 dv)
theorem evC_len (dv:Value) (e:Ev):(evC 0 dv e).length = 4:=by cases e <;> rfl
theorem evX_snoc (dv:Value) (evs:List Ev) (e:Ev):evX dv (evs ++ [e]) = evX dv evs ++ evC 0 dv e:=by
 unfold evX
 rw [List.flatMap_append,List.flatMap_cons,List.flatMap_nil,List.append_nil]
theorem flatGet {α:Type} (f:α → List Value) (z:Nat) (hf:∀ a,(f a).length = z):∀ (l:List α) (i:Nat) (hi:i < l.length) (j:Nat),j < z → (l.flatMap f)[i * z + j]? = (f l[i])[j]?
 | [],i,hi,_,_=>absurd hi (Nat.not_lt_zero i)
 | a :: l,0,_,j,hj=>by
   rw [List.flatMap_cons,List.getElem?_append_left (by rw [hf];omega),Nat.zero_mul,Nat.zero_add]
   rfl
 | a :: l,i + 1,hi,j,hj=>by
   rw [List.flatMap_cons,List.getElem?_append_right (by rw [hf,Nat.add_mul];omega),hf,show (i + 1) * z + j - z = i * z + j from by rw [Nat.add_mul];omega]
   exact flatGet f z hf l i (by simpa using hi) j hj
theorem elt_ev {w:World} {lo n cap:Nat} {a:Option Addr} {dv:Value} {evs:List Ev} (row:w.ownsRow lo 38 4 (.slice a n cap) n (evX dv evs)) (hn:n = evs.length):EltAt 4 w a (evs.map (evC 0 dv)):=by
 intro i hi
 have hi2:i < evs.length:=by simpa using hi
 have hg:(evs.map (evC 0 dv)).getD i [] = evC 0 dv evs[i]:=by
   rw [List.getD_eq_getElem?_getD,List.getElem?_map,List.getElem?_eq_getElem hi2];rfl
 rw [hg]
 rcases row.2 with ⟨hv,hz⟩ | ⟨g,cc,cur,hv,-⟩
 · omega
 · cases hv
   refine ⟨g,0,rfl,evC_len _ _,fun j hj=>?_⟩
   have hl:=row.1
   rw [Nat.zero_add,row.cellAt (i * 4 + j) (by omega)]
   unfold evX
   rw [flatGet (evC 0 dv) 4 (evC_len dv) evs i hi2 j hj,List.getD_eq_getElem?_getD,List.getElem?_eq_getElem (by rw [evC_len];exact hj)]
   rfl
structure Rm (w:World) (c:Nat) (x0 x1:Addr) (gM:Nat) (al:Option Addr) (gR:Nat) (D:List UInt8) (ad:Option Addr):Prop where
 hs:Sents w x0 x1
 hT:∀ w',Below w.heap.size w w' → Lib.TabIs Tryz.prog w' "internal/strconv.uint64pow10" .u64 Lib.pow10Tab
 rm:RowAt w (some ⟨gM,0,none⟩) masterL
 lk:LksAt w al ((List.range 3).map (lkN c))
 rt:RtsAt w (some ⟨gR,0,none⟩) rtsN
 rd:RowAt w ad D
theorem Rm.below {w w':World} {c:Nat} {x0 x1:Addr} {gM:Nat} {al:Option Addr} {gR:Nat} {D:List UInt8} {ad:Option Addr} (h:Rm w c x0 x1 gM al gR D ad) (hb:Below w.heap.size w w'):Rm w' c x0 x1 gM al gR D ad :=
 ⟨h.hs.below hb,fun y hy=>h.hT y (hb.trans (hy.mono hb.size)),h.rm.below hb,h.lk.below hb,h.rt.below hb,h.rd.below hb⟩
theorem ask_has (m:List UInt8):hasN 2 (askL ++ [(64,m)]) = true ∧ hasN 11 (askL ++ [(64,m)]) = true ∧ hasN 52 (askL ++ [(64,m)]) = false ∧ fldN 2 (askL ++ [(64,m)]) = pan5 ∧ fldN 11 (askL ++ [(64,m)]) = stan1:=⟨rfl,rfl,rfl,rfl,rfl⟩
theorem run_room {w:World} {c:Nat} {x0 x1:Addr} {gM:Nat} {al:Option Addr} {gR:Nat} {m D:List UInt8} {ad:Option Addr} (H:Rm w c x0 x1 gM al gR D ad) (A:AskD m D) (cl cd ce:Nat) (hcd:D.length ≤ cd) (ae:Option Addr) (evs:List Ev) (ne:Nat) (hne:ne = evs.length) (hev:evs.length ≤ 60) (heg:∀ e ∈ evs,evG e) (hE:EltAt 4 w ae (evs.map (evC 0 (.slice ad D.length cd)))) :
   Calls Tryz.prog 8 #[.agg #[.slice (some ⟨gM,0,none⟩) 16 16,.slice al 3 cl,.slice (some ⟨gR,0,none⟩) 6 6,.int .i64 ((1 + c % 4:Nat):Int)],.slice ae ne ce] w fun e w' =>
     (∃ (B:Nat) (s t:SS) (aS aL aG:Option Addr) (cS cL nG cG:Nat),e = .returned (.agg #[.int .i64 0,.slice aS t.S.length cS,.slice aL t.L.length cL,.int .i64 (t.W.length:Int),.slice aG nG cG]) ∧ Pn (1 + c % 4) 1 0 0 s ∧ RunR 0 1 ⟨stan1.toArray⟩ s evs t ∧ w'.ownsRow B 49 2 (.slice aS t.S.length cS) t.S.length (t.S.flatMap sentC) ∧ w'.ownsRow B 47 3 (.slice aL t.L.length cL) t.L.length (t.L.flatMap lineC)) ∧ Below w.heap.size w w':=by
 obtain ⟨QL,hQn,hQ,hQo⟩:=H.lk.elt
 obtain ⟨k2,k11,k52,f2,f11⟩:=ask_has m
 subst hne
 have hr:=run_script masterL rfl ((List.range 3).map (lkN c)) (by rw [lks3];omega) (by rw [lks3];omega) (fun i hi=>by rw [lks3] at hi;rw [lks3_get c i hi];exact lkN_ok c i) QL qrN (by rw [hQn,lks3]) rtsN rfl (by decide) ((1 + c % 4:Nat):Int) (by omega) (by omega) hQo (by rw [hQn];exact qrN_ok)
   (some ⟨gM,0,none⟩) al (some ⟨gR,0,none⟩) ae 16 cl 6 ce x0 x1 0 1 D ad cd A.len (askL ++ [(64,m)]) evs hev heg (by rw [lks3];omega) w H.hs H.hT H.rm H.lk hQ H.rt.elt hE (fun y gK hb hk=>?_)
 · rw [lks3] at hr
   refine hr.mono ?_
   rintro e w' ⟨⟨B,gK,cK,gM',t,aS,aL,aG,cS,cL,nG,cG,rfl,hR,h1,h2⟩,hb⟩
   rw [f11] at hR
   exact ⟨⟨B,_,t,aS,aL,aG,cS,cL,nG,cG,rfl,⟨rfl,rfl,by simp [ses0],fun e he=>(by cases he),rfl,rfl,fun i hi=>absurd hi (Nat.not_lt_zero i),fun i hi=>absurd hi (Nat.not_lt_zero i)⟩,hR,h1,h2⟩,hb⟩
 · have Hy:=H.below hb
   exact ⟨⟨Hy.hs,Hy.rm,Hy.hT⟩,hk,by rw [lks3];omega,by rw [lks3];omega,Hy.rt,by decide,by decide,by intro r hr;simp [rtsN] at hr;rcases hr with rfl | rfl | rfl | rfl | rfl | rfl <;> decide,hcd,Nat.le_trans A.len (by decide),by rw [lks3_get c 0 (by omega)];exact A.op,A.C,A.M,A.L.symm,by
     intro p hp
     have hp3:p = (2,pan5) ∨ p = (11,stan1) ∨ p = (64,m):=by simpa [askL] using hp
     rcases hp3 with rfl | rfl | rfl
     · decide
     · decide
     · show m.length ≤ _
       rw [A.hm];decide,by simp [askL],k2,k11,k52,by
     intro j hj
     have hj3:j = 0 ∨ j = 1 ∨ j = 2:=by have:j < 3:=hj;omega
     rcases hj3 with rfl | rfl | rfl <;> rfl,by rw [f2];exact best5_one,by rw [f11];decide,Hy.rd⟩
abbrev zeroEv:List Value:=[.int .i64 0,.int .i64 0,.int .i64 0,.slice none 0 0]
theorem Tryz.zeroEv:(Tryz.prog.info? 38).map (fun i=>(i.zero,i.size)) = some (some (.agg zeroEv.toArray),4):=by kernel_rfl
theorem message_any (ad:Option Addr) (nd cd:Nat) (w:World) :
   Calls Tryz.prog 7 #[.int .i64 0,.slice ad nd cd] w fun e w'=>e = .returned (.agg #[.int .i64 1,.int .i64 0,.int .i64 0,.slice ad nd cd]) ∧ Below w.heap.size w w':=by
 have hz:=(zero_of_info Tryz.zeroEv).1
 obtain ⟨W0,hW0⟩:∃ y,y = w.alloc (Obj.cells zeroEv.toArray 38):=⟨_,rfl⟩
 obtain ⟨g,hg⟩:∃ q,q = w.heap.size:=⟨_,rfl⟩
 have k0:Blk W0 g 38 zeroEv:=by rw [hW0,hg];exact Blk.new _ _ _
 have b0:Below w.heap.size w W0:=by rw [hW0];exact below_newS _ _
 have hwg:w.heap.size ≤ g:=by omega
 have HW0:=hideT hW0
 have HG:=hideT hg
 clear hW0 hg
 go_enter Tryz.func7,Tryz.ntmps7
 go_upto_region 1 with fail
 rw [← show W0 = _ from HW0,← show g = _ from HG]
 clear HW0 HG
 go_wp2_with (refine store_blk (cs:=[.int .i64 1,.int .i64 0,.int .i64 0,.slice ad nd cd]) rfl 38 _ _ rfl g rfl rfl k0 (by kernel_rfl) rfl (by simp [Value.oneCell']) ?_;intro w3 k3 g3 hs3)
 exact bodyPost_ret (results_blk Tryz.results7 _ _ rfl k3 Tryz.underlying38 rfl (by kernel_rfl)) rfl ⟨rfl,b0.grown g3 b0.size (fun q e=>by cases e;exact hwg)⟩
set_option maxHeartbeats 1000000 in
theorem drawConfig_any (code:List UInt8) (ao:Option Addr) (cap:Nat) (w:World) (hn:code.length ≤ 1048576) (hr:RowAt w ao code) :
   Calls Tryz.prog 5 #[.slice ao code.length cap] w fun e w'=>(∃ (c gM:Nat) (al:Option Addr) (cl gR:Nat),e = .returned (.agg #[.slice (some ⟨gM,0,none⟩) 16 16,.slice al 3 cl,.slice (some ⟨gR,0,none⟩) 6 6,.int .i64 ((1 + c % 4:Nat):Int)]) ∧ RowAt w' (some ⟨gM,0,none⟩) masterL ∧ LksAt w' al ((List.range 3).map (lkN c)) ∧ RtsAt w' (some ⟨gR,0,none⟩) rtsN) ∧ Below w.heap.size w w':=by
 have hz:=(zero_of_info Tryz.zeroCf).1
 obtain ⟨n,hnl⟩:∃ n,n = code.length:=⟨_,rfl⟩
 obtain ⟨W0,hW0⟩:∃ y,y = w.alloc (Obj.cells zeroCf.toArray 26):=⟨_,rfl⟩
 obtain ⟨gC,hgC⟩:∃ q,q = w.heap.size:=⟨_,rfl⟩
 have kC0:Blk W0 gC 26 zeroCf:=by rw [hW0,hgC];exact Blk.new _ _ _
 have bW0:Below w.heap.size w W0:=by rw [hW0];exact below_newS _ _
 obtain ⟨W1,hW1⟩:∃ y,y = W0.alloc (Obj.cells #[.slice ao n cap,.int .i64 0] 62):=⟨_,rfl⟩
 obtain ⟨R,hRe⟩:∃ q,q = W0.heap.size:=⟨_,rfl⟩
 have kD:Rd W1 R ao cap code 0:=by unfold Rd;rw [hW1,hRe,← hnl];exact Blk.new _ _ _
 have bW1:Below W0.heap.size W0 W1:=by rw [hW1];exact below_newS _ _
 have kC1:=kC0.below bW1 kC0.lt
 have bw1:=bW0.trans (bW1.mono bW0.size)
 have hCR:gC < R:=by rw [hRe];exact kC0.lt
 have HM:=hideT (l7Config_any R ao cap code 0 W1 hn (Nat.zero_le _) (hr.below bw1) kD)
 have hRl:R < W1.heap.size:=Blk.lt kD
 have hwC:w.heap.size ≤ gC:=by omega
 have HW0:=hideT hW0
 have HGC:=hideT hgC
 have HW1:=hideT hW1
 have HRE:=hideT hRe
 have HBW:=hideT bw1
 rw [← hnl]
 clear hnl hW0 hgC hW1 hRe hr kD bW0 bW1 kC0 bw1
 go_enter Tryz.func5,Tryz.ntmps5
 go_upto_region 1 with fail
 rw [← show W0 = _ from HW0,← show gC = _ from HGC]
 clear HW0 HGC
 go_wp2_with fail
 rw [← show W1 = _ from HW1,← show R = _ from HRE]
 clear HW1 HRE
 refine HM.out.mono ?_
 rintro e w2 ⟨c,gM,al,cl,gR,hc,rfl,hY,gr⟩
 have kC2:=kC1.grown gr (fun e=>by cases e;omega)
 obtain ⟨rm,hrm⟩:∃ q:Int,q = ((1 + c % 4:Nat):Int):=⟨_,rfl⟩
 rw [← hrm]
 have HRM:=hideT hrm
 have HY:=hideT hY
 clear hrm hc hY
 go_wp2_with (refine store_blk (cs:=[.slice (some ⟨gM,0,none⟩) 16 16,.slice al 3 cl,.slice (some ⟨gR,0,none⟩) 6 6,.int .i64 rm]) rfl 26 _ _ rfl gC rfl rfl kC2 (by kernel_rfl) rfl (by simp [Value.oneCell']) ?_;intro w3 k3 g3 hs3)
 have z1:=HBW.out.size
 have z2:=gr.size
 exact bodyPost_ret (results_blk Tryz.results5 _ _ rfl k3 Tryz.underlying26 rfl (by kernel_rfl)) rfl ⟨⟨c,gM,al,cl,gR,by rw [← HRM.out],HY.out w3 g3.size (Kp.grown g3 (fun q e=>by cases e;omega))⟩,(HBW.out.grown gr z1 (fun q e=>by cases e;omega)).grown g3 (by omega) (fun q e=>by cases e;omega)⟩
end Go.Proofs.YtbkokcjolanpeaaGreatDoor
