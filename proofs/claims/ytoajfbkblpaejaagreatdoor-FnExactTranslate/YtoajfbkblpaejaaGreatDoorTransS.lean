import Derived.Test.YtoajfbkblpaejaaGreatDoorTransM
import Derived.Test.YtoajfbkblpaejaaGreatDoorLawUnwrap
namespace Go.Proofs.YtoajfbkblpaejaaGreatDoor
open Go.RowKit
theorem opCode_ok (master block:List UInt8):(okO master block = true → opCode master block = 0) ∧ (okO master block = false → (opCode master block != 0) = true):=by
 unfold opCode okO
 cases formOK master block <;> cases tagOK master block <;> simp
theorem opU_in (master block:List UInt8):(okO master block = false ∧ opU master block = 0) ∨ (okO master block = true ∧ (opU master block = 1 ∨ opU master block = 2 ∨ opU master block = 3)):=by
 cases h:okO master block with
 | false=>exact .inl ⟨rfl,by unfold opU;rw [h];rfl⟩
 | true =>
   refine .inr ⟨rfl,?_⟩
   have hf:=(formOK_parts (Bool.and_eq_true_iff.1 h).1).2.2
   unfold opU
   rw [h]
   unfold headOK at hf
   simp only [Bool.and_eq_true,decide_eq_true_eq] at hf
   simp only [if_true]
   omega
theorem opKey_le' (master block:List UInt8):(opKey master block).length ≤ 1048576:=by
 cases h:okO master block with
 | false=>unfold opKey;rw [h];simp
 | true=>rw [(opKey_ok h).1,(opKey_ok h).2];omega
theorem srcK_len (U:Int) (K ksn:List UInt8) (hK:K.length = 16) (hU:U = 1 ∨ U = 3):(fitK U ksn = true → (srcK U K ksn).length = 16) ∧ (U = 3 → fitK U ksn = false → (srcK U K ksn).length = 0) ∧ (U = 1 → srcK U K ksn = K):=by
 unfold fitK srcK
 rcases hU with rfl | rfl
 · exact ⟨fun _=>by rw [if_neg (by decide)];exact hK,fun h=>absurd h (by decide),fun _=>if_neg (by decide)⟩
 · rw [if_pos rfl]
   refine ⟨fun h=>?_,fun _ h=>?_,fun h=>absurd h (by decide)⟩
   · have h10:ksn.length = 10:=by simpa using h
     have hDl:(keyL K ksn).length = 16:=by unfold keyL;rw [if_pos ⟨hK,h10⟩];exact keyN16_length _ _
     unfold variantL
     rw [if_pos ⟨hDl,.inl rfl⟩,xorL_length _ _ (by rw [List.length_append,maskL_length,hDl])]
     exact hDl
   · have h10:¬ ksn.length = 10:=by simpa using h
     unfold keyL
     rw [if_neg (fun h=>h10 h.2)]
     rfl
theorem fit_cases (U:Int) (ksn:List UInt8) (hU:U = 1 ∨ U = 3):(fitK U ksn = true → U = 1 → ksn.length = 0) ∧ (fitK U ksn = false → U = 1 → 0 < ksn.length):=by
 unfold fitK
 rcases hU with rfl | rfl
 · constructor
   · intro h _;simpa using h
   · intro h _
     have:¬ ksn.length = 0:=by simpa using h
     omega
 · exact ⟨fun _ h=>absurd h (by decide),fun _ h=>absurd h (by decide)⟩
set_option maxRecDepth 100000 in
set_option maxHeartbeats 8000000 in
theorem transS_any (master fr ksn tow block draws:List UInt8) (am af ak at_ ab ad:Option Addr) (cm cf ck ct cb cd:Nat) (ff tf:Int) (pan:ByteArray) (w:World) (hnm:master.length ≤ 1048576) (hnk:ksn.length ≤ 1048576) (hnb:block.length ≤ 1048576) (hnd:draws.length ≤ 1048576) (hcf:fr.length ≤ cf) (hck:ksn.length ≤ ck) (hct:tow.length ≤ ct) (hcb:block.length ≤ cb) (hcd:draws.length ≤ cd) (hp:pan.size ≤ maxLen) (rm:RowAt w am master) (rf:RowAt w af fr) (rk:RowAt w ak ksn) (rt:RowAt w at_ tow) (rb:RowAt w ab block) (rd:RowAt w ad draws) :
   Calls Tryz.prog 13 #[.slice am master.length cm,.agg ([.slice af fr.length cf,.int .i64 ff,.slice ak ksn.length ck,.slice at_ tow.length ct,.int .i64 tf,.slice ab block.length cb,.string pan,.slice ad draws.length cd]:List Value).toArray] w fun e w'=>∃ v,e = .returned (.agg #[.int .i64 (trC master fr ksn tow block draws ff tf pan),v,.int .i64 (trU master fr ksn tow block draws ff tf pan)]) ∧ Own w' w.heap.size v (trL master fr ksn tow block draws ff tf pan) ∧ Below w.heap.size w w':=by
 have hz:=(zero_of_info Tryz.zeroMv).1
 have HC:Hid (trC master fr ksn tow block draws ff tf pan = (if trF master fr then (if trT master tow then (if fitK (opU master fr) ksn then mvC (trK master fr ksn) block draws ff tf pan else 3) else 2) else 1)):=rfl
 have HL:Hid (trL master fr ksn tow block draws ff tf pan = (if trF master fr then (if trT master tow then (if fitK (opU master fr) ksn then mvL (trK master fr ksn) (unkeyN master tow) block draws ff tf pan else []) else []) else [])):=rfl
 have HU:Hid (trU master fr ksn tow block draws ff tf pan = (if trF master fr then (if trT master tow then (if fitK (opU master fr) ksn then mvU (trK master fr ksn) block draws ff tf pan else 0) else 0) else 0)):=rfl
 have HF:Hid ((okO master fr = false → trF master fr = false ∧ (opCode master fr != 0) = true) ∧ (okO master fr = true → opCode master fr = 0 ∧ (opU master fr = 2 → trF master fr = false) ∧ (¬ opU master fr = 2 → trF master fr = true ∧ (opU master fr = 1 ∨ opU master fr = 3)) ∧ (opKey master fr).length = 16 ∧ trK master fr ksn = srcK (opU master fr) (opKey master fr) ksn)):=by
   refine ⟨fun h=>⟨by unfold trF;rw [h];rfl,(opCode_ok master fr).2 h⟩,fun h=>⟨(opCode_ok master fr).1 h,fun h2=>by unfold trF;rw [h,h2];rfl,fun h2=>?_,by rw [(opKey_ok h).1];exact (opKey_ok h).2,by rw [(opKey_ok h).1];rfl⟩⟩
   rcases opU_in master fr with ⟨h3,-⟩ | ⟨-,h3⟩
   · rw [h] at h3;cases h3
   · have h13:opU master fr = 1 ∨ opU master fr = 3:=by omega
     exact ⟨by unfold trF;rw [h];rcases h13 with h4 | h4 <;> rw [h4] <;> rfl,h13⟩
 have HT:Hid ((okO master tow = false → trT master tow = false ∧ (opCode master tow != 0) = true) ∧ (okO master tow = true → opCode master tow = 0 ∧ (¬ opU master tow = 1 → trT master tow = false) ∧ (opU master tow = 1 → trT master tow = true) ∧ (opKey master tow).length = 16 ∧ unkeyN master tow = opKey master tow)) :=
   ⟨fun h=>⟨by unfold trT;rw [h];rfl,(opCode_ok master tow).2 h⟩,fun h=>⟨(opCode_ok master tow).1 h,fun h2=>by unfold trT;rw [decide_eq_false h2,Bool.and_false],fun h2=>by unfold trT;rw [h,h2];rfl,by rw [(opKey_ok h).1];exact (opKey_ok h).2,((opKey_ok h).1).symm⟩⟩
 have HDK:=hide (fun (hK:(opKey master fr).length = 16) (a:Option Addr) (c:Nat) (h0:16 ≤ c) (wx:World) (h1:RowAt wx a (opKey master fr)) (h2:RowAt wx ak ksn)=>keyS_all (opKey master fr) ksn a ak c ck wx (by omega) hnk (by omega) hck h1 h2)
 have HVR:=hide (fun (a:Option Addr) (c:Nat) (wx:World) (h0:(keyL (opKey master fr) ksn).length ≤ c) (h1:RowAt wx a (keyL (opKey master fr) ksn))=>specVariant_all (keyL (opKey master fr) ksn) 1 a c wx (keyL_le _ _ (opKey_le' master fr) hnk) (by omega) h0 h1)
 have HSK:Hid (∀ U:Int,(U = 1 → srcK U (opKey master fr) ksn = opKey master fr) ∧ (U = 3 → srcK U (opKey master fr) ksn = variantL (keyL (opKey master fr) ksn) 1)):=fun U=>⟨fun h=>by unfold srcK;rw [if_neg (by omega)],fun h=>by unfold srcK;rw [if_pos h]⟩
 have HSL:=hide (fun (U:Int) (h1:(opKey master fr).length = 16) (h2:U = 1 ∨ U = 3)=>srcK_len U (opKey master fr) ksn h1 h2)
 have HFC:=hide (fun (U:Int) (h2:U = 1 ∨ U = 3)=>fit_cases U ksn h2)
 have HT1:=hide (fun (KT:List UInt8) (hK:KT.length = 16) (a:Option Addr) (c:Nat) (h0:16 ≤ c) (wx:World) (h1:RowAt wx a KT) (h2:RowAt wx ab block)=>specTdea_all KT block true a ab c cb wx (by omega) hnb (by omega) hcb h1 h2)
 have HRD:=hide (fun (D:List UInt8) (a:Option Addr) (c:Nat) (wx:World) (h2:RowAt wx a D)=>readS_all ff D pan a c wx hp h2)
 have HMK:=hide (fun (P:ByteArray) (hPs:P.size ≤ maxLen) (a:Option Addr) (c:Nat) (wx:World) (h1:draws.length ≤ c) (h2:RowAt wx a draws)=>(make_any tf P pan draws hPs hp hnd).2 a c wx h1 h2)
 have HT2:=hide (fun (P:ByteArray) (T:List UInt8) (hTl:T.length = 16) (a1:Option Addr) (c1:Nat) (a:Option Addr) (c:Nat) (hc1:T.length ≤ c1) (h0:(mkL tf P pan draws).length ≤ c) (wx:World) (h1:RowAt wx a1 T) (h2:RowAt wx a (mkL tf P pan draws))=>specTdea_all T (mkL tf P pan draws) false a1 a c1 c wx (by omega) (by have:=mkL_le tf P pan draws;omega) hc1 h0 h1 h2)
 obtain ⟨C1,hC1⟩:∃ C,C = opCode master fr:=⟨_,rfl⟩
 obtain ⟨U,hUe⟩:∃ C,C = opU master fr:=⟨_,rfl⟩
 obtain ⟨C2,hC2⟩:∃ C,C = opCode master tow:=⟨_,rfl⟩
 obtain ⟨U2,hU2⟩:∃ C,C = opU master tow:=⟨_,rfl⟩
 obtain ⟨tF,htF⟩:∃ C,C = trF master fr:=⟨_,rfl⟩
 obtain ⟨tT,htT⟩:∃ C,C = trT master tow:=⟨_,rfl⟩
 obtain ⟨KT,hKT⟩:∃ C,C = trK master fr ksn:=⟨_,rfl⟩
 obtain ⟨ok1,hok1⟩:∃ C,C = okO master fr:=⟨_,rfl⟩
 obtain ⟨ok2,hok2⟩:∃ C,C = okO master tow:=⟨_,rfl⟩
 rw [← hC1,← hUe,← htF,← hKT,← hok1] at HF
 rw [← hC2,← hU2,← htT,← hok2] at HT
 rw [← htF,← htT,← hUe,← hKT] at HC HL HU
 have HU1:=hide (fun (wx:World) (h1:RowAt wx am master) (h2:RowAt wx af fr)=>unwrapS_any master fr am af cm cf wx hnm hcf h1 h2)
 have HU2:=hide (fun (wx:World) (h1:RowAt wx am master) (h2:RowAt wx at_ tow)=>unwrapS_any master tow am at_ cm ct wx hnm hct h1 h2)
 rw [← hC1,← hUe] at HU1
 rw [← hC2,← hU2] at HU2
 clear hC1 hUe hC2 hU2 htF htT hKT hok1 hok2
 obtain ⟨nm,hnm'⟩:∃ n,n = master.length:=⟨_,rfl⟩
 obtain ⟨nf,hnf⟩:∃ n,n = fr.length:=⟨_,rfl⟩
 obtain ⟨nk,hnk'⟩:∃ n,n = ksn.length:=⟨_,rfl⟩
 obtain ⟨nt,hnt⟩:∃ n,n = tow.length:=⟨_,rfl⟩
 obtain ⟨nb,hnb'⟩:∃ n,n = block.length:=⟨_,rfl⟩
 obtain ⟨nd,hnd'⟩:∃ n,n = draws.length:=⟨_,rfl⟩
 rw [← hnm',← hnf] at HU1
 rw [← hnm',← hnt] at HU2
 rw [← hnf,← hnk',← hnt,← hnb',← hnd',← hnm']
 rw [← hnk'] at HDK HFC
 rw [← hnb'] at HT1
 rw [← hnd'] at HMK
 have HNB:=hide hnb'
 have HND:=hide hnd'
 have HNK:=hide hnk'
 obtain ⟨G,hG⟩:∃ C,C = opG master fr:=⟨_,rfl⟩
 obtain ⟨K,hK⟩:∃ C,C = opKey master fr:=⟨_,rfl⟩
 rw [← hG,← hK] at HU1
 obtain ⟨G2,hG2⟩:∃ C,C = opG master tow:=⟨_,rfl⟩
 obtain ⟨T,hT⟩:∃ C,C = opKey master tow:=⟨_,rfl⟩
 rw [← hG2,← hT] at HU2
 rw [← hT] at HT
 rw [← hK] at HF HDK HVR HSK HSL
 clear hG2 hT
 obtain ⟨W,hW⟩:∃ W,W = (w.alloc (.cells ([.slice af nf cf,.int .i64 ff,.slice ak nk ck,.slice at_ nt ct,.int .i64 tf,.slice ab nb cb,.string pan,.slice ad nd cd]:List Value).toArray 24)).alloc (.cells zeroMv.toArray 28):=⟨_,rfl⟩
 have k0:Blk W w.heap.size 24 [.slice af nf cf,.int .i64 ff,.slice ak nk ck,.slice at_ nt ct,.int .i64 tf,.slice ab nb cb,.string pan,.slice ad nd cd]:=by rw [hW];exact (Blk.new w _ _).alloc _
 have k1:Blk W (w.heap.size + 1) 28 zeroMv:=by rw [hW];exact Blk.new2 w _ _ _
 have bW:Below w.heap.size w W:=by rw [hW];exact ((Below.refl _ w).alloc (Nat.le_refl _) _).alloc (by simp) _
 have lW:(w.heap.size + 1) < W.heap.size:=k1.lt
 have HK:Hid (∀ {x},Below W.heap.size W x → Blk x w.heap.size 24 [.slice af nf cf,.int .i64 ff,.slice ak nk ck,.slice at_ nt ct,.int .i64 tf,.slice ab nb cb,.string pan,.slice ad nd cd] ∧ Blk x (w.heap.size + 1) 28 zeroMv ∧ RowAt x am master ∧ RowAt x af fr ∧ RowAt x ak ksn ∧ RowAt x at_ tow ∧ RowAt x ab block ∧ RowAt x ad draws ∧ Below w.heap.size w x):=by
   intro x hx
   have hb:Below w.heap.size w x:=bW.trans (hx.mono bW.size)
   exact ⟨k0.below hx k0.lt,k1.below hx k1.lt,rm.below hb,rf.below hb,rk.below hb,rt.below hb,rb.below hb,rd.below hb,hb⟩
 have bWW:Below W.heap.size W W:=Below.refl _ _
 clear hG hK rm rf rk rt rb rd hnm' hnf hnt hnb' hnd' hnk' k0 k1 bW
 go_enter Tryz.func13,Tryz.ntmps13
 go_wp2_with fail
 rw [← hW]
 clear hW
 refine (HU1.out W (HK.out bWW).2.2.1 (HK.out bWW).2.2.2.1).mono ?_
 rintro e w1 ⟨v1,rfl,own1,bel1⟩
 obtain ⟨aK,cK,rfl,rK,hcK⟩:=own_shape2 own1
 have b1:Below W.heap.size W w1:=bel1
 obtain ⟨W1,hW1⟩:∃ x,x = w1.alloc (.cells #[.int .i64 C1,.int .i64 U,.int .i64 G,.slice aK K.length cK] 33):=⟨_,rfl⟩
 have kP1:Blk W1 w1.heap.size 33 [.int .i64 C1,.int .i64 U,.int .i64 G,.slice aK K.length cK]:=by rw [hW1];exact Blk.new _ _ _
 have b11:Below w1.heap.size w1 W1:=by rw [hW1];exact below_new _ _
 have bW1:Below W.heap.size W W1:=b1.trans (b11.mono b1.size)
 have rK1:=rK.below b11
 have l1:W.heap.size ≤ w1.heap.size:=b1.size
 obtain ⟨g1,hg1⟩:∃ x,x = w1.heap.size:=⟨_,rfl⟩
 rw [← hg1] at kP1 l1
 have HW1:=hide hW1
 have Hg1:=hide hg1
 clear hW1 hg1 rK bel1 b1 b11 HU1
 go_upto_region 2 with fail
 rw [← show W1 = _ from HW1,← show g1 = _ from Hg1]
 clear HW1 Hg1 own1
 cases h1:ok1 with
 | false =>
   obtain ⟨htf,hcb⟩:=HF.out.1 h1
   rw [htf] at HC HL HU
   simp only [Bool.false_eq_true,if_false] at HC HL HU
   clear h1 htf
   have d0:=kP1.cell 0 (by simp)
   have d1:=kP1.cell 1 (by simp)
   have c3:=(HK.out bW1).1.cell 3 (by simp)
   obtain ⟨-,q1,-,-,-,-,-,-,hb⟩:=HK.out bW1
   go_wp2_with (refine store_blk rfl 28 _ _ rfl (w.heap.size + 1) rfl rfl q1 (by kernel_rfl) rfl (by kernel_rfl) ?_;intro w7 hb7 hg7 hs7)
   exact ⟨rfl,_,results_blk Tryz.results13 _ _ rfl hb7 Tryz.underlying28 rfl (by kernel_rfl),⟨_,by rw [HC.out,HU.out],by rw [HL.out];exact own_nil _ _,hb.grown hg7 hb.size (by intro k hk;cases hk;omega)⟩⟩
 | true =>
   obtain ⟨hc0,hu2f,hu2t,hKl,hKe⟩:=HF.out.2 h1
   subst hc0
   have HKL:=hide hKl
   have HKE:=hide hKe
   clear hKl hKe h1
   by_cases hU2:U = 2
   · have htf:=hu2f hU2
     subst hU2
     rw [htf] at HC HL HU
     simp only [Bool.false_eq_true,if_false] at HC HL HU
     clear htf hu2f hu2t
     have d0:=kP1.cell 0 (by simp)
     have d1:=kP1.cell 1 (by simp)
     have c3:=(HK.out bW1).1.cell 3 (by simp)
     obtain ⟨-,q1,-,-,-,-,-,-,hb⟩:=HK.out bW1
     go_wp2_with (refine store_blk rfl 28 _ _ rfl (w.heap.size + 1) rfl rfl q1 (by kernel_rfl) rfl (by kernel_rfl) ?_;intro w7 hb7 hg7 hs7)
     exact ⟨rfl,_,results_blk Tryz.results13 _ _ rfl hb7 Tryz.underlying28 rfl (by kernel_rfl),⟨_,by rw [HC.out,HU.out],by rw [HL.out];exact own_nil _ _,hb.grown hg7 hb.size (by intro k hk;cases hk;omega)⟩⟩
   · obtain ⟨htf,hU13⟩:=hu2t hU2
     have hUn:(U == 2) = false:=by rw [beq_eq_false_iff_ne];exact hU2
     rw [htf] at HC HL HU
     simp only [if_true] at HC HL HU
     clear htf hu2f hu2t
     have HU13:=hide hU13
     clear hU13
     have d0:=kP1.cell 0 (by simp)
     have d1:=kP1.cell 1 (by simp)
     have c3:=(HK.out bW1).1.cell 3 (by simp)
     go_wp2_with fail
     refine (HU2.out W1 (HK.out bW1).2.2.1 (HK.out bW1).2.2.2.2.2.1).mono ?_
     rintro e w2 ⟨v2,rfl,own2,bel2⟩
     obtain ⟨aT,cT,rfl,rT,hcT⟩:=own_shape2 own2
     have b2:Below W.heap.size W w2:=bW1.trans (bel2.mono bW1.size)
     obtain ⟨W2,hW2⟩:∃ x,x = w2.alloc (.cells #[.int .i64 C2,.int .i64 U2,.int .i64 G2,.slice aT T.length cT] 33):=⟨_,rfl⟩
     have kP2:Blk W2 w2.heap.size 33 [.int .i64 C2,.int .i64 U2,.int .i64 G2,.slice aT T.length cT]:=by rw [hW2];exact Blk.new _ _ _
     have b22:Below w2.heap.size w2 W2:=by rw [hW2];exact below_new _ _
     have b12:Below W1.heap.size W1 W2:=bel2.trans (b22.mono bel2.size)
     have bW2:Below W.heap.size W W2:=b2.trans (b22.mono b2.size)
     have rT2:=rT.below b22
     have rK2:=rK1.below b12
     have kP12:=kP1.below b12 kP1.lt
     have l2:W1.heap.size ≤ w2.heap.size:=bel2.size
     have l12:=kP1.lt
     obtain ⟨g2,hg2⟩:∃ x,x = w2.heap.size:=⟨_,rfl⟩
     rw [← hg2] at kP2 l2
     have HW2:=hide hW2
     have Hg2:=hide hg2
     clear hW2 hg2 rT rK1 kP1 bel2 b22 b2 b12 d0 d1 c3 HU2
     go_upto_region 5 with fail
     rw [← show W2 = _ from HW2,← show g2 = _ from Hg2]
     clear HW2 Hg2 own2
     cases h2:ok2 with
     | false =>
       obtain ⟨htt,hcb⟩:=HT.out.1 h2
       rw [htt] at HC HL HU
       simp only [Bool.false_eq_true,if_false] at HC HL HU
       clear h2 htt
       have e0:=kP2.cell 0 (by simp)
       have e1:=kP2.cell 1 (by simp)
       obtain ⟨-,q1,-,-,-,-,-,-,hb⟩:=HK.out bW2
       go_wp2_with (refine store_blk rfl 28 _ _ rfl (w.heap.size + 1) rfl rfl q1 (by kernel_rfl) rfl (by kernel_rfl) ?_;intro w7 hb7 hg7 hs7)
       exact ⟨rfl,_,results_blk Tryz.results13 _ _ rfl hb7 Tryz.underlying28 rfl (by kernel_rfl),⟨_,by rw [HC.out,HU.out],by rw [HL.out];exact own_nil _ _,hb.grown hg7 hb.size (by intro k hk;cases hk;omega)⟩⟩
     | true =>
       obtain ⟨hc0,ht1f,ht1t,hTl,hTe⟩:=HT.out.2 h2
       subst hc0
       have HTL:=hide hTl
       have HTE:=hide hTe
       clear hTl hTe h2
       by_cases hU21:U2 = 1
       · have htt:=ht1t hU21
         subst hU21
         rw [htt] at HC HL HU
         simp only [if_true] at HC HL HU
         rw [show unkeyN master tow = T from HTE.out] at HL
         clear htt ht1f ht1t
         have e0:=kP2.cell 0 (by simp)
         have e1:=kP2.cell 1 (by simp)
         have d3:=kP12.cell 3 (by simp)
         have hKe:Hid (KT = srcK U K ksn):=HKE.out
         have d1:=kP12.cell 1 (by simp)
         obtain ⟨B3,hB3⟩:∃ b,b = (U == 3):=⟨_,rfl⟩
         have h3b:(U == 3) = B3:=hB3.symm
         have HB3:=hide hB3
         clear hB3
         go_upto_if 44 with fail
         clear e0 e1 d3 d1 h3b
         obtain ⟨fit,hfit⟩:∃ b,b = fitK U ksn:=⟨_,rfl⟩
         rw [← hfit] at HC HL HU
         have HFT:=hide hfit
         clear hfit
         go_cut [7] (fun kv wx=>∃ a c,kv = .slice a KT.length c ∧ KT.length ≤ c ∧ RowAt wx a KT ∧ Below W2.heap.size W2 wx)
         case first =>
           have c2:=(HK.out bW2).1.cell 2 (by simp)
           have hb3:=HB3.out
           rcases HU13.out with hU | hU
           · subst hU
             obtain rfl:B3 = false:=hb3.trans (by decide)
             clear hb3
             go_wp2_with fail
             go_meet
             case rel=>exact ⟨aK,cK,by rw [hKe.out,(HSK.out 1).1 rfl],by rw [hKe.out,(HSK.out 1).1 rfl];exact hcK,by rw [hKe.out,(HSK.out 1).1 rfl];exact rK2,Below.refl _ _⟩
           · subst hU
             obtain rfl:B3 = true:=hb3.trans (by decide)
             clear hb3
             have hdk:=hide (HDK.out HKL.out aK cK (by have:=HKL.out;omega) W2 rK2 (HK.out bW2).2.2.2.2.1)
             go_wp2_with fail
             refine hdk.out.mono ?_
             rintro e w3 ⟨v3,rfl,own3,bel3⟩
             obtain ⟨aD,cD,rfl,rD,hcD⟩:=own_shape2 own3
             have hvr:=hide (HVR.out aD cD w3 hcD rD)
             clear own3 c2 hdk
             go_wp2_with fail
             refine hvr.out.mono ?_
             rintro e w4 ⟨v4,rfl,own4,bel4⟩
             obtain ⟨aV,cV,rfl,rV,hcV⟩:=own_shape2 own4
             clear own4 hvr
             go_wp2_with fail
             go_meet
             case rel=>exact ⟨aV,cV,by rw [hKe.out,(HSK.out 3).2 rfl],by rw [hKe.out,(HSK.out 3).2 rfl];exact hcV,by rw [hKe.out,(HSK.out 3).2 rfl];exact rV,bel3.trans (bel4.mono bel3.size)⟩
         case rest =>
           obtain ⟨aX,cX,rfl,hcX,rKX,bc⟩:=hcut
           have bX:=bW2.trans (bc.mono bW2.size)
           have kP14:=kP12.below bc kP12.lt
           have kPT:=kP2.below bc kP2.lt
           have rTX:=rT2.below bc
           have lc:=bc.size
           have d1:=kP14.cell 1 (by simp)
           have c2:=(HK.out bX).1.cell 2 (by simp)
           clear kP12 kP2 rT2 rK2 bc
           cases hf:fit with
           | false =>
             rw [hf] at HC HL HU
             simp only [Bool.false_eq_true,if_false] at HC HL HU
             have hff:fitK U ksn = false:=by rw [← hf];exact HFT.out.symm
             obtain ⟨-,q1,-,-,-,-,-,-,hb⟩:=HK.out bX
             rcases HU13.out with hU | hU
             · subst hU
               have hl:KT.length = 16:=by rw [hKe.out,(HSK.out 1).1 rfl];exact HKL.out
               have hpos:(0:Int) < (nk:Int):=by have:=(HFC.out 1 (.inl rfl)).2 hff rfl;omega
               go_upto_region 11 with fail
               clear d1 c2 hl hpos
               go_wp2_with (refine store_blk rfl 28 _ _ rfl (w.heap.size + 1) rfl rfl q1 (by kernel_rfl) rfl (by kernel_rfl) ?_;intro w7 hb7 hg7 hs7)
               exact ⟨rfl,_,results_blk Tryz.results13 _ _ rfl hb7 Tryz.underlying28 rfl (by kernel_rfl),⟨_,by rw [HC.out,HU.out],by rw [HL.out];exact own_nil _ _,hb.grown hg7 hb.size (by intro k hk;cases hk;omega)⟩⟩
             · subst hU
               have hl:KT.length = 0:=by rw [hKe.out];exact (HSL.out 3 HKL.out (.inr rfl)).2.1 rfl hff
               go_upto_region 11 with fail
               clear d1 c2 hl
               go_wp2_with (refine store_blk rfl 28 _ _ rfl (w.heap.size + 1) rfl rfl q1 (by kernel_rfl) rfl (by kernel_rfl) ?_;intro w7 hb7 hg7 hs7)
               exact ⟨rfl,_,results_blk Tryz.results13 _ _ rfl hb7 Tryz.underlying28 rfl (by kernel_rfl),⟨_,by rw [HC.out,HU.out],by rw [HL.out];exact own_nil _ _,hb.grown hg7 hb.size (by intro k hk;cases hk;omega)⟩⟩
           | true =>
             rw [hf] at HC HL HU
             simp only [if_true] at HC HL HU
             have hff:fitK U ksn = true:=by rw [← hf];exact HFT.out.symm
             have hl:KT.length = 16:=by rw [hKe.out];exact (HSL.out U HKL.out HU13.out).1 hff
             clear hf HFT
             obtain ⟨X12,hX12⟩:∃ x,x = wc:=⟨_,rfl⟩
             rw [← hX12] at rKX bX kP14 kPT rTX lc d1 c2 ⊢
             clear hX12
             rw [hl]
             go_upto_region 10 with fail
             go_cut [64] (fun b wx=>b = .bool false ∧ X12 = wx)
             case first =>
               rcases HU13.out with hU | hU
               · subst hU
                 have hnk0:nk = 0:=(HFC.out 1 (.inl rfl)).1 hff rfl
                 subst hnk0
                 go_wp2_with fail
                 go_meet
                 case rel=>exact ⟨rfl,rfl⟩
               · subst hU
                 go_wp2_with fail
                 go_meet
                 case rel=>exact ⟨rfl,rfl⟩
             case rest =>
               obtain ⟨rfl,hwc⟩:=hcut
               subst hwc
               go_upto_region 12 with fail
               rw [hl] at hcX
               have HT1:=hide (HT1.out KT hl)
               rw [hl] at HT1
               have HRD:=hide (HRD.out (tdeaL KT block true))
               have hPs:(mvP KT block pan).size ≤ maxLen:=mvP_size _ _ _
               have HMK:=hide (HMK.out (mvP KT block pan) hPs)
               have hMC:=mkC_cases tf (mvP KT block pan) pan draws.length
               have HT2:=hide (HT2.out (mvP KT block pan) T HTL.out)
               obtain ⟨RC,RP,hrv,hrd⟩:∃ (RC:Int) (RP:ByteArray),readV (readOK ff (tdeaL KT block true) pan) (readD (tdeaL KT block true) pan) = .agg #[.int .i64 RC,.string RP] ∧ ((mvOK KT block ff pan = true ∧ RC = 0 ∧ RP = mvP KT block pan) ∨ (mvOK KT block ff pan = false ∧ RC = 1 ∧ RP = emptyS)):=by
                 cases hm:mvOK KT block ff pan with
                 | true=>exact ⟨0,mvP KT block pan,by rw [show readOK ff (tdeaL KT block true) pan = true from hm];rfl,.inl ⟨rfl,rfl,rfl⟩⟩
                 | false=>exact ⟨1,emptyS,by rw [show readOK ff (tdeaL KT block true) pan = false from hm];rfl,.inr ⟨rfl,rfl,rfl⟩⟩
               rw [hrv] at HRD
               have HRR:=hide hrd
               obtain ⟨P,hP⟩:∃ P,P = mvP KT block pan:=⟨_,rfl⟩
               rw [← hP] at HMK HT2 hMC HRR
               have HP:=hide hP
               obtain ⟨DT,hDT⟩:∃ D,D = tdeaL KT block true:=⟨_,rfl⟩
               rw [← hDT] at HT1 HRD
               clear hrv hrd hP hDT hPs hff hl d1 c2 kP14
               go_cut [8] (fun p wx=>∃ G,p = .pointer (some ⟨G,0,none⟩) ∧ X12.heap.size ≤ G ∧ Blk wx G 36 [.int .i64 RC,.string RP] ∧ Below X12.heap.size X12 wx)
               case first =>
                 obtain ⟨V,hV⟩:∃ V,V = World.drew X12:=⟨_,rfl⟩
                 have b_0:Below X12.heap.size X12 V:=by rw [hV];exact (Below.refl _ _).drew
                 have hWV:=b_0.size
                 have keep:Hid (∀ {x},Below X12.heap.size X12 x → x.cell? ⟨w.heap.size,1,none⟩ = some (.int .i64 ff) ∧ x.cell? ⟨w.heap.size,5,none⟩ = some (.slice ab nb cb) ∧ x.cell? ⟨w.heap.size,6,none⟩ = some (.string pan)):=fun h=>⟨(HK.out (bX.trans (h.mono bX.size))).1.cell 1 (by simp),(HK.out (bX.trans (h.mono bX.size))).1.cell 5 (by simp),(HK.out (bX.trans (h.mono bX.size))).1.cell 6 (by simp)⟩
                 refine wp_region_held_drew (S:=fun x=>x.cell? ⟨w.heap.size,1,none⟩ = some (.int .i64 ff) ∧ x.cell? ⟨w.heap.size,5,none⟩ = some (.slice ab nb cb) ∧ x.cell? ⟨w.heap.size,6,none⟩ = some (.string pan)) (by kernel_rfl) (by rw [← hV];exact keep.out b_0) (fun hHeld=>?_)
                 rw [← hV] at hHeld ⊢
                 clear hV
                 refine tk (i:=0) (v:=(.pointer (some ⟨w.heap.size,1,none⟩))) rfl (Or.inl ⟨by rfl,?_⟩) hHeld ?_
                 · intro _ _;go_simp
                 dsimp only [Act.put,List.getElem_toArray,List.getElem_cons_zero,List.getElem_cons_succ]
                 simp only [List.setIfInBounds_toArray,List.set_cons_succ,List.set_cons_zero]
                 refine tk (i:=1) (v:=(.int .i64 ff)) rfl (Or.inl ⟨by rfl,fun w1 h=>by have hc:=h.1;go_simp⟩) hHeld ?_
                 dsimp only [Act.put,List.getElem_toArray,List.getElem_cons_zero,List.getElem_cons_succ]
                 simp only [List.setIfInBounds_toArray,List.set_cons_succ,List.set_cons_zero]
                 refine tk (i:=2) (v:=(.slice aX 16 cX)) rfl (Or.inl ⟨by rfl,?_⟩) hHeld ?_
                 · intro _ _;go_simp
                 dsimp only [Act.put,List.getElem_toArray,List.getElem_cons_zero,List.getElem_cons_succ]
                 simp only [List.setIfInBounds_toArray,List.set_cons_succ,List.set_cons_zero]
                 refine tk (i:=3) (v:=(.pointer (some ⟨w.heap.size,5,none⟩))) rfl (Or.inl ⟨by rfl,?_⟩) hHeld ?_
                 · intro _ _;go_simp
                 dsimp only [Act.put,List.getElem_toArray,List.getElem_cons_zero,List.getElem_cons_succ]
                 simp only [List.setIfInBounds_toArray,List.set_cons_succ,List.set_cons_zero]
                 refine tk (i:=4) (v:=(.slice ab nb cb)) rfl (Or.inl ⟨by rfl,fun w1 h=>by have hc:=h.2.1;go_simp⟩) hHeld ?_
                 dsimp only [Act.put,List.getElem_toArray,List.getElem_cons_zero,List.getElem_cons_succ]
                 simp only [List.setIfInBounds_toArray,List.set_cons_succ,List.set_cons_zero]
                 refine tk (i:=6) (v:=(.pointer (some ⟨w.heap.size,6,none⟩))) rfl (Or.inl ⟨by rfl,?_⟩) hHeld ?_
                 · intro _ _;go_simp
                 dsimp only [Act.put,List.getElem_toArray,List.getElem_cons_zero,List.getElem_cons_succ]
                 simp only [List.setIfInBounds_toArray,List.set_cons_succ,List.set_cons_zero]
                 refine tk (i:=7) (v:=(.string pan)) rfl (Or.inl ⟨by rfl,fun w1 h=>by have hc:=h.2.2;go_simp⟩) hHeld ?_
                 dsimp only [Act.put,List.getElem_toArray,List.getElem_cons_zero,List.getElem_cons_succ]
                 simp only [List.setIfInBounds_toArray,List.set_cons_succ,List.set_cons_zero]
                 refine wpAnyH_ready (rs:=[5,9]) (by kernel_rfl) (by simp) ?_
                 refine AllReadyH.cons rfl (fun KQ hK=>?_) (AllReadyH.cons rfl (fun KQ hK=>?_) (AllReadyH.nil))
                 · go_simp
                   refine (HT1.out _ _ hcX _ (rKX.below b_0) (HK.out (bX.trans (b_0.mono bX.size))).2.2.2.2.2.2.1).mono ?_
                   rintro e w_1 ⟨v_1,rfl,own_1,bel_1⟩
                   have b_1:=b_0.trans (bel_1.mono (by have:=b_0.size;omega))
                   obtain ⟨aD,cD,rfl,rD,-,-,-⟩:=own_1.shape
                   clear own_1
                   go_wp2_with fail
                   refine hK.out _ _ (keep.out b_1) (fun hHeld=>?_)
                   clear hK KQ
                   try dsimp only [Act.put]
                   refine wpAnyH_ready (rs:=[8,9]) (by kernel_rfl) (by simp) ?_
                   refine AllReadyH.cons rfl (fun KQ hK=>?_) (AllReadyH.cons rfl (fun KQ hK=>?_) (AllReadyH.nil))
                   · go_simp
                     refine (HRD.out _ _ _ rD).mono ?_
                     rintro e w_2 ⟨rfl,bel_2⟩
                     have rD_2:=rD.below bel_2
                     have b_2:=b_1.trans (bel_2.mono (by have:=b_1.size;omega))
                     go_wp2_with fail
                     refine hK.out _ _ (keep.out b_2) (fun hHeld=>?_)
                     clear hK KQ
                     try dsimp only [Act.put]
                     refine rdy1 9 (fun KQ hK=>?_)
                     go_simp
                     obtain ⟨w_3,hw_3⟩:∃ x,x = World.alloc w_2 (.cells (zeroPT).toArray 36):=⟨_,rfl⟩
                     have bel_3:Below w_2.heap.size w_2 w_3:=by rw [hw_3];exact below_new _ _
                     have G_3:Blk w_3 w_2.heap.size 36 (zeroPT):=by rw [hw_3];exact Blk.new _ _ _
                     have le_G_3:=b_2.size
                     have lt_G_3:=G_3.lt
                     have rD_3:=rD_2.below bel_3
                     have b_3:=below_step b_2 bel_3
                     rw [← hw_3]
                     clear hw_3
                     refine hK.out _ _ (keep.out b_3) (fun hHeld=>?_)
                     clear hK KQ
                     try dsimp only [Act.put]
                     refine rdy1 10 (fun KQ hK=>?_)
                     rw [if_pos (by rfl)]
                     refine wp_store_blk rfl 36 _ _ rfl w_2.heap.size rfl rfl G_3 (by kernel_rfl) rfl (by kernel_rfl) ?_
                     have G_4:=Blk.setRow G_3 ([.int .i64 RC,.string RP])
                     have b_4:=below_setRow' (g:=w_2.heap.size) b_3 le_G_3 ([.int .i64 RC,.string RP]).toArray
                     refine hK.out _ _ (keep.out b_4) (fun hHeld=>?_)
                     clear hK KQ
                     try dsimp only [Act.put]
                     refine wpAnyH_done (by kernel_rfl) ?_ _
                     go_wp2_with fail
                     go_meet
                     case rel=>exact ⟨_,rfl,le_G_3,G_4,b_4⟩
                   · go_simp
                     obtain ⟨w_5,hw_5⟩:∃ x,x = World.alloc w_1 (.cells (zeroPT).toArray 36):=⟨_,rfl⟩
                     have bel_5:Below w_1.heap.size w_1 w_5:=by rw [hw_5];exact below_new _ _
                     have G_5:Blk w_5 w_1.heap.size 36 (zeroPT):=by rw [hw_5];exact Blk.new _ _ _
                     have le_G_5:=b_1.size
                     have lt_G_5:=G_5.lt
                     have rD_5:=rD.below bel_5
                     have b_5:=below_step b_1 bel_5
                     rw [← hw_5]
                     clear hw_5
                     refine hK.out _ _ (keep.out b_5) (fun hHeld=>?_)
                     clear hK KQ
                     try dsimp only [Act.put]
                     refine rdy1 8 (fun KQ hK=>?_)
                     go_simp
                     refine (HRD.out _ _ _ rD_5).mono ?_
                     rintro e w_6 ⟨rfl,bel_6⟩
                     have rD_6:=rD_5.below bel_6
                     have G_6:=G_5.below bel_6 G_5.lt
                     have b_6:=b_5.trans (bel_6.mono (by have:=b_5.size;omega))
                     go_wp2_with fail
                     refine hK.out _ _ (keep.out b_6) (fun hHeld=>?_)
                     clear hK KQ
                     try dsimp only [Act.put]
                     refine rdy1 10 (fun KQ hK=>?_)
                     rw [if_pos (by rfl)]
                     refine wp_store_blk rfl 36 _ _ rfl w_1.heap.size rfl rfl G_6 (by kernel_rfl) rfl (by kernel_rfl) ?_
                     have G_7:=Blk.setRow G_6 ([.int .i64 RC,.string RP])
                     have b_7:=below_setRow' (g:=w_1.heap.size) b_6 le_G_5 ([.int .i64 RC,.string RP]).toArray
                     refine hK.out _ _ (keep.out b_7) (fun hHeld=>?_)
                     clear hK KQ
                     try dsimp only [Act.put]
                     refine wpAnyH_done (by kernel_rfl) ?_ _
                     go_wp2_with fail
                     go_meet
                     case rel=>exact ⟨_,rfl,le_G_5,G_7,b_7⟩
                 · go_simp
                   obtain ⟨w_8,hw_8⟩:∃ x,x = World.alloc V (.cells (zeroPT).toArray 36):=⟨_,rfl⟩
                   have bel_8:Below V.heap.size V w_8:=by rw [hw_8];exact below_new _ _
                   have G_8:Blk w_8 V.heap.size 36 (zeroPT):=by rw [hw_8];exact Blk.new _ _ _
                   have le_G_8:=b_0.size
                   have lt_G_8:=G_8.lt
                   have b_8:=below_step b_0 bel_8
                   rw [← hw_8]
                   clear hw_8
                   refine hK.out _ _ (keep.out b_8) (fun hHeld=>?_)
                   clear hK KQ
                   try dsimp only [Act.put]
                   refine rdy1 5 (fun KQ hK=>?_)
                   go_simp
                   refine (HT1.out _ _ hcX _ (rKX.below b_8) (HK.out (bX.trans (b_8.mono bX.size))).2.2.2.2.2.2.1).mono ?_
                   rintro e w_9 ⟨v_9,rfl,own_9,bel_9⟩
                   have G_9:=G_8.below bel_9 G_8.lt
                   have b_9:=b_8.trans (bel_9.mono (by have:=b_8.size;omega))
                   obtain ⟨aD,cD,rfl,rD,-,-,-⟩:=own_9.shape
                   clear own_9
                   go_wp2_with fail
                   refine hK.out _ _ (keep.out b_9) (fun hHeld=>?_)
                   clear hK KQ
                   try dsimp only [Act.put]
                   refine rdy1 8 (fun KQ hK=>?_)
                   go_simp
                   refine (HRD.out _ _ _ rD).mono ?_
                   rintro e w_10 ⟨rfl,bel_10⟩
                   have G_10:=G_9.below bel_10 G_9.lt
                   have rD_10:=rD.below bel_10
                   have b_10:=b_9.trans (bel_10.mono (by have:=b_9.size;omega))
                   go_wp2_with fail
                   refine hK.out _ _ (keep.out b_10) (fun hHeld=>?_)
                   clear hK KQ
                   try dsimp only [Act.put]
                   refine rdy1 10 (fun KQ hK=>?_)
                   rw [if_pos (by rfl)]
                   refine wp_store_blk rfl 36 _ _ rfl V.heap.size rfl rfl G_10 (by kernel_rfl) rfl (by kernel_rfl) ?_
                   have G_11:=Blk.setRow G_10 ([.int .i64 RC,.string RP])
                   have b_11:=below_setRow' (g:=V.heap.size) b_10 le_G_8 ([.int .i64 RC,.string RP]).toArray
                   refine hK.out _ _ (keep.out b_11) (fun hHeld=>?_)
                   clear hK KQ
                   try dsimp only [Act.put]
                   refine wpAnyH_done (by kernel_rfl) ?_ _
                   go_wp2_with fail
                   go_meet
                   case rel=>exact ⟨_,rfl,le_G_8,G_11,b_11⟩
               case rest =>
                 obtain ⟨GR,rfl,lGR,kGR,bc⟩:=hcut
                 have cG0:=kGR.cell 0 (by simp)
                 have bc2:Below W.heap.size W wc:=bX.trans (bc.mono bX.size)
                 rcases HRR.out with ⟨hmv,hRC,hRP⟩ | ⟨hmv,hRC,hRP⟩
                 · subst hRC
                   have hRP2:P = RP:=hRP.symm
                   clear hRP
                   subst hRP2
                   have e1:mvC KT block draws ff tf pan = (if mkC tf (mvP KT block pan) pan draws.length = 1 then 4 else if mkC tf (mvP KT block pan) pan draws.length = 2 then 5 else 0):=by unfold mvC;rw [hmv];rfl
                   have e2:mvL KT T block draws ff tf pan = (if mkC tf (mvP KT block pan) pan draws.length = 0 then tdeaL T (mkL tf (mvP KT block pan) pan draws) false else []):=by unfold mvL;rw [hmv];rfl
                   have e3:mvU KT block draws ff tf pan = (if mkC tf (mvP KT block pan) pan draws.length = 0 then mkU tf (mvP KT block pan) pan draws.length else 0):=by unfold mvU;rw [hmv];rfl
                   rw [e1,← HP.out] at HC
                   rw [e2,← HP.out] at HL
                   rw [e3,← HP.out] at HU
                   clear e1 e2 e3 hmv
                   obtain ⟨MC,hMCe⟩:∃ C,C = mkC tf P pan draws.length:=⟨_,rfl⟩
                   obtain ⟨MU,hMUe⟩:∃ C,C = mkU tf P pan draws.length:=⟨_,rfl⟩
                   have hM2:mkC tf P pan nd = MC:=by rw [HND.out,hMCe]
                   have hM3:mkU tf P pan nd = MU:=by rw [HND.out,hMUe]
                   rw [hM2,hM3] at HMK
                   rw [← hMCe] at HC HL HU hMC
                   rw [← hMUe] at HU
                   clear hMCe hMUe hM2 hM3
                   have cG1:=kGR.cell 1 (by simp)
                   have c4:=(HK.out bc2).1.cell 4 (by simp)
                   have c6:=(HK.out bc2).1.cell 6 (by simp)
                   have c7:=(HK.out bc2).1.cell 7 (by simp)
                   go_wp2_with fail
                   refine (HMK.out _ _ wc (by rw [HND.out];exact hcd) (HK.out bc2).2.2.2.2.2.2.2.1).mono ?_
                   rintro e w4 ⟨v4,rfl,own4,bel4⟩
                   obtain ⟨aP,cP,rfl,rP,hcP⟩:=own_shape2 own4
                   have b4:Below X12.heap.size X12 w4:=bc.trans (bel4.mono bc.size)
                   obtain ⟨l,hl⟩:∃ l,l = (mkL tf P pan draws).length:=⟨_,rfl⟩
                   rw [← hl] at hcP own4 HT2 ⊢
                   clear hl cG0 cG1 c4 c6 c7 kGR bc bel4 own4
                   obtain ⟨W5,hW5⟩:∃ x,x = w4.alloc (.cells #[.int .i64 MC,.slice aP l cP,.int .i64 MU] 40):=⟨_,rfl⟩
                   have HW5:=hide hW5
                   have k5:Blk W5 w4.heap.size 40 [.int .i64 MC,.slice aP l cP,.int .i64 MU]:=by rw [hW5];exact Blk.new _ _ _
                   have b45:Below w4.heap.size w4 W5:=by rw [hW5];exact below_new _ _
                   have b5:Below X12.heap.size X12 W5:=b4.trans (b45.mono b4.size)
                   have b5W:Below W.heap.size W W5:=bX.trans (b5.mono bX.size)
                   obtain ⟨-,q1,-,-,-,-,-,-,hb5⟩:=HK.out b5W
                   have rP5:=rP.below b45
                   have kT5:=kPT.below b5 kPT.lt
                   have rT5:=rTX.below b5
                   clear rP
                   rcases hMC with hM | hM | hM
                   · rw [hM] at HC HU HL
                     simp only [] at HC HU HL
                     subst hM
                     clear hW5
                     go_upto_region 21 with fail
                     rw [← show W5 = _ from HW5]
                     clear HW5
                     obtain ⟨V,hV⟩:∃ V,V = World.drew W5:=⟨_,rfl⟩
                     have kV5:Blk V w4.heap.size 40 [.int .i64 0,.slice aP l cP,.int .i64 MU]:=by rw [hV];exact k5.drew1
                     have kVT:Blk V g2 33 [.int .i64 0,.int .i64 1,.int .i64 G2,.slice aT T.length cT]:=by rw [hV];exact kT5.drew1
                     have rPV:RowAt V aP (mkL tf P pan draws):=by rw [hV];exact rP5.drew1
                     have rTV:RowAt V aT T:=by rw [hV];exact rT5.drew1
                     have kV3:Blk V (w.heap.size + 1) 28 zeroMv:=by rw [hV];exact q1.drew1
                     have hbV:Below w.heap.size w V:=by rw [hV];exact hb5.drew
                     obtain ⟨GP,hGP⟩:∃ x,x = w4.heap.size:=⟨_,rfl⟩
                     have hbW4:=b4.size
                     have hbX:=bX.size
                     rw [← hGP] at kV5 hbW4 ⊢
                     have lV:=kV5.lt
                     have lVT:=kVT.lt
                     have b_0:Below (w.heap.size + 1) V V:=Below.refl _ _
                     have keep:Hid (∀ {P:Prop},P → P):=fun h=>h
                     have s0:V.cell? ⟨GP,1,none⟩ = some (.slice aP l cP) ∧ V.cell? ⟨GP,2,none⟩ = some (.int .i64 MU) ∧ V.cell? ⟨g2,3,none⟩ = some (.slice aT T.length cT):=⟨kV5.cell 1 (by simp),kV5.cell 2 (by simp),kVT.cell 3 (by simp)⟩
                     refine wp_region_held_drew (S:=fun x=>x.cell? ⟨GP,1,none⟩ = some (.slice aP l cP) ∧ x.cell? ⟨GP,2,none⟩ = some (.int .i64 MU) ∧ x.cell? ⟨g2,3,none⟩ = some (.slice aT T.length cT)) (by kernel_rfl) (by rw [← hV];exact s0) (fun hHeld=>?_)
                     rw [← hV] at hHeld ⊢
                     clear hV k5 q1 hb5 rP5 b45 b5 b4 hGP kT5 rT5
                     refine tk (i:=0) (v:=(.pointer (some ⟨g2,1,none⟩))) rfl (Or.inl ⟨by rfl,?_⟩) hHeld ?_
                     · intro _ _;go_simp
                     dsimp only [Act.put,List.getElem_toArray,List.getElem_cons_zero,List.getElem_cons_succ]
                     simp only [List.setIfInBounds_toArray,List.set_cons_succ,List.set_cons_zero]
                     refine tk (i:=1) (v:=(.pointer (some ⟨g2,3,none⟩))) rfl (Or.inl ⟨by rfl,?_⟩) hHeld ?_
                     · intro _ _;go_simp
                     dsimp only [Act.put,List.getElem_toArray,List.getElem_cons_zero,List.getElem_cons_succ]
                     simp only [List.setIfInBounds_toArray,List.set_cons_succ,List.set_cons_zero]
                     refine tk (i:=2) (v:=(.slice aT T.length cT)) rfl (Or.inl ⟨by rfl,fun w1 h=>by have hc:=h.2.2;go_simp⟩) hHeld ?_
                     dsimp only [Act.put,List.getElem_toArray,List.getElem_cons_zero,List.getElem_cons_succ]
                     simp only [List.setIfInBounds_toArray,List.set_cons_succ,List.set_cons_zero]
                     refine tk (i:=3) (v:=(.pointer (some ⟨GP,1,none⟩))) rfl (Or.inl ⟨by rfl,?_⟩) hHeld ?_
                     · intro _ _;go_simp
                     dsimp only [Act.put,List.getElem_toArray,List.getElem_cons_zero,List.getElem_cons_succ]
                     simp only [List.setIfInBounds_toArray,List.set_cons_succ,List.set_cons_zero]
                     refine tk (i:=4) (v:=(.slice aP l cP)) rfl (Or.inl ⟨by rfl,fun w1 h=>by have hc:=h.1;go_simp⟩) hHeld ?_
                     dsimp only [Act.put,List.getElem_toArray,List.getElem_cons_zero,List.getElem_cons_succ]
                     simp only [List.setIfInBounds_toArray,List.set_cons_succ,List.set_cons_zero]
                     refine tk (i:=6) (v:=(.pointer (some ⟨GP,2,none⟩))) rfl (Or.inl ⟨by rfl,?_⟩) hHeld ?_
                     · intro _ _;go_simp
                     dsimp only [Act.put,List.getElem_toArray,List.getElem_cons_zero,List.getElem_cons_succ]
                     simp only [List.setIfInBounds_toArray,List.set_cons_succ,List.set_cons_zero]
                     refine tk (i:=7) (v:=(.int .i64 MU)) rfl (Or.inl ⟨by rfl,fun w1 h=>by have hc:=h.2.1;go_simp⟩) hHeld ?_
                     dsimp only [Act.put,List.getElem_toArray,List.getElem_cons_zero,List.getElem_cons_succ]
                     simp only [List.setIfInBounds_toArray,List.set_cons_succ,List.set_cons_zero]
                     refine rdy1 5 (fun KQ hK=>?_)
                     go_simp
                     refine (HT2.out _ _ _ _ hcT hcP _ rTV rPV).mono ?_
                     rintro e w_1 ⟨v_1,rfl,own_1,bel_1⟩
                     have G_1:=kV3.below bel_1 kV3.lt
                     have b_1:=b_0.trans (bel_1.mono (by have:=b_0.size;omega))
                     have kx:=kV5.below bel_1 lV
                     have ky:=kVT.below bel_1 lVT
                     have s1:w_1.cell? ⟨GP,1,none⟩ = some (.slice aP l cP) ∧ w_1.cell? ⟨GP,2,none⟩ = some (.int .i64 MU) ∧ w_1.cell? ⟨g2,3,none⟩ = some (.slice aT T.length cT):=⟨kx.cell 1 (by simp),kx.cell 2 (by simp),ky.cell 3 (by simp)⟩
                     obtain ⟨aV,cV,rfl,-,-,-,-⟩:=own_1.shape
                     go_wp2_with fail
                     refine hK.out _ _ (keep.out s1) (fun hHeld=>?_)
                     clear hK KQ
                     try dsimp only [Act.put]
                     refine tk (i:=8) (v:=(.agg #[.int .i64 0,.slice aV (tdeaL T (mkL tf P pan draws) false).length cV,.int .i64 MU])) rfl (Or.inl ⟨by rfl,?_⟩) hHeld ?_
                     · intro _ _;go_simp
                     dsimp only [Act.put,List.getElem_toArray,List.getElem_cons_zero,List.getElem_cons_succ]
                     simp only [List.setIfInBounds_toArray,List.set_cons_succ,List.set_cons_zero]
                     refine rdy1 9 (fun KQ hK=>?_)
                     rw [if_pos (by rfl)]
                     refine wp_store_blk rfl 28 _ _ rfl (w.heap.size + 1) rfl rfl G_1 (by kernel_rfl) rfl (by kernel_rfl) ?_
                     have kz:=Blk.setRow G_1 ([.int .i64 0,.slice aV (tdeaL T (mkL tf P pan draws) false).length cV,.int .i64 MU])
                     have s2:(World.setRow w_1 (w.heap.size + 1) ([.int .i64 0,.slice aV (tdeaL T (mkL tf P pan draws) false).length cV,.int .i64 MU]:List Value).toArray).cell? ⟨GP,1,none⟩ = some (.slice aP l cP) ∧ (World.setRow w_1 (w.heap.size + 1) ([.int .i64 0,.slice aV (tdeaL T (mkL tf P pan draws) false).length cV,.int .i64 MU]:List Value).toArray).cell? ⟨GP,2,none⟩ = some (.int .i64 MU) ∧ (World.setRow w_1 (w.heap.size + 1) ([.int .i64 0,.slice aV (tdeaL T (mkL tf P pan draws) false).length cV,.int .i64 MU]:List Value).toArray).cell? ⟨g2,3,none⟩ = some (.slice aT T.length cT):=by
                       have kx2:=kx.setRow_other (g':=(w.heap.size + 1)) (cs:=([.int .i64 0,.slice aV (tdeaL T (mkL tf P pan draws) false).length cV,.int .i64 MU]:List Value).toArray) (by omega)
                       have ky2:=ky.setRow_other (g':=(w.heap.size + 1)) (cs:=([.int .i64 0,.slice aV (tdeaL T (mkL tf P pan draws) false).length cV,.int .i64 MU]:List Value).toArray) (by omega)
                       exact ⟨kx2.cell 1 (by simp),kx2.cell 2 (by simp),ky2.cell 3 (by simp)⟩
                     refine hK.out _ _ (keep.out s2) (fun hHeld=>?_)
                     clear hK KQ
                     try dsimp only [Act.put]
                     refine wpAnyH_done (by kernel_rfl) ?_ _
                     go_wp2_with fail
                     exact ⟨rfl,_,results_blk Tryz.results13 _ _ rfl kz Tryz.underlying28 rfl (by kernel_rfl),⟨_,by rw [HC.out,HU.out];rfl,by rw [HL.out];exact own_base (own_1.grown (grown_setRow' _ _ _) (own_not own_1 (by omega))) (by have:=hbV.size;omega),below_setRow' (hbV.trans (bel_1.mono hbV.size)) (by omega) _⟩⟩
                   · rw [hM] at HC HU HL
                     simp only [] at HC HU HL
                     subst hM
                     rw [hW5] at q1 hb5
                     clear hW5 HW5 k5 rP5 b5 b45 kT5 rT5 b5W
                     go_wp2_with (refine store_blk rfl 28 _ _ rfl (w.heap.size + 1) rfl rfl q1 (by kernel_rfl) rfl (by kernel_rfl) ?_;intro w7 hb7 hg7 hs7)
                     exact ⟨rfl,_,results_blk Tryz.results13 _ _ rfl hb7 Tryz.underlying28 rfl (by kernel_rfl),⟨_,by rw [HC.out,HU.out];rfl,by rw [HL.out];exact own_nil _ _,hb5.grown hg7 hb5.size (by intro k hk;cases hk;omega)⟩⟩
                   · rw [hM] at HC HU HL
                     simp only [] at HC HU HL
                     subst hM
                     rw [hW5] at q1 hb5
                     clear hW5 HW5 k5 rP5 b5 b45 kT5 rT5 b5W
                     go_wp2_with (refine store_blk rfl 28 _ _ rfl (w.heap.size + 1) rfl rfl q1 (by kernel_rfl) rfl (by kernel_rfl) ?_;intro w7 hb7 hg7 hs7)
                     exact ⟨rfl,_,results_blk Tryz.results13 _ _ rfl hb7 Tryz.underlying28 rfl (by kernel_rfl),⟨_,by rw [HC.out,HU.out];rfl,by rw [HL.out];exact own_nil _ _,hb5.grown hg7 hb5.size (by intro k hk;cases hk;omega)⟩⟩
                 · subst hRC hRP
                   have e1:mvC KT block draws ff tf pan = 4:=by unfold mvC;rw [hmv];rfl
                   have e2:mvL KT T block draws ff tf pan = []:=by unfold mvL;rw [hmv];rfl
                   have e3:mvU KT block draws ff tf pan = 0:=by unfold mvU;rw [hmv];rfl
                   rw [e1] at HC
                   rw [e2] at HL
                   rw [e3] at HU
                   clear e1 e2 e3 hmv
                   obtain ⟨-,q1,-,-,-,-,-,-,hb⟩:=HK.out bc2
                   clear kGR
                   go_wp2_with (refine store_blk rfl 28 _ _ rfl (w.heap.size + 1) rfl rfl q1 (by kernel_rfl) rfl (by kernel_rfl) ?_;intro w7 hb7 hg7 hs7)
                   exact ⟨rfl,_,results_blk Tryz.results13 _ _ rfl hb7 Tryz.underlying28 rfl (by kernel_rfl),⟨_,by rw [HC.out,HU.out],by rw [HL.out];exact own_nil _ _,hb.grown hg7 hb.size (by intro k hk;cases hk;omega)⟩⟩
       · have htt:=ht1f hU21
         have hUb:(U2 != 1) = true:=by rw [bne_iff_ne];exact hU21
         rw [htt] at HC HL HU
         simp only [Bool.false_eq_true,if_false] at HC HL HU
         clear htt ht1f ht1t
         have e0:=kP2.cell 0 (by simp)
         have e1:=kP2.cell 1 (by simp)
         obtain ⟨-,q1,-,-,-,-,-,-,hb⟩:=HK.out bW2
         go_wp2_with (refine store_blk rfl 28 _ _ rfl (w.heap.size + 1) rfl rfl q1 (by kernel_rfl) rfl (by kernel_rfl) ?_;intro w7 hb7 hg7 hs7)
         exact ⟨rfl,_,results_blk Tryz.results13 _ _ rfl hb7 Tryz.underlying28 rfl (by kernel_rfl),⟨_,by rw [HC.out,HU.out],by rw [HL.out];exact own_nil _ _,hb.grown hg7 hb.size (by intro k hk;cases hk;omega)⟩⟩
end Go.Proofs.YtoajfbkblpaejaaGreatDoor
