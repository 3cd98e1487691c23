import Derived.Test.YtbkokcjolanpeaaGreatDoorRgAI
namespace Go.Proofs.YtbkokcjolanpeaaGreatDoor
open Go.RowKit
theorem convB (s:ByteArray) (w:World):∃ c w',(convert 9 22 (.string s)).run Tryz.prog w = .ok (.slice (some ⟨w.heap.size,0,none⟩) s.size c) w' ∧ RowAt w' (some ⟨w.heap.size,0,none⟩) s.data.toList ∧ Below w.heap.size w w':=by
 refine ⟨_,_,Lib.run_convert_string_bytes w 9 22 5 s Tryz.underlying9 Tryz.underlying22 Tryz.underlying5,.inr ⟨_,_,rfl,fun i hi=>?_⟩,?_⟩
 · rw [Nat.zero_add]
   have hi2:i < s.size:=by have h:=hi;rw [Array.length_toList] at h;exact h
   exact Lib.bytesWorld_cell w 5 s i hi2
 · exact ⟨rfl,rfl,rfl,by rw [Lib.bytesWorld_size];omega,fun k hk=>Lib.bytesWorld_at_old w _ s k hk⟩
structure Mst (w0:World) (x0 x1:Addr) (am:Option Addr) (master:List UInt8):Prop where
 sents:Sents w0 x0 x1
 row:RowAt w0 am master
 tab:∀ w',Below w0.heap.size w0 w' → Lib.TabIs Tryz.prog w' "internal/strconv.uint64pow10" .u64 Lib.pow10Tab
theorem frTwo {w:World} {lo:Nat} {v:Value} {n1 n2:Int} {d1 d2:List UInt8} {a1 a2:Option Addr} {c1 c2:Nat} (row:w.ownsRow lo 29 2 v 2 [.int .i64 n1,.slice a1 d1.length c1,.int .i64 n2,.slice a2 d2.length c2]) (r1:RowAt w a1 d1) (r2:RowAt w a2 d2):Fr w v [(n1,d1),(n2,d2)]:=by
 refine Fr.ofRow (vs:=[.slice a1 d1.length c1,.slice a2 d2.length c2]) row rfl (fun i hi=>?_)
 have hi2:i = 0 ∨ i = 1:=by simp at hi;omega
 rcases hi2 with rfl | rfl
 · exact ⟨a1,c1,rfl,r1⟩
 · exact ⟨a2,c2,rfl,r2⟩
set_option maxRecDepth 100000 in
set_option maxHeartbeats 1000000 in
theorem answer_ask (s:SS) (w0:World) (gS:Nat) (P:Nat → Prop) (x0 x1:Addr) (am:Option Addr) (cm:Nat) (master:List UInt8) (M:Mst w0 x0 x1 am master) (hm:s.mst = .slice am master.length cm) (link:Int) (code:Nat) (hc:code < 100) (stan:ByteArray) (hst:stan.size ≤ 1048576) (key:List UInt8) (ak:Option Addr) (ck:Nat) (hck:key.length ≤ ck)
   (L:List (Int × List UInt8)) (hL:L.length ≤ 1048576) (h11:hasN 11 L = true) (v:Value) (w:World) (b0:Below w0.heap.size w0 w) (hP:∀ k,w.heap.size ≤ k → P k) (h:Ses w w0.heap.size gS P s) (F:Fr w v L) (rk:RowAt w ak key) (hlS:s.S.length ≤ 1000000) (hlL:s.L.length ≤ 1000000) :
   Calls Tryz.prog 118 #[.pointer (some ⟨gS,0,none⟩),.agg #[.int .i64 link,.string ⟨#[48,49,48,48]⟩,v,.string stan,.slice ak key.length ck],.int .i64 (code:Int)] w fun e w' =>
     e = .returned (.tuple #[]) ∧ (∃ x,Ses w' w0.heap.size gS P { s with S:=s.S ++ [(link,x)],L:=s.L ++ [((code:Int),link,stan)] }) ∧ Below w0.heap.size w w' ∧ Sm sesT w w' ∧ Kp P w w':=by
 obtain ⟨i0,hi0,hz0,hz1,hz2⟩:=info_parts Tryz.infoFz
 obtain ⟨av,cv,rfl⟩:=F.sh
 obtain ⟨kN,hkN⟩:∃ n,n = key.length:=⟨_,rfl⟩
 obtain ⟨gA,hgA⟩:∃ n,n = w.heap.size:=⟨_,rfl⟩
 obtain ⟨W,hW⟩:∃ y,y = w.alloc (Obj.cells #[.int .i64 link,.string ⟨#[48,49,48,48]⟩,.slice av L.length cv,.string stan,.slice ak key.length ck] 219):=⟨_,rfl⟩
 have bW:Below w.heap.size w W:=by rw [hW];exact below_newS _ _
 have kA:Blk W gA 219 [.int .i64 link,.string ⟨#[48,49,48,48]⟩,.slice av L.length cv,.string stan,.slice ak key.length ck]:=by rw [hW,hgA];exact Blk.new _ _ _
 obtain ⟨gN,hgN⟩:∃ n,n = W.heap.size:=⟨_,rfl⟩
 obtain ⟨W1,hW1⟩:∃ y,y = W.alloc (Obj.cells #[.int .i64 11] 3):=⟨_,rfl⟩
 have bW1:Below W.heap.size W W1:=by rw [hW1];exact below_newS _ _
 have kN1:Blk W1 gN 3 [.int .i64 11]:=by rw [hW1,hgN];exact Blk.new _ _ _
 have bw1:=bW.trans (bW1.mono bW.size)
 have HHAS:=hideT (has_any [11] (by decide) gN ⟨#[48,49,48,48]⟩ L hL _ W1 (F.below bw1) (fun i hi=>by
   obtain rfl:i = 0:=by simp at hi;omega
   exact kN1.cell 0 (by simp)))
 rw [show ([11]:List Int).all (fun n=>hasN n L) = true from by simp [h11]] at HHAS
 have HA:=hideT (fun (y:World) (hy:Below W.heap.size W y)=>kA.below hy kA.lt)
 have HMSG:Hid (W.rangeAt gA 1 [.string ⟨#[48,49,48,48]⟩,.slice av L.length cv]):=fun j u hu=>by
   cases j with
   | zero=>simp at hu;subst hu;exact kA.cell 1 (by simp)
   | succ j =>
     cases j with
     | zero=>simp at hu;subst hu;exact kA.cell 2 (by simp)
     | succ j=>simp at hu
 have HSES:=hideT (fun (y:World) (hy:Below w.heap.size w y)=>h.below hy)
 have HRK:=hideT (fun (y:World) (hy:Below w.heap.size w y)=>rk.below hy)
 have HB0:=hideT b0
 have hlo:=b0.size
 have HST:=hideT hst
 have HW:=hideT hW
 have HW1:=hideT hW1
 have HGA:=hideT hgA
 have HGN:=hideT hgN
 have HMM:=hideT hm
 clear hW hW1 hgA hgN h rk F b0 kA kN1 hst hm
 go_enter Tryz.func118,Tryz.ntmps118
 go_upto_region 2 with fail
 rw [← show W = _ from HW,← show gA = _ from HGA]
 go_wp2_with (refine wpList_load_mid rfl 32 _ rfl gA 1 rfl [.string ⟨#[48,49,48,48]⟩,.slice av L.length cv] _ HMSG.out Tryz.underlying32 rfl (by kernel_rfl) ?_)
 rw [← show W1 = _ from HW1,← show gN = _ from HGN]
 refine HHAS.out.mono ?_
 rintro e X2 ⟨rfl,b2⟩
 have bw2:Below w.heap.size w X2:=bw1.trans (b2.mono bw1.size)
 have bX2:Below W.heap.size W X2:=bW1.trans (b2.mono bW1.size)
 have cst:X2.cell? ⟨gA,3,none⟩ = some (.string stan):=(HA.out _ bX2).cell 3 (by simp)
 obtain ⟨c3,X3,hcv,r3,b3⟩:=convB stan X2
 obtain ⟨g3,hg3⟩:∃ n,n = X2.heap.size:=⟨_,rfl⟩
 rw [← hg3] at hcv r3
 obtain ⟨ns,hns⟩:∃ n,n = stan.size:=⟨_,rfl⟩
 rw [← hns] at hcv
 obtain ⟨X4,hX4⟩:∃ y,y = X3.alloc (Obj.cells #[.int .i64 11,.slice (some ⟨g3,0,none⟩) ns c3] 29):=⟨_,rfl⟩
 have b4:Below X3.heap.size X3 X4:=by rw [hX4];exact below_newS _ _
 have k4:Blk X4 X3.heap.size 29 [.int .i64 11,.slice (some ⟨g3,0,none⟩) ns c3]:=by rw [hX4];exact Blk.new _ _ _
 have K4:=hideT k4
 have HX4:=hideT hX4
 have HNS:=hideT hns
 clear hX4 k4 hg3 hns HHAS HMSG HW HW1 HGA HGN
 have b34:=b3.trans (b4.mono b3.size)
 have bw4:=bw2.trans (b34.mono bw2.size)
 have R4:=hideT (r3.below b4)
 clear r3
 go_wp2_with (at_builtin;(rw [← show X4 = _ from HX4];refine wpList_append_own _ rfl _ _ 30 rfl X4.heap.size 29 i0 (.agg #[.int .i64 0,.slice none 0 0]) 2 32 Tryz.underlying30 hi0 hz0 hz1 hz2 rfl (by decide) (.slice none 0 0) 0 [] rfl (World.ownsRow_nil _ _ _ _) ⟨X3.heap.size,0,none⟩ 1 1 [.int .i64 11,.slice (some ⟨g3,0,none⟩) ns c3] rfl rfl (newsB K4.out) (by intro u hu;simp at hu;rcases hu with rfl | rfl <;> rfl) (by unfold maxLen;omega) (by omega) (Nat.le_refl _) ?_;intro v5 X5 row5 gr5 _;obtain ⟨a5,c5,rfl⟩:=ownS row5))
 have b45:Below X4.heap.size X4 X5:=below_of_grown gr5
 have bw5:=bw4.trans (b45.mono bw4.size)
 have b05:=HB0.out.trans (bw5.mono hlo)
 have hw4:=bw4.size
 have HID:Hid (Calls Tryz.prog 103 #[.int .i64 (code:Int),.int .i64 2] X5 fun e w'=>e = .returned (.string ⟨(padL 2 code).toArray⟩) ∧ Below X5.heap.size X5 w'):=inDigits_any code 1 X5 (M.tab _ b05) (by omega) (by omega)
 obtain ⟨sd,hsd⟩:∃ q:ByteArray,q = ⟨(padL 2 code).toArray⟩:=⟨_,rfl⟩
 have HSD:Hid (sd.data.toList.length ≤ 1048576):=by
   have e:sd.data.toList = padL 2 code:=by rw [hsd]
   show sd.data.toList.length ≤ 1048576
   rw [e,padL_length];decide
 rw [← hsd] at HID
 clear hsd
 refine HID.out.mono ?_
 rintro e X6 ⟨rfl,b6⟩
 obtain ⟨c7,X7,hcv2,r7,b7⟩:=convB sd X6
 obtain ⟨g7,hg7⟩:∃ n,n = X6.heap.size:=⟨_,rfl⟩
 rw [← hg7] at hcv2 r7
 obtain ⟨nd,hnd⟩:∃ n,n = sd.size:=⟨_,rfl⟩
 rw [← hnd] at hcv2
 obtain ⟨X8,hX8⟩:∃ y,y = X7.alloc (Obj.cells #[.int .i64 39,.slice (some ⟨g7,0,none⟩) nd c7] 29):=⟨_,rfl⟩
 have b8:Below X7.heap.size X7 X8:=by rw [hX8];exact below_newS _ _
 have k8:Blk X8 X7.heap.size 29 [.int .i64 39,.slice (some ⟨g7,0,none⟩) nd c7]:=by rw [hX8];exact Blk.new _ _ _
 have b58:=b6.trans ((b7.trans (b8.mono b7.size)).mono b6.size)
 have bw8:=bw5.trans (b58.mono bw5.size)
 have b48:=b45.trans (b58.mono b45.size)
 have ROW:=hideT (own_sm (ts:=[]) row5 (Sm.below b58) (by simp))
 have LT5:=hideT row5.lt
 have HG7:=hideT hg7
 have hz8:X4.heap.size ≤ X8.heap.size:=b48.size
 have hb6:=b6.size
 have K8:=hideT k8
 have HX8:=hideT hX8
 have HND:=hideT hnd
 have R8:=hideT (r7.below b8)
 have R48:=hideT (R4.out.below b48)
 have BW8:=hideT bw8
 have B48:=hideT b48
 have HS3:=hideT (And.intro bX2 b34)
 have HB45:=hideT (b45.trans (b58.mono b45.size))
 clear hX8 k8 hg7 hnd row5 r7 b58 b7 b8 b48 bw8 bw5 b45 b05 hcv cst HID bw4 HX4 K4 gr5
 go_wp2_with (at_builtin;(rw [← show X8 = _ from HX8];refine wpList_append_own _ rfl _ _ 30 rfl X4.heap.size 29 i0 (.agg #[.int .i64 0,.slice none 0 0]) 2 32 Tryz.underlying30 hi0 hz0 hz1 hz2 rfl (by decide) (.slice a5 1 c5) 1 _ rfl ROW.out ⟨X7.heap.size,0,none⟩ 1 1 [.int .i64 39,.slice (some ⟨g7,0,none⟩) nd c7] rfl rfl (newsB K8.out) (by intro u hu;simp at hu;rcases hu with rfl | rfl <;> rfl) (by unfold maxLen;omega) (by omega) hz8 ?_;intro v9 X9 row9 gr9 _;obtain ⟨a9,c9,rfl⟩:=ownS row9;have b49:Below X4.heap.size X4 X9:=HB45.out.grown gr9 hz8 (fun k hk=>(ROW.out.lt k hk).1);have kA9:=HA.out X9 ((HS3.out.1.trans (HS3.out.2.mono HS3.out.1.size)).trans (b49.mono (Nat.le_trans HS3.out.1.size HS3.out.2.size)));have d0:=kA9.cell 0 (by simp);have d1:=kA9.cell 1 (by simp);have d4:=kA9.cell 4 (by simp)))
 have bw9:Below w.heap.size w X9:=BW8.out.grown gr9 BW8.out.size (fun k hk=>Nat.le_trans hw4 (ROW.out.lt k hk).1)
 have b09:=HB0.out.trans (bw9.mono hlo)
 have e1:ns = stan.data.toList.length:=by rw [HNS.out,Array.length_toList];rfl
 have e2:nd = sd.data.toList.length:=by rw [HND.out,Array.length_toList];rfl
 rw [e1,e2] at row9
 have FR:=frTwo (n1:=11) (n2:=39) row9 (R4.out.below b49) (R8.out.grown gr9 (fun a ha hk=>by
   cases ha
   have:=(LT5.out _ hk).2
   have:=HG7.out
   simp only at *
   omega))
 have HSE:=hideT (send_any s w0.heap.size gS P link master key ⟨#[48,49,49,48]⟩ [(11,stan.data.toList),(39,sd.data.toList)] (fun p hp=>by
   simp only [List.mem_cons,List.not_mem_nil,or_false] at hp
   rcases hp with rfl | rfl
   · rw [show ((11:Int),stan.data.toList).2.length = stan.size from by rw [Array.length_toList];rfl];exact HST.out
   · exact HSD.out) (by simp) am ak cm ck (.slice a9 2 c9) x0 x1 X9 hck (M.sents.below b09) (M.row.below b09) (HRK.out X9 bw9) FR (fun w' hb=>M.tab w' (b09.trans (hb.mono b09.size))) HMM.out b09.size (fun k hk=>hP k (Nat.le_trans bw9.size hk)) (HSES.out X9 bw9) hlS)
 have KA9:=hideT kA9
 clear row9 gr9 FR e1 e2 kA9 hcv2 R4 R8 R48 HSD HNS HND ROW LT5 HX8 K8
 refine HSE.out.mono ?_
 rintro e Y1 ⟨rfl,⟨aS,cS,hS1⟩,bY1,sY1,pY1⟩
 have kY:=KA9.out.sm sY1 (by decide)
 have y0:=kY.cell 0 (by simp)
 have y3:=kY.cell 3 (by simp)
 have HNO:=hideT (note_any _ w0.heap.size gS P (code:Int) link stan Y1 (Nat.le_trans b09.size bY1.size) (fun k hk=>hP k (Nat.le_trans (Nat.le_trans bw9.size bY1.size) hk)) hS1 hlL)
 clear HSE hS1 KA9
 go_wp2_with fail
 refine HNO.out.mono ?_
 rintro e Y2 ⟨rfl,hS2,bY2,sY2,pY2⟩
 go_wp2_with fail
 go_end0
 exact ⟨rfl,⟨_,hS2⟩,(bw9.mono hlo).trans (bY1.trans bY2),(Sm.below bw9).trans (sY1.trans sY2),((Kp.below bw9).trans bw9.size pY1).trans (Nat.le_trans bw9.size bY1.size) pY2⟩
end Go.Proofs.YtbkokcjolanpeaaGreatDoor
