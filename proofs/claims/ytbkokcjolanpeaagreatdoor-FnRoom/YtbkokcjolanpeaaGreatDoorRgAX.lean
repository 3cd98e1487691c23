import Derived.Test.YtbkokcjolanpeaaGreatDoorRgAW
namespace Go.Proofs.YtbkokcjolanpeaaGreatDoor
open Go.RowKit
theorem Tryz.infoEv:(Tryz.prog.info? 38).map (fun i=>(i.zero,i.size,i.bytes)) = some (some (.agg #[.int .i64 0,.int .i64 0,.int .i64 0,.slice none 0 0]),4,48):=by kernel_rfl
theorem blkR {w:World} {g t:Nat} {cs:List Value} (h:Blk w g t cs):w.rangeAt g 0 cs:=fun j v hj=>by
 rw [Nat.zero_add]
 obtain ⟨hl,e⟩:=List.getElem?_eq_some_iff.1 hj
 rw [h.cell j hl,e]
theorem range_blw {w w':World} {g o B:Nat} {cs:List Value} (h:w.rangeAt g o cs) (hb:Below B w w') (hg:g < B):w'.rangeAt g o cs:=fun j v hj=>(hb.cell (p:=⟨g,o + j,none⟩) hg).trans (h j v hj)
theorem ownAt {w:World} {lo t z n cap:Nat} {a:Option Addr} {xs:List Value} (row:w.ownsRow lo t z (.slice a n cap) n xs) (hn:0 < n):∃ g,a = some ⟨g,0,none⟩ ∧ lo ≤ g ∧ g < w.heap.size ∧ ∀ k,k < n * z → w.cell? ⟨g,k,none⟩ = xs[k]?:=by
 rcases row.2 with ⟨hv,hz⟩ | ⟨g,cc,cur,hv,-⟩
 · omega
 · cases hv
   exact ⟨g,rfl,(row.lt g rfl).1,(row.lt g rfl).2,fun k hk=>row.cellAt k hk⟩
theorem line_at {w:World} {lo n cap:Nat} {a:Option Addr} {L:List (Int × Int × ByteArray)} (hL:L.length = n) (row:w.ownsRow lo 47 3 (.slice a n cap) n (L.flatMap lineC)) (hn:0 < n):∃ g,a = some ⟨g,0,none⟩ ∧ g < w.heap.size ∧ ∀ i,i < n → ∃ p,p = L.getD i (0,0,⟨#[]⟩) ∧ w.cell? ⟨g,i * 3,none⟩ = some (.int .i64 p.1) ∧ w.cell? ⟨g,i * 3 + 1,none⟩ = some (.int .i64 p.2.1) ∧ w.cell? ⟨g,i * 3 + 2,none⟩ = some (.string p.2.2):=by
 obtain ⟨g,rfl,-,hg,hc⟩:=ownAt row hn
 refine ⟨g,rfl,hg,fun i hi=>⟨_,rfl,?_⟩⟩
 have hi2:i < L.length:=by omega
 have f:=flatGet lineC 3 (fun _=>rfl) L i hi2
 rw [List.getD_eq_getElem?_getD,List.getElem?_eq_getElem hi2]
 exact ⟨by have h:=hc (i * 3 + 0) (by omega);rw [f 0 (by omega)] at h;exact h,by rw [hc (i * 3 + 1) (by omega),f 1 (by omega)];rfl,by rw [hc (i * 3 + 2) (by omega),f 2 (by omega)];rfl⟩
theorem sent_at {w:World} {lo n cap:Nat} {a:Option Addr} {L:List (Int × Value)} (hL:L.length = n) (row:w.ownsRow lo 49 2 (.slice a n cap) n (L.flatMap sentC)) (hn:0 < n):∃ g,a = some ⟨g,0,none⟩ ∧ g < w.heap.size ∧ ∀ i,i < n → w.cell? ⟨g,i * 2,none⟩ = some (.int .i64 (L.getD i (0,undef)).1):=by
 obtain ⟨g,rfl,-,hg,hc⟩:=ownAt row hn
 refine ⟨g,rfl,hg,fun i hi=>?_⟩
 have hi2:i < L.length:=by omega
 have f:=flatGet sentC 2 (fun _=>rfl) L i hi2
 rw [List.getD_eq_getElem?_getD,List.getElem?_eq_getElem hi2]
 have h:=hc (i * 2 + 0) (by omega)
 rw [f 0 (by omega)] at h
 exact h
theorem askFr {w:World} {gP gQ gF:Nat} (kP:RowAt w (some ⟨gP,0,none⟩) pan5) (kQ:RowAt w (some ⟨gQ,0,none⟩) stan1) (kF:Blk w gF 29 [.int .i64 2,.slice (some ⟨gP,0,none⟩) 13 13,.int .i64 11,.slice (some ⟨gQ,0,none⟩) 6 6]):Fr w (.slice (some ⟨gF,0,none⟩) 2 2) askL:=by
 refine ⟨⟨_,_,rfl⟩,fun i hi=>?_⟩
 have hi2:i = 0 ∨ i = 1:=by have:i < 2:=hi;omega
 rcases hi2 with rfl | rfl
 · exact ⟨gF,0,2,_,_,rfl,kF.cell 0 (by simp),kF.cell 1 (by simp),kP⟩
 · exact ⟨gF,0,2,_,_,rfl,kF.cell 2 (by simp),kF.cell 3 (by simp),kQ⟩
abbrev zeroMg:List Value:=[.string ⟨#[]⟩,.slice none 0 0]
theorem Tryz.zeroMg:(Tryz.prog.info? 32).map (fun i=>(i.zero,i.size)) = some (some (.agg zeroMg.toArray),2):=by kernel_rfl
abbrev zeroLn:List Value:=[.int .i64 0,.int .i64 0,.string ⟨#[]⟩]
theorem Tryz.zeroLn:(Tryz.prog.info? 47).map (fun i=>(i.zero,i.size)) = some (some (.agg zeroLn.toArray),3):=by kernel_rfl
theorem ev_one (a:Option Addr) (n c:Nat) (e:Ev):∀ u ∈ evC 0 (.slice a n c) e,u.oneCell' = true:=by
 have h:(evC 0 (.slice a n c) e).all (·.oneCell') = true:=by cases e <;> rfl
 exact fun u hu=>List.all_eq_true.1 h u hu
theorem fldOut (a p:Int) (s1 s2 s3:Option Addr) (n1 c1 n2 c2 n3 c3:Nat) (w:World):(Instr.field 44 (.agg #[.int .i64 a,.slice s1 n1 c1,.slice s2 n2 c2,.int .i64 p,.slice s3 n3 c3]) 3).run Tryz.prog w = .ok (.int .i64 p) w:=by kernel_rfl
theorem evs_g (n:Nat):∀ e ∈ List.replicate n Ev.msg,evG e:=fun e he=>by rw [(List.mem_replicate.1 he).2];exact trivial
theorem evs_g3 (n:Nat):∀ e ∈ List.replicate n Ev.msg ++ [Ev.tick 30] ++ [Ev.tick 1] ++ [Ev.msg],evG e:=fun e he=>by
 rcases List.mem_append.1 he with he | he
 · rcases List.mem_append.1 he with he | he
   · rcases List.mem_append.1 he with he | he
     · exact evs_g n e he
     · rw [List.mem_singleton.1 he];exact ⟨by decide,by decide⟩
   · rw [List.mem_singleton.1 he];exact ⟨by decide,by decide⟩
 · rw [List.mem_singleton.1 he];exact trivial
theorem evs_g2 (n:Nat):∀ e ∈ List.replicate n Ev.msg ++ [Ev.tick 30],evG e:=fun e he=>by
 rcases List.mem_append.1 he with he | he
 · exact evs_g n e he
 · rw [List.mem_singleton.1 he];exact ⟨by decide,by decide⟩
set_option maxRecDepth 100000 in
set_option maxHeartbeats 2000000 in
theorem lawRoom_main (ao:Option Addr) (cap:Nat) (code:List UInt8) (x0 x1:Addr) (w:World) (hn:code.length ≤ 1048576) (hs:Sents w x0 x1) (hr:RowAt w ao code) (hT:∀ w',Below w.heap.size w w' → Lib.TabIs Tryz.prog w' "internal/strconv.uint64pow10" .u64 Lib.pow10Tab) :
   Calls Tryz.prog 3 #[.slice ao code.length cap] w fun e w'=>e = .returned (.bool true) ∧ Below w.heap.size w w':=by
 have kc:=fun (w:World) (C:Array Value) (n c:Nat)=>Lib.run_convert_bytes_const (P:=Tryz.prog) w 22 5 C n c Tryz.underlying22 Tryz.underlying5
 have hz0:=(zero_of_info Tryz.zeroCf).1
 have hz1:=(zero_of_info Tryz.zeroMg).1
 have hz2:=(zero_of_info Tryz.zeroOut).1
 have hz3:=(zero_of_info Tryz.zeroLn).1
 obtain ⟨ie,hie,hie0,hie1,hie2⟩:=info_parts Tryz.infoEv
 have HTT:Hid (∀ wx,Below w.heap.size w wx → ∀ w',Below wx.heap.size wx w' → Lib.TabIs Tryz.prog w' "internal/strconv.uint64pow10" .u64 Lib.pow10Tab):=fun wx hb w' hb2=>hT w' (hb.trans (hb2.mono hb.size))
 have HSN:Hid (∀ wx,Below w.heap.size w wx → Sents wx x0 x1):=fun wx hb=>hs.below hb
 have HDC:=hideT (drawConfig_any code ao cap w hn hr)
 obtain ⟨m,hA⟩:=ask_facts
 have HSE:=hideT (fun (am ak:Option Addr) (cm ck:Nat) (v:Value) (wx:World) (hb:Below w.heap.size w wx) (hck:(blkN 0 2 1).length ≤ ck) (rm:RowAt wx am masterL) (rk:RowAt wx ak (blkN 0 2 1)) (F:Fr wx v askL)=>seal_any masterL (blkN 0 2 1) mti0 askL (by intro p hp;have h2:p = (2,pan5) ∨ p = (11,stan1):=by { simpa [askL] using hp };rcases h2 with rfl | rfl <;> decide) (by decide) am ak cm ck v x0 x1 wx hck (hs.below hb) rm rk F (HTT.out wx hb))
 obtain ⟨D,hD⟩:∃ q,q = sealL masterL (blkN 0 2 1) mti0 askL:=⟨_,rfl⟩
 rw [← hD] at HSE hA
 obtain ⟨nK,hnK⟩:∃ q,q = (blkN 0 2 1).length:=⟨_,rfl⟩
 rw [← hnK,show masterL.length = 16 from rfl] at HSE
 have HNK:=hideT hnK
 have HA:=hideT hA
 obtain ⟨N,hN⟩:∃ q,q = D.length:=⟨_,rfl⟩
 have HN:=hideT hN
 obtain ⟨n,hnl⟩:∃ q,q = code.length:=⟨_,rfl⟩
 rw [← hnl] at hn HDC ⊢
 have hnI:¬ (1048576:Int) < (n:Int):=by omega
 clear hnl hN hD hnK hA hr hs hT
 go_enter Tryz.func3,Tryz.ntmps3
 go_upto_region 3 with fail
 go_wp2_with fail
 refine HDC.out.mono ?_
 rintro e w1 ⟨⟨c,gM,al,cl,gR,rfl,rM1,lk1,rt1⟩,b1⟩
 obtain ⟨rm,hrm⟩:∃ q,q = 1 + c % 4:=⟨_,rfl⟩
 rw [← hrm]
 have hrm1:1 ≤ rm:=by omega
 have hrm4:rm ≤ 4:=by omega
 have HRM:=hideT hrm
 obtain ⟨gC,hgC⟩:∃ q,q = w1.heap.size:=⟨_,rfl⟩
 obtain ⟨X1,hX1⟩:∃ x,x = w1.alloc (Obj.cells #[.slice (some ⟨gM,0,none⟩) 16 16,.slice al 3 cl,.slice (some ⟨gR,0,none⟩) 6 6,.int .i64 (rm:Int)] 26):=⟨_,rfl⟩
 have kC1:Blk X1 gC 26 [.slice (some ⟨gM,0,none⟩) 16 16,.slice al 3 cl,.slice (some ⟨gR,0,none⟩) 6 6,.int .i64 (rm:Int)]:=by rw [hX1,hgC];exact Blk.new _ _ _
 have bX1:Below w1.heap.size w1 X1:=by rw [hX1];exact below_newS _ _
 have b1X:=b1.trans (bX1.mono b1.size)
 have HB1:=hideT b1X
 have RM1:=hideT (rM1.below bX1)
 have LK1:=hideT (lk1.below bX1)
 have RT1:=hideT (rt1.below bX1)
 have HX1:=hideT hX1
 have HGC:=hideT hgC
 clear hX1 hgC hrm rM1 lk1 rt1 b1 bX1 b1X HDC
 go_upto_region 4 with fail
 rw [← show X1 = _ from HX1,← show gC = _ from HGC]
 clear HX1 HGC
 have kc2:∀ (A:Obj) (C:Array Value) (n c:Nat),(convert 22 22 (.slice (some ⟨X1.heap.size + 1,0,none⟩) n c)).run Tryz.prog ((X1.alloc A).alloc (.cells C 5)) = .ok (.slice (some ⟨X1.heap.size + 1,0,none⟩) n c) ((X1.alloc A).alloc (.cells C 5 (C.size,C.size + 1))):=fun A C n c=>by
   have h:=kc (X1.alloc A) C n c
   have e:(X1.alloc A).heap.size = X1.heap.size + 1:=by simp
   rw [e] at h
   exact h
 obtain ⟨gP,hgP⟩:∃ q,q = X1.heap.size:=⟨_,rfl⟩
 obtain ⟨Y1,hY1⟩:∃ x,x = X1.alloc (Obj.cells #[.int .u8 53,.int .u8 48,.int .u8 48,.int .u8 48,.int .u8 48,.int .u8 48,.int .u8 48,.int .u8 48,.int .u8 48,.int .u8 48,.int .u8 48,.int .u8 48,.int .u8 48] 5 (13,14)):=⟨_,rfl⟩
 obtain ⟨gQ,hgQ⟩:∃ q,q = gP + 1:=⟨_,rfl⟩
 obtain ⟨Y2,hY2⟩:∃ x,x = Y1.alloc (Obj.cells #[.int .u8 48,.int .u8 48,.int .u8 48,.int .u8 48,.int .u8 48,.int .u8 49] 5 (6,7)):=⟨_,rfl⟩
 obtain ⟨gF,hgF⟩:∃ q,q = gQ + 1:=⟨_,rfl⟩
 obtain ⟨Y3,hY3⟩:∃ x,x = Y2.alloc (Obj.cells #[.int .i64 2,.slice (some ⟨gP,0,none⟩) 13 13,.int .i64 11,.slice (some ⟨gQ,0,none⟩) 6 6] 29):=⟨_,rfl⟩
 obtain ⟨gA,hgA⟩:∃ q,q = gF + 1:=⟨_,rfl⟩
 obtain ⟨X4,hX4⟩:∃ x,x = Y3.alloc (Obj.cells #[.string ⟨#[48,49,48,48]⟩,.slice (some ⟨gF,0,none⟩) 2 2] 32):=⟨_,rfl⟩
 have z1:gQ = Y1.heap.size:=by rw [hgQ,hgP,hY1];simp
 have z2:gF = Y2.heap.size:=by rw [hgF,z1,hY2];simp
 have z3:gA = Y3.heap.size:=by rw [hgA,z2,hY3];simp
 have k1:RowAt Y1 (some ⟨gP,0,none⟩) pan5:=by rw [hY1,hgP];exact row_marked X1 pan5 5 (13,14)
 have k2:RowAt Y2 (some ⟨gQ,0,none⟩) stan1:=by rw [hY2,z1];exact row_marked Y1 stan1 5 (6,7)
 have k3:Blk Y3 gF 29 [.int .i64 2,.slice (some ⟨gP,0,none⟩) 13 13,.int .i64 11,.slice (some ⟨gQ,0,none⟩) 6 6]:=by rw [hY3,z2];exact Blk.new _ _ _
 have kA4:Blk X4 gA 32 [.string mti0,.slice (some ⟨gF,0,none⟩) 2 2]:=by rw [hX4,z3];exact Blk.new _ _ _
 have c1:Below X1.heap.size X1 Y1:=by rw [hY1];exact below_newS _ _
 have c2:Below Y1.heap.size Y1 Y2:=by rw [hY2];exact below_newS _ _
 have c3:Below Y2.heap.size Y2 Y3:=by rw [hY3];exact below_newS _ _
 have c4:Below Y3.heap.size Y3 X4:=by rw [hX4];exact below_newS _ _
 have c34:=c3.trans (c4.mono c3.size)
 have c24:=c2.trans (c34.mono c2.size)
 have b14:=c1.trans (c24.mono c1.size)
 have FA4:=hideT (askFr (k1.below c24) (k2.below c34) (k3.below c4 k3.lt))
 have kC4:=kC1.below b14 kC1.lt
 have HB4:=hideT (HB1.out.trans (b14.mono HB1.out.size))
 have RM4:=hideT (RM1.out.below b14)
 have LK4:=hideT (LK1.out.below b14)
 have RT4:=hideT (RT1.out.below b14)
 have HY1:=hideT hY1
 have HY2:=hideT hY2
 have HY3:=hideT hY3
 have HX4:=hideT hX4
 have HGP:=hideT hgP
 have HGQ:=hideT hgQ
 have HGF:=hideT hgF
 have HGA:=hideT hgA
 clear z1 z2 z3 hY1 hY2 hY3 hX4 hgP hgQ hgF hgA k1 k2 k3 c1 c2 c3 c4 c34 c24 b14 kC1 HB1 RM1 LK1 RT1
 go_upto_region 5 with fail
 try rw [← show Y1 = _ from HY1]
 try rw [← show gP = _ from HGP]
 try rw [← show Y2 = _ from HY2]
 rw [← show gQ = _ from HGQ,← show gF = _ from HGF,← show gA = _ from HGA,← show Y3 = _ from HY3,← show X4 = _ from HX4]
 clear HY1 HY2 HY3 HX4 HGP HGQ HGF HGA
 obtain ⟨gl,ol,a1,cA,ak,ck,rfl,p1,p2,p3,hcA,hck,r1,rk⟩:=LK4.out 0 (by rw [lks3];omega)
 rw [lks3_get c 0 (by omega)] at p2 hck rk
 have q2:X4.cell? ⟨gl,ol + 1,none⟩ = some (.slice ak nK ck):=by rw [HNK.out];exact p2
 have hlg:=World.block_lt_of_cell? X4 _ p2
 have hcK:nK ≤ ck:=by rw [HNK.out];exact hck
 have RK4:Hid (RowAt X4 ak (blkN 0 2 1)):=rk
 clear p1 p2 p3 hcA hck r1 rk
 obtain ⟨V,hV⟩:∃ V,V = World.drew X4:=⟨_,rfl⟩
 have b_0:Below X4.heap.size X4 V:=by rw [hV];exact (Below.refl _ _).drew
 have l1:=kC4.lt
 have l2:=kA4.lt
 have e0:=kC4.cell 0 (by simp)
 have e1:=kC4.cell 1 (by simp)
 have e2:=blkR kA4
 have keep:Hid (∀ {x},Below X4.heap.size X4 x → x.cell? ⟨gC,0,none⟩ = some (.slice (some ⟨gM,0,none⟩) 16 16) ∧ x.cell? ⟨gC,1,none⟩ = some (.slice (some ⟨gl,ol,none⟩) 3 cl) ∧ x.cell? ⟨gl,ol + 1,none⟩ = some (.slice ak nK ck) ∧ x.rangeAt gA 0 [.string mti0,.slice (some ⟨gF,0,none⟩) 2 2]):=fun h=>⟨(h.cell (p:=⟨gC,0,none⟩) l1).trans e0,(h.cell (p:=⟨gC,1,none⟩) l1).trans e1,(h.cell (p:=⟨gl,ol + 1,none⟩) hlg).trans q2,range_blw e2 h l2⟩
 refine wp_region_held_drew (S:=fun x=>x.cell? ⟨gC,0,none⟩ = some (.slice (some ⟨gM,0,none⟩) 16 16) ∧ x.cell? ⟨gC,1,none⟩ = some (.slice (some ⟨gl,ol,none⟩) 3 cl) ∧ x.cell? ⟨gl,ol + 1,none⟩ = some (.slice ak nK ck) ∧ x.rangeAt gA 0 [.string mti0,.slice (some ⟨gF,0,none⟩) 2 2]) (by kernel_rfl) (by rw [← hV];exact keep.out b_0) (fun hHeld=>?_)
 rw [← hV] at hHeld ⊢
 clear hV e0 e1 e2 q2
 refine tkA (i:=0) (v:=(.pointer (some ⟨gC,0,none⟩))) rfl hHeld ?_
 try dsimp only [Act.put]
 refine tk (i:=1) (v:=(.slice (some ⟨gM,0,none⟩) 16 16)) rfl (Or.inl ⟨by rfl,fun w1 h=>by have hc0:=h.1;go_simp⟩) hHeld ?_
 dsimp only [Act.put,List.getElem_toArray,List.getElem_cons_zero,List.getElem_cons_succ]
 simp only [List.setIfInBounds_toArray,List.set_cons_succ,List.set_cons_zero]
 refine tkA (i:=2) (v:=(.pointer (some ⟨gC,1,none⟩))) rfl hHeld ?_
 try dsimp only [Act.put]
 refine tk (i:=3) (v:=(.slice (some ⟨gl,ol,none⟩) 3 cl)) rfl (Or.inl ⟨by rfl,fun w1 h=>by have hc0:=h.2.1;go_simp⟩) hHeld ?_
 dsimp only [Act.put,List.getElem_toArray,List.getElem_cons_zero,List.getElem_cons_succ]
 simp only [List.setIfInBounds_toArray,List.set_cons_succ,List.set_cons_zero]
 refine tkA (i:=4) (v:=(.pointer (some ⟨gl,ol,none⟩))) rfl hHeld ?_
 try dsimp only [Act.put]
 refine tkA (i:=5) (v:=(.pointer (some ⟨gl,ol + 1,none⟩))) rfl hHeld ?_
 dsimp only [Act.put,List.getElem_toArray,List.getElem_cons_zero,List.getElem_cons_succ]
 simp only [List.setIfInBounds_toArray,List.set_cons_succ,List.set_cons_zero]
 refine tk (i:=6) (v:=(.slice ak nK ck)) rfl (Or.inl ⟨by rfl,fun w1 h=>by have hc0:=h.2.2.1;go_simp⟩) hHeld ?_
 try dsimp only [Act.put]
 refine tk (i:=7) (v:=(.agg #[.string mti0,.slice (some ⟨gF,0,none⟩) 2 2])) rfl (yieldsIf_load_mid (by rfl) 32 _ rfl gA 0 rfl [.string mti0,.slice (some ⟨gF,0,none⟩) 2 2] _ (fun _ h=>h.2.2.2) Tryz.underlying32 rfl (by kernel_rfl)) hHeld ?_
 dsimp only [Act.put,List.getElem_toArray,List.getElem_cons_zero,List.getElem_cons_succ]
 simp only [List.setIfInBounds_toArray,List.set_cons_succ,List.set_cons_zero]
 refine rdy1 8 (fun K hK=>?_)
 go_simp
 refine (HSE.out _ _ _ _ _ _ (HB4.out.trans (b_0.mono HB4.out.size)) hcK (RM4.out.below b_0) (RK4.out.below b_0) (FA4.out.below b_0)).mono ?_
 rintro e w_1 ⟨v5,rfl,own5,b_1⟩
 obtain ⟨aD,cD,rfl,rD,-⟩:=own5.shape
 have hcD:D.length ≤ cD:=own_room own5
 have RD5:=hideT rD
 have b5:=below_step b_0 b_1
 rw [← HN.out]
 clear own5 rD b_1
 go_wp2_with fail
 refine hK.out _ _ (keep.out b5) (fun hHeld=>?_)
 clear hK K
 try dsimp only [Act.put]
 refine rdy1 9 (fun K hK=>?_)
 go_simp
 refine hK.out _ _ (keep.out b5) (fun hHeld=>?_)
 clear hK K
 try dsimp only [Act.put]
 refine wpAnyH_done (by kernel_rfl) ?_ _
 clear hHeld
 obtain ⟨X5,hX5⟩:∃ q:World,q = w_1:=⟨_,rfl⟩
 rw [← hX5] at RD5 b5 ⊢
 clear hX5
 have kC5:=kC4.below b5 l1
 have HB5:=hideT (HB4.out.trans (b5.mono HB4.out.size))
 have RMH:Hid (Rm X5 c x0 x1 gM (some ⟨gl,ol,none⟩) gR D aD):=⟨HSN.out _ HB5.out,HTT.out _ HB5.out,RM4.out.below b5,LK4.out.below b5,RT4.out.below b5,RD5.out⟩
 have HRUN:=hideT (fun (wx:World) (H:Rm wx c x0 x1 gM (some ⟨gl,ol,none⟩) gR D aD) (ce:Nat) (ae:Option Addr) (evs:List Ev) (ne:Nat) hne hev heg hE=>run_room H HA.out cl cD ce hcD ae evs ne hne hev heg hE)
 rw [← HN.out,← HRM.out] at HRUN
 obtain ⟨r2,hr2⟩:∃ q,q = rm + 2:=⟨_,rfl⟩
 have hr2I:(rm:Int) + 2 = (r2:Int):=by omega
 have hr26:r2 ≤ 6:=by omega
 have HR2:=hideT hr2
 have l5:=kC5.lt
 clear hr2 kC4 kA4 FA4 HB4 RM4 LK4 RT4 RK4 RD5 keep b_0 b5 l1 l2 hlg HSE HSN HTT
 go_wp2_with fail
 go_loopw [6,7] (fun ev iv wr=>∃ (k:Nat) (ae:Option Addr) (ce:Nat),k ≤ r2 ∧ iv = .int .i64 (k:Int) ∧ ev = .slice ae k ce ∧ Hid (wr.ownsRow X5.heap.size 38 4 (.slice ae k ce) k (evX (.slice aD N cD) (List.replicate k .msg))) ∧ Below X5.heap.size X5 wr) (fun _ iv _=>r2 - (intOf iv).toNat)
 case atStart=>exact ⟨0,none,0,Nat.zero_le _,rfl,rfl,World.ownsRow_nil _ _ _ _,Below.refl _ _⟩
 case round =>
   obtain ⟨k,ae,ce,hk,rfl,rfl,ROW,hbx⟩:=hrel
   have kCw:=kC5.below hbx l5
   have q3:=kCw.cell 3 (by simp)
   by_cases hlt:k < r2
   · have hltI:(k:Int) < (r2:Int):=by omega
     go_wp2_with fail
     refine (message_any aD N cD wr).mono ?_
     rintro e w2 ⟨rfl,b2⟩
     obtain ⟨W8,hW8⟩:∃ y,y = w2.alloc (Obj.cells #[.int .i64 1,.int .i64 0,.int .i64 0,.slice aD N cD] 38):=⟨_,rfl⟩
     have b8:Below w2.heap.size w2 W8:=by rw [hW8];exact below_newS _ _
     have K8:Hid (Blk W8 w2.heap.size 38 (evC 0 (.slice aD N cD) .msg)):=by rw [hW8];exact Blk.new _ _ _
     have b28:=b2.trans (b8.mono b2.size)
     have ROW8:=hideT (ownR_below ROW.out b28)
     have hz8:X5.heap.size ≤ W8.heap.size:=Nat.le_trans hbx.size b28.size
     have HW8:=hideT hW8
     clear hW8
     go_wp2_with (at_builtin;(rw [← show W8 = _ from HW8];refine wpList_append_own_at _ rfl _ _ 36 rfl X5.heap.size 38 ie (.agg #[.int .i64 0,.int .i64 0,.int .i64 0,.slice none 0 0]) 4 48 Tryz.underlying36 hie hie0 hie1 hie2 rfl (by decide) (.slice ae k ce) k _ rfl ROW8.out ⟨w2.heap.size,0,none⟩ 1 1 (evC 0 (.slice aD N cD) .msg) rfl rfl (newsB K8.out) (ev_one _ _ _ _) (by unfold maxLen;omega) (by omega) hz8 ?_;intro v9 W9 row9 gr9 _ at9;obtain ⟨a9,c9,rfl⟩:=ownS row9))
     have B9:Below X5.heap.size X5 W9:=(hbx.trans (b28.mono hbx.size)).grown gr9 hz8 (fun g hg=>(ROW8.out.lt g hg).1)
     go_roundw
     case rel=>exact ⟨k + 1,a9,c9,by omega,by go_num,rfl,by rw [List.replicate_succ',evX_snoc];exact row9,B9⟩
     case measure=>simp [intOf];omega
   · have hltI:¬ (k:Int) < (r2:Int):=by omega
     have hkr:k = r2:=by omega
     subst hkr
     have hev1:(List.replicate k Ev.msg).length = k:=List.length_replicate
     have HE1:=hideT (elt_ev ROW.out hev1.symm)
     go_wp2_with (refine load_blk rfl 26 _ rfl gC rfl kCw Tryz.underlying26 rfl (by kernel_rfl) ?_)
     refine (HRUN.out wr (RMH.out.below hbx) ce ae (List.replicate k .msg) k hev1.symm (by rw [hev1];omega) (evs_g k) HE1.out).mono ?_
     rintro e w6 ⟨⟨B,s,t,aS,aL,aG,cS,cL,nG,cG,rfl,p0,hR,rS,rL⟩,b6⟩
     have pn:=run_msgs p0 k t hR
     have hW:t.W.length = rm:=by rw [pn.W];omega
     rw [pn.S] at rS ⊢
     rw [pn.L] at rL ⊢
     rw [hW]
     obtain ⟨gS,rfl,lS,hcS⟩:=sent_at pn.S rS (by omega)
     obtain ⟨gL,rfl,lL,hcL⟩:=line_at pn.L rL (by omega)
     obtain ⟨gO,hgO⟩:∃ q,q = w6.heap.size:=⟨_,rfl⟩
     obtain ⟨X7,hX7⟩:∃ y,y = w6.alloc (Obj.cells #[.int .i64 0,.slice (some ⟨gS,0,none⟩) k cS,.slice (some ⟨gL,0,none⟩) k cL,.int .i64 (rm:Int),.slice aG nG cG] 44):=⟨_,rfl⟩
     have kO:Blk X7 gO 44 [.int .i64 0,.slice (some ⟨gS,0,none⟩) k cS,.slice (some ⟨gL,0,none⟩) k cL,.int .i64 (rm:Int),.slice aG nG cG]:=by rw [hX7,hgO];exact Blk.new _ _ _
     have bX7:Below w6.heap.size w6 X7:=by rw [hX7];exact below_newS _ _
     have b67:=b6.trans (bX7.mono b6.size)
     have hb7:Hid (Below X5.heap.size X5 X7):=hbx.trans (b67.mono hbx.size)
     have ROW7:=hideT (ownR_below ROW.out b67)
     have kC7:=kC5.below hb7.out l5
     have HCS:Hid (∀ i,i < k → X7.cell? ⟨gS,i * 2,none⟩ = some (.int .i64 (t.S.getD i (0,undef)).1)):=fun i hi=>(bX7.cell (p:=⟨gS,i * 2,none⟩) lS).trans (hcS i hi)
     have HCL:Hid (∀ i,i < k → ∃ p,p = t.L.getD i (0,0,⟨#[]⟩) ∧ X7.cell? ⟨gL,i * 3,none⟩ = some (.int .i64 p.1) ∧ X7.cell? ⟨gL,i * 3 + 1,none⟩ = some (.int .i64 p.2.1) ∧ X7.cell? ⟨gL,i * 3 + 2,none⟩ = some (.string p.2.2)):=fun i hi=>by
       obtain ⟨p,hp,l0,l1,l2⟩:=hcL i hi
       exact ⟨p,hp,(bX7.cell (p:=⟨gL,i * 3,none⟩) lL).trans l0,(bX7.cell (p:=⟨gL,i * 3 + 1,none⟩) lL).trans l1,(bX7.cell (p:=⟨gL,i * 3 + 2,none⟩) lL).trans l2⟩
     have lS7:gS < X7.heap.size:=Nat.lt_of_lt_of_le lS bX7.size
     have lL7:gL < X7.heap.size:=Nat.lt_of_lt_of_le lL bX7.size
     have o0:=kO.cell 0 (by simp)
     have o1:=kO.cell 1 (by simp)
     have o2:=kO.cell 2 (by simp)
     have o3:=kO.cell 3 (by simp)
     have c3:=kC7.cell 3 (by simp)
     have PN:=hideT pn
     have HX7:=hideT hX7
     have HGO:=hideT hgO
     clear hX7 hgO pn hW rS rL hcS hcL hR p0 b6 bX7 b67 hbx ROW HE1 kCw q3 lS lL
     go_upto_region 12 with fail
     rw [← show X7 = _ from HX7,← show gO = _ from HGO]
     clear HX7 HGO
     go_upto_region 14 with fail
     clear o0 o3
     go_wp2_with fail
     go_loopw [9,10,80] (fun _ _ kv wr=>∃ j:Nat,j ≤ k ∧ kv = .int .i64 (j:Int) ∧ Below X7.heap.size X7 wr) (fun _ _ kv _=>k - (intOf kv).toNat)
     case atStart=>exact ⟨0,Nat.zero_le _,rfl,Below.refl _ _⟩
     case round =>
       obtain ⟨j,hj,rfl,hby⟩:=hrel
       have kCy:=kC7.below hby kC7.lt
       by_cases hjk:j < k
       · have hjI:(j:Int) < (k:Int):=by omega
         obtain ⟨⟨pa,pb,pc⟩,hp,d0,d1,d2⟩:=HCL.out j hjk
         have g0:=HCS.out j hjk
         rw [PN.out.sl j hjk] at g0
         have HPA:Hid (pa = if j < rm then 0 else 91):=by show _ = _;rw [← PN.out.lc j hjk,← hp]
         have m0:=(hby.cell (p:=⟨gL,j * 3,none⟩) lL7).trans d0
         have m1:=(hby.cell (p:=⟨gL,j * 3 + 1,none⟩) lL7).trans d1
         have m2:=(hby.cell (p:=⟨gL,j * 3 + 2,none⟩) lL7).trans d2
         have m3:=(hby.cell (p:=⟨gS,j * 2,none⟩) lS7).trans g0
         simp only at m0 m1 m2
         have kOy:=kO.below hby kO.lt
         obtain ⟨gn,hgn⟩:∃ q,q = wr.heap.size:=⟨_,rfl⟩
         obtain ⟨Z,hZ⟩:∃ y,y = wr.alloc (Obj.cells #[.int .i64 pa,.int .i64 pb,.string pc] 47):=⟨_,rfl⟩
         have kZ:Blk Z gn 47 [.int .i64 pa,.int .i64 pb,.string pc]:=by rw [hZ,hgn];exact Blk.new _ _ _
         have bZ:Below wr.heap.size wr Z:=by rw [hZ];exact below_newS _ _
         have hbz:Hid (Below X7.heap.size X7 Z):=hby.trans (bZ.mono hby.size)
         have z0:=kZ.cell 0 (by simp)
         have z1:=(kOy.below bZ kOy.lt).cell 1 (by simp)
         have z2:=(kCy.below bZ kCy.lt).cell 3 (by simp)
         have z3:=(bZ.cell (p:=⟨gS,j * 2,none⟩) (World.block_lt_of_cell? wr _ m3)).trans m3
         have HZ:=hideT hZ
         have HGN:=hideT hgn
         clear hZ hgn hp d0 d1 d2 g0 m3 kOy bZ hby kCy
         go_upto_region 17 with fail
         rw [← show Z = _ from HZ,← show gn = _ from HGN]
         clear HZ HGN m0 m1 m2
         by_cases hjr:j < rm
         · have hjrI:(j:Int) < (rm:Int):=by omega
           have hpa:=HPA.out
           rw [if_pos hjr] at z3 hpa
           subst hpa
           have hjrI2:¬ (rm:Int) ≤ (j:Int):=by omega
           rw [show ((1:Nat):Int) = 1 from rfl] at z3
           go_wp2_with fail
           go_roundw
           case rel=>exact ⟨j + 1,by omega,by go_num,hbz.out⟩
           case measure=>simp [intOf];omega
         · have hjrI:¬ (j:Int) < (rm:Int):=by omega
           have hjrI2:(rm:Int) ≤ (j:Int):=by omega
           have hpa:=HPA.out
           rw [if_neg hjr] at z3 hpa
           subst hpa
           rw [show ((0:Nat):Int) = 0 from rfl] at z3
           go_wp2_with fail
           go_roundw
           case rel=>exact ⟨j + 1,by omega,by go_num,hbz.out⟩
           case measure=>simp [intOf];omega
       · have hjI:¬ (j:Int) < (k:Int):=by omega
         have hb8:Hid (Below X5.heap.size X5 wr):=hb7.out.trans (hby.mono hb7.out.size)
         have ROW8:=hideT (ownR_below ROW7.out hby)
         clear o1 o2 c3 HCS HCL PN kO kC7 ROW7 hby kCy hb7 lS7 lL7
         obtain ⟨W8,hW8⟩:∃ y,y = wr.alloc (Obj.cells #[.int .i64 2,.int .i64 0,.int .i64 30,.slice none 0 0] 38):=⟨_,rfl⟩
         have b8:Below wr.heap.size wr W8:=by rw [hW8];exact below_newS _ _
         have K8:Hid (Blk W8 wr.heap.size 38 (evC 0 (.slice aD N cD) (.tick 30))):=by rw [hW8];exact Blk.new _ _ _
         have ROW9:=hideT (ownR_below ROW8.out b8)
         have hb9:Hid (Below X5.heap.size X5 W8):=hb8.out.trans (b8.mono hb8.out.size)
         have hz8:X5.heap.size ≤ W8.heap.size:=hb9.out.size
         have HW8:=hideT hW8
         clear hW8 b8 ROW8 hb8
         go_upto_region 21 with (at_builtin;(rw [← show W8 = _ from HW8];refine wpList_append_own_at _ rfl _ _ 36 rfl X5.heap.size 38 ie (.agg #[.int .i64 0,.int .i64 0,.int .i64 0,.slice none 0 0]) 4 48 Tryz.underlying36 hie hie0 hie1 hie2 rfl (by decide) (.slice ae k ce) k _ rfl ROW9.out ⟨wr.heap.size,0,none⟩ 1 1 (evC 0 (.slice aD N cD) (.tick 30)) rfl rfl (newsB K8.out) (ev_one _ _ _ _) (by unfold maxLen;omega) (by omega) hz8 ?_;intro v9 W9 row9 gr9 _ at9;obtain ⟨ae2,ce2,rfl⟩:=ownS row9))
         have b9:Hid (Below X5.heap.size X5 W9):=hb9.out.grown gr9 hz8 (fun g hg=>(ROW9.out.lt g hg).1)
         have ROWB:Hid (W9.ownsRow X5.heap.size 38 4 (.slice ae2 (k + 1) ce2) (k + 1) (evX (.slice aD N cD) (List.replicate k .msg ++ [.tick 30]))):=by rw [evX_snoc];exact row9
         have kC9:=kC5.below b9.out l5
         clear row9 gr9 at9 ROW9 hb9 HW8 K8 hz8
         obtain ⟨V,hV⟩:∃ V,V = World.drew W9:=⟨_,rfl⟩
         have b_0:Below W9.heap.size W9 V:=by rw [hV];exact (Below.refl _ _).drew
         have l1:=kC9.lt
         have e3:=kC9.cell 3 (by simp)
         have e2:=blkR kC9
         have keep:Hid (∀ {x},Below W9.heap.size W9 x → x.cell? ⟨gC,3,none⟩ = some (.int .i64 (rm:Int)) ∧ x.rangeAt gC 0 [.slice (some ⟨gM,0,none⟩) 16 16,.slice (some ⟨gl,ol,none⟩) 3 cl,.slice (some ⟨gR,0,none⟩) 6 6,.int .i64 (rm:Int)]):=fun h=>⟨(h.cell (p:=⟨gC,3,none⟩) l1).trans e3,range_blw e2 h l1⟩
         refine wp_region_held_drew (S:=fun x=>x.cell? ⟨gC,3,none⟩ = some (.int .i64 (rm:Int)) ∧ x.rangeAt gC 0 [.slice (some ⟨gM,0,none⟩) 16 16,.slice (some ⟨gl,ol,none⟩) 3 cl,.slice (some ⟨gR,0,none⟩) 6 6,.int .i64 (rm:Int)]) (by kernel_rfl) (by rw [← hV];exact keep.out b_0) (fun hHeld=>?_)
         rw [← hV] at hHeld ⊢
         clear hV e3 e2
         have hev2:Hid (k + 1 = (List.replicate k Ev.msg ++ [Ev.tick 30]).length):=by show _ = _;simp
         have HE2:=hideT (elt_ev (ownR_below ROWB.out b_0) hev2.out)
         have RM9:=hideT (RMH.out.below (b9.out.trans (b_0.mono b9.out.size)))
         refine tk (i:=0) (v:=(.agg #[.slice (some ⟨gM,0,none⟩) 16 16,.slice (some ⟨gl,ol,none⟩) 3 cl,.slice (some ⟨gR,0,none⟩) 6 6,.int .i64 (rm:Int)])) rfl (yieldsIf_load_mid (by rfl) 26 _ rfl gC 0 rfl [.slice (some ⟨gM,0,none⟩) 16 16,.slice (some ⟨gl,ol,none⟩) 3 cl,.slice (some ⟨gR,0,none⟩) 6 6,.int .i64 (rm:Int)] _ (fun _ h=>h.2) Tryz.underlying26 rfl (by kernel_rfl)) hHeld ?_
         try dsimp only [Act.put]
         refine tkA (i:=1) (v:=(.slice ae2 (k + 1) ce2)) rfl hHeld ?_
         dsimp only [Act.put,List.getElem_toArray,List.getElem_cons_zero,List.getElem_cons_succ]
         simp only [List.setIfInBounds_toArray,List.set_cons_succ,List.set_cons_zero]
         refine tkA (i:=4) (v:=(.pointer (some ⟨gC,3,none⟩))) rfl hHeld ?_
         try dsimp only [Act.put]
         refine tk (i:=5) (v:=(.int .i64 (rm:Int))) rfl (Or.inl ⟨by rfl,fun w1 h=>by have hc0:=h.1;go_simp⟩) hHeld ?_
         dsimp only [Act.put,List.getElem_toArray,List.getElem_cons_zero,List.getElem_cons_succ]
         simp only [List.setIfInBounds_toArray,List.set_cons_succ,List.set_cons_zero]
         refine rdy1 2 (fun K hK=>?_)
         go_simp
         refine (HRUN.out V RM9.out ce2 ae2 _ (k + 1) hev2.out (by rw [← hev2.out];omega) (evs_g2 k) HE2.out).mono ?_
         rintro e w_1 ⟨⟨B',s',t',aS',aL',aG',cS',cL',nG',cG',rfl,p0',hR',-,-⟩,b_1⟩
         have hW2:t'.W.length = rm:=by rw [run_30 p0' hR'];omega
         rw [hW2]
         obtain ⟨vS,hvS⟩:∃ v,v = t'.S.length:=⟨_,rfl⟩
         obtain ⟨vL,hvL⟩:∃ v,v = t'.L.length:=⟨_,rfl⟩
         rw [← hvS,← hvL]
         clear hvS hvL hW2 hR' p0'
         have hfd:=fun (wx:World)=>fldOut 0 (rm:Int) aS' aL' aG' vS cS' vL cL' nG' cG' wx
         have bR:=below_step b_0 b_1
         clear b_1
         go_wp2_with fail
         refine hK.out _ _ (keep.out bR) (fun hHeld=>?_)
         clear hK K
         try dsimp only [Act.put]
         refine tkA (i:=3) (v:=(.int .i64 (rm:Int))) rfl hHeld ?_
         try dsimp only [Act.put]
         refine tkA (i:=6) (v:=(.bool false)) rfl hHeld ?_
         dsimp only [Act.put,List.getElem_toArray,List.getElem_cons_zero,List.getElem_cons_succ]
         simp only [List.setIfInBounds_toArray,List.set_cons_succ,List.set_cons_zero]
         refine wpAnyH_done (by kernel_rfl) ?_ _
         clear hHeld
         obtain ⟨Y,hY⟩:∃ q:World,q = w_1:=⟨_,rfl⟩
         rw [← hY] at bR ⊢
         have hbY:Hid (Below X5.heap.size X5 Y):=b9.out.trans (bR.mono b9.out.size)
         have ROWC:=hideT (ownR_below ROWB.out bR)
         clear hY bR b_0 l1 keep HE2 RM9 ROWB b9 kC9 hev2
         go_wp2_with fail
         refine (message_any aD N cD Y).mono ?_
         rintro e w2 ⟨rfl,b2⟩
         obtain ⟨W8,hW8⟩:∃ y,y = w2.alloc (Obj.cells #[.int .i64 2,.int .i64 0,.int .i64 1,.slice none 0 0,.int .i64 1,.int .i64 0,.int .i64 0,.slice aD N cD] 38):=⟨_,rfl⟩
         have b8:Below w2.heap.size w2 W8:=by rw [hW8];exact below_newS _ _
         have K8:Hid (Blk W8 w2.heap.size 38 (evC 0 (.slice aD N cD) (.tick 1) ++ evC 0 (.slice aD N cD) .msg)):=by rw [hW8];exact Blk.new _ _ _
         have b28:=b2.trans (b8.mono b2.size)
         have ROWD:=hideT (ownR_below ROWC.out b28)
         have hbD:Hid (Below X5.heap.size X5 W8):=hbY.out.trans (b28.mono hbY.out.size)
         have hz8:X5.heap.size ≤ W8.heap.size:=hbD.out.size
         have HW8:=hideT hW8
         clear hW8 b2 b8 b28 ROWC hbY
         go_upto_region 24 with (at_builtin;(rw [← show W8 = _ from HW8];refine wpList_append_own_at _ rfl _ _ 36 rfl X5.heap.size 38 ie (.agg #[.int .i64 0,.int .i64 0,.int .i64 0,.slice none 0 0]) 4 48 Tryz.underlying36 hie hie0 hie1 hie2 rfl (by decide) (.slice ae2 (k + 1) ce2) (k + 1) _ rfl ROWD.out ⟨w2.heap.size,0,none⟩ 2 2 (evC 0 (.slice aD N cD) (.tick 1) ++ evC 0 (.slice aD N cD) .msg) rfl rfl (newsB K8.out) (fun u hu=>(List.mem_append.1 hu).elim (ev_one _ _ _ _ u) (ev_one _ _ _ _ u)) (by unfold maxLen;omega) (by omega) hz8 ?_;intro v9 W9 row9 gr9 _ at9;obtain ⟨ae3,ce3,rfl⟩:=ownS row9))
         have b9:Hid (Below X5.heap.size X5 W9):=hbD.out.grown gr9 hz8 (fun g hg=>(ROWD.out.lt g hg).1)
         have ROWE:Hid (W9.ownsRow X5.heap.size 38 4 (.slice ae3 (k + 1 + 2) ce3) (k + 1 + 2) (evX (.slice aD N cD) (List.replicate k .msg ++ [.tick 30] ++ [.tick 1] ++ [.msg]))):=by rw [evX_snoc,evX_snoc,List.append_assoc];exact row9
         have kC9:=kC5.below b9.out l5
         have hev3:Hid (k + 1 + 2 = (List.replicate k Ev.msg ++ [Ev.tick 30] ++ [Ev.tick 1] ++ [Ev.msg]).length):=by show _ = _;simp
         have HE3:=hideT (elt_ev ROWE.out hev3.out)
         clear row9 gr9 at9 ROWD hbD HW8 K8 hz8 ROWE
         go_wp2_with (refine load_blk rfl 26 _ rfl gC rfl kC9 Tryz.underlying26 rfl (by kernel_rfl) ?_)
         refine (HRUN.out W9 (RMH.out.below b9.out) ce3 ae3 _ (k + 1 + 2) hev3.out (by rw [← hev3.out];omega) (evs_g3 k) HE3.out).mono ?_
         rintro e w6 ⟨⟨B',s',t',aS',aL',aG',cS',cL',nG',cG',rfl,p0',hR',rS',rL'⟩,b6⟩
         obtain ⟨u1,u2,u3,u4,u5⟩:=run_31 hrm1 p0' hR'
         have hmin:min k rm = rm:=by omega
         have u6:=u5 (by omega)
         rw [hmin] at u4
         obtain ⟨nS,hnS⟩:∃ q,q = k + 1:=⟨_,rfl⟩
         obtain ⟨nL,hnL⟩:∃ q,q = k + rm + 1:=⟨_,rfl⟩
         rw [← hnS] at u2
         rw [← hnL] at u4
         rw [u2] at rS' ⊢
         rw [u4] at rL' ⊢
         rw [u1]
         obtain ⟨gS',rfl,lS',hcS'⟩:=sent_at u2 rS' (by omega)
         obtain ⟨gL',rfl,lL',hcL'⟩:=line_at u4 rL' (by omega)
         have f0:=hcS' k (by omega)
         rw [u3] at f0
         obtain ⟨⟨pa,pb,pc⟩,hp,d0,-,-⟩:=hcL' k (by omega)
         have hpa:pa = 68:=by rw [← u6,← hp]
         subst hpa
         have hnSI:(rm:Int) + 3 = (nS:Int):=by omega
         have hnLI:2 * (rm:Int) + 3 = (nL:Int):=by omega
         have hkS:(k:Int) < (nS:Int):=by omega
         have hkL:(k:Int) < (nL:Int):=by omega
         obtain ⟨gO,hgO⟩:∃ q,q = w6.heap.size:=⟨_,rfl⟩
         obtain ⟨X7',hX7⟩:∃ y,y = w6.alloc (Obj.cells #[.int .i64 0,.slice (some ⟨gS',0,none⟩) nS cS',.slice (some ⟨gL',0,none⟩) nL cL',.int .i64 1,.slice aG' nG' cG'] 44):=⟨_,rfl⟩
         have kO:Blk X7' gO 44 [.int .i64 0,.slice (some ⟨gS',0,none⟩) nS cS',.slice (some ⟨gL',0,none⟩) nL cL',.int .i64 1,.slice aG' nG' cG']:=by rw [hX7,hgO];exact Blk.new _ _ _
         have bX7:Below w6.heap.size w6 X7':=by rw [hX7];exact below_newS _ _
         have b67:=b6.trans (bX7.mono b6.size)
         have hb7:Hid (Below X5.heap.size X5 X7'):=b9.out.trans (b67.mono b9.out.size)
         have o1:=kO.cell 1 (by simp)
         have o2:=kO.cell 2 (by simp)
         have o3:=kO.cell 3 (by simp)
         have c3:=(kC5.below hb7.out l5).cell 3 (by simp)
         have f1:=(bX7.cell (p:=⟨gS',k * 2,none⟩) lS').trans f0
         have f2:=(bX7.cell (p:=⟨gL',k * 3,none⟩) lL').trans d0
         simp only at f2
         rw [show ((1:Nat):Int) = 1 from rfl] at f1
         have HX7:=hideT hX7
         have HGO:=hideT hgO
         clear hX7 hgO u1 u2 u3 u4 u5 u6 rS' rL' hcS' hcL' hR' p0' b6 bX7 b67 lS' lL' f0 d0 hp hnS hnL hmin HE3 hev3 kC9 b9
         go_upto_region 25 with fail
         rw [← show X7' = _ from HX7,← show gO = _ from HGO]
         clear HX7 HGO
         go_wp2_with fail
         go_ret
         exact ⟨rfl,HB5.out.trans (hb7.out.mono HB5.out.size)⟩
set_option maxRecDepth 100000 in
theorem lawRoom (ao:Option Addr) (cap:Nat) (bs:List UInt8) (x0 x1:Addr) (w:World) (_hn:bs.length ≤ maxLen) (hs:Sents w x0 x1) (hr:RowAt w ao bs) (hT:∀ w',Below w.heap.size w w' → Lib.TabIs Tryz.prog w' "internal/strconv.uint64pow10" .u64 Lib.pow10Tab) :
   Calls Tryz.prog 3 #[.slice ao bs.length cap] w fun e w'=>e = .returned (.bool true) ∧ Below w.heap.size w w':=by
 by_cases h:bs.length ≤ 1048576
 · exact lawRoom_main ao cap bs x0 x1 w h hs hr hT
 · have hnI:(1048576:Int) < (bs.length:Int):=by omega
   clear hr hT hs
   go_enter Tryz.func3,Tryz.ntmps3
   go_wp2_with fail
   go_ret
   exact ⟨rfl,Below.refl _ _⟩
end Go.Proofs.YtbkokcjolanpeaaGreatDoor
