import Derived.Test.YtbkokcjolanpeaaGreatDoorMkPb
import Derived.Test.YtbkokcjolanpeaaGreatDoorMkQ
import Derived.Test.YtbkokcjolanpeaaGreatDoorMkR
set_option maxRecDepth 100000
set_option maxHeartbeats 20000000
namespace Go.Proofs.YtbkokcjolanpeaaGreatDoor
open Go.RowKit Go.Proofs.Tryz Act
abbrev CO:List Value:=[.int .i64 1,.int .i64 0,.int .i64 0,.slice none 0 0]
theorem SY (n m:Nat) (d i:Option Addr) (f g:Nat) (w:World) (j:n <= 1048576) (h:¬ (n = 16 /\ m = 36)) :
 Calls prog 85 #[.slice d n f,.slice i m g] w fun e w'=>e = .returned (.agg CO.toArray) /\ Bl w w':=by
 have hz:=(QO Tryz.zeroOp).1;have b:Bl w ((w.alloc (.cells CO.toArray 145)).alloc (.cells CO.toArray 145)):=((Below.refl _ w).alloc (QE _) _).alloc (by simp) _;have a:Blk ((w.alloc (.cells CO.toArray 145)).alloc (.cells CO.toArray 145)) w.heap.size 145 CO:=(Blk.new w _ _).alloc _
 by_cases h1:n = 16
 ·have c:¬ m = 36:=fun c=>h ⟨h1,c⟩;subst h1;go_enter func85,ntmps85;go_wp2_with fail;exact Qc (v:=.agg CO.toArray) (AG results85 _ _ rfl a underlying145 rfl (by kernel_rfl)) rfl ⟨rfl,b⟩
 ·go_enter func85,ntmps85;go_wp2_with fail;exact Qc (v:=.agg CO.toArray) (AG results85 _ _ rfl a underlying145 rfl (by kernel_rfl)) rfl ⟨rfl,b⟩
theorem RB (d a:LU) (am:Option Addr) (cm i l H:Nat) (w:World) (hm:d.length = 16) (d0:a.length = 36) (j4:36 <= H) (rm:RowAt w am d) (rb:RowAt w (some ⟨i,l,none⟩) a) :
 Calls prog 85 #[.slice am 16 cm,.slice (some ⟨i,l,none⟩) 36 H] w fun e w' =>
  ((e = .returned (.agg CO.toArray) /\ DH a = false) \/
   (e = .returned (.agg #[.int .i64 2,.int .i64 0,.int .i64 0,.slice none 0 0]) /\ DH a = true /\ BZ d a = false) \/
   (∃ g,e = .returned (.agg #[.int .i64 0,.int .i64 (uOf a:Nat),.int .i64 (gOf a:Nat),.slice (some ⟨g,0,none⟩) 16 16]) /\ w.heap.size < g /\ Blk w' g 5 ((Ao d a).map byte) /\ DH a = true /\ BZ d a = true)) /\ Bl w w':=by
 have hz:=(QO Tryz.zeroOp).1;have k1:=(QO Tryz.zeroKI).1;have L:∀ j,j < 36 -> w.cell? ⟨i,l + j,none⟩ = some (.int .u8 ((a.getD j 0).toNat:Int)):=by
  intro j hj;obtain ⟨b',o',e,hc⟩:=rb.at (k:=j) (by omega);cases e
  exact hc j (by omega)
 have r0:=L 0 (by omega);have r1:=L 1 (by omega);have r2:=L 2 (by omega);have r3:=L 3 (by omega);rw [qq] at r0;have c9:i < w.heap.size:=QF w _ r1;have u:Hid (DH a = (decide ((a.getD 0 0).toNat = 75) && decide ((a.getD 3 0).toNat = 16) && (decide (1 <= (a.getD 1 0).toNat) && decide ((a.getD 1 0).toNat <= 3)))):=rfl;have c4:(Bw d).length = 16:=Aw d [69] hm;have f0:(a.drop 20).length = 16:=by rw [QN,d0]
 have e2:((a.drop 4).take 16).length = 16:=by rw [QI,QN,d0];rfl
 have d5:w.rangeAt i l (a.map byte):=by obtain ⟨b',o',e,h⟩:=rb.range (by omega);cases e;exact h
 have rD:RowAt w (some ⟨i,l + 20,none⟩) (a.drop 20):=by have h:=Gk d5 20 16;rw [QS (by omega)] at h;exact F7 h
 have d1:RowAt w (some ⟨i,l + 4,none⟩) ((a.drop 4).take 16):=F7 (Gk d5 4 16);have d3:=Aa (fun (c:Nat) (g:Nat) (t:World) (R:RowAt t am d) (h2:RowAt t (some ⟨g,0,none⟩) [69])=>Ik d [69] am (some ⟨g,0,none⟩) cm c t hm (by simp) R h2);have f5:Bf d [69] = Bw d:=rfl;rw [f5] at d3;have Z:=Bp d (Ao d a) (uOf a) (gOf a) hm;have a0:Hid (BZ d a = decide (AY d (Ao d a) (uOf a) (gOf a) = a)):=rfl;have e8:(a.getD 2 0).toNat <= 255:=by have:=QW (a.getD 2 0);omega
 have a3:Ao d a = AE (Do (Bw d) (a.drop 20) true) ((a.drop 4).take 16):=rfl;show Calls prog 85 _ w fun e w' =>
  ((e = .returned (.agg CO.toArray) /\ DH a = false) \/
   (e = .returned (.agg #[.int .i64 2,.int .i64 0,.int .i64 0,.slice none 0 0]) /\ DH a = true /\ BZ d a = false) \/
   (∃ g,e = .returned (.agg #[.int .i64 0,.int .i64 (((a.getD 1 0).toNat:Nat):Int),.int .i64 (((a.getD 2 0).toNat:Nat):Int),.slice (some ⟨g,0,none⟩) 16 16]) /\ w.heap.size < g /\ Blk w' g 5 ((Ao d a).map byte) /\ DH a = true /\ BZ d a = true)) /\ Bl w w'
 change (AY d (Ao d a) (a.getD 1 0).toNat (a.getD 2 0).toNat).length = 36 at Z
 change Hid (BZ d a = decide (AY d (Ao d a) (a.getD 1 0).toNat (a.getD 2 0).toNat = a)) at a0
 have l0:=QW (a.getD 0 0);have l1:=QW (a.getD 1 0);have l3:=QW (a.getD 3 0);obtain ⟨y0,h6⟩:=uX ((a.getD 0 0).toNat);obtain ⟨o,f6⟩:=uX ((a.getD 1 0).toNat);obtain ⟨r,f2⟩:=uX ((a.getD 2 0).toNat);obtain ⟨y3,h5⟩:=uX ((a.getD 3 0).toNat);rw [<- h6] at r0 u l0;rw [<- f6] at r1 u Z a0 l1 ⊢;rw [<- f2] at r2 e8 Z a0 ⊢;rw [<- h5] at r3 u l3;clear h6 f6 f2 h5 L;obtain ⟨E,hE⟩:=uX (Bw d);rw [<- hE] at d3 c4 a3;obtain ⟨D,hD⟩:=uX (a.drop 20);obtain ⟨E4,g5⟩:=uX ((a.drop 4).take 16);rw [<- hD] at f0 rD a3;rw [<- g5] at e2 d1 a3;have HD:=Aa (fun (g c c2:Nat) (t:World) (R:RowAt t (some ⟨g,0,none⟩) E) (h2:RowAt t (some ⟨i,l + 20,none⟩) D)=>Vu E D (some ⟨g,0,none⟩) i (l + 20) c c2 t c4 f0 R h2);have c5:=Ds E D true c4;have g9:Is (AQ E) D = Do E D true:=rfl;rw [g9] at HD;obtain ⟨M,hM⟩:=uX (Do E D true);rw [<- hM] at HD c5 a3;have HX:=Aa (fun (c:Nat) (gM cM:Nat) (t:World) (R:RowAt t (some ⟨gM,0,none⟩) M) (h2:RowAt t (some ⟨i,l + 4,none⟩) E4)=>Fo M E4 gM 0 cM i (l + 4) c t c5 e2 R h2);have b8:(AE M E4).length = 16:=by rw [AW _ _ (by omega),c5]
 rw [<- a3] at HX b8;obtain ⟨X,hX⟩:=uX (Ao d a);rw [<- hX] at HX b8 Z a0 ⊢;have d2:=Aa (fun (q1:1 <= o) (q2:o <= 3) (yb:Nat) (t:World) (R:RowAt t am d) (h2:RowAt t (some ⟨yb,0,none⟩) X)=>NK d X o r cm yb 0 16 am t hm b8 q1 q2 e8 R h2);obtain ⟨WN,h7⟩:=uX (AY d X o r);rw [<- h7] at d2 Z a0;have e0:=Aa (fun (t:World) (h:RowAt t (some ⟨i,l,none⟩) a)=>DC a (some ⟨i,l,none⟩) 36 H t d0 h);have e5:=Aa (fun (ao:Option Addr) (c:Nat) (t:World) (h:RowAt t ao WN)=>DC WN ao 36 c t Z h);have b0:=Aa (MP WN a);obtain ⟨ys,g6⟩:∃ x:ByteArray,x = ⟨a.toArray⟩:=⟨_,rfl⟩;obtain ⟨xs,f1⟩:∃ x:ByteArray,x = ⟨WN.toArray⟩:=⟨_,rfl⟩;rw [<- g6] at e0 b0;rw [<- f1] at e5 b0;have k0:(X.map byte).length = 16:=by rw [QD,b8]
 clear hE hD g5 hM hX h7 a3 f5 g9 d5 g6 f1;obtain ⟨W,hW⟩:=uX ((w.alloc (.cells IV.toArray 145)).alloc (.cells CO.toArray 145));have kW:Blk W w.heap.size 145 IV:=by rw [hW];exact (Blk.new w _ _).alloc _
 have b3:Blk W (w.heap.size + 1) 145 CO:=by rw [hW];exact Blk.new2 w _ _ _
 have bW:Bl w W:=by rw [hW];exact ((Below.refl _ w).alloc (QE _) _).alloc (by simp) _
 have lW:=b3.lt;have HK:Hid (∀ {x},Bl W x -> Blk x w.heap.size 145 IV /\ Blk x (w.heap.size + 1) 145 CO /\ (x.cell? ⟨i,l + 1,none⟩ = some (.int .u8 (o:Int)) /\ x.cell? ⟨i,l + 2,none⟩ = some (.int .u8 (r:Int))) /\ RowAt x am d /\ RowAt x (some ⟨i,l,none⟩) a /\ RowAt x (some ⟨i,l + 20,none⟩) D /\ RowAt x (some ⟨i,l + 4,none⟩) E4 /\ Bl w x):=by
  intro x hx;have hb:Bl w x:=bW.trans (hx.mono bW.size);exact ⟨kW.below hx kW.lt,b3.below hx b3.lt,⟨(hb.cell (p:=⟨i,l + 1,none⟩) c9).trans r1,(hb.cell (p:=⟨i,l + 2,none⟩) c9).trans r2⟩,rm.below hb,rb.below hb,rD.below hb,d1.below hb,hb⟩
 have i0:Bl W W:=Below.refl _ _;have c0:=(bW.cell (p:=⟨i,l,none⟩) c9).trans r0;have c3:=(bW.cell (p:=⟨i,l + 3,none⟩) c9).trans r3;rw [hW] at c0 c3;have HW:=Aa hW;have f4:Blk ((w.alloc (.cells CO.toArray 145)).alloc (.cells CO.toArray 145)) w.heap.size 145 CO:=(Blk.new w _ _).alloc _;have f7:Bl w ((w.alloc (.cells CO.toArray 145)).alloc (.cells CO.toArray 145)):=((Below.refl _ w).alloc (QE _) _).alloc (by simp) _;have a6:Hid (Blk ((w.alloc (.cells CO.toArray 145)).alloc (.cells CO.toArray 145)) w.heap.size 145 CO /\ Bl w ((w.alloc (.cells CO.toArray 145)).alloc (.cells CO.toArray 145))):=⟨f4,f7⟩;clear hW r0 r1 r2 r3 rD d1 rm rb kW b3 bW f4 f7
 by_cases q0:y0 = 75
 ·have f9:((y0:Int) != 75) = false:=by rw [qs];omega
  by_cases q3:y3 = 16
  ·have h3:((y3:Int) != 16) = false:=by rw [qs];omega
   rw [QK q0,QK q3,Qp,Qp] at u;clear a6 q0 q3;have j2:IntKind.i64.wrap (o:Int) = (o:Int):=by rw [QH];omega
   have i9:IntKind.i64.wrap (r:Int) = (r:Int):=by rw [QH];omega
   have j1:(20:Int) <= (H:Int):=by omega
   have j3:(36:Int) <= (H:Int):=by omega
   have j0:¬ H = 20:=by omega
   have j6:¬ H = 4:=by omega
   go_enter func85,ntmps85;go_upto_region 4 with fail
   rw [<- show W = _ from HW];clear c0 c3 HW f9 h3;go_cut [6] (fun p t=>∃ G,p = .pointer (some ⟨G,0,none⟩) /\ W.heap.size <= G /\ Blk t G 55 [.int .i64 (o:Int),.int .i64 (r:Int),.slice none 0 0] /\ Bl W t)
   case first =>
    obtain ⟨V,hV⟩:=uX (World.drew W);have s:Bl W V:=by rw [hV];exact i0.drew
    have g8:=s.size;have f:Hid (∀ {x},Bl W x -> x.cell? ⟨i,l + 1,none⟩ = some (.int .u8 (o:Int)) /\ x.cell? ⟨i,l + 2,none⟩ = some (.int .u8 (r:Int))):=fun h=>(HK.out h).2.2.1;refine QJ (S:=fun x=>x.cell? ⟨i,l + 1,none⟩ = some (.int .u8 (o:Int)) /\ x.cell? ⟨i,l + 2,none⟩ = some (.int .u8 (r:Int))) (by kernel_rfl) (by rw [<- hV];exact f.out s) (fun b=>?_);rw [<- hV] at b ⊢;clear hV;refine tA 0 (.slice (some ⟨i,l,none⟩) 36 H) b ?_;simp only [put,pS];refine tA 1 (.pointer (some ⟨i,l + 1,none⟩)) b ?_;simp only [put,pS];refine tC 2 (.int .u8 (o:Int)) rfl (fun w1 h=>by have hc:=h.1;go_simp) b ?_;simp only [put,pS];refine tA 3 (.int .i64 (o:Int)) b ?_;simp only [put,pS];refine tA 4 (.slice (some ⟨i,l,none⟩) 36 H) b ?_;simp only [put,pS];refine tA 5 (.pointer (some ⟨i,l + 2,none⟩)) b ?_;simp only [put,pS];refine tC 6 (.int .u8 (r:Int)) rfl (fun w1 h=>by have hc:=h.2;go_simp) b ?_;simp only [put,pS];refine tA 7 (.int .i64 (r:Int)) b ?_;simp only [put,pS];refine tC 8 (.agg ([.int .i64 (o:Int),.int .i64 (r:Int),.slice none 0 0]:List Value).toArray) rfl (fun w1 h=>by go_simp) b ?_;simp only [put,pS];refine rdy1 9 (fun K m=>?_);go_simp;obtain ⟨e9,a4⟩:=uX (World.alloc V (.cells (BB).toArray 55));have N:=uB a4;have d4:Blk e9 V.heap.size 55 (BB):=by rw [a4];exact Blk.new _ _ _
    have d6:=s.size;have i8:=d4.lt;have q:=AB s N;rw [<- a4];clear a4;refine m.out _ _ (f.out q) (fun b=>?_);clear m K
    try dsimp only [put]
    refine rdy1 10 (fun K m=>?_);rw [if_pos (by rfl)];refine AR rfl 55 _ _ rfl V.heap.size rfl rfl d4 (by kernel_rfl) rfl (by kernel_rfl) ?_;have i6:=Blk.setRow d4 ([.int .i64 (o:Int),.int .i64 (r:Int),.slice none 0 0]);have a2:=AN (g:=V.heap.size) q d6 ([.int .i64 (o:Int),.int .i64 (r:Int),.slice none 0 0]).toArray;refine m.out _ _ (f.out a2) (fun b=>?_);clear m K
    try dsimp only [put]
    refine QM (by kernel_rfl) ?_ _;go_wp2_with fail;go_meet
    case rel=>exact ⟨_,rfl,by omega,i6,a2⟩
   case rest =>
    obtain ⟨I,rfl,i5,kK,bc⟩:=hcut;have i3:=kK.c 0
    by_cases qu:1 <= o /\ o <= 3
    ·obtain ⟨q1,q2⟩:=qu;rw [QK q1,QK q2] at u;have k3:¬ ((o:Int) < 1):=by omega
     have k2:¬ ((3:Int) < (o:Int)):=by omega
     go_upto_region 7 with fail
     clear i3;obtain ⟨V,hV⟩:=uX (World.drew wc);have bV:Bl W V:=by rw [hV];exact bc.drew
     have b4:Blk V I 55 [.int .i64 (o:Int),.int .i64 (r:Int),.slice none 0 0]:=by rw [hV];exact kK.drew1
     have g8:=bV.size;have s:Bl V V:=Below.refl _ _;have h0:Hid (∀ {x},Bl V x -> RowAt x am d):=fun h=>(HK.out bV).2.2.2.1.below h;have f3:Hid (∀ {x},Bl V x -> RowAt x (some ⟨i,l + 20,none⟩) D):=fun h=>(HK.out bV).2.2.2.2.2.1.below h;have h8:Hid (∀ {x},Bl V x -> RowAt x (some ⟨i,l + 4,none⟩) E4):=fun h=>(HK.out bV).2.2.2.2.2.2.1.below h;have f:Hid (∀ {P:Prop},P -> True):=fun _=>trivial;have kc:=fun (w:World) (C:Array Value) (n c:Nat)=>Lib.run_convert_bytes_const (P:=prog) w 22 5 C n c underlying22 underlying5;refine QJ (S:=fun _=>True) (by kernel_rfl) trivial (fun b=>?_);rw [<- hV];clear hV kK bc;refine tA 0 (.slice am 16 cm) b ?_;simp only [put,pS];refine tA 4 (.slice (some ⟨i,l,none⟩) 36 H) b ?_;simp only [put,pS];refine tA 5 (.slice (some ⟨i,l + 20,none⟩) 16 (H - 20)) b ?_;simp only [put,pS];refine tA 7 (.slice (some ⟨i,l,none⟩) 36 H) b ?_;simp only [put,pS];refine tA 8 (.slice (some ⟨i,l + 4,none⟩) 16 (H - 4)) b ?_;simp only [put,pS];refine rdy1 1 (fun K m=>?_);go_simp;have q:Bl V (World.alloc V (.cells #[.int .u8 69] 5)):=At _ _;refine m.out _ _ (f.out q) (fun b=>?_);clear m K
     try dsimp only [put]
     refine rdy1 2 (fun K m=>?_);go_simp;obtain ⟨i4,a5⟩:=uX (World.alloc V (.cells #[.int .u8 69] 5 (1,2)));have f8:RowAt i4 (some ⟨V.heap.size,0,none⟩) [69]:=by rw [a5];exact DQ V [69] _ _
     have a2:=uB a5;rw [<- a5];clear a5;refine m.out _ _ (f.out a2) (fun b=>?_);clear m K
     try dsimp only [put]
     refine rdy1 3 (fun K m=>?_);go_simp;refine (d3.out 1 _ _ (h0.out a2) f8).mono ?_;rintro e j5 ⟨j7,rfl,c1,b1⟩;have b5:=AB a2 b1;obtain ⟨gE,cE,-,rfl,rE⟩:=BE c1 c4 (by omega);clear c1;go_wp2_with fail;refine m.out _ _ (f.out b5) (fun b=>?_);clear m K
     try dsimp only [put]
     refine rdy1 6 (fun K m=>?_);go_simp;refine (HD.out _ _ _ _ rE (f3.out b5)).mono ?_;rintro e i2 ⟨j9,rfl,c6,b9⟩;have a7:=AB b5 b9;obtain ⟨gM,cM,-,rfl,rM⟩:=BE c6 c5 (by omega);clear c6;go_wp2_with fail;refine m.out _ _ (f.out a7) (fun b=>?_);clear m K
     try dsimp only [put]
     refine rdy1 9 (fun K m=>?_);go_simp;refine (HX.out _ _ _ _ rM (h8.out a7)).mono ?_;rintro e i1 ⟨rfl,g0,b7⟩;have c8:=AB a7 b7;have kX:=g0;go_wp2_with fail;refine m.out _ _ (f.out c8) (fun b=>?_);clear m K
     try dsimp only [put]
     refine tA 10 (.pointer (some ⟨I,2,none⟩)) b ?_;simp only [put,pS];refine rdy1 11 (fun K m=>?_);have kz:=b4.below c8 b4.lt;obtain ⟨B,e4⟩:=uX (i2.heap.size);have lX:V.heap.size <= B:=by rw [e4];exact a7.size
     rw [<- e4] at kX ⊢;have cz:=kz.c 2;have fz:=kz.free 2;clear e4;go_simp;refine m.out _ _ (f.out trivial) (fun b=>?_);clear m K
     try dsimp only [put]
     refine QM (by kernel_rfl) ?_ _;go_upto_region 8 with fail
     obtain ⟨w6,a8⟩:=uX (World.setCell i1 ⟨I,2,none⟩ (.slice (some ⟨B,0,none⟩) 16 16));rw [<- a8];have j8:=b4.lt;have h9:B ≠ I:=by omega
     have b2:Blk w6 I 55 [.int .i64 (o:Int),.int .i64 (r:Int),.slice (some ⟨B,0,none⟩) 16 16]:=by rw [a8];exact kz.set 2 _
     have c7:Blk w6 B 5 (X.map byte):=by rw [a8];exact kX.other _ _ h9
     have b6:Bl W w6:=by rw [a8];exact (bV.trans (c8.mono g8)).setCell (p:=⟨I,2,none⟩) i5 _
     clear a8 kz kX c8 a7 b5 a2 q s b1 b9 b7 cz fz rE rM f8 g0 b f h0 f3 h8 b4 bV kc
     by_cases heq:WN = a
     ·have a9:Hid (BZ d a = true):=by show _ = _;rw [a0.out];exact QK heq
      have e6:(xs.toList == ys.toList) = true:=by rw [b0.out];exact QK heq
      have e7:(xs.toList != ys.toList) = false:=by rw [bne,e6];rfl
      clear heq;obtain ⟨U,y⟩:=uX (World.drew w6);have T:Bl W U:=by rw [y];exact b6.drew
      have A:Blk U I 55 [.int .i64 (o:Int),.int .i64 (r:Int),.slice (some ⟨B,0,none⟩) 16 16]:=by rw [y];exact b2.drew1
      have z:Blk U B 5 (X.map byte):=by rw [y];exact c7.drew1
      have J:=T.size;have s:Bl U U:=Below.refl _ _;have f:Hid (∀ {x},Bl U x -> x.rangeAt I 0 [.int .i64 (o:Int),.int .i64 (r:Int),.slice (some ⟨B,0,none⟩) 16 16] /\ RowAt x (some ⟨i,l,none⟩) a):=fun h=>⟨Ad (A.below h A.lt),(HK.out (T.trans (h.mono J))).2.2.2.2.1⟩;refine QJ (S:=fun x=>x.rangeAt I 0 [.int .i64 (o:Int),.int .i64 (r:Int),.slice (some ⟨B,0,none⟩) 16 16] /\ RowAt x (some ⟨i,l,none⟩) a) (by kernel_rfl) (by rw [<- y];exact f.out s) (fun b=>?_);rw [<- y] at b ⊢;clear y b2 c7 b6;refine tA 0 (.slice am 16 cm) b ?_;simp only [put,pS];refine tB 1 (.agg ([.int .i64 (o:Int),.int .i64 (r:Int),.slice (some ⟨B,0,none⟩) 16 16]:List Value).toArray) rfl (QY (by rfl) 55 _ rfl I 0 rfl [.int .i64 (o:Int),.int .i64 (r:Int),.slice (some ⟨B,0,none⟩) 16 16] _ (fun _ h=>h.1) underlying55 rfl (by kernel_rfl)) b ?_;simp only [put,pS];refine tA 4 (.slice (some ⟨i,l,none⟩) 36 H) b ?_;simp only [put,pS];refine tC 5 (.string ys) rfl (fun w1 h=>by have hc:=e0.out w1 h.2;go_simp) b ?_;simp only [put,pS];refine rdy1 2 (fun K m=>?_);go_simp;refine (d2.out q1 q2 _ _ (HK.out (T.trans (s.mono J))).2.2.2.1 (Ai (z.below s z.lt))).mono ?_;rintro e e9 ⟨i7,rfl,O,N⟩;have q:=AB s N;obtain ⟨aW,cW,rfl,rW,-⟩:=O.shape;rw [Z];clear O;have h4:=z.below q z.lt;have g7:=A.below q A.lt;go_wp2_with fail;refine m.out _ _ (f.out q) (fun b=>?_);clear m K
      try dsimp only [put]
      refine rdy1 3 (fun K m=>?_);have e3:=e5.out _ cW _ rW;go_simp;refine m.out _ _ (f.out q) (fun b=>?_);clear m K
      try dsimp only [put]
      refine rdy1 6 (fun K m=>?_);go_simp;refine m.out _ _ (f.out q) (fun b=>?_);clear m K
      try dsimp only [put]
      refine QM (by kernel_rfl) ?_ _;obtain ⟨R,-,-,-,-,-,-,F⟩:=HK.out (T.trans (q.mono J));clear b f;go_wp2_with (first
       | (refine AL rfl 55 _ rfl I rfl g7 underlying55 rfl (by kernel_rfl) ?_)
       | (refine store_blk rfl 145 _ _ rfl w.heap.size rfl rfl R (by kernel_rfl) rfl (by kernel_rfl) ?_;intro w7 a1 Y e1))
      exact ⟨rfl,_,AG results85 _ _ rfl a1 underlying145 rfl (by kernel_rfl),⟨.inr (.inr ⟨B,rfl,by omega,h4.grown Y (by simp;omega),u.out,a9.out⟩),F.grown Y F.size (by intro k hk;cases hk;exact QE _)⟩⟩
     ·have a9:Hid (BZ d a = false):=by show _ = _;rw [a0.out];exact QT heq
      have e6:(xs.toList == ys.toList) = false:=by rw [b0.out];exact QT heq
      have e7:(xs.toList != ys.toList) = true:=by rw [bne,e6];rfl
      clear heq;obtain ⟨U,y⟩:=uX (World.drew w6);have T:Bl W U:=by rw [y];exact b6.drew
      have A:Blk U I 55 [.int .i64 (o:Int),.int .i64 (r:Int),.slice (some ⟨B,0,none⟩) 16 16]:=by rw [y];exact b2.drew1
      have z:Blk U B 5 (X.map byte):=by rw [y];exact c7.drew1
      have J:=T.size;have s:Bl U U:=Below.refl _ _;have f:Hid (∀ {x},Bl U x -> x.rangeAt I 0 [.int .i64 (o:Int),.int .i64 (r:Int),.slice (some ⟨B,0,none⟩) 16 16] /\ RowAt x (some ⟨i,l,none⟩) a):=fun h=>⟨Ad (A.below h A.lt),(HK.out (T.trans (h.mono J))).2.2.2.2.1⟩;refine QJ (S:=fun x=>x.rangeAt I 0 [.int .i64 (o:Int),.int .i64 (r:Int),.slice (some ⟨B,0,none⟩) 16 16] /\ RowAt x (some ⟨i,l,none⟩) a) (by kernel_rfl) (by rw [<- y];exact f.out s) (fun b=>?_);rw [<- y] at b ⊢;clear y b2 c7 b6;refine tA 0 (.slice am 16 cm) b ?_;simp only [put,pS];refine tB 1 (.agg ([.int .i64 (o:Int),.int .i64 (r:Int),.slice (some ⟨B,0,none⟩) 16 16]:List Value).toArray) rfl (QY (by rfl) 55 _ rfl I 0 rfl [.int .i64 (o:Int),.int .i64 (r:Int),.slice (some ⟨B,0,none⟩) 16 16] _ (fun _ h=>h.1) underlying55 rfl (by kernel_rfl)) b ?_;simp only [put,pS];refine tA 4 (.slice (some ⟨i,l,none⟩) 36 H) b ?_;simp only [put,pS];refine tC 5 (.string ys) rfl (fun w1 h=>by have hc:=e0.out w1 h.2;go_simp) b ?_;simp only [put,pS];refine rdy1 2 (fun K m=>?_);go_simp;refine (d2.out q1 q2 _ _ (HK.out (T.trans (s.mono J))).2.2.2.1 (Ai (z.below s z.lt))).mono ?_;rintro e e9 ⟨i7,rfl,O,N⟩;have q:=AB s N;obtain ⟨aW,cW,rfl,rW,-⟩:=O.shape;rw [Z];clear O;have h4:=z.below q z.lt;have g7:=A.below q A.lt;go_wp2_with fail;refine m.out _ _ (f.out q) (fun b=>?_);clear m K
      try dsimp only [put]
      refine rdy1 3 (fun K m=>?_);have e3:=e5.out _ cW _ rW;go_simp;refine m.out _ _ (f.out q) (fun b=>?_);clear m K
      try dsimp only [put]
      refine rdy1 6 (fun K m=>?_);go_simp;refine m.out _ _ (f.out q) (fun b=>?_);clear m K
      try dsimp only [put]
      refine QM (by kernel_rfl) ?_ _;obtain ⟨R,-,-,-,-,-,-,F⟩:=HK.out (T.trans (q.mono J));clear b f;go_wp2_with (refine store_blk rfl 145 _ _ rfl w.heap.size rfl rfl R (by kernel_rfl) rfl (by kernel_rfl) ?_;intro w7 a1 Y e1)
      exact ⟨rfl,_,AG results85 _ _ rfl a1 underlying145 rfl (by kernel_rfl),⟨.inr (.inl ⟨rfl,u.out,a9.out⟩),F.grown Y F.size (by intro k hk;cases hk;exact QE _)⟩⟩
    ·have hu:(decide (1 <= o) && decide (o <= 3)) = false:=by
      rw [<- Bool.decide_and,decide_eq_false_iff_not];exact qu
     rw [hu] at u;obtain ⟨R,h2,-,-,-,-,-,F⟩:=HK.out bc;clear hu kK bc
     by_cases q1:(o:Int) < 1
     ·go_wp2_with (first
       | (refine AL rfl 145 _ rfl (w.heap.size + 1) rfl h2 underlying145 rfl (by kernel_rfl) ?_)
       | (refine store_blk rfl 145 _ _ rfl w.heap.size rfl rfl R (by kernel_rfl) rfl (by kernel_rfl) ?_;intro w7 a1 Y e1))
      exact ⟨rfl,_,AG results85 _ _ rfl a1 underlying145 rfl (by kernel_rfl),⟨.inl ⟨rfl,u.out⟩,F.grown Y F.size (by intro k hk;cases hk;exact QE _)⟩⟩
     ·have q2:(3:Int) < (o:Int):=by omega
      go_wp2_with (first
       | (refine AL rfl 145 _ rfl (w.heap.size + 1) rfl h2 underlying145 rfl (by kernel_rfl) ?_)
       | (refine store_blk rfl 145 _ _ rfl w.heap.size rfl rfl R (by kernel_rfl) rfl (by kernel_rfl) ?_;intro w7 a1 Y e1))
      exact ⟨rfl,_,AG results85 _ _ rfl a1 underlying145 rfl (by kernel_rfl),⟨.inl ⟨rfl,u.out⟩,F.grown Y F.size (by intro k hk;cases hk;exact QE _)⟩⟩
  ·have h3:((y3:Int) != 16) = true:=by rw [qm];omega
   rw [QT q3,Bool.and_false,qJ] at u;clear q0 q3 HW;go_enter func85,ntmps85;go_wp2_with fail;exact Qc (v:=.agg CO.toArray) (AG results85 _ _ rfl a6.out.1 underlying145 rfl (by kernel_rfl)) rfl ⟨.inl ⟨rfl,u.out⟩,a6.out.2⟩
 ·have f9:((y0:Int) != 75) = true:=by rw [qm];omega
  rw [QT q0,qJ,qJ] at u;clear q0 HW;go_enter func85,ntmps85;go_wp2_with fail;exact Qc (v:=.agg CO.toArray) (AG results85 _ _ rfl a6.out.1 underlying145 rfl (by kernel_rfl)) rfl ⟨.inl ⟨rfl,u.out⟩,a6.out.2⟩
end Go.Proofs.YtbkokcjolanpeaaGreatDoor
