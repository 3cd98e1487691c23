import Derived.Test.YtbkokcjolanpeaaGreatDoorMkPb
import Derived.Test.YtbkokcjolanpeaaGreatDoorMkQ
import Derived.Test.YtbkokcjolanpeaaGreatDoorMkR
set_option maxRecDepth 100000
set_option maxHeartbeats 20000000
namespace Go.Proofs.YtbkokcjolanpeaaGreatDoor
open Go.RowKit Go.Proofs.Tryz Act
theorem TI {w:World} {g o:Nat} {l:LU} (h:w.rangeAt g o (l.map byte)):RowAt w (some ⟨g,o,none⟩) l:=F7 h
theorem WH (d a:LU) (kb ko ck l m C T1:Nat) (x1:Value) (w:World) (hm:d.length = 16) (e9:a.length = 36) (n1:36 <= C) (hh:DH a = true) (hg:w.cell? ⟨1,0,none⟩ = some (.iface T1 x1)) (rk:w.rangeAt kb ko (d.map byte)) (rb:w.rangeAt l m (a.map byte)) :
 Calls prog 104 #[.slice (some ⟨kb,ko,none⟩) 16 ck,.slice (some ⟨l,m,none⟩) 36 C] w fun e w' =>
  ((∃ g,e = .returned (.tuple #[.agg #[.int .i64 (uOf a:Nat),.int .i64 (gOf a:Nat),.slice (some ⟨g,0,none⟩) 16 16],.nilIface]) /\ w.heap.size < g /\ Blk w' g 88 ((Ao d a).map byte) /\ BZ d a = true) \/
   (e = .returned (.tuple #[.agg BB.toArray,.iface T1 x1]) /\ BZ d a = false)) /\ Bl w w':=by
 have i3:=QF w _ hg;have hz:=(QO Tryz.zeroKI).1;have j8:Hid (∀ {x},Bl w x -> x.cell? ⟨1,0,none⟩ = some (.iface T1 x1)):=fun h=>(h.cell (p:=⟨1,0,none⟩) i3).trans hg;have m7:=(QO Tryz.z16).1;have c6:=Aa (fun (n:World) (h:n.rangeAt kb ko (d.map byte))=>LN d kb ko ck n hm h);have g7:(Bw d).length = 16:=Aw d [69] hm;have f2:(a.drop 20).length = 16:=by rw [QN,e9]
 have e2:((a.drop 4).take 16).length = 16:=by rw [QI,QN,e9];rfl
 have rD:w.rangeAt l (m + 20) ((a.drop 20).map byte):=by have h:=Gk rb 20 16;rwa [QS (by omega)] at h
 have f4:w.rangeAt l (m + 4) (((a.drop 4).take 16).map byte):=Gk rb 4 16;have J:∀ j,j < 36 -> w.cell? ⟨l,m + j,none⟩ = some (.int .u8 ((a.getD j 0).toNat:Int)):=by
  intro j hj;exact rb j _ (by simp [byte,show j < a.length from by omega])
 have r0:=J 0 (by omega);have r1:=J 1 (by omega);have r2:=J 2 (by omega);have r3:=J 3 (by omega);rw [qq] at r0;have a0:Hid ((a.getD 0 0).toNat = 75 /\ (a.getD 3 0).toNat = 16 /\ 1 <= (a.getD 1 0).toNat /\ (a.getD 1 0).toNat <= 3):=by
  show _ /\ _;unfold DH uOf at hh
  simpa [and_assoc] using hh
 have b8:=Aa (fun (n:World)=>Kf (((a.getD 1 0).toNat:Nat):Int) n);have a8:=Bp d (Ao d a) (uOf a) (gOf a) hm;have a4:Hid (BZ d a = decide (AY d (Ao d a) (uOf a) (gOf a) = a)):=rfl;have g8:(a.getD 2 0).toNat <= 255:=by have:=QW (a.getD 2 0);omega
 have b7:Ao d a = AE (Do (Bw d) (a.drop 20) true) ((a.drop 4).take 16):=rfl;show Calls prog 104 _ w fun e w' =>
  ((∃ g,e = .returned (.tuple #[.agg #[.int .i64 (((a.getD 1 0).toNat:Nat):Int),.int .i64 (((a.getD 2 0).toNat:Nat):Int),.slice (some ⟨g,0,none⟩) 16 16],.nilIface]) /\ w.heap.size < g /\ Blk w' g 88 ((Ao d a).map byte) /\ BZ d a = true) \/
   (e = .returned (.tuple #[.agg BB.toArray,.iface T1 x1]) /\ BZ d a = false)) /\ Bl w w'
 change (AY d (Ao d a) (a.getD 1 0).toNat (a.getD 2 0).toNat).length = 36 at a8
 change Hid (BZ d a = decide (AY d (Ao d a) (a.getD 1 0).toNat (a.getD 2 0).toNat = a)) at a4
 obtain ⟨y0,i7⟩:=uX ((a.getD 0 0).toNat);obtain ⟨F,i0⟩:=uX ((a.getD 1 0).toNat);obtain ⟨y2,h9⟩:=uX ((a.getD 2 0).toNat);obtain ⟨y3,i6⟩:=uX ((a.getD 3 0).toNat);rw [<- i7] at r0 a0;rw [<- i0] at r1 a0 b8 a8 a4 ⊢;rw [<- h9] at r2 g8 a8 a4 ⊢;rw [<- i6] at r3 a0;clear i7 i0 h9 i6 hh J;have q0:y0 = 75:=a0.out.1;have q3:y3 = 16:=a0.out.2.1;have q1:=a0.out.2.2.1;have q2:=a0.out.2.2.2;have n4:((y0:Int) != 75) = false:=by rw [qs];omega
 have n9:((y3:Int) != 16) = false:=by rw [qs];omega
 rw [show (decide (1 <= (F:Int)) && decide ((F:Int) <= 3)) = true from by simp;omega] at b8;clear q0 q3;obtain ⟨E,hE⟩:=uX (Bw d);rw [<- hE] at c6 g7 b7;obtain ⟨D,hD⟩:=uX (a.drop 20);obtain ⟨H,i4⟩:=uX ((a.drop 4).take 16);rw [<- hD] at f2 rD b7;rw [<- i4] at e2 f4 b7;have HE:=Aa (fun (S1 S2 S3 S4:Nat) (n:World) (h:Tabs n S1 S2 S3 S4)=>Ta E D true S1 S2 S3 S4 n g7 f2 h.t1 h.t2 h.t3 h.t4);have e8:=Ds E D true g7;obtain ⟨M,hM⟩:=uX (Do E D true);rw [<- hM] at HE e8 b7
 replace HE:Hid (∀ S1 S2 S3 S4 n,Tabs n S1 S2 S3 S4 -> Calls prog 156 #[.agg (aesCells ((keysUpto E 11).map byte) S1 S2 S3 S4).toArray,.agg (D.map byte).toArray] n fun e w'=>e = .returned (.agg (M.map byte).toArray) /\ Bl n w'):=HE
 have HX:=Aa (fun (g c:Nat) (n:World) (h:Blk n g 88 (M.map byte ++ H.map byte))=>Bt M H g c 88 n e8 e2 h);have e5:(AE M H).length = 16:=by rw [AW _ _ (by omega),e8]
 rw [<- b7] at HX e5;obtain ⟨X,hX⟩:=uX (Ao d a);rw [<- hX] at HX e5 a8 a4 ⊢;have h8:=Aa (fun (yb:Nat) (n:World) (h1:n.rangeAt kb ko (d.map byte)) (h2:n.rangeAt yb 0 (X.map byte))=>OS d X F y2 kb ko ck yb 0 16 n hm e5 q1 q2 g8 h1 h2);obtain ⟨WN,i8⟩:=uX (AY d X F y2);rw [<- i8] at h8 a8 a4;have k0:(D.map byte).length = 16:=by rw [QD,f2]
 have d6:(H.map byte).length = 16:=by rw [QD,e2]
 have U:(M.map byte).length = 16:=by rw [QD,e8]
 have b6:(X.map byte).length = 16:=by rw [QD,e5]
 have j9:Hid (w.rangeAt l m (a.map byte)):=rb;clear hE hD i4 hM hX i8 b7 a0;obtain ⟨W,hW⟩:=uX (w.alloc (.cells BB.toArray 55));have kW:Blk W w.heap.size 55 BB:=by rw [hW];exact Blk.new w _ _
 have bW:=uB hW;have lW:=kW.lt;have HK:Hid (∀ {x},Bl W x -> Blk x w.heap.size 55 BB /\ x.cell? ⟨1,0,none⟩ = some (.iface T1 x1) /\ x.rangeAt kb ko (d.map byte) /\ x.rangeAt l m (a.map byte) /\ x.rangeAt l (m + 20) (D.map byte) /\ x.rangeAt l (m + 4) (H.map byte) /\ (x.cell? ⟨l,m + 1,none⟩ = some (.int .u8 (F:Int)) /\ x.cell? ⟨l,m + 2,none⟩ = some (.int .u8 (y2:Int))) /\ Bl w x):=by
  intro x hx;have hb:Bl w x:=bW.trans (hx.mono bW.size);have lb:l < w.heap.size:=QF w _ r1;exact ⟨kW.below hx kW.lt,(hb.cell (p:=⟨1,0,none⟩) i3).trans hg,AU rk hb,AU j9.out hb,AU rD hb,AU f4 hb,⟨(hb.cell (p:=⟨l,m + 1,none⟩) lb).trans r1,(hb.cell (p:=⟨l,m + 2,none⟩) lb).trans r2⟩,hb⟩
 have f7:l < w.heap.size:=QF w _ r1;have c0:=(bW.cell (p:=⟨l,m,none⟩) f7).trans r0;have c1:=(bW.cell (p:=⟨l,m + 1,none⟩) f7).trans r1;have c3:=(bW.cell (p:=⟨l,m + 3,none⟩) f7).trans r3;rw [hW] at c0 c1 c3;have HW:=Aa hW;have j6:Bl W W:=Below.refl _ _;clear hW r0 r1 r2 r3 rD f4 rk rb hg kW bW;have m3:IntKind.i64.wrap (F:Int) = (F:Int):=by rw [QH];omega
 have l4:IntKind.i64.wrap (y2:Int) = (y2:Int):=by rw [QH];omega
 have l8:(20:Int) <= (C:Int):=by omega
 have n0:(36:Int) <= (C:Int):=by omega
 have l6:¬ C = 20:=by omega
 have n3:¬ C = 4:=by omega
 have n8:=fun (n:World)=>run_arrayAt (P:=prog) (w:=n) 88 5 16 (some ⟨l,m + 20,none⟩) 16 (C - 20) underlying88 (QE _);have l7:=fun (n:World)=>run_arrayAt (P:=prog) (w:=n) 88 5 16 (some ⟨l,m + 4,none⟩) 16 (C - 4) underlying88 (QE _);go_enter func104,ntmps104;go_wp2_with (go_at_call 30;rw [<- show W = _ from HW];refine (b8.out _).mono ?_;rintro e wu ⟨rfl,n2⟩;subst wu)
 clear c0 c1 c3 HW b8;go_cut [6] (fun p n=>∃ G,p = .pointer (some ⟨G,0,none⟩) /\ w.heap.size < G /\ Blk n G 88 (M.map byte) /\ Bl W n)
 case first =>
  obtain ⟨V,s⟩:=uX (World.drew W);have o:Bl W V:=by rw [s];exact j6.drew
  have i:Hid (∀ {x},Bl W x -> x.rangeAt l (m + 20) (D.map byte)):=fun h=>(HK.out h).2.2.2.2.1;have a1:=o.size;refine QJ (S:=fun x=>x.rangeAt l (m + 20) (D.map byte)) (by kernel_rfl) (by rw [<- s];exact i.out o) (fun b=>?_);rw [<- s] at b ⊢;clear s;refine tA 0 (.slice (some ⟨kb,ko,none⟩) 16 ck) b ?_;simp only [put,pS];refine tA 2 (.slice (some ⟨l,m,none⟩) 36 C) b ?_;simp only [put,pS];refine tA 3 (.slice (some ⟨l,m + 20,none⟩) 16 (C - 20)) b ?_;simp only [put,pS];refine tA 4 (.pointer (some ⟨l,m + 20,none⟩)) b ?_;simp only [put,pS];refine tB 5 (.agg (D.map byte).toArray) rfl (QY (by rfl) 88 _ rfl l (m + 20) rfl (D.map byte) _ (fun _ h=>h) underlying88 rfl (by rw [k0];kernel_rfl)) b ?_;simp only [put,pS];refine Qr (rs:=[1,7]) (by kernel_rfl) (by simp) ?_;refine AllReadyH.cons rfl (fun K f=>?_) (AllReadyH.cons rfl (fun K f=>?_) (AllReadyH.nil))
  ·go_simp;refine (c6.out _ (HK.out o).2.2.1).mono ?_;rintro e A ⟨m0,m4,m9,m8,rfl,e4,O⟩;have q:=AB o O;go_wp2_with fail;refine f.out _ _ (i.out q) (fun b=>?_);clear f K
   try dsimp only [put]
   refine Qr (rs:=[6,7]) (by kernel_rfl) (by simp) ?_;refine AllReadyH.cons rfl (fun K f=>?_) (AllReadyH.cons rfl (fun K f=>?_) (AllReadyH.nil))
   ·go_simp;refine (HE.out _ _ _ _ _ e4).mono ?_;rintro e Y ⟨rfl,L⟩;have h6:=e4.below L;have B:=AB q L;go_wp2_with fail;refine f.out _ _ (i.out B) (fun b=>?_);clear f K
    try dsimp only [put]
    refine rdy1 7 (fun K f=>?_);go_simp;obtain ⟨f0,u⟩:=uX (World.alloc Y (.cells (AC 16 .u8).toArray 88));have I:=uB u;have a2:Blk f0 Y.heap.size 88 (AC 16 .u8):=by rw [u];exact Blk.new _ _ _
    have a7:=B.size;have h0:=a2.lt;have l2:=h6.below I;have d1:=AB B I;rw [<- u];clear u;refine f.out _ _ (i.out d1) (fun b=>?_);clear f K
    try dsimp only [put]
    refine rdy1 8 (fun K f=>?_);rw [if_pos (by rfl)];refine AR rfl 88 _ _ rfl Y.heap.size rfl rfl a2 (by rw [U];kernel_rfl) (by rw [U];exact AD _ _) (AF _) ?_;have h4:=Blk.setRow a2 (M.map byte);have d3:=AN (g:=Y.heap.size) d1 a7 (M.map byte).toArray;refine f.out _ _ (i.out d3) (fun b=>?_);clear f K
    try dsimp only [put]
    refine QM (by kernel_rfl) ?_ _;go_wp2_with fail;go_meet
    case rel=>exact ⟨_,rfl,by omega,h4,d3⟩
   ·go_simp;obtain ⟨f5,z⟩:=uX (World.alloc A (.cells (AC 16 .u8).toArray 88));have T:=uB z;have a6:Blk f5 A.heap.size 88 (AC 16 .u8):=by rw [z];exact Blk.new _ _ _
    have b1:=q.size;have f3:=a6.lt;have e6:=e4.below T;have d5:=AB q T;rw [<- z];clear z;refine f.out _ _ (i.out d5) (fun b=>?_);clear f K
    try dsimp only [put]
    refine rdy1 6 (fun K f=>?_);go_simp;refine (HE.out _ _ _ _ _ e6).mono ?_;rintro e k4 ⟨rfl,y⟩;have l3:=e6.below y;have c9:=a6.below y a6.lt;have c8:=AB d5 y;go_wp2_with fail;refine f.out _ _ (i.out c8) (fun b=>?_);clear f K
    try dsimp only [put]
    refine rdy1 8 (fun K f=>?_);rw [if_pos (by rfl)];refine AR rfl 88 _ _ rfl A.heap.size rfl rfl c9 (by rw [U];kernel_rfl) (by rw [U];exact AD _ _) (AF _) ?_;have h3:=Blk.setRow c9 (M.map byte);have d0:=AN (g:=A.heap.size) c8 b1 (M.map byte).toArray;refine f.out _ _ (i.out d0) (fun b=>?_);clear f K
    try dsimp only [put]
    refine QM (by kernel_rfl) ?_ _;go_wp2_with fail;go_meet
    case rel=>exact ⟨_,rfl,by omega,h3,d0⟩
  ·go_simp;obtain ⟨b4,t⟩:=uX (World.alloc V (.cells (AC 16 .u8).toArray 88));have c4:=uB t;have b2:Blk b4 V.heap.size 88 (AC 16 .u8):=by rw [t];exact Blk.new _ _ _
   have b0:=o.size;have f6:=b2.lt;have a3:=AB o c4;rw [<- t];clear t;refine f.out _ _ (i.out a3) (fun b=>?_);clear f K
   try dsimp only [put]
   refine rdy1 1 (fun K f=>?_);go_simp;refine (c6.out _ (HK.out a3).2.2.1).mono ?_;rintro e i9 ⟨m1,l9,m2,m5,rfl,g0,N⟩;have d4:=b2.below N b2.lt;have d2:=AB a3 N;go_wp2_with fail;refine f.out _ _ (i.out d2) (fun b=>?_);clear f K
   try dsimp only [put]
   refine rdy1 6 (fun K f=>?_);go_simp;refine (HE.out _ _ _ _ _ g0).mono ?_;rintro e j0 ⟨rfl,r⟩;have k2:=g0.below r;have b3:=d4.below r d4.lt;have a9:=AB d2 r;go_wp2_with fail;refine f.out _ _ (i.out a9) (fun b=>?_);clear f K
   try dsimp only [put]
   refine rdy1 8 (fun K f=>?_);rw [if_pos (by rfl)];refine AR rfl 88 _ _ rfl V.heap.size rfl rfl b3 (by rw [U];kernel_rfl) (by rw [U];exact AD _ _) (AF _) ?_;have e3:=Blk.setRow b3 (M.map byte);have a5:=AN (g:=V.heap.size) a9 b0 (M.map byte).toArray;refine f.out _ _ (i.out a5) (fun b=>?_);clear f K
   try dsimp only [put]
   refine QM (by kernel_rfl) ?_ _;go_wp2_with fail;go_meet
   case rel=>exact ⟨_,rfl,by omega,e3,a5⟩
 case rest =>
  obtain ⟨GM,rfl,n5,kM,bc⟩:=hcut;go_wp2_with fail;go_cut [7] (fun p n=>∃ G,p = .pointer (some ⟨G,0,none⟩) /\ w.heap.size < G /\ Blk n G 88 (X.map byte) /\ Bl W n)
  case first =>
   obtain ⟨V,s⟩:=uX (World.drew wc);have o:Bl W V:=by rw [s];exact bc.drew
   have i2:Blk V GM 88 (M.map byte):=by rw [s];exact kM.drew1
   have a1:=o.size;have R:Bl V V:=Below.refl _ _;have i:Hid (∀ {x},Bl V x -> x.rangeAt GM 0 (M.map byte) /\ x.rangeAt l (m + 4) (H.map byte)):=fun h=>⟨Ad (i2.below h i2.lt),(HK.out (o.trans (h.mono a1))).2.2.2.2.2.1⟩;refine QJ (S:=fun x=>x.rangeAt GM 0 (M.map byte) /\ x.rangeAt l (m + 4) (H.map byte)) (by kernel_rfl) (by rw [<- s];exact i.out R) (fun b=>?_);rw [<- s] at b ⊢;clear s kM bc;refine tB 0 (.agg (M.map byte).toArray) rfl (QY (by rfl) 88 _ rfl GM 0 rfl (M.map byte) _ (fun _ h=>h.1) underlying88 rfl (by rw [U];kernel_rfl)) b ?_;simp only [put,pS];refine tA 1 (.slice (some ⟨l,m,none⟩) 36 C) b ?_;simp only [put,pS];refine tA 2 (.slice (some ⟨l,m + 4,none⟩) 16 (C - 4)) b ?_;simp only [put,pS];refine tA 3 (.pointer (some ⟨l,m + 4,none⟩)) b ?_;simp only [put,pS];refine tB 4 (.agg (H.map byte).toArray) rfl (QY (by rfl) 88 _ rfl l (m + 4) rfl (H.map byte) _ (fun _ h=>h.2) underlying88 rfl (by rw [d6];kernel_rfl)) b ?_;simp only [put,pS];refine Qr (rs:=[5,7]) (by kernel_rfl) (by simp) ?_;refine AllReadyH.cons rfl (fun K f=>?_) (AllReadyH.cons rfl (fun K f=>?_) (AllReadyH.nil))
   ·rw [if_pos (by rfl)];refine Bi (some 51) rfl 148 _ _ rfl 88 16 _ (M.map byte) (H.map byte) rfl rfl underlying148 Tryz.zero88 U d6 (by omega) (by omega) ?_
    try dsimp only [put]
    obtain ⟨A,v⟩:=uX (World.alloc V (.cells (M.map byte ++ H.map byte).toArray 88));have O:=uB v;have Z:Blk A V.heap.size 88 (M.map byte ++ H.map byte):=by rw [v];exact Blk.new _ _ _
    have j3:=R.size;have j2:=Z.lt;have q:=AB R O;rw [<- v];clear v;refine f.out _ _ (i.out q) (fun b=>?_);clear f K
    try dsimp only [put]
    refine Qr (rs:=[6,7]) (by kernel_rfl) (by simp) ?_;refine AllReadyH.cons rfl (fun K f=>?_) (AllReadyH.cons rfl (fun K f=>?_) (AllReadyH.nil))
    ·go_simp;refine (HX.out V.heap.size 2 _ Z).mono ?_;rintro e Y ⟨rfl,L⟩;have f9:=Z.below L Z.lt;have B:=AB q L;go_wp2_with fail;refine f.out _ _ (i.out B) (fun b=>?_);clear f K
     try dsimp only [put]
     refine rdy1 7 (fun K f=>?_);go_simp;obtain ⟨f0,u⟩:=uX (World.alloc Y (.cells (AC 16 .u8).toArray 88));have I:=uB u;have a2:Blk f0 Y.heap.size 88 (AC 16 .u8):=by rw [u];exact Blk.new _ _ _
     have a7:=B.size;have h0:=a2.lt;have m6:=f9.below I f9.lt;have d1:=AB B I;rw [<- u];clear u;refine f.out _ _ (i.out d1) (fun b=>?_);clear f K
     try dsimp only [put]
     refine rdy1 8 (fun K f=>?_);rw [if_pos (by rfl)];refine AR rfl 88 _ _ rfl Y.heap.size rfl rfl a2 (by rw [b6];kernel_rfl) (by rw [b6];exact AD _ _) (AF _) ?_;have h4:=Blk.setRow a2 (X.map byte);have d3:=AN (g:=Y.heap.size) d1 a7 (X.map byte).toArray;refine f.out _ _ (i.out d3) (fun b=>?_);clear f K
     try dsimp only [put]
     refine QM (by kernel_rfl) ?_ _;go_wp2_with fail;go_meet
     case rel=>exact ⟨_,rfl,by omega,h4,o.trans (d3.mono a1)⟩
    ·go_simp;obtain ⟨f5,z⟩:=uX (World.alloc A (.cells (AC 16 .u8).toArray 88));have T:=uB z;have a6:Blk f5 A.heap.size 88 (AC 16 .u8):=by rw [z];exact Blk.new _ _ _
     have b1:=q.size;have f3:=a6.lt;have e0:=Z.below T Z.lt;have d5:=AB q T;rw [<- z];clear z;refine f.out _ _ (i.out d5) (fun b=>?_);clear f K
     try dsimp only [put]
     refine rdy1 6 (fun K f=>?_);go_simp;refine (HX.out V.heap.size 2 _ e0).mono ?_;rintro e k4 ⟨rfl,y⟩;have l5:=e0.below y e0.lt;have c9:=a6.below y a6.lt;have c8:=AB d5 y;go_wp2_with fail;refine f.out _ _ (i.out c8) (fun b=>?_);clear f K
     try dsimp only [put]
     refine rdy1 8 (fun K f=>?_);rw [if_pos (by rfl)];refine AR rfl 88 _ _ rfl A.heap.size rfl rfl c9 (by rw [b6];kernel_rfl) (by rw [b6];exact AD _ _) (AF _) ?_;have h3:=Blk.setRow c9 (X.map byte);have d0:=AN (g:=A.heap.size) c8 b1 (X.map byte).toArray;refine f.out _ _ (i.out d0) (fun b=>?_);clear f K
     try dsimp only [put]
     refine QM (by kernel_rfl) ?_ _;go_wp2_with fail;go_meet
     case rel=>exact ⟨_,rfl,by omega,h3,o.trans (d0.mono a1)⟩
   ·go_simp;obtain ⟨b4,t⟩:=uX (World.alloc V (.cells (AC 16 .u8).toArray 88));have c4:=uB t;have b2:Blk b4 V.heap.size 88 (AC 16 .u8):=by rw [t];exact Blk.new _ _ _
    have b0:=R.size;have f6:=b2.lt;have a3:=AB R c4;rw [<- t];clear t;refine f.out _ _ (i.out a3) (fun b=>?_);clear f K
    try dsimp only [put]
    refine rdy1 5 (fun K f=>?_);rw [if_pos (by rfl)];refine Bi (some 51) rfl 148 _ _ rfl 88 16 _ (M.map byte) (H.map byte) rfl rfl underlying148 Tryz.zero88 U d6 (by omega) (by omega) ?_
    try dsimp only [put]
    obtain ⟨i9,c7⟩:=uX (World.alloc b4 (.cells (M.map byte ++ H.map byte).toArray 88));have N:=uB c7;have c2:Blk i9 b4.heap.size 88 (M.map byte ++ H.map byte):=by rw [c7];exact Blk.new _ _ _
    have j4:=a3.size;have j1:=c2.lt;have d4:=b2.below N b2.lt;have d2:=AB a3 N;rw [<- c7];clear c7;refine f.out _ _ (i.out d2) (fun b=>?_);clear f K
    try dsimp only [put]
    refine rdy1 6 (fun K f=>?_);go_simp;refine (HX.out b4.heap.size 2 _ c2).mono ?_;rintro e j0 ⟨rfl,r⟩;have b3:=d4.below r d4.lt;have l1:=c2.below r c2.lt;have a9:=AB d2 r;go_wp2_with fail;refine f.out _ _ (i.out a9) (fun b=>?_);clear f K
    try dsimp only [put]
    refine rdy1 8 (fun K f=>?_);rw [if_pos (by rfl)];refine AR rfl 88 _ _ rfl V.heap.size rfl rfl b3 (by rw [b6];kernel_rfl) (by rw [b6];exact AD _ _) (AF _) ?_;have e3:=Blk.setRow b3 (X.map byte);have a5:=AN (g:=V.heap.size) a9 b0 (X.map byte).toArray;refine f.out _ _ (i.out a5) (fun b=>?_);clear f K
    try dsimp only [put]
    refine QM (by kernel_rfl) ?_ _;go_wp2_with fail;go_meet
    case rel=>exact ⟨_,rfl,by omega,e3,o.trans (a5.mono a1)⟩
  case rest =>
   clear kM bc;obtain ⟨GX,rfl,k7,kX,bc⟩:=hcut;go_wp2_with fail;go_cut [8] (fun p n=>∃ G,p = .pointer (some ⟨G,0,none⟩) /\ w.heap.size < G /\ Blk n G 55 [.int .i64 (F:Int),.int .i64 (y2:Int),.slice (some ⟨GX,0,none⟩) 16 16] /\ Blk n GX 88 (X.map byte) /\ Bl W n)
   case first =>
    obtain ⟨V,s⟩:=uX (World.drew wc);have o:Bl W V:=by rw [s];exact bc.drew
    have i5:Blk V GX 88 (X.map byte):=by rw [s];exact kX.drew1
    have a1:=o.size;have R:Bl V V:=Below.refl _ _;have i:Hid (∀ {x},Bl V x -> x.cell? ⟨l,m + 1,none⟩ = some (.int .u8 (F:Int)) /\ x.cell? ⟨l,m + 2,none⟩ = some (.int .u8 (y2:Int))):=fun h=>(HK.out (o.trans (h.mono a1))).2.2.2.2.2.2.1;refine QJ (S:=fun x=>x.cell? ⟨l,m + 1,none⟩ = some (.int .u8 (F:Int)) /\ x.cell? ⟨l,m + 2,none⟩ = some (.int .u8 (y2:Int))) (by kernel_rfl) (by rw [<- s];exact i.out R) (fun b=>?_);rw [<- s] at b ⊢;clear s kX bc;refine tA 0 (.slice (some ⟨l,m,none⟩) 36 C) b ?_;simp only [put,pS];refine tA 1 (.pointer (some ⟨l,m + 1,none⟩)) b ?_;simp only [put,pS];refine tC 2 (.int .u8 (F:Int)) rfl (fun w1 h=>by have hc:=h.1;go_simp) b ?_;simp only [put,pS];refine tA 3 (.int .i64 (F:Int)) b ?_;simp only [put,pS];refine tA 4 (.slice (some ⟨l,m,none⟩) 36 C) b ?_;simp only [put,pS];refine tA 5 (.pointer (some ⟨l,m + 2,none⟩)) b ?_;simp only [put,pS];refine tC 6 (.int .u8 (y2:Int)) rfl (fun w1 h=>by have hc:=h.2;go_simp) b ?_;simp only [put,pS];refine tA 7 (.int .i64 (y2:Int)) b ?_;simp only [put,pS];refine tA 8 (.slice (some ⟨GX,0,none⟩) 16 16) b ?_;simp only [put,pS];refine tC 9 (.agg ([.int .i64 (F:Int),.int .i64 (y2:Int),.slice (some ⟨GX,0,none⟩) 16 16]:List Value).toArray) rfl (fun w1 h=>by go_simp) b ?_;simp only [put,pS];refine rdy1 10 (fun K f=>?_);go_simp;obtain ⟨A,v⟩:=uX (World.alloc V (.cells (BB).toArray 55));have O:=uB v;have f8:Blk A V.heap.size 55 (BB):=by rw [v];exact Blk.new _ _ _
    have g5:=R.size;have k9:=f8.lt;have q:=AB R O;rw [<- v];clear v;refine f.out _ _ (i.out q) (fun b=>?_);clear f K
    try dsimp only [put]
    refine rdy1 11 (fun K f=>?_);rw [if_pos (by rfl)];refine AR rfl 55 _ _ rfl V.heap.size rfl rfl f8 (by kernel_rfl) rfl (by kernel_rfl) ?_;have k8:=Blk.setRow f8 ([.int .i64 (F:Int),.int .i64 (y2:Int),.slice (some ⟨GX,0,none⟩) 16 16]);have B:=AN (g:=V.heap.size) q g5 ([.int .i64 (F:Int),.int .i64 (y2:Int),.slice (some ⟨GX,0,none⟩) 16 16]).toArray;refine f.out _ _ (i.out B) (fun b=>?_);clear f K
    try dsimp only [put]
    refine QM (by kernel_rfl) ?_ _;go_wp2_with fail;go_meet
    case rel=>exact ⟨_,rfl,by omega,k8,(i5.below B i5.lt),o.trans (B.mono a1)⟩
   case rest =>
    clear kX bc;obtain ⟨GK,rfl,n7,kK,kX,bc⟩:=hcut;go_wp2_with (refine AL rfl 55 _ rfl GK rfl kK underlying55 rfl (by kernel_rfl) ?_)
    refine (h8.out _ _ (HK.out bc).2.2.1 (Ad kX)).mono ?_;rintro e w5 ⟨v5,rfl,f1,b9⟩;have b5:=AB bc b9;have k5:=kX.below b9 kX.lt;have j7:=kK.below b9 kK.lt;obtain ⟨j5,c5,rfl,g6,-⟩:=f1.shape;rw [a8];have g9:=GF a WN (some ⟨l,m,none⟩) j5 36 36 C c5 w5 e9 a8 (TI (HK.out b5).2.2.2.1) g6;have h5:=Aa g9;clear f1 b9 kX kK bc g6 g9;go_wp2_with fail;refine h5.out.mono ?_;rintro e w6 ⟨rfl,o0⟩;subst w6
    by_cases heq:a = WN
    ·rw [QK heq];have e1:Hid (BZ d a = true):=by show _ = _;rw [a4.out];exact QK heq.symm
     obtain ⟨i1,-,-,-,-,-,-,k3⟩:=HK.out b5;clear heq h5;go_wp2_with (first
      | (refine AL rfl 55 _ rfl GK rfl j7 underlying55 rfl (by kernel_rfl) ?_)
      | (refine store_blk rfl 55 _ _ rfl w.heap.size rfl rfl i1 (by kernel_rfl) rfl (by kernel_rfl) ?_;intro w7 k1 h7 n6))
     exact ⟨rfl,_,CK results104 _ _ rfl k1 underlying55 rfl (by kernel_rfl),⟨.inl ⟨GX,rfl,k7,k5.grown h7 (by simp;omega),e1.out⟩,k3.grown h7 (qz i1.lt) (by intro k hk;cases hk;exact QE _)⟩⟩
    ·rw [QT heq];have e1:Hid (BZ d a = false):=by show _ = _;rw [a4.out];exact QT (fun e=>heq e.symm)
     clear heq h5;go_wp2_with fail;obtain ⟨V,s⟩:=uX (World.drew w5);have bV:Bl W V:=by rw [s];exact b5.drew
     obtain ⟨kV,gV,-,-,-,-,-,l0⟩:=HK.out bV;have e7:Hid (∀ {x},Bl w x -> x.cell? ⟨1,0,none⟩ = some (.iface T1 x1)):=j8;refine QJ (S:=fun x=>x.cell? ⟨1,0,none⟩ = some (.iface T1 x1)) (by kernel_rfl) (by rw [<- s];exact gV) (fun b=>?_);rw [<- s] at b ⊢;clear s;refine tC 0 (.agg BB.toArray) rfl (fun w1 h=>by go_simp) b ?_;simp only [put,pS];refine tC 1 (.iface T1 x1) rfl (fun w1 h=>by have hc:=h;go_simp) b ?_;simp only [put,pS];refine rdy1 2 (fun K f=>?_);rw [if_pos (by rfl)];refine AR rfl 55 _ _ rfl w.heap.size rfl rfl kV (by kernel_rfl) rfl (by kernel_rfl) ?_;have k6:=Blk.setRow kV BB;have q:=AN (g:=w.heap.size) l0 (QE _) BB.toArray
     skip
     skip
     refine f.out _ _ (e7.out q) (fun b=>?_);clear f K
     try dsimp only [put]
     refine rdy1 3 (fun K f=>?_);go_simp;refine f.out _ _ (e7.out q) (fun b=>?_);clear f K
     try dsimp only [put]
     refine QM (by kernel_rfl) ?_ _;go_wp2_with fail;exact ⟨rfl,_,CK results104 _ _ rfl k6 underlying55 rfl (by kernel_rfl),⟨.inr ⟨rfl,e1.out⟩,q⟩⟩
open Go.RowKit Go.Extern.Stop Go.Stop Go.Extern
structure Sents (w:World) (x0 x1:Addr):Prop where
 g0:w.cell? ⟨0,0,none⟩ = some (.iface 376 (.pointer (some x0)))
 g1:w.cell? ⟨1,0,none⟩ = some (.iface 376 (.pointer (some x1)))
 ne:x0 ≠ x1
 b0:∃ c t,w.heap[x0.block]? = some (.cells c t (0,0))
 b1:∃ c t,w.heap[x1.block]? = some (.cells c t (0,0))
theorem Sents.below {w w':World} {c b:Addr} (h:Sents w c b) (a:Bl w w'):Sents w' c b:=by
 obtain ⟨g,g1,j,⟨k,i,f⟩,⟨l,m,d⟩⟩:=h;exact ⟨(a.cell (p:=⟨0,0,none⟩) (QF w _ g)).trans g,(a.cell (p:=⟨1,0,none⟩) (QF w _ g1)).trans g1,j,⟨k,i,by rw [a.block _ (qS f)];exact f⟩,⟨l,m,by rw [a.block _ (qS d)];exact d⟩⟩
def okO (a b:LU):Bool:=Bb a b && BZ a b
def Cy (a b:LU):Int:=if Bb a b then (if BZ a b then 0 else 2) else 1
def opU (b a:LU):Int:=if okO b a then (uOf a:Nat) else 0
def opG (b a:LU):Int:=if okO b a then (gOf a:Nat) else 0
def BH (a b:LU):LU:=if okO a b then Ao a b else []
def FC (d c:Addr) (a b:LU):Value:=if Bb a b then (if BZ a b then .nilIface else .iface 376 (.pointer (some c))) else .iface 376 (.pointer (some d))
theorem Fu {b a:LU} (h:Bb b a = true):b.length = 16 /\ a.length = 36 /\ DH a = true:=by
 unfold Bb at h
 simpa [and_assoc] using h
theorem Gt (a b:LU) (c:a.length = 16) (d:b.length = 36):(Ao a b).length = 16:=by
 unfold Ao;rw [AW _ _ (by rw [Ds _ _ _ (show (Bw a).length = 16 from Aw a [69] c),QI,QN,d];rfl),Ds _ _ _ (show (Bw a).length = 16 from Aw a [69] c)]
theorem ET (w:World) (base:Nat):Own w base (.slice none 0 0) []:=⟨5,Qa _ _ _ _⟩
theorem MZ {w:World} {B base:Nat} {v:Value} {l:LU} (h:Own w base v l) (j:B <= base):Own w B v l:=by
 obtain ⟨t,d,a⟩:=h;refine ⟨t,d,?_⟩;rcases a with a | ⟨g,b,c,f,i,rest⟩
 ·exact .inl a
 ·exact .inr ⟨g,b,c,f,by omega,rest⟩
theorem LD {w:World} {base g:Nat} {v:Value} {l:LU} (h:Own w base v l) (f:g < base):v.ownBlock = none \/ v.ownBlock ≠ some g:=by
 obtain ⟨c,d,rfl,-,b,-⟩:=h.shape
 cases ha:c with
 | none=>exact .inl rfl
 | some a =>
   obtain ⟨k,rfl,i,-⟩:=b a ha
   right
   simp only [Value.ownBlock,ne_eq,Option.some.injEq];omega
theorem Jc (a b:LU) (i j:Option Addr) (l d:Nat) (o p:Addr) (w:World) (E:b.length <= d) (r:Sents w o p) (C:RowAt w i a) (q:RowAt w j b) :
 Calls prog 104 #[.slice i a.length l,.slice j b.length d] w fun e w'=>∃ v,e = .returned (.tuple #[.agg #[.int .i64 (opU a b),.int .i64 (opG a b),v],FC o p a b]) /\ Own w' w.heap.size v (BH a b) /\ Bl w w':=by
 cases hf:Bb a b with
 | false =>
   refine (XD a b i j l d _ _ w r.g0 q hf).mono ?_;rintro e w' ⟨rfl,c⟩;refine ⟨.slice none 0 0,?_,?_,c⟩
   ·unfold opU opG FC okO;rw [hf]
    rfl
   ·unfold BH okO;rw [hf];exact ET _ _
 | true =>
   obtain ⟨m,k,t⟩:=Fu hf;obtain ⟨y,x,rfl,B⟩:=C.range (by omega);obtain ⟨A,z,rfl,n⟩:=q.range (by omega);have D:36 <= d:=by omega
   rw [m,k];refine (WH a b y x l A z d _ _ w m k D t r.g1 B n).mono ?_;rintro e w' ⟨⟨g,rfl,s,u,f⟩ | ⟨rfl,f⟩,c⟩
   ·refine ⟨.slice (some ⟨g,0,none⟩) 16 16,?_,?_,c⟩
    ·unfold opU opG FC okO;rw [hf,f]
     rfl
    ·unfold BH okO;rw [hf,f];exact E7 u (qz s) (Gt _ _ m k) (by unfold maxLen;omega)
   ·refine ⟨.slice none 0 0,?_,?_,c⟩
    ·unfold opU opG FC okO;rw [hf,f]
     rfl
    ·unfold BH okO;rw [hf,f];exact ET _ _
end Go.Proofs.YtbkokcjolanpeaaGreatDoor
