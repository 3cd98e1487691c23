import Derived.Test.YtbkokcjolanpeaaGreatDoorMkP
set_option maxRecDepth 100000
set_option maxHeartbeats 20000000
namespace Go.Proofs.YtbkokcjolanpeaaGreatDoor
open Go.RowKit Go.Proofs.Tryz Act
theorem F7 {w:World} {g o:Nat} {l:LU} (h:w.rangeAt g o (l.map byte)):RowAt w (some ⟨g,o,none⟩) l :=
 .inr ⟨g,o,rfl,fun i a=>h i _ (by simp [byte,a])⟩
theorem OS (f key:LU) (u l kb ko ck n o y:Nat) (w:World) (hm:f.length = 16) (hy:key.length = 16) (z8:1 <= u) (z4:u <= 3) (hg:l <= 255) (rk:w.rangeAt kb ko (f.map byte)) (ry:w.rangeAt n o (key.map byte)) :
 Calls prog 10 #[.slice (some ⟨kb,ko,none⟩) 16 ck,.agg #[.int .i64 (u:Int),.int .i64 (l:Int),.slice (some ⟨n,o,none⟩) 16 y]] w fun e w' =>
  ∃ v,e = .returned v /\ Own w' w.heap.size v (AY f key u l) /\ Bl w w':=by
 have x9:=(QO Tryz.z16).1;have j5:(key.map byte).length = 16:=by rw [QD,hy]
 have j6:=AK (fun (i:World)=>Kf (u:Int) i);have n8:(decide (1 <= (u:Int)) && decide ((u:Int) <= 3)) = true:=by simp;omega
 rw [n8] at j6;have z7:IntKind.u8.wrap (u:Int) = (u:Int):=by rw [JE];omega
 have z9:IntKind.u8.wrap (l:Int) = (l:Int):=by rw [JE];omega
 have A2:¬ ((l:Int) < 0):=by omega
 have z2:¬ ((255:Int) < (l:Int)):=by omega
 have f2:(headL u l).length = 4:=rfl;have k9:[Value.int .u8 75,Value.int .u8 (u:Int),Value.int .u8 (l:Int),Value.int .u8 16] = (headL u l).map byte:=by
  simp only [headL,qD,qN,byte,Qb];rw [qF (show u < 2 ^ 8 by omega),qF (show l < 2 ^ 8 by omega)]
  rfl
 have i6:=AK (fun (c:Nat) (g:Nat) (i:World) (hc:1 <= c) (h1:i.rangeAt kb ko (f.map byte)) (h2:RowAt i (some ⟨g,0,none⟩) [77])=>KD f [77] kb ko ck c (some ⟨g,0,none⟩) i hm (by simp) (by simpa using hc) h1 h2);have b3:=Aw f [77] hm;have e2:=AK (fun (i:World) (h:i.rangeAt kb ko (f.map byte))=>LN f kb ko ck i hm h);have m1:(Bw f).length = 16:=Aw f [69] hm;show Calls prog 10 _ w fun e w'=>∃ v,e = .returned v /\ Own w' w.heap.size v (headL u l ++ (Bf (Bf f [77]) (headL u l ++ key) ++ Do (Bw f) (AE key (Bf (Bf f [77]) (headL u l ++ key))) false)) /\ Bl w w';obtain ⟨E,hE⟩:=uX (Bw f);rw [<- hE] at e2 m1 ⊢;obtain ⟨MK,n6⟩:=uX (Bf f [77]);rw [<- n6] at i6 b3 ⊢;obtain ⟨H,hH⟩:=uX (headL u l);rw [<- hH] at k9 f2 ⊢;obtain ⟨HK,j0⟩:=uX (H ++ key);have d0:HK.length = 20:=by rw [j0,QC,f2,hy]
 have h8:[H,key].flatten = HK:=by rw [j0];simp
 rw [<- j0];have f4:=AK (fun (g1 c1 g2 c2:Nat) (i:World) (hc:20 <= c2) (h1:i.rangeAt g1 0 (MK.map byte)) (h2:RowAt i (some ⟨g2,0,none⟩) HK)=>KD MK HK g1 0 c1 c2 (some ⟨g2,0,none⟩) i b3 (by omega) (by omega) h1 h2);rw [d0] at f4;have e9:=AK (fun (vs:List Value) (g o0 s2:Nat) (i:World) (hv:i.rangeAt g o0 vs) (hs:vs.length = 2 /\ ∀ k,k < 2 -> Src i (vs.getD k undef) ([H,key].getD k []))=>Mf vs [H,key] g o0 s2 2 i hs.1 rfl (by omega) (by rw [h8,d0];omega) hv hs.2);rw [h8] at e9;have b4:=Aw MK HK b3;obtain ⟨T,hT⟩:=uX (Bf MK HK);rw [<- hT] at f4 b4 ⊢;have m0:(T.map byte).length = 16:=by rw [QD,b4]
 have HX:=AK (fun (g c:Nat) (i:World) (h:Blk i g 88 (key.map byte ++ T.map byte))=>Bt key T g c 88 i hy b4 h);have j9:(AE key T).length = 16:=by rw [AW _ _ (by omega),hy]
 obtain ⟨X,hX⟩:=uX (AE key T);rw [<- hX] at HX j9 ⊢;have c9:(X.map byte).length = 16:=by rw [QD,j9]
 have HE:=AK (fun (S1 S2 S3 S4:Nat) (i:World) (h:Tabs i S1 S2 S3 S4)=>Ta E X false S1 S2 S3 S4 i m1 j9 h.t1 h.t2 h.t3 h.t4);have j3:=Ds E X false m1;obtain ⟨C,hC⟩:=uX (Do E X false);rw [<- hC] at HE j3 ⊢
 replace HE:Hid (∀ S1 S2 S3 S4 i,Tabs i S1 S2 S3 S4 -> Calls prog 34 #[.agg (aesCells ((keysUpto E 11).map byte) S1 S2 S3 S4).toArray,.agg (X.map byte).toArray] i fun e w'=>e = .returned (.agg (C.map byte).toArray) /\ Bl i w'):=HE
 have d3:(C.map byte).length = 16:=by rw [QD,j3]
 have n5:[H,T,C].flatten = H ++ (T ++ C):=by simp
 have r4:[H,T,C].flatten.length <= 1048576:=by rw [n5,QC,QC,f2,b4,j3];omega
 clear hE n6 hH j0 hT hX hC n8 h8;obtain ⟨W,hW⟩:=uX ((w.alloc (.cells #[.int .i64 (u:Int),.int .i64 (l:Int),.slice (some ⟨n,o,none⟩) 16 y] 55)).alloc (.cells #[Value.int .u8 75,Value.int .u8 (u:Int),Value.int .u8 (l:Int),Value.int .u8 16] 5));have kB:Blk W w.heap.size 55 [.int .i64 (u:Int),.int .i64 (l:Int),.slice (some ⟨n,o,none⟩) 16 y]:=by rw [hW];exact (Blk.new w _ _).alloc _
 have z:Blk W (w.heap.size + 1) 5 (H.map byte):=by rw [hW,<- k9];exact Blk.new2 w _ _ _
 have bW:Bl w W:=by rw [hW];exact ((Below.refl _ _).alloc (QE _) _).alloc (by simp) _
 have gW:=AK hW;clear hW k9;go_enter func10,ntmps10;go_wp2_with (go_at_call 30;refine (j6.out _).mono ?_;rintro e wu ⟨rfl,rfl⟩)
 rw [<- show W = _ from gW];clear gW;have n2:=fun (i:World)=>run_arrayAt (P:=prog) (w:=i) 88 5 16 (some ⟨n,o,none⟩) 16 y underlying88 (QE _);go_cut [6] (fun v i=>∃ L cT,v = .slice (some ⟨L,0,none⟩) 16 cT /\ i.rangeAt L 0 (T.map byte) /\ w.heap.size + 1 < L /\ Blk i w.heap.size 55 [.int .i64 (u:Int),.int .i64 (l:Int),.slice (some ⟨n,o,none⟩) 16 y] /\ Blk i (w.heap.size + 1) 5 (H.map byte) /\ Bl w i)
 case first =>
  obtain ⟨V,I⟩:=uX (W.drew)
  replace kB:Blk V w.heap.size 55 [.int .i64 (u:Int),.int .i64 (l:Int),.slice (some ⟨n,o,none⟩) 16 y]:=by rw [I];exact kB.drew1
  replace z:Blk V (w.heap.size + 1) 5 (H.map byte):=by rw [I];exact z.drew1
  have bV:Bl w V:=by rw [I];exact bW.drew
  have a5:=bV.size;have lV:=z.lt;clear bW;have t:Bl V V:=Below.refl _ _;have e7:Hid (∀ {x},Bl V x -> Blk x w.heap.size 55 [.int .i64 (u:Int),.int .i64 (l:Int),.slice (some ⟨n,o,none⟩) 16 y]):=fun h=>kB.below h kB.lt;have m:Hid (∀ {x},Bl V x -> Blk x (w.heap.size + 1) 5 (H.map byte)):=fun h=>z.below h z.lt;have d5:Hid (∀ {x},Bl V x -> x.rangeAt kb ko (f.map byte)):=fun h=>AU (AU rk bV) h;have g9:Hid (∀ {x},Bl V x -> [Value.slice (some ⟨w.heap.size + 1,0,none⟩) 4 4,Value.slice (some ⟨n,o,none⟩) 16 y].length = 2 /\ ∀ k,k < 2 -> Src x ([Value.slice (some ⟨w.heap.size + 1,0,none⟩) 4 4,Value.slice (some ⟨n,o,none⟩) 16 y].getD k undef) ([H,key].getD k [])):=by
   intro x hx;refine ⟨rfl,?_⟩;intro k hk
   match k,hk with
   | 0,_=>exact ⟨w.heap.size + 1,0,4,by rw [show ([H,key].getD 0 []).length = 4 from f2];rfl,Ai (m.out hx)⟩
   | 1,_=>exact ⟨n,o,y,by rw [show ([H,key].getD 1 []).length = 16 from hy];rfl,F7 (AU (AU ry bV) hx)⟩
  have d:Hid (∀ {x},Bl V x -> x.cell? ⟨w.heap.size,2,none⟩ = some (.slice (some ⟨n,o,none⟩) 16 y)):=fun h=>(e7.out h).c 2;refine QJ (S:=fun x=>x.cell? ⟨w.heap.size,2,none⟩ = some (.slice (some ⟨n,o,none⟩) 16 y)) (by kernel_rfl) (by rw [<- I];exact d.out t) (fun a=>?_);rw [<- I] at a ⊢;clear I kB z n2;refine tA 0 (.slice (some ⟨kb,ko,none⟩) 16 ck) a ?_;simp only [put,pS];refine tA 3 (Value.slice (some ⟨w.heap.size + 1,0,none⟩) 4 4) a ?_;simp only [put,pS];refine tA 4 (.pointer (some ⟨w.heap.size,2,none⟩)) a ?_;simp only [put,pS];refine tC 5 (Value.slice (some ⟨n,o,none⟩) 16 y) rfl (fun w1 h=>by have hc:=h;go_simp) a ?_;simp only [put,pS];refine Qr (rs:=[1,6]) (by kernel_rfl) (by simp) ?_;refine AllReadyH.cons rfl (fun K b=>?_) (AllReadyH.cons rfl (fun K b=>?_) (AllReadyH.nil))
  ·go_simp;obtain ⟨F,Z⟩:=uX (World.alloc V (.cells ([.int .u8 77]).toArray 5));have a8:=uB Z;have d4:Blk F V.heap.size 5 ([.int .u8 77]):=by rw [Z];exact Blk.new _ _ _
   have r3:=t.size;have r8:=d4.lt;have B:=AB t a8;rw [<- Z];clear Z;refine b.out _ _ (d.out B) (fun a=>?_);clear b K
   try dsimp only [put]
   refine Qr (rs:=[2,6]) (by kernel_rfl) (by simp) ?_;refine AllReadyH.cons rfl (fun K b=>?_) (AllReadyH.cons rfl (fun K b=>?_) (AllReadyH.nil))
   ·go_simp;refine (i6.out 1 V.heap.size _ (QE _) (d5.out B) (Ai (bs:=[77]) d4)).mono ?_;rintro e N ⟨z0,rfl,i3,J⟩;have n7:=d4.below J d4.lt;have a4:=AB B J;obtain ⟨y0,y8,s7,rfl,p0,r9,-⟩:=Own.at' i3 b3 (by omega);clear i3;go_wp2_with fail;refine b.out _ _ (d.out a4) (fun a=>?_);clear b K
    try dsimp only [put]
    refine rdy1 6 (fun K b=>?_);go_simp;obtain ⟨f3,q⟩:=uX (World.alloc N (.cells ([Value.slice (some ⟨w.heap.size + 1,0,none⟩) 4 4,Value.slice (some ⟨n,o,none⟩) 16 y]).toArray 22));have A:=uB q;have e1:Blk f3 N.heap.size 22 ([Value.slice (some ⟨w.heap.size + 1,0,none⟩) 4 4,Value.slice (some ⟨n,o,none⟩) 16 y]):=by rw [q];exact Blk.new _ _ _
    have q2:=a4.size;have p6:=e1.lt;have n1:=n7.below A n7.lt;have o2:=AU p0 A;have a7:=AB a4 A;rw [<- q];clear q;refine b.out _ _ (d.out a7) (fun a=>?_);clear b K
    try dsimp only [put]
    refine rdy1 7 (fun K b=>?_);go_simp;refine (e9.out [Value.slice (some ⟨w.heap.size + 1,0,none⟩) 4 4,Value.slice (some ⟨n,o,none⟩) 16 y] N.heap.size 0 2 _ (Ad e1) (g9.out a7)).mono ?_;rintro e A1 ⟨A3,rfl,j4,b7⟩;have n3:=n1.below b7 n1.lt;have j7:=AU o2 b7;have k6:=e1.below b7 e1.lt;have M:=AB a7 b7;obtain ⟨w9,v8,m3,rfl,l5,s4,-⟩:=Own.at' j4.own d0 (by omega);clear j4;have n4:=M.size;go_wp2_with fail;refine b.out _ _ (d.out M) (fun a=>?_);clear b K
    try dsimp only [put]
    refine rdy1 8 (fun K b=>?_);go_simp;refine (f4.out _ _ _ _ _ m3 j7 (F7 l5)).mono ?_;rintro e i5 ⟨B1,rfl,i0,r⟩;have A0:=n3.below r n3.lt;have x4:=AU j7 r;have y2:=k6.below r k6.lt;have x2:=AU l5 r;have a6:=AB M r;obtain ⟨o7,o1,t0,rfl,q8,s1,-⟩:=Own.at' i0 b4 (by omega);clear i0;go_wp2_with fail;refine b.out _ _ (d.out a6) (fun a=>?_);clear b K
    try dsimp only [put]
    refine rdy1 9 (fun K b=>?_);go_simp;refine b.out _ _ (d.out a6) (fun a=>?_);clear b K
    try dsimp only [put]
    refine QM (by kernel_rfl) ?_ _;go_wp2_with fail;go_meet
    case rel=>exact ⟨o7,o1,rfl,q8,by omega,e7.out a6,m.out a6,bV.trans (a6.mono a5)⟩
   ·go_simp;obtain ⟨r7,e0⟩:=uX (World.alloc F (.cells ([Value.slice (some ⟨w.heap.size + 1,0,none⟩) 4 4,Value.slice (some ⟨n,o,none⟩) 16 y]).toArray 22));have i1:=uB e0;have g6:Blk r7 F.heap.size 22 ([Value.slice (some ⟨w.heap.size + 1,0,none⟩) 4 4,Value.slice (some ⟨n,o,none⟩) 16 y]):=by rw [e0];exact Blk.new _ _ _
    have p9:=B.size;have p4:=g6.lt;have k4:=d4.below i1 d4.lt;have O:=AB B i1;rw [<- e0];clear e0;refine b.out _ _ (d.out O) (fun a=>?_);clear b K
    try dsimp only [put]
    refine rdy1 2 (fun K b=>?_);go_simp;refine (i6.out 1 V.heap.size _ (QE _) (d5.out O) (Ai (bs:=[77]) k4)).mono ?_;rintro e c3 ⟨B0,rfl,h9,a1⟩;have n9:=k4.below a1 k4.lt;have g8:=g6.below a1 g6.lt;have a3:=AB O a1;obtain ⟨w7,w4,t6,rfl,o4,r0,-⟩:=Own.at' h9 b3 (by omega);clear h9;go_wp2_with fail;refine b.out _ _ (d.out a3) (fun a=>?_);clear b K
    try dsimp only [put]
    refine rdy1 7 (fun K b=>?_);go_simp;refine (e9.out [Value.slice (some ⟨w.heap.size + 1,0,none⟩) 4 4,Value.slice (some ⟨n,o,none⟩) 16 y] F.heap.size 0 2 _ (Ad g8) (g9.out a3)).mono ?_;rintro e l6 ⟨z5,rfl,i9,s⟩;have n0:=n9.below s n9.lt;have l1:=g8.below s g8.lt;have l3:=AU o4 s;have a9:=AB a3 s;obtain ⟨y9,x8,m7,rfl,k2,s3,-⟩:=Own.at' i9.own d0 (by omega);clear i9;have n4:=a9.size;go_wp2_with fail;refine b.out _ _ (d.out a9) (fun a=>?_);clear b K
    try dsimp only [put]
    refine rdy1 8 (fun K b=>?_);go_simp;refine (f4.out _ _ _ _ _ m7 l3 (F7 k2)).mono ?_;rintro e k3 ⟨w6,rfl,f7,j⟩;have w3:=n0.below j n0.lt;have v2:=l1.below j l1.lt;have t7:=AU l3 j;have t8:=AU k2 j;have D:=AB a9 j;obtain ⟨m4,m5,r5,rfl,p3,p7,-⟩:=Own.at' f7 b4 (by omega);clear f7;go_wp2_with fail;refine b.out _ _ (d.out D) (fun a=>?_);clear b K
    try dsimp only [put]
    refine rdy1 9 (fun K b=>?_);go_simp;refine b.out _ _ (d.out D) (fun a=>?_);clear b K
    try dsimp only [put]
    refine QM (by kernel_rfl) ?_ _;go_wp2_with fail;go_meet
    case rel=>exact ⟨m4,m5,rfl,p3,by omega,e7.out D,m.out D,bV.trans (D.mono a5)⟩
  ·go_simp;obtain ⟨e5,b8⟩:=uX (World.alloc V (.cells ([Value.slice (some ⟨w.heap.size + 1,0,none⟩) 4 4,Value.slice (some ⟨n,o,none⟩) 16 y]).toArray 22));have k7:=uB b8;have d6:Blk e5 V.heap.size 22 ([Value.slice (some ⟨w.heap.size + 1,0,none⟩) 4 4,Value.slice (some ⟨n,o,none⟩) 16 y]):=by rw [b8];exact Blk.new _ _ _
   have o6:=t.size;have p2:=d6.lt;have h3:=AB t k7;rw [<- b8];clear b8;refine b.out _ _ (d.out h3) (fun a=>?_);clear b K
   try dsimp only [put]
   refine rdy1 1 (fun K b=>?_);go_simp;obtain ⟨o3,b6⟩:=uX (World.alloc e5 (.cells ([.int .u8 77]).toArray 5));have f9:=uB b6;have f0:Blk o3 e5.heap.size 5 ([.int .u8 77]):=by rw [b6];exact Blk.new _ _ _
   have q7:=h3.size;have q4:=f0.lt;have i4:=d6.below f9 d6.lt;have h5:=AB h3 f9;rw [<- b6];clear b6;refine b.out _ _ (d.out h5) (fun a=>?_);clear b K
   try dsimp only [put]
   refine rdy1 2 (fun K b=>?_);go_simp;refine (i6.out 1 e5.heap.size _ (QE _) (d5.out h5) (Ai (bs:=[77]) f0)).mono ?_;rintro e x1 ⟨x7,rfl,g5,c0⟩;have e6:=i4.below c0 i4.lt;have k1:=f0.below c0 f0.lt;have h4:=AB h5 c0;obtain ⟨v4,t9,q9,rfl,m6,p8,-⟩:=Own.at' g5 b3 (by omega);clear g5;go_wp2_with fail;refine b.out _ _ (d.out h4) (fun a=>?_);clear b K
   try dsimp only [put]
   refine rdy1 7 (fun K b=>?_);go_simp;refine (e9.out [Value.slice (some ⟨w.heap.size + 1,0,none⟩) 4 4,Value.slice (some ⟨n,o,none⟩) 16 y] V.heap.size 0 2 _ (Ad e6) (g9.out h4)).mono ?_;rintro e y6 ⟨x5,rfl,f5,b0⟩;have i7:=e6.below b0 e6.lt;have j8:=k1.below b0 k1.lt;have j1:=AU m6 b0;have g7:=AB h4 b0;obtain ⟨v3,v6,l9,rfl,j2,q1,-⟩:=Own.at' f5.own d0 (by omega);clear f5;have n4:=g7.size;go_wp2_with fail;refine b.out _ _ (d.out g7) (fun a=>?_);clear b K
   try dsimp only [put]
   refine rdy1 8 (fun K b=>?_);go_simp;refine (f4.out _ _ _ _ _ l9 j1 (F7 j2)).mono ?_;rintro e y3 ⟨x6,rfl,f8,a2⟩;have v1:=i7.below a2 i7.lt;have y1:=j8.below a2 j8.lt;have s8:=AU j1 a2;have s5:=AU j2 a2;have c8:=AB g7 a2;obtain ⟨m2,m9,r2,rfl,p1,p5,-⟩:=Own.at' f8 b4 (by omega);clear f8;go_wp2_with fail;refine b.out _ _ (d.out c8) (fun a=>?_);clear b K
   try dsimp only [put]
   refine rdy1 9 (fun K b=>?_);go_simp;refine b.out _ _ (d.out c8) (fun a=>?_);clear b K
   try dsimp only [put]
   refine QM (by kernel_rfl) ?_ _;go_wp2_with fail;go_meet
   case rel=>exact ⟨m2,m9,rfl,p1,by omega,e7.out c8,m.out c8,bV.trans (c8.mono a5)⟩
 case rest =>
  clear kB z bW W;obtain ⟨L,cT,rfl,rT,z3,kB,z,bW⟩:=hcut;have o9:=fun (i:World)=>run_arrayAt (P:=prog) (w:=i) 88 5 16 (some ⟨L,0,none⟩) 16 cT underlying88 (QE _);go_wp2_with fail;go_cut [7] (fun p i=>∃ G,p = .pointer (some ⟨G,0,none⟩) /\ w.heap.size + 1 < G /\ Blk i G 88 (X.map byte) /\ i.rangeAt L 0 (T.map byte) /\ Blk i (w.heap.size + 1) 5 (H.map byte) /\ Bl w i)
  case first =>
   obtain ⟨V,I⟩:=uX (wc.drew)
   replace kB:Blk V w.heap.size 55 [.int .i64 (u:Int),.int .i64 (l:Int),.slice (some ⟨n,o,none⟩) 16 y]:=by rw [I];exact kB.drew1
   replace z:Blk V (w.heap.size + 1) 5 (H.map byte):=by rw [I];exact z.drew1
   replace rT:V.rangeAt L 0 (T.map byte):=by rw [I];exact rT
   have bV:Bl w V:=by rw [I];exact bW.drew
   have a5:=bV.size;have lV:=z.lt;clear bW;have t:Bl V V:=Below.refl _ _;have m:Hid (∀ {x},Bl V x -> Blk x (w.heap.size + 1) 5 (H.map byte)):=fun h=>z.below h z.lt;have tK:Hid (∀ {x},Bl V x -> x.rangeAt L 0 (T.map byte)):=fun h=>AU rT h;have d:Hid (∀ {x},Bl V x -> x.cell? ⟨w.heap.size,2,none⟩ = some (.slice (some ⟨n,o,none⟩) 16 y) /\ x.rangeAt n o (key.map byte) /\ x.rangeAt L 0 (T.map byte)):=fun h=>⟨(kB.below h kB.lt).c 2,AU (AU ry bV) h,AU rT h⟩;refine QJ (S:=fun x=>x.cell? ⟨w.heap.size,2,none⟩ = some (.slice (some ⟨n,o,none⟩) 16 y) /\ x.rangeAt n o (key.map byte) /\ x.rangeAt L 0 (T.map byte)) (by kernel_rfl) (by rw [<- I];exact d.out t) (fun a=>?_);rw [<- I] at a ⊢;clear I kB z;refine tA 0 (.pointer (some ⟨w.heap.size,2,none⟩)) a ?_;simp only [put,pS];refine tC 1 (Value.slice (some ⟨n,o,none⟩) 16 y) rfl (fun w1 h=>by have hc:=h.1;go_simp) a ?_;simp only [put,pS];refine tA 2 (.pointer (some ⟨n,o,none⟩)) a ?_;simp only [put,pS];refine tB 3 (.agg (key.map byte).toArray) rfl (QY (by rfl) 88 _ rfl n o rfl (key.map byte) _ (fun _ h=>h.2.1) underlying88 rfl (by rw [j5];kernel_rfl)) a ?_;simp only [put,pS];refine tA 4 (.slice (some ⟨L,0,none⟩) 16 cT) a ?_;simp only [put,pS];refine tA 5 (.pointer (some ⟨L,0,none⟩)) a ?_;simp only [put,pS];refine tB 6 (.agg (T.map byte).toArray) rfl (QY (by rfl) 88 _ rfl L 0 rfl (T.map byte) _ (fun _ h=>h.2.2) underlying88 rfl (by rw [m0];kernel_rfl)) a ?_;simp only [put,pS];refine Qr (rs:=[7,9]) (by kernel_rfl) (by simp) ?_;refine AllReadyH.cons rfl (fun K b=>?_) (AllReadyH.cons rfl (fun K b=>?_) (AllReadyH.nil))
   ·rw [if_pos (by rfl)];refine Bi (some 57) rfl 148 _ _ rfl 88 16 _ (key.map byte) (T.map byte) rfl rfl underlying148 Tryz.zero88 j5 m0 (by omega) (by omega) ?_
    try dsimp only [put]
    obtain ⟨F,Z⟩:=uX (World.alloc V (.cells (key.map byte ++ T.map byte).toArray 88));have a8:=uB Z;have b1:Blk F V.heap.size 88 (key.map byte ++ T.map byte):=by rw [Z];exact Blk.new _ _ _
    have q5:=t.size;have q0:=b1.lt;have B:=AB t a8;rw [<- Z];clear Z;refine b.out _ _ (d.out B) (fun a=>?_);clear b K
    try dsimp only [put]
    refine Qr (rs:=[8,9]) (by kernel_rfl) (by simp) ?_;refine AllReadyH.cons rfl (fun K b=>?_) (AllReadyH.cons rfl (fun K b=>?_) (AllReadyH.nil))
    ·go_simp;refine (HX.out V.heap.size 2 _ b1).mono ?_;rintro e N ⟨rfl,J⟩;have k5:=b1.below J b1.lt;have a4:=AB B J;go_wp2_with fail;refine b.out _ _ (d.out a4) (fun a=>?_);clear b K
     try dsimp only [put]
     refine rdy1 9 (fun K b=>?_);go_simp;obtain ⟨f3,q⟩:=uX (World.alloc N (.cells (AC 16 .u8).toArray 88));have A:=uB q;have c7:Blk f3 N.heap.size 88 (AC 16 .u8):=by rw [q];exact Blk.new _ _ _
     have b9:=a4.size;have k0:=c7.lt;have y5:=k5.below A k5.lt;have a7:=AB a4 A;rw [<- q];clear q;refine b.out _ _ (d.out a7) (fun a=>?_);clear b K
     try dsimp only [put]
     refine rdy1 10 (fun K b=>?_);rw [if_pos (by rfl)];refine AR rfl 88 _ _ rfl N.heap.size rfl rfl c7 (by rw [c9];kernel_rfl) (by rw [c9];exact AD _ _) (AF _) ?_;have l0:=Blk.setRow c7 (X.map byte);have M:=AN (g:=N.heap.size) a7 b9 (X.map byte).toArray;refine b.out _ _ (d.out M) (fun a=>?_);clear b K
     try dsimp only [put]
     refine QM (by kernel_rfl) ?_ _;go_wp2_with fail;go_meet
     case rel=>exact ⟨_,rfl,by omega,l0,tK.out M,m.out M,bV.trans (M.mono a5)⟩
    ·go_simp;obtain ⟨i5,R⟩:=uX (World.alloc F (.cells (AC 16 .u8).toArray 88));have r:=uB R;have c4:Blk i5 F.heap.size 88 (AC 16 .u8):=by rw [R];exact Blk.new _ _ _
     have c5:=B.size;have l7:=c4.lt;have h6:=b1.below r b1.lt;have a6:=AB B r;rw [<- R];clear R;refine b.out _ _ (d.out a6) (fun a=>?_);clear b K
     try dsimp only [put]
     refine rdy1 8 (fun K b=>?_);go_simp;refine (HX.out V.heap.size 2 _ h6).mono ?_;rintro e r6 ⟨rfl,a0⟩;have v7:=h6.below a0 h6.lt;have f1:=c4.below a0 c4.lt;have f6:=AB a6 a0;go_wp2_with fail;refine b.out _ _ (d.out f6) (fun a=>?_);clear b K
     try dsimp only [put]
     refine rdy1 10 (fun K b=>?_);rw [if_pos (by rfl)];refine AR rfl 88 _ _ rfl F.heap.size rfl rfl f1 (by rw [c9];kernel_rfl) (by rw [c9];exact AD _ _) (AF _) ?_;have k8:=Blk.setRow f1 (X.map byte);have O:=AN (g:=F.heap.size) f6 c5 (X.map byte).toArray;refine b.out _ _ (d.out O) (fun a=>?_);clear b K
     try dsimp only [put]
     refine QM (by kernel_rfl) ?_ _;go_wp2_with fail;go_meet
     case rel=>exact ⟨_,rfl,by omega,k8,tK.out O,m.out O,bV.trans (O.mono a5)⟩
   ·go_simp;obtain ⟨c3,Y⟩:=uX (World.alloc V (.cells (AC 16 .u8).toArray 88));have a1:=uB Y;have c6:Blk c3 V.heap.size 88 (AC 16 .u8):=by rw [Y];exact Blk.new _ _ _
    have d1:=t.size;have l4:=c6.lt;have a3:=AB t a1;rw [<- Y];clear Y;refine b.out _ _ (d.out a3) (fun a=>?_);clear b K
    try dsimp only [put]
    refine rdy1 7 (fun K b=>?_);rw [if_pos (by rfl)];refine Bi (some 57) rfl 148 _ _ rfl 88 16 _ (key.map byte) (T.map byte) rfl rfl underlying148 Tryz.zero88 j5 m0 (by omega) (by omega) ?_
    try dsimp only [put]
    obtain ⟨l6,e4⟩:=uX (World.alloc c3 (.cells (key.map byte ++ T.map byte).toArray 88));have s:=uB e4;have e3:Blk l6 c3.heap.size 88 (key.map byte ++ T.map byte):=by rw [e4];exact Blk.new _ _ _
    have q3:=a3.size;have q6:=e3.lt;have g0:=c6.below s c6.lt;have a9:=AB a3 s;rw [<- e4];clear e4;refine b.out _ _ (d.out a9) (fun a=>?_);clear b K
    try dsimp only [put]
    refine rdy1 8 (fun K b=>?_);go_simp;refine (HX.out c3.heap.size 2 _ e3).mono ?_;rintro e k3 ⟨rfl,j⟩;have d2:=g0.below j g0.lt;have t5:=e3.below j e3.lt;have D:=AB a9 j;go_wp2_with fail;refine b.out _ _ (d.out D) (fun a=>?_);clear b K
    try dsimp only [put]
    refine rdy1 10 (fun K b=>?_);rw [if_pos (by rfl)];refine AR rfl 88 _ _ rfl V.heap.size rfl rfl d2 (by rw [c9];kernel_rfl) (by rw [c9];exact AD _ _) (AF _) ?_;have h7:=Blk.setRow d2 (X.map byte);have U:=AN (g:=V.heap.size) D d1 (X.map byte).toArray;refine b.out _ _ (d.out U) (fun a=>?_);clear b K
    try dsimp only [put]
    refine QM (by kernel_rfl) ?_ _;go_wp2_with fail;go_meet
    case rel=>exact ⟨_,rfl,by omega,h7,tK.out U,m.out U,bV.trans (U.mono a5)⟩
  case rest =>
   clear kB z bW rT n2 o9;obtain ⟨GX,rfl,z1,kX,rT,z,bW⟩:=hcut;go_wp2_with fail;go_cut [8] (fun p i=>∃ G,p = .pointer (some ⟨G,0,none⟩) /\ w.heap.size + 1 < G /\ Blk i G 88 (C.map byte) /\ i.rangeAt L 0 (T.map byte) /\ Blk i (w.heap.size + 1) 5 (H.map byte) /\ Bl w i)
   case first =>
    obtain ⟨V,I⟩:=uX (wc.drew)
    replace kX:Blk V GX 88 (X.map byte):=by rw [I];exact kX.drew1
    replace z:Blk V (w.heap.size + 1) 5 (H.map byte):=by rw [I];exact z.drew1
    replace rT:V.rangeAt L 0 (T.map byte):=by rw [I];exact rT
    have bV:Bl w V:=by rw [I];exact bW.drew
    have a5:=bV.size;have lV:=z.lt;clear bW;have t:Bl V V:=Below.refl _ _;have m:Hid (∀ {x},Bl V x -> Blk x (w.heap.size + 1) 5 (H.map byte)):=fun h=>z.below h z.lt;have tK:Hid (∀ {x},Bl V x -> x.rangeAt L 0 (T.map byte)):=fun h=>AU rT h;have d5:Hid (∀ {x},Bl V x -> x.rangeAt kb ko (f.map byte)):=fun h=>AU (AU rk bV) h;have d:Hid (∀ {x},Bl V x -> x.rangeAt GX 0 (X.map byte)):=fun h=>Ad (kX.below h kX.lt);refine QJ (S:=fun x=>x.rangeAt GX 0 (X.map byte)) (by kernel_rfl) (by rw [<- I];exact d.out t) (fun a=>?_);rw [<- I] at a ⊢;clear I kX z;refine tA 0 (.slice (some ⟨kb,ko,none⟩) 16 ck) a ?_;simp only [put,pS];refine tB 2 (.agg (X.map byte).toArray) rfl (QY (by rfl) 88 _ rfl GX 0 rfl (X.map byte) _ (fun _ h=>h) underlying88 rfl (by rw [c9];kernel_rfl)) a ?_;simp only [put,pS];refine Qr (rs:=[1,4]) (by kernel_rfl) (by simp) ?_;refine AllReadyH.cons rfl (fun K b=>?_) (AllReadyH.cons rfl (fun K b=>?_) (AllReadyH.nil))
    ·go_simp;refine (e2.out _ (d5.out t)).mono ?_;rintro e F ⟨y4,w8,x0,y7,rfl,h0,a8⟩;have B:=AB t a8;go_wp2_with fail;refine b.out _ _ (d.out B) (fun a=>?_);clear b K
     try dsimp only [put]
     refine Qr (rs:=[3,4]) (by kernel_rfl) (by simp) ?_;refine AllReadyH.cons rfl (fun K b=>?_) (AllReadyH.cons rfl (fun K b=>?_) (AllReadyH.nil))
     ·go_simp;refine (HE.out _ _ _ _ _ h0).mono ?_;rintro e N ⟨rfl,J⟩;have m8:=h0.below J;have a4:=AB B J;go_wp2_with fail;refine b.out _ _ (d.out a4) (fun a=>?_);clear b K
      try dsimp only [put]
      refine rdy1 4 (fun K b=>?_);go_simp;obtain ⟨f3,q⟩:=uX (World.alloc N (.cells (AC 16 .u8).toArray 88));have A:=uB q;have c7:Blk f3 N.heap.size 88 (AC 16 .u8):=by rw [q];exact Blk.new _ _ _
      have b9:=a4.size;have k0:=c7.lt;have s6:=m8.below A;have a7:=AB a4 A;rw [<- q];clear q;refine b.out _ _ (d.out a7) (fun a=>?_);clear b K
      try dsimp only [put]
      refine rdy1 5 (fun K b=>?_);rw [if_pos (by rfl)];refine AR rfl 88 _ _ rfl N.heap.size rfl rfl c7 (by rw [d3];kernel_rfl) (by rw [d3];exact AD _ _) (AF _) ?_;have l0:=Blk.setRow c7 (C.map byte);have M:=AN (g:=N.heap.size) a7 b9 (C.map byte).toArray;refine b.out _ _ (d.out M) (fun a=>?_);clear b K
      try dsimp only [put]
      refine QM (by kernel_rfl) ?_ _;go_wp2_with fail;go_meet
      case rel=>exact ⟨_,rfl,by omega,l0,tK.out M,m.out M,bV.trans (M.mono a5)⟩
     ·go_simp;obtain ⟨i5,R⟩:=uX (World.alloc F (.cells (AC 16 .u8).toArray 88));have r:=uB R;have c4:Blk i5 F.heap.size 88 (AC 16 .u8):=by rw [R];exact Blk.new _ _ _
      have c5:=B.size;have l7:=c4.lt;have i2:=h0.below r;have a6:=AB B r;rw [<- R];clear R;refine b.out _ _ (d.out a6) (fun a=>?_);clear b K
      try dsimp only [put]
      refine rdy1 3 (fun K b=>?_);go_simp;refine (HE.out _ _ _ _ _ i2).mono ?_;rintro e r6 ⟨rfl,a0⟩;have v0:=i2.below a0;have f1:=c4.below a0 c4.lt;have f6:=AB a6 a0;go_wp2_with fail;refine b.out _ _ (d.out f6) (fun a=>?_);clear b K
      try dsimp only [put]
      refine rdy1 5 (fun K b=>?_);rw [if_pos (by rfl)];refine AR rfl 88 _ _ rfl F.heap.size rfl rfl f1 (by rw [d3];kernel_rfl) (by rw [d3];exact AD _ _) (AF _) ?_;have k8:=Blk.setRow f1 (C.map byte);have O:=AN (g:=F.heap.size) f6 c5 (C.map byte).toArray;refine b.out _ _ (d.out O) (fun a=>?_);clear b K
      try dsimp only [put]
      refine QM (by kernel_rfl) ?_ _;go_wp2_with fail;go_meet
      case rel=>exact ⟨_,rfl,by omega,k8,tK.out O,m.out O,bV.trans (O.mono a5)⟩
    ·go_simp;obtain ⟨c3,Y⟩:=uX (World.alloc V (.cells (AC 16 .u8).toArray 88));have a1:=uB Y;have c6:Blk c3 V.heap.size 88 (AC 16 .u8):=by rw [Y];exact Blk.new _ _ _
     have d1:=t.size;have l4:=c6.lt;have a3:=AB t a1;rw [<- Y];clear Y;refine b.out _ _ (d.out a3) (fun a=>?_);clear b K
     try dsimp only [put]
     refine rdy1 1 (fun K b=>?_);go_simp;refine (e2.out _ (d5.out a3)).mono ?_;rintro e l6 ⟨v9,x3,w0,w2,rfl,l8,s⟩;have g0:=c6.below s c6.lt;have a9:=AB a3 s;go_wp2_with fail;refine b.out _ _ (d.out a9) (fun a=>?_);clear b K
     try dsimp only [put]
     refine rdy1 3 (fun K b=>?_);go_simp;refine (HE.out _ _ _ _ _ l8).mono ?_;rintro e k3 ⟨rfl,j⟩;have r1:=l8.below j;have d2:=g0.below j g0.lt;have D:=AB a9 j;go_wp2_with fail;refine b.out _ _ (d.out D) (fun a=>?_);clear b K
     try dsimp only [put]
     refine rdy1 5 (fun K b=>?_);rw [if_pos (by rfl)];refine AR rfl 88 _ _ rfl V.heap.size rfl rfl d2 (by rw [d3];kernel_rfl) (by rw [d3];exact AD _ _) (AF _) ?_;have h7:=Blk.setRow d2 (C.map byte);have U:=AN (g:=V.heap.size) D d1 (C.map byte).toArray;refine b.out _ _ (d.out U) (fun a=>?_);clear b K
     try dsimp only [put]
     refine QM (by kernel_rfl) ?_ _;go_wp2_with fail;go_meet
     case rel=>exact ⟨_,rfl,by omega,h7,tK.out U,m.out U,bV.trans (U.mono a5)⟩
   case rest =>
    clear kX rT z bW;obtain ⟨GC,rfl,z6,kC,rT,z,bW⟩:=hcut;go_wp2_with fail;obtain ⟨W2,i8⟩:=uX (World.alloc wc (.cells #[Value.slice (some ⟨w.heap.size + 1,0,none⟩) 4 4,Value.slice (some ⟨L,0,none⟩) 16 cT,Value.slice (some ⟨GC,0,none⟩) 16 16] 22));have e8:=uB i8;have kL:Blk W2 wc.heap.size 22 [Value.slice (some ⟨w.heap.size + 1,0,none⟩) 4 4,Value.slice (some ⟨L,0,none⟩) 16 cT,Value.slice (some ⟨GC,0,none⟩) 16 16]:=by rw [i8];exact Blk.new _ _ _
    rw [<- i8];clear i8;have b2:=AB bW e8;refine (Mf [Value.slice (some ⟨w.heap.size + 1,0,none⟩) 4 4,Value.slice (some ⟨L,0,none⟩) 16 cT,Value.slice (some ⟨GC,0,none⟩) 16 16] [H,T,C] wc.heap.size 0 3 3 W2 rfl rfl (by omega) r4 (Ad kL) (by
     intro k hk
     match k,hk with
     | 0,_=>exact ⟨w.heap.size + 1,0,4,by rw [show ([H,T,C].getD 0 []).length = 4 from f2];rfl,Ai (z.below e8 z.lt)⟩
     | 1,_=>exact ⟨L,0,cT,by rw [show ([H,T,C].getD 1 []).length = 16 from b4];rfl,F7 (AU rT e8)⟩
     | 2,_=>exact ⟨GC,0,16,by rw [show ([H,T,C].getD 2 []).length = 16 from j3];rfl,Ai (kC.below e8 kC.lt)⟩)).mono ?_
    rintro e w5 ⟨v5,rfl,l2,o8⟩;have b5:=AB b2 o8;have o5:Own w5 w.heap.size v5 (H ++ (T ++ C)):=by rw [<- n5];exact (l2.mono b2.size).own
    clear l2 kL;go_wp2_with fail;go_ret;exact ⟨_,rfl,o5,b5⟩
end Go.Proofs.YtbkokcjolanpeaaGreatDoor
