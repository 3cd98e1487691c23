import Derived.Test.YtbkokcjolanpeaaGreatDoorMkK
set_option maxRecDepth 100000
set_option maxHeartbeats 20000000
namespace Go.Proofs.YtbkokcjolanpeaaGreatDoor
open Go.RowKit Go.Proofs.Tryz Act
theorem Jz (s:LU) (S:Nat) (w:World) (a:s.length = 16) (b:Blk w S 240 (invTab.map byte)) :
 Calls prog 167 #[.agg (s.map byte).toArray,.pointer (some ⟨S,0,none⟩)] w fun e w'=>e = .returned (.agg ((s.map BP).map byte).toArray) /\ Bl w w':=Lf invTab s S w J5 a b
theorem SG (key b:LU) (S1 R S3 S4:Nat) (w:World) (hk:key.length = 16) (hb:b.length = 16) (h2:Blk w R 240 (invTab.map byte)) (h4:Blk w S4 247 (A6 Bc)) :
 Calls prog 156 #[.agg (aesCells ((keysUpto key 11).map byte) S1 R S3 S4).toArray,.agg (b.map byte).toArray] w fun e w'=>e = .returned (.agg ((Is (AQ key) b).map byte).toArray) /\ Bl w w':=by
 have hz:=(QO Tryz.z16).1;have m9:(b.map byte).length = 16:=by rw [QD,hb]
 have o8:=AK (fun r=>BI key hk r);have t8:((keysUpto key 11).map byte).length = 176:=by rw [QD,BS key hk]
 have y9:=Cb ((keysUpto key 11).map byte) S1 R S3 S4 t8;have HR:=AK (fun (E:World) (h:Blk E w.heap.size 93 (aesCells ((keysUpto key 11).map byte) S1 R S3 S4)) (r:Nat) (hr:r < 11)=>OW hk h r hr);have HF:=AK (fun (E:World) (h:Blk E w.heap.size 93 (aesCells ((keysUpto key 11).map byte) S1 R S3 S4))=>OJ t8 h);obtain ⟨CC,t1⟩:=uX (aesCells ((keysUpto key 11).map byte) S1 R S3 S4);rw [<- t1] at HR HF y9 ⊢;clear t1;obtain ⟨W,hW⟩:=uX (((w.alloc (.cells CC.toArray 93)).alloc (.cells (b.map byte).toArray 88)).alloc (.cells (AC 16 .u8).toArray 88));have C0:Blk W w.heap.size 93 CC:=by rw [hW];exact ((Blk.new w _ _).alloc _).alloc _
 have C1:Blk W (w.heap.size + 1) 88 (b.map byte):=by rw [hW];exact (Blk.new2 w _ _ _).alloc _
 have C2:Blk W (w.heap.size + 1 + 1) 88 (AC 16 .u8):=by rw [hW];exact Blk.newAt _ _ _ _ (by simp)
 have bW:Bl w W:=by rw [hW];exact (((Below.refl _ _).alloc (QE _) _).alloc (by simp) _).alloc (by simp;omega) _
 have zW:Hid (W.heap.size = w.heap.size + 1 + 1 + 1):=AK (by rw [hW];simp);have T2:=h2.below bW h2.lt;have T4:=h4.below bW h4.lt;have l2:=h2.lt;have l4:=h4.lt;go_enter func156,ntmps156;go_upto_region 1 with fail
 rw [<- hW];clear h2 h4 hW;go_cut [5] (fun p E=>∃ St,p = .pointer (some ⟨St,0,none⟩) /\ w.heap.size + 3 <= St /\ R < St /\ S4 < St /\ Blk E St 88 ((DM (AQ key) b 0).map byte) /\ Blk E w.heap.size 93 CC /\ Blk E (w.heap.size + 1 + 1) 88 (AC 16 .u8) /\ Blk E R 240 (invTab.map byte) /\ Blk E S4 247 (A6 Bc) /\ Bl w E)
 case first =>
  have a2:=o8.out 10;have e1:=AK (fun (E:World) (h:Blk E w.heap.size 93 CC)=>HR.out E h 10 (by omega));have HN:Hid (DM (AQ key) b 0 = (AX 3 (AE b (AQ key 10))).map BP):=AK rfl;obtain ⟨j,i4⟩:=uX (AQ key 10);rw [<- i4] at a2 e1 HN;clear i4;have zz:=zW.out;have zW':w.heap.size + 3 <= W.heap.size:=by omega
  clear zz;have e5:(j.map byte).length = 16:=by rw [QD,a2]
  have e2:=C6 b j hb a2;have HU:=AK (fun (E:World) (h:Blk E R 240 (invTab.map byte))=>Jz (AX 3 (AE b j)) R E (A4 _ _) h);have x:(((AX 3 (AE b j)).map BP).map byte).length = 16:=by rw [QD,QD,A4]
  obtain ⟨f,h0⟩:=uX ((AX 3 (AE b j)).map BP);rw [<- h0] at HU HN x;clear h0;have F:=C0;have kR:=C2;have k2:=T2;have k4:=T4;have d:Hid (∀ {w'},Bl W w' -> w'.cell? ⟨w.heap.size,177,none⟩ = some (.func (.func 167) #[] #[.pointer (some ⟨R,0,none⟩)]) /\ w'.rangeAt w.heap.size 160 (j.map byte) /\ w'.rangeAt (w.heap.size + 1) 0 (b.map byte)):=fun h=>⟨(HF.out _ (F.below h F.lt)).2.1,e1.out _ (F.below h F.lt),Ad (C1.below h C1.lt)⟩;refine QJ (S:=fun w'=>w'.cell? ⟨w.heap.size,177,none⟩ = some (.func (.func 167) #[] #[.pointer (some ⟨R,0,none⟩)]) /\ w'.rangeAt w.heap.size 160 (j.map byte) /\ w'.rangeAt (w.heap.size + 1) 0 (b.map byte)) (by kernel_rfl) (d.out (Below.refl _ _).drew) (fun a=>?_);obtain ⟨V,hV⟩:=uX (W.drew);have b8:Bl W V:=by rw [hV];exact (Below.refl _ _).drew
  have vC:=F.below b8 F.lt;have vR:=kR.below b8 kR.lt;have v2:=k2.below b8 k2.lt;have v4:=k4.below b8 k4.lt;rw [<- hV] at a ⊢;clear hV;refine tA 0 (.pointer (some ⟨w.heap.size,177,none⟩)) a ?_;simp only [put,pS];refine tC 1 (.func (.func 167) #[] #[.pointer (some ⟨R,0,none⟩)]) rfl (fun w1 h=>by have hc:=h.1;go_simp) a ?_;simp only [put,pS];refine tB 2 (.agg (b.map byte).toArray) rfl (QY (by rfl) 88 _ rfl (w.heap.size + 1) 0 rfl (b.map byte) _ (fun _ h=>h.2.2) underlying88 rfl (by rw [m9];kernel_rfl)) a ?_;simp only [put,pS];refine tA 3 (.pointer (some ⟨w.heap.size,0,none⟩)) a ?_;simp only [put,pS];refine tA 4 (.pointer (some ⟨w.heap.size,160,none⟩)) a ?_;simp only [put,pS];refine tB 5 (.agg (j.map byte).toArray) rfl (QY (by rfl) 88 _ rfl w.heap.size 160 rfl (j.map byte) _ (fun _ h=>h.2.1) underlying88 rfl (by rw [e5];kernel_rfl)) a ?_;simp only [put,pS];refine Qr (rs:=[6,10]) (by kernel_rfl) (by simp) ?_;refine AllReadyH.cons rfl (fun K c=>?_) (AllReadyH.cons rfl (fun K c=>?_) (AllReadyH.nil))
  ·rw [if_pos (by rfl)]
   try dsimp only [Act.put,List.getElem_toArray,List.getElem_cons_zero,List.getElem_cons_succ]
   try simp only [List.setIfInBounds_toArray,List.set_cons_succ,qw]
   refine Bi (some 13) rfl 148 _ _ rfl 88 16 _ (b.map byte) (j.map byte) (by kernel_rfl) (by kernel_rfl) underlying148 Tryz.z16 m9 e5 (by omega) (by omega) ?_
   try dsimp only [put]
   obtain ⟨a9,f7⟩:=uX (World.alloc V (.cells (b.map byte ++ j.map byte).toArray 88));have b4:=uB f7;have a6:Blk a9 V.heap.size 88 (b.map byte ++ j.map byte):=by rw [f7];exact Blk.new _ _ _
   have w9:=b8.size;have v6:=a6.lt;have m4:=vC.below b4 vC.lt;have c2:=vR.below b4 vR.lt;have f5:=v2.below b4 v2.lt;have e7:=v4.below b4 v4.lt;have l3:=AB b8 b4;rw [<- f7];clear f7;refine c.out _ _ (d.out l3) (fun a=>?_);clear c K
   try dsimp only [put]
   refine Qr (rs:=[7,10]) (by kernel_rfl) (by simp) ?_;refine AllReadyH.cons rfl (fun K c=>?_) (AllReadyH.cons rfl (fun K c=>?_) (AllReadyH.nil))
   ·go_simp;refine (Bt b j _ _ _ _ hb a2 a6).mono ?_;rintro e Y ⟨rfl,o⟩;have d5:=m4.below o m4.lt;have T:=c2.below o c2.lt;have b1:=f5.below o f5.lt;have b0:=e7.below o e7.lt;have s:=a6.below o a6.lt;have d1:=AB l3 o;go_wp2_with fail;refine c.out _ _ (d.out d1) (fun a=>?_);clear c K
    try dsimp only [put]
    refine Qr (rs:=[8,10]) (by kernel_rfl) (by simp) ?_;refine AllReadyH.cons rfl (fun K c=>?_) (AllReadyH.cons rfl (fun K c=>?_) (AllReadyH.nil))
    ·go_simp;refine (DY 3 _ (AE b j) _ (.inr rfl) rfl e2).mono ?_;rintro e a7 ⟨rfl,l⟩;have d4:=d5.below l d5.lt;have M:=T.below l T.lt;have a1:=b1.below l b1.lt;have a0:=b0.below l b0.lt;have J:=s.below l s.lt;have c8:=AB d1 l;go_wp2_with fail;refine c.out _ _ (d.out c8) (fun a=>?_);clear c K
     try dsimp only [put]
     refine Qr (rs:=[9,10]) (by kernel_rfl) (by simp) ?_;refine AllReadyH.cons rfl (fun K c=>?_) (AllReadyH.cons rfl (fun K c=>?_) (AllReadyH.nil))
     ·go_simp;refine (HU.out _ a1).mono ?_;rintro e a8 ⟨rfl,m⟩;have g9:=d4.below m d4.lt;have b2:=M.below m M.lt;have d2:=a1.below m a1.lt;have e0:=a0.below m a0.lt;have b5:=J.below m J.lt;have e3:=AB c8 m;go_wp2_with fail;refine c.out _ _ (d.out e3) (fun a=>?_);clear c K
      try dsimp only [put]
      refine rdy1 10 (fun K c=>?_);go_simp;obtain ⟨t4,e8⟩:=uX (World.alloc a8 (.cells (AC 16 .u8).toArray 88));have n:=uB e8;have b7:Blk t4 a8.heap.size 88 (AC 16 .u8):=by rw [e8];exact Blk.new _ _ _
      have a5:=e3.size;have y3:=b7.lt;have m3:=g9.below n g9.lt;have c0:=b2.below n b2.lt;have d3:=d2.below n d2.lt;have g5:=e0.below n e0.lt;have f9:=b5.below n b5.lt;have i9:=AB e3 n;rw [<- e8];clear e8;refine c.out _ _ (d.out i9) (fun a=>?_);clear c K
      try dsimp only [put]
      refine rdy1 11 (fun K c=>?_);rw [if_pos (by rfl)];refine AR (cs:=f.map byte) rfl 88 _ _ rfl a8.heap.size (by kernel_rfl) (by kernel_rfl) b7 (by rw [x];kernel_rfl) (by rw [x,AD]) (AF _) ?_;have g0:=Blk.setRow b7 (f.map byte);have m7:=Blk.setRow_other (g':=a8.heap.size) (cs:=(f.map byte).toArray) m3 (by have:=F.lt;omega);have f2:=Blk.setRow_other (g':=a8.heap.size) (cs:=(f.map byte).toArray) c0 (by have:=kR.lt;omega);have j2:=Blk.setRow_other (g':=a8.heap.size) (cs:=(f.map byte).toArray) d3 (by have:=k2.lt;omega);have j1:=Blk.setRow_other (g':=a8.heap.size) (cs:=(f.map byte).toArray) g5 (by have:=k4.lt;omega);have i2:=AN (g:=a8.heap.size) i9 a5 (f.map byte).toArray;refine c.out _ _ (d.out i2) (fun a=>?_);clear c K
      try dsimp only [put]
      refine QM (by kernel_rfl) ?_ _;go_wp2_with fail;go_meet
      case rel=>exact ⟨a8.heap.size,rfl,by have:=a5;omega,by have:=a5;have:=k2.lt;omega,by have:=a5;have:=k4.lt;omega,by rw [HN.out];exact g0,m7,f2,j2,j1,bW.trans (i2.mono bW.size)⟩
     ·go_simp;obtain ⟨z0,e9⟩:=uX (World.alloc a7 (.cells (AC 16 .u8).toArray 88));have a3:=uB e9;have d0:Blk z0 a7.heap.size 88 (AC 16 .u8):=by rw [e9];exact Blk.new _ _ _
      have a4:=c8.size;have y2:=d0.lt;have d6:=d4.below a3 d4.lt;have c5:=M.below a3 M.lt;have c7:=a1.below a3 a1.lt;have g7:=a0.below a3 a0.lt;have l6:=J.below a3 J.lt;have v0:=AB c8 a3;rw [<- e9];clear e9;refine c.out _ _ (d.out v0) (fun a=>?_);clear c K
      try dsimp only [put]
      refine rdy1 9 (fun K c=>?_);go_simp;refine (HU.out _ c7).mono ?_;rintro e B9 ⟨rfl,X⟩;have y6:=d6.below X d6.lt;have r5:=c5.below X c5.lt;have x1:=c7.below X c7.lt;have v8:=g7.below X g7.lt;have z6:=l6.below X l6.lt;have p1:=d0.below X d0.lt;have t3:=AB v0 X;go_wp2_with fail;refine c.out _ _ (d.out t3) (fun a=>?_);clear c K
      try dsimp only [put]
      refine rdy1 11 (fun K c=>?_);rw [if_pos (by rfl)];refine AR (cs:=f.map byte) rfl 88 _ _ rfl a7.heap.size (by kernel_rfl) (by kernel_rfl) p1 (by rw [x];kernel_rfl) (by rw [x,AD]) (AF _) ?_;have y0:=Blk.setRow p1 (f.map byte);have z2:=Blk.setRow_other (g':=a7.heap.size) (cs:=(f.map byte).toArray) y6 (by have:=F.lt;omega);have r2:=Blk.setRow_other (g':=a7.heap.size) (cs:=(f.map byte).toArray) r5 (by have:=kR.lt;omega);have x3:=Blk.setRow_other (g':=a7.heap.size) (cs:=(f.map byte).toArray) x1 (by have:=k2.lt;omega);have x2:=Blk.setRow_other (g':=a7.heap.size) (cs:=(f.map byte).toArray) v8 (by have:=k4.lt;omega);have t7:=AN (g:=a7.heap.size) t3 a4 (f.map byte).toArray;refine c.out _ _ (d.out t7) (fun a=>?_);clear c K
      try dsimp only [put]
      refine QM (by kernel_rfl) ?_ _;go_wp2_with fail;go_meet
      case rel=>exact ⟨a7.heap.size,rfl,by have:=a4;omega,by have:=a4;have:=k2.lt;omega,by have:=a4;have:=k4.lt;omega,by rw [HN.out];exact y0,z2,r2,x3,x2,bW.trans (t7.mono bW.size)⟩
    ·go_simp;obtain ⟨w0,c6⟩:=uX (World.alloc Y (.cells (AC 16 .u8).toArray 88));have H:=uB c6;have g6:Blk w0 Y.heap.size 88 (AC 16 .u8):=by rw [c6];exact Blk.new _ _ _
     have N:=d1.size;have v3:=g6.lt;have n8:=d5.below H d5.lt;have h1:=T.below H T.lt;have j4:=b1.below H b1.lt;have l0:=b0.below H b0.lt;have i3:=s.below H s.lt;have p2:=AB d1 H;rw [<- c6];clear c6;refine c.out _ _ (d.out p2) (fun a=>?_);clear c K
     try dsimp only [put]
     refine rdy1 8 (fun K c=>?_);go_simp;refine (DY 3 _ (AE b j) _ (.inr rfl) rfl e2).mono ?_;rintro e B2 ⟨rfl,y⟩;have o3:=n8.below y n8.lt;have h8:=h1.below y h1.lt;have e6:=j4.below y j4.lt;have j9:=l0.below y l0.lt;have g8:=i3.below y i3.lt;have l5:=g6.below y g6.lt;have n9:=AB p2 y;go_wp2_with fail;refine c.out _ _ (d.out n9) (fun a=>?_);clear c K
     try dsimp only [put]
     refine rdy1 9 (fun K c=>?_);go_simp;refine (HU.out _ e6).mono ?_;rintro e A0 ⟨rfl,z⟩;have v7:=o3.below z o3.lt;have n3:=h8.below z h8.lt;have r4:=e6.below z e6.lt;have r6:=j9.below z j9.lt;have z4:=g8.below z g8.lt;have l7:=l5.below z l5.lt;have n7:=AB n9 z;go_wp2_with fail;refine c.out _ _ (d.out n7) (fun a=>?_);clear c K
     try dsimp only [put]
     refine rdy1 11 (fun K c=>?_);rw [if_pos (by rfl)];refine AR (cs:=f.map byte) rfl 88 _ _ rfl Y.heap.size (by kernel_rfl) (by kernel_rfl) l7 (by rw [x];kernel_rfl) (by rw [x,AD]) (AF _) ?_;have r9:=Blk.setRow l7 (f.map byte);have w2:=Blk.setRow_other (g':=Y.heap.size) (cs:=(f.map byte).toArray) v7 (by have:=F.lt;omega);have p9:=Blk.setRow_other (g':=Y.heap.size) (cs:=(f.map byte).toArray) n3 (by have:=kR.lt;omega);have s7:=Blk.setRow_other (g':=Y.heap.size) (cs:=(f.map byte).toArray) r4 (by have:=k2.lt;omega);have t0:=Blk.setRow_other (g':=Y.heap.size) (cs:=(f.map byte).toArray) r6 (by have:=k4.lt;omega);have o6:=AN (g:=Y.heap.size) n7 N (f.map byte).toArray;refine c.out _ _ (d.out o6) (fun a=>?_);clear c K
     try dsimp only [put]
     refine QM (by kernel_rfl) ?_ _;go_wp2_with fail;go_meet
     case rel=>exact ⟨Y.heap.size,rfl,by have:=N;omega,by have:=N;have:=k2.lt;omega,by have:=N;have:=k4.lt;omega,by rw [HN.out];exact r9,w2,p9,s7,t0,bW.trans (o6.mono bW.size)⟩
   ·go_simp;obtain ⟨w8,c3⟩:=uX (World.alloc a9 (.cells (AC 16 .u8).toArray 88));have G:=uB c3;have f6:Blk w8 a9.heap.size 88 (AC 16 .u8):=by rw [c3];exact Blk.new _ _ _
    have L:=l3.size;have v5:=f6.lt;have q5:=m4.below G m4.lt;have i7:=c2.below G c2.lt;have l1:=f5.below G f5.lt;have j5:=e7.below G e7.lt;have c9:=a6.below G a6.lt;have o0:=AB l3 G;rw [<- c3];clear c3;refine c.out _ _ (d.out o0) (fun a=>?_);clear c K
    try dsimp only [put]
    refine rdy1 7 (fun K c=>?_);go_simp;refine (Bt b j _ _ _ _ hb a2 c9).mono ?_;rintro e B0 ⟨rfl,B⟩;have p5:=q5.below B q5.lt;have i8:=i7.below B i7.lt;have m5:=l1.below B l1.lt;have m1:=j5.below B j5.lt;have h7:=c9.below B c9.lt;have j8:=f6.below B f6.lt;have m8:=AB o0 B;go_wp2_with fail;refine c.out _ _ (d.out m8) (fun a=>?_);clear c K
    try dsimp only [put]
    refine rdy1 8 (fun K c=>?_);go_simp;refine (DY 3 _ (AE b j) _ (.inr rfl) rfl e2).mono ?_;rintro e A2 ⟨rfl,t⟩;have q1:=p5.below t p5.lt;have h9:=i8.below t i8.lt;have f0:=m5.below t m5.lt;have l9:=m1.below t m1.lt;have i1:=h7.below t h7.lt;have k6:=j8.below t j8.lt;have p8:=AB m8 t;go_wp2_with fail;refine c.out _ _ (d.out p8) (fun a=>?_);clear c K
    try dsimp only [put]
    refine rdy1 9 (fun K c=>?_);go_simp;refine (HU.out _ f0).mono ?_;rintro e z8 ⟨rfl,A⟩;have x0:=q1.below A q1.lt;have o4:=h9.below A h9.lt;have s4:=f0.below A f0.lt;have s6:=l9.below A l9.lt;have z5:=i1.below A i1.lt;have k3:=k6.below A k6.lt;have o7:=AB p8 A;go_wp2_with fail;refine c.out _ _ (d.out o7) (fun a=>?_);clear c K
    try dsimp only [put]
    refine rdy1 11 (fun K c=>?_);rw [if_pos (by rfl)];refine AR (cs:=f.map byte) rfl 88 _ _ rfl a9.heap.size (by kernel_rfl) (by kernel_rfl) k3 (by rw [x];kernel_rfl) (by rw [x,AD]) (AF _) ?_;have r8:=Blk.setRow k3 (f.map byte);have w5:=Blk.setRow_other (g':=a9.heap.size) (cs:=(f.map byte).toArray) x0 (by have:=F.lt;omega);have p4:=Blk.setRow_other (g':=a9.heap.size) (cs:=(f.map byte).toArray) o4 (by have:=kR.lt;omega);have s2:=Blk.setRow_other (g':=a9.heap.size) (cs:=(f.map byte).toArray) s4 (by have:=k2.lt;omega);have r7:=Blk.setRow_other (g':=a9.heap.size) (cs:=(f.map byte).toArray) s6 (by have:=k4.lt;omega);have q6:=AN (g:=a9.heap.size) o7 L (f.map byte).toArray;refine c.out _ _ (d.out q6) (fun a=>?_);clear c K
    try dsimp only [put]
    refine QM (by kernel_rfl) ?_ _;go_wp2_with fail;go_meet
    case rel=>exact ⟨a9.heap.size,rfl,by have:=L;omega,by have:=L;have:=k2.lt;omega,by have:=L;have:=k4.lt;omega,by rw [HN.out];exact r8,w5,p4,s2,r7,bW.trans (q6.mono bW.size)⟩
  ·go_simp;obtain ⟨j0,c4⟩:=uX (World.alloc V (.cells (AC 16 .u8).toArray 88));have Z:=uB c4;have f3:Blk j0 V.heap.size 88 (AC 16 .u8):=by rw [c4];exact Blk.new _ _ _
   have O:=b8.size;have w6:=f3.lt;have o9:=vC.below Z vC.lt;have i6:=vR.below Z vR.lt;have k7:=v2.below Z v2.lt;have j6:=v4.below Z v4.lt;have j3:=AB b8 Z;rw [<- c4];clear c4;refine c.out _ _ (d.out j3) (fun a=>?_);clear c K
   try dsimp only [put]
   refine rdy1 6 (fun K c=>?_);rw [if_pos (by rfl)]
   try dsimp only [Act.put,List.getElem_toArray,List.getElem_cons_zero,List.getElem_cons_succ]
   try simp only [List.setIfInBounds_toArray,List.set_cons_succ,qw]
   refine Bi (some 13) rfl 148 _ _ rfl 88 16 _ (b.map byte) (j.map byte) (by kernel_rfl) (by kernel_rfl) underlying148 Tryz.z16 m9 e5 (by omega) (by omega) ?_
   try dsimp only [put]
   obtain ⟨v9,c1⟩:=uX (World.alloc j0 (.cells (b.map byte ++ j.map byte).toArray 88));have I:=uB c1;have b6:Blk v9 j0.heap.size 88 (b.map byte ++ j.map byte):=by rw [c1];exact Blk.new _ _ _
   have v1:=j3.size;have t2:=b6.lt;have p7:=o9.below I o9.lt;have h5:=i6.below I i6.lt;have k8:=k7.below I k7.lt;have k0:=j6.below I j6.lt;have l8:=f3.below I f3.lt;have q9:=AB j3 I;rw [<- c1];clear c1;refine c.out _ _ (d.out q9) (fun a=>?_);clear c K
   try dsimp only [put]
   refine rdy1 7 (fun K c=>?_);go_simp;refine (Bt b j _ _ _ _ hb a2 b6).mono ?_;rintro e A3 ⟨rfl,C⟩;have m6:=p7.below C p7.lt;have h6:=h5.below C h5.lt;have m2:=k8.below C k8.lt;have k9:=k0.below C k0.lt;have m0:=l8.below C l8.lt;have i0:=b6.below C b6.lt;have o5:=AB q9 C;go_wp2_with fail;refine c.out _ _ (d.out o5) (fun a=>?_);clear c K
   try dsimp only [put]
   refine rdy1 8 (fun K c=>?_);go_simp;refine (DY 3 _ (AE b j) _ (.inr rfl) rfl e2).mono ?_;rintro e A1 ⟨rfl,u⟩;have n4:=m6.below u m6.lt;have i5:=h6.below u h6.lt;have f4:=m2.below u m2.lt;have k5:=k9.below u k9.lt;have j7:=m0.below u m0.lt;have h3:=i0.below u i0.lt;have o1:=AB o5 u;go_wp2_with fail;refine c.out _ _ (d.out o1) (fun a=>?_);clear c K
   try dsimp only [put]
   refine rdy1 9 (fun K c=>?_);go_simp;refine (HU.out _ f4).mono ?_;rintro e z9 ⟨rfl,D⟩;have x4:=n4.below D n4.lt;have q7:=i5.below D i5.lt;have s3:=f4.below D f4.lt;have r3:=k5.below D k5.lt;have k1:=j7.below D j7.lt;have z1:=h3.below D h3.lt;have p6:=AB o1 D;go_wp2_with fail;refine c.out _ _ (d.out p6) (fun a=>?_);clear c K
   try dsimp only [put]
   refine rdy1 11 (fun K c=>?_);rw [if_pos (by rfl)];refine AR (cs:=f.map byte) rfl 88 _ _ rfl V.heap.size (by kernel_rfl) (by kernel_rfl) k1 (by rw [x];kernel_rfl) (by rw [x,AD]) (AF _) ?_;have s8:=Blk.setRow k1 (f.map byte);have x6:=Blk.setRow_other (g':=V.heap.size) (cs:=(f.map byte).toArray) x4 (by have:=F.lt;omega);have n1:=Blk.setRow_other (g':=V.heap.size) (cs:=(f.map byte).toArray) q7 (by have:=kR.lt;omega);have s1:=Blk.setRow_other (g':=V.heap.size) (cs:=(f.map byte).toArray) s3 (by have:=k2.lt;omega);have s5:=Blk.setRow_other (g':=V.heap.size) (cs:=(f.map byte).toArray) r3 (by have:=k4.lt;omega);have q8:=AN (g:=V.heap.size) p6 O (f.map byte).toArray;refine c.out _ _ (d.out q8) (fun a=>?_);clear c K
   try dsimp only [put]
   refine QM (by kernel_rfl) ?_ _;go_wp2_with fail;go_meet
   case rel=>exact ⟨V.heap.size,rfl,by have:=O;omega,by have:=O;have:=k2.lt;omega,by have:=O;have:=k4.lt;omega,by rw [HN.out];exact s8,x6,n1,s1,s5,bW.trans (q8.mono bW.size)⟩
 case rest =>
  obtain ⟨St,rfl,B1,B7,D0,q4,q0,q2,t5,t9,qb⟩:=hcut;clear C0 C1 C2 T2 T4 bW zW;go_wp2_with fail
  go_loopw [6] (fun i wr=>∃ k:Nat,k <= 9 /\ i = .int .i64 ((9 - k:Nat):Int) /\ Blk wr St 88 ((DM (AQ key) b k).map byte) /\ Blk wr w.heap.size 93 CC /\ Blk wr (w.heap.size + 1 + 1) 88 (AC 16 .u8) /\ Blk wr R 240 (invTab.map byte) /\ Blk wr S4 247 (A6 Bc) /\ Bl w wr) (fun i _=>(intOf i).toNat)
  case atStart=>exact ⟨0,by omega,rfl,q4,q0,q2,t5,t9,qb⟩
  case round =>
   clear q4 q0 q2 t5 t9 qb;obtain ⟨k,C3,rfl,kS,F,kR,k2,k4,f1⟩:=hrel;have b9:=D7 (AQ key) b k;have zb:=f1.size
   by_cases hlt:k < 9
   ·obtain ⟨r,hr,p3⟩:∃ r:Nat,9 - k = r /\ Hid (r = 9 - k):=⟨_,rfl,rfl⟩;rw [hr];have D1:(0:Int) < (r:Int):=by omega
    have D2:(r:Int) < 11:=by omega
    have x7:r < 11:=by omega
    obtain ⟨R1,B5,t6⟩:∃ q:Nat,IntKind.i64.wrap ((r:Int) - 1) = (q:Int) /\ Hid (q = r - 1):=⟨r - 1,by rw [QH];omega,rfl⟩;have a2:=o8.out r;have e1:=AK (fun (E:World) (h:Blk E w.heap.size 93 CC)=>HR.out E h r x7);have HN:Hid (DM (AQ key) b (k + 1) = (AX 3 (Al Bc (AE (DM (AQ key) b k) (AQ key r)))).map BP):=AK (by rw [p3.out];rfl);obtain ⟨P,hP⟩:=uX (DM (AQ key) b k);obtain ⟨j,i4⟩:=uX (AQ key r);rw [<- hP] at kS b9 HN;rw [<- i4] at a2 e1 HN;clear hP i4 hr;have e4:(P.map byte).length = 16:=by rw [QD,b9]
    have e5:(j.map byte).length = 16:=by rw [QD,a2]
    have e2:=C6 P j b9 a2;have HU:=AK (fun (E:World) (h:Blk E R 240 (invTab.map byte))=>Jz (AX 3 (Al Bc (AE P j))) R E (A4 _ _) h);have x:(((AX 3 (Al Bc (AE P j))).map BP).map byte).length = 16:=by rw [QD,QD,A4]
    obtain ⟨f,h0⟩:=uX ((AX 3 (Al Bc (AE P j))).map BP);rw [<- h0] at HU HN x;clear h0;have d:Hid (∀ {w'},Bl wr w' -> w'.cell? ⟨w.heap.size,177,none⟩ = some (.func (.func 167) #[] #[.pointer (some ⟨R,0,none⟩)]) /\ w'.cell? ⟨w.heap.size,179,none⟩ = some (.func (.func 168) #[] #[.pointer (some ⟨S4,0,none⟩)]) /\ w'.rangeAt w.heap.size (r * 16) (j.map byte)):=fun h=>⟨(HF.out _ (F.below h F.lt)).2.1,(HF.out _ (F.below h F.lt)).2.2.2,e1.out _ (F.below h F.lt)⟩;go_upto_region 5 with fail;refine QJ (S:=fun w'=>w'.cell? ⟨w.heap.size,177,none⟩ = some (.func (.func 167) #[] #[.pointer (some ⟨R,0,none⟩)]) /\ w'.cell? ⟨w.heap.size,179,none⟩ = some (.func (.func 168) #[] #[.pointer (some ⟨S4,0,none⟩)]) /\ w'.rangeAt w.heap.size (r * 16) (j.map byte)) (by kernel_rfl) (d.out (Below.refl _ _).drew) (fun a=>?_);refine tA 0 (.pointer (some ⟨w.heap.size,177,none⟩)) a ?_;simp only [put,pS];refine tC 1 (.func (.func 167) #[] #[.pointer (some ⟨R,0,none⟩)]) rfl (fun w1 h=>by have hc:=h.1;go_simp) a ?_;simp only [put,pS];refine tA 2 (.pointer (some ⟨w.heap.size,179,none⟩)) a ?_;simp only [put,pS];refine tC 3 (.func (.func 168) #[] #[.pointer (some ⟨S4,0,none⟩)]) rfl (fun w1 h=>by have hc:=h.2.1;go_simp) a ?_;simp only [put,pS];refine tA 5 (.int .i64 r) a ?_;simp only [put,pS];refine tA 6 (.pointer (some ⟨w.heap.size,0,none⟩)) a ?_;simp only [put,pS];refine tA 7 (.pointer (some ⟨w.heap.size,r * 16,none⟩)) a ?_;simp only [put,pS];refine tB 8 (.agg (j.map byte).toArray) rfl (QY (by rfl) 88 _ rfl w.heap.size (r * 16) rfl (j.map byte) _ (fun _ h=>h.2.2) underlying88 rfl (by rw [e5];kernel_rfl)) a ?_;simp only [put,pS];refine rdy1 4 (fun K c=>?_);rw [if_pos (by rfl)]
    try dsimp only [Act.put,List.getElem_toArray,List.getElem_cons_zero,List.getElem_cons_succ]
    try simp only [List.setIfInBounds_toArray,List.set_cons_succ,qw]
    have r1:=Ad kS.drew1;refine Dj (some 25) rfl 88 _ rfl St 0 (by kernel_rfl) (P.map byte) _ r1 underlying88 rfl (by rw [e4];kernel_rfl) ?_;refine c.out _ _ (d.out (Below.refl wr.heap.size wr).drew) (fun a=>?_);clear c K
    try dsimp only [put]
    refine rdy1 9 (fun K c=>?_);rw [if_pos (by rfl)]
    try dsimp only [Act.put,List.getElem_toArray,List.getElem_cons_zero,List.getElem_cons_succ]
    try simp only [List.setIfInBounds_toArray,List.set_cons_succ,qw]
    refine Bi (some 30) rfl 148 _ _ rfl 88 16 _ (P.map byte) (j.map byte) (by kernel_rfl) (by kernel_rfl) underlying148 Tryz.z16 e4 e5 (by omega) (by omega) ?_
    try dsimp only [put]
    obtain ⟨Y,f8⟩:=uX (World.alloc wr.drew (.cells (P.map byte ++ j.map byte).toArray 88));have o:Below wr.drew.heap.size wr.drew Y:=by rw [f8];exact At _ _
    have s:Blk Y wr.drew.heap.size 88 (P.map byte ++ j.map byte):=by rw [f8];exact Blk.new _ _ _
    have w7:=(Below.refl wr.heap.size wr).drew.size;have x9:=s.lt;have d5:=F.drew1.below o F.drew1.lt;have T:=kR.drew1.below o kR.drew1.lt;have b1:=k2.drew1.below o k2.drew1.lt;have b0:=k4.drew1.below o k4.drew1.lt;have n0:=kS.drew1.below o kS.drew1.lt;have d1:=AB (Below.refl wr.heap.size wr).drew o;rw [<- f8];clear f8;refine c.out _ _ (d.out d1) (fun a=>?_);clear c K
    try dsimp only [put]
    refine rdy1 10 (fun K c=>?_);go_simp;refine (Bt P j _ _ _ _ b9 a2 s).mono ?_;rintro e a7 ⟨rfl,l⟩;have d4:=d5.below l d5.lt;have M:=T.below l T.lt;have a1:=b1.below l b1.lt;have a0:=b0.below l b0.lt;have n5:=n0.below l n0.lt;have J:=s.below l s.lt;have c8:=AB d1 l;go_wp2_with fail;refine c.out _ _ (d.out c8) (fun a=>?_);clear c K
    try dsimp only [put]
    refine rdy1 11 (fun K c=>?_);go_simp;refine (OZ Bc (AE P j) S4 _ Wr e2 a0).mono ?_;rintro e a8 ⟨rfl,m⟩;have g9:=d4.below m d4.lt;have b2:=M.below m M.lt;have d2:=a1.below m a1.lt;have e0:=a0.below m a0.lt;have p0:=n5.below m n5.lt;have b5:=J.below m J.lt;have e3:=AB c8 m;go_wp2_with fail;refine c.out _ _ (d.out e3) (fun a=>?_);clear c K
    try dsimp only [put]
    refine rdy1 12 (fun K c=>?_);go_simp;refine (DY 3 _ (Al Bc (AE P j)) _ (.inr rfl) rfl (Ct _ _)).mono ?_;rintro e t4 ⟨rfl,n⟩;have m3:=g9.below n g9.lt;have c0:=b2.below n b2.lt;have d3:=d2.below n d2.lt;have g5:=e0.below n e0.lt;have b7:=p0.below n p0.lt;have f9:=b5.below n b5.lt;have i9:=AB e3 n;go_wp2_with fail;refine c.out _ _ (d.out i9) (fun a=>?_);clear c K
    try dsimp only [put]
    refine rdy1 13 (fun K c=>?_);go_simp;refine (HU.out _ d3).mono ?_;rintro e y7 ⟨rfl,U⟩;have m7:=m3.below U m3.lt;have f2:=c0.below U c0.lt;have j2:=d3.below U d3.lt;have j1:=g5.below U g5.lt;have g0:=b7.below U b7.lt;have z7:=f9.below U f9.lt;have i2:=AB i9 U;go_wp2_with fail;refine c.out _ _ (d.out i2) (fun a=>?_);clear c K
    try dsimp only [put]
    refine rdy1 14 (fun K c=>?_);rw [if_pos (by rfl)];refine AR (cs:=f.map byte) rfl 88 _ _ rfl St (by kernel_rfl) (by kernel_rfl) g0 (by rw [x];kernel_rfl) (by rw [x,e4]) (AF _) ?_;have d0:=Blk.setRow g0 (f.map byte);have d6:=Blk.setRow_other (g':=St) (cs:=(f.map byte).toArray) m7 (by omega);have c5:=Blk.setRow_other (g':=St) (cs:=(f.map byte).toArray) f2 (by omega);have c7:=Blk.setRow_other (g':=St) (cs:=(f.map byte).toArray) j2 (by omega);have g7:=Blk.setRow_other (g':=St) (cs:=(f.map byte).toArray) j1 (by omega);have x5:=AN (g:=St) (f1.trans (i2.mono f1.size)) (by omega) (f.map byte).toArray;refine c.out _ _ ⟨(HF.out _ d6).2.1,(HF.out _ d6).2.2.2,e1.out _ d6⟩ (fun a=>?_);clear c K
    try dsimp only [put]
    refine QM (by kernel_rfl) ?_ _;have y1:Blk (World.setRow y7 St (f.map byte).toArray) St 88 ((DM (AQ key) b (k + 1)).map byte):=by rw [HN.out];exact d0
    clear a;go_wp2;go_roundw
    case rel=>exact ⟨k + 1,by omega,by have:=p3.out;have:=t6.out;go_num,y1,d6,c5,c7,g7,x5⟩
    case measure=>have:=p3.out;have:=t6.out;simp [intOf];omega
   ·obtain rfl:k = 9:=by omega
    have n6:=o8.out 0;have o2:((AQ key 0).map byte).length = 16:=by rw [QD,n6]
    have r0:=HR.out wr F 0 (by omega);have HN:Hid (Is (AQ key) b = AE (DM (AQ key) b 9) (AQ key 0)):=AK rfl;obtain ⟨P,hP⟩:=uX (DM (AQ key) b 9);rw [<- hP] at kS b9 HN;clear hP;have e4:(P.map byte).length = 16:=by rw [QD,b9]
    have y8:=C6 P (AQ key 0) b9 n6;have q3:((AE P (AQ key 0)).map byte).length = 16:=by rw [QD,y8]
    have n2:Blk (wr.alloc (.cells (P.map byte ++ (AQ key 0).map byte).toArray 88)) wr.heap.size 88 (P.map byte ++ (AQ key 0).map byte):=Blk.new wr _ _;go_wp2_with (first
     | (refine AL rfl 88 _ rfl _ rfl kS underlying88 rfl (by rw [e4];kernel_rfl) ?_)
     | (refine Qw rfl 88 _ rfl w.heap.size 0 rfl ((AQ key 0).map byte) _ r0 underlying88 rfl (by rw [o2];kernel_rfl) ?_)
     | (refine LZ rfl 148 _ _ rfl 88 16 _ (P.map byte) ((AQ key 0).map byte) rfl rfl underlying148 Tryz.z16 e4 o2 (by omega) (by omega) ?_)
     | (go_at_call 32;refine (Bt P (AQ key 0) _ _ _ _ b9 n6 n2).mono ?_;rintro e w3 ⟨rfl,x8⟩;have b3:Bl wr w3:=((AB (At wr _) x8));have z3:=kR.below b3 kR.lt)
     | (refine store_blk rfl 88 _ _ rfl _ rfl rfl z3 (by rw [q3];kernel_rfl) (by rw [AD,q3]) (AF _) ?_;intro w4 y5 y4 C5))
    have qf:=(f1.trans (b3.mono zb)).grown y4 (by have:=b3.size;omega) (by intro k hk;cases hk;omega)
    exact Qc (v:=.agg ((AE P (AQ key 0)).map byte).toArray) (AG results156 _ _ rfl y5 underlying88 rfl (by rw [q3];kernel_rfl)) rfl ⟨by rw [HN.out],qf⟩
def Do (key a:LU) (b:Bool):LU:=if b then Is (AQ key) a else CW (AQ key) a
theorem Ds (key a:LU) (b:Bool) (c:key.length = 16):(Do key a b).length = 16:=by
 unfold Do;cases b
 ·exact FJ _ _ (BI key c)
 ·exact LQ _ _ (BI key c)
theorem Ta (key a:LU) (b:Bool) (c f d g:Nat) (w:World) (j:key.length = 16) (i:a.length = 16) (m:Blk w c 240 (AT.map byte)) (l:Blk w f 240 (invTab.map byte)) (k:Blk w d 247 (A6 Bn)) (n:Blk w g 247 (A6 Bc)) :
 Calls prog (if b then 156 else 34) #[.agg (aesCells ((keysUpto key 11).map byte) c f d g).toArray,.agg (a.map byte).toArray] w fun e w'=>e = .returned (.agg ((Do key a b).map byte).toArray) /\ Bl w w':=by
 cases b
 ·exact LV key a c f d g w j i m k
 ·exact SG key a c f d g w j i l n
end Go.Proofs.YtbkokcjolanpeaaGreatDoor
