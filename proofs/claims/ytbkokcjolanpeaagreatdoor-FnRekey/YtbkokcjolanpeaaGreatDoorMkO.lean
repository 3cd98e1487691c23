import Derived.Test.YtbkokcjolanpeaaGreatDoorMkN
set_option maxRecDepth 100000
set_option maxHeartbeats 20000000
namespace Go.Proofs.YtbkokcjolanpeaaGreatDoor
open Go.RowKit Go.Proofs.Tryz Act
theorem SH (j:Option Addr) (c:Nat) (w:World) :
 Calls prog 37 #[.slice j 0 c] w fun e w'=>∃ v,e = .returned v /\ AO w' w.heap.size v [] /\ Bl w w':=by
 obtain ⟨l,k,f,i,g⟩:=Qg Tryz.info5;go_enter func37,ntmps37;go_wp2_with (first
  | (at_make;refine Qv _ rfl _ _ 22 rfl w.heap.size 5 l (.int .u8 0) 1 underlying22 k f i .i64 .i64 _ _ 0 rfl rfl rfl rfl (by rw [g];omega) (by unfold maxLen;omega) (QE _) ?_;intro m a b;have d:=Ac b)
  | (refine wpList_copy_nothing rfl _ _ 22 22 rfl 5 underlying22 (by kernel_rfl) _ _ 0 0 0 c rfl rfl rfl ?_))
 go_ret;rw [show (madeCells (Value.int .u8 0).cells (0 * 1)).toList = [] from by kernel_rfl] at a;exact ⟨_,rfl,a,d⟩
theorem Ew (data:LU) (b:Option Addr) (a:Nat) (w:World) (f:data.length <= 1048576) (g:RowAt w b data) :
 Calls prog 37 #[.slice b data.length a] w fun e w'=>∃ v,e = .returned v /\ AO w' w.heap.size v data /\ Bl w w':=by
 by_cases h0:0 < data.length
 ·refine (EF b a data w f h0 g).mono ?_;rintro e w' ⟨rfl,d,c⟩;exact ⟨_,rfl,d,c⟩
 ·obtain rfl:data = []:=List.length_eq_zero_iff.1 (by omega);exact SH b a w
theorem dI:(madeCells (Value.int .u8 0).cells (16 * 1)).toList = (AJ 16).map byte:=by rw [Cl];simp [AJ,byte]
theorem UB {data:LU} (h:Bj data):Cw data = data:=by unfold Cw;rw [if_pos h]
theorem VL {data:LU} (K:LU) (h:Bj data):Ez data K = K:=by unfold Ez;rw [if_pos h]
theorem Yw {data:LU} (h:¬ Bj data):Cw data = data ++ [128] ++ AJ (15 - data.length % 16):=by unfold Cw;rw [if_neg h]
theorem YG {data:LU} (K:LU) (h:¬ Bj data):Ez data K = Au K:=by unfold Ez;rw [if_neg h]
theorem M1 (n:Nat):(AJ n).length = n:=by simp [AJ]
theorem VI (f:LU -> LU) (b:∀ x,(f x).length = 16) (a:LU) (k:Nat):(chQ f a k).length = 16:=by
 cases k with
 | zero=>exact Ex
 | succ k=>exact b _
theorem Ir {b:World} {base n:Nat} {a:Value} {l x:LU} (d:l.length = n) (c:x.length = 16) (h:b.ownsRow base 5 1 a (n + 16) (l.map byte ++ x.map byte)):AO b base a (l ++ x):=by
 unfold AO;rw [QC,d,c,Qf];exact h
theorem Ik (key data:LU) (ak ao:Option Addr) (ck k1:Nat) (w:World) (W:key.length = 16) (hn:data.length <= 4096) (rk:RowAt w ak key) (rd:RowAt w ao data) :
 Calls prog 145 #[.slice ak 16 ck,.slice ao data.length k1] w fun e w'=>∃ v,e = .returned v /\ AO w' w.heap.size v (Bf key data) /\ Bl w w':=by
 obtain ⟨i0,hi,b9,a8,a7⟩:=Qg Tryz.info5;have j6:=dI;have HA:=AK (fun (x:LU) (g c:Nat) (o:World) (hx:x.length = 16) (h1:RowAt o ak key) (h2:RowAt o (some ⟨g,0,none⟩) x)=>OC key x ak g 0 ck c o W hx h1 h2);have h6:=AK (fun (o:World) (h:RowAt o ao data)=>Ew data ao k1 o (by omega) h);have e9:∀ x,(CW (AQ key) x).length = 16:=fun x=>FJ _ x (BI key W);obtain ⟨N,hN⟩:=uX (data.length);have HN:=AK hN;have L:=AK (ZX key data);rw [<- hN] at hn h6 ⊢;have q5:¬ ((4096:Int) < (N:Int)):=by omega
 obtain ⟨f,hf⟩:=uX (CW (AQ key));have e5:=e9 (AJ 16);rw [<- hf] at HA e9 e5 L;obtain ⟨E0,h3⟩:=uX (f (AJ 16));rw [<- h3] at e5;have l5:=AK h3;have n7:=AK e9;clear hN h3 e9;go_enter func145,ntmps145;go_wp2_with (first | (at_make;refine Qv _ rfl _ _ 22 rfl w.heap.size 5 i0 (.int .u8 0) 1 underlying22 hi b9 a8 .i64 .i64 _ _ 16 rfl rfl rfl rfl (by rw [a7];omega) (by unfold maxLen;omega) (QE _) ?_;intro w0 a2 b7;have d2:=Ac b7) | fail)
 rw [j6] at a2;have kz:=Ai (C8 a2);refine (HA.out (AJ 16) _ _ w0 Ex (rk.below d2) kz).mono ?_;rintro e w1 ⟨v1,rfl,d4,E⟩;rw [<- l5.out] at d4;obtain ⟨g1,c1,q0,rfl,i3⟩:=BE d4 e5 (by omega);have b1:=AB d2 E;go_wp2_with fail;refine (Ln E0 _ _ w1 e5 i3).mono ?_;rintro e w2 ⟨v2,rfl,G,D⟩;have a6:=BN E0;obtain ⟨A,i6⟩:=uX (Au E0);rw [<- i6] at G a6;obtain ⟨g2,c2,o7,rfl,f9⟩:=BE G a6 (by omega);have b2:=AB b1 D;have j3:Hid (A = ND key):=AK (by rw [i6,l5.out,hf];rfl);clear a2 b7 d2 E d4 i3 D kz i6;go_wp2_with fail;refine (h6.out w2 (rd.below b2)).mono ?_;rintro e w3 ⟨v3,rfl,i8,h9⟩;have a3:=f9.below h9;have b3:=AB b2 h9;have own3':=i8.mono b2.size;clear f9 G i8;have n0:=b3.size;have p:data.length = N:=HN.out.symm;have OD:=AK own3';obtain ⟨m7,c3,l7,-,-,-,-⟩:=own3'.own.shape;rw [p] at l7;subst l7;clear own3';obtain ⟨B,hB⟩:∃ B:Bool,B = !decide (Bj data):=⟨_,rfl⟩;have HB:=AK hB;clear hB;go_upto_region 6 with fail
 go_cut [34] (fun b o=>b = .bool B /\ o = w3)
 case first =>
  by_cases hN0:(N:Int) = 0
  ·go_wp2_with fail;go_meet
   case rel =>
    refine ⟨?_,rfl⟩;rw [HB.out];have:¬ Bj data:=by unfold Bj;rw [p];omega
    simp [this]
  ·by_cases hr0:Int.tmod (N:Int) 16 = 0
   ·go_wp2_with fail;go_meet
    case rel =>
     rw [Qk (by omega)] at hr0;refine ⟨?_,rfl⟩;rw [HB.out];have:Bj data:=by
      unfold Bj;rw [p];omega
     simp [this];omega
   ·go_wp2_with fail;go_meet
    case rel =>
     rw [Qk (by omega)] at hr0;refine ⟨?_,rfl⟩;rw [HB.out];have:¬ Bj data:=by
      unfold Bj;rw [p];omega
     simp [this];omega
 case rest =>
  obtain ⟨rfl,m4⟩:=hcut;subst m4;go_upto_if 34 with fail;go_cut [6,7] (fun f m o=>∃ gM cM,m = .slice (some ⟨gM,0,none⟩) 16 cM /\ RowAt o (some ⟨gM,0,none⟩) (Ez data A) /\ AO o w.heap.size f (Cw data) /\ Bl w o)
  case first =>
   cases hBv:B
   ·subst hBv;have hw:Bj data:=by simpa using HB.out
    go_wp2_with fail;go_meet
    case rel=>exact ⟨g2,c2,rfl,by rw [VL A hw];exact a3,by rw [UB hw];exact OD.out,b3⟩
   ·subst hBv;have hw:¬ Bj data:=by simpa using HB.out
    have h0:=YG A hw;have g7:=Yw hw;have k3:=BN A;obtain ⟨DK,l6⟩:=uX (Au A);have l1:=AK (fun (o:World) (h:RowAt o (some ⟨g2,0,none⟩) A)=>Ln A (some ⟨g2,0,none⟩) c2 o a6 h);rw [<- l6] at k3 h0 l1;have m1:=AK h0;rw [p] at g7;have n3:=AK g7;have hw':¬ (N % 16 = 0 /\ 0 < N):=by rw [<- p];exact hw
    obtain ⟨T,HT,o2,m5,q1⟩:∃ T,Hid (T = N + 1 + (15 - N % 16)) /\ T % 16 = 0 /\ N + 1 <= T /\ T < N + 17:=⟨N + 1 + (15 - N % 16),rfl,by omega,by omega,by omega⟩;clear hw h0 g7 l6 hw';go_wp2_with fail;refine (l1.out _ a3).mono ?_;rintro e w4 ⟨v4,rfl,d0,c7⟩;have b4:=AB b3 c7;obtain ⟨g4,c4,p4,rfl,c5⟩:=BE d0 k3 (by omega);have n2:wc.heap.size <= g4:=d0.low g4 rfl;have hg4':g4 < w4.heap.size:=c5.blk (by omega);have d3:∀ k,(Value.slice m7 N c3).ownBlock = some k -> k < wc.heap.size:=fun k W=>((By OD.out p).lt k W).2;have a4:=By (OD.out.below c7) p;have k2:=b4.size;clear d0;go_wp2_with (at_builtin;refine Qq _ rfl _ _ 22 rfl w.heap.size 5 i0 (.int .u8 0) 1 1 underlying22 hi b9 a8 a7 rfl (by decide) _ _ _ rfl (a4.alloc _) ⟨w4.heap.size,0,none⟩ 1 1 [.int .u8 128] rfl rfl (qy _ _ _) (by intro u hu;simp at hu;subst hu;rfl) (by unfold maxLen;omega) (by omega) (by simp;omega) ?_;intro v5 w5 e3 t j1 g9)
    have R5:AO w5 w.heap.size v5 (data ++ [128] ++ AJ 0):=by
     unfold AO;rw [show AJ 0 = [] from rfl,qM,QC,p,Qf];exact e3
    have B5:=(b4.alloc k2 _).grown t (by simp;omega) (fun k W=>(a4.lt k W).1);have h5:RowAt w5 (some ⟨g4,0,none⟩) DK:=RowAt.grown (c5.below (At _ _)) t (by intro a ha hc;cases ha;have:=d3 g4 hc;omega)
    have l3:v5.ownBlock ≠ some g4:=by
     rcases g9 with h | h
     ·intro hc;rw [hc] at h;have:=d3 g4 h.symm;omega
     ·intro hc;rw [hc] at h;simp at h;omega
    have l0:g4 < w5.heap.size:=by have:=t.size;simp at this;omega
    clear e3 t j1 g9 a4 c5 c7 b4 k2 d3 a3 n2 hg4'
    go_loopw [6] (fun v wr=>∃ j:Nat,N + 1 + j <= T /\ AO wr w.heap.size v (data ++ [128] ++ AJ j) /\ v.ownBlock ≠ some g4 /\ g4 < wr.heap.size /\ RowAt wr (some ⟨g4,0,none⟩) DK /\ Bl w wr) (fun v _=>match v with | .slice _ l _=>T - l | _=>0)
    case atStart=>exact ⟨0,m5,R5,l3,l0,h5,B5⟩
    case round =>
     clear R5 B5 h5 l3 l0;obtain ⟨j,hj,r,f6,m9,a5,s⟩:=hrel;have a9:(data ++ [128] ++ AJ j).length = N + 1 + j:=by rw [QC,QC,M1,p];rfl
     obtain ⟨k5,c6,k4,-,-,-,-⟩:=r.own.shape;rw [a9] at k4;subst k4;obtain ⟨q,hq⟩:=uX (N + 1 + j);have HQ:=AK hq;have hown':wr.ownsRow w.heap.size 5 1 (.slice k5 q c6) q ((data ++ [128] ++ AJ j).map byte):=by rw [hq];exact By r a9
     have m3:Hid (AO wr w.heap.size (.slice k5 q c6) (data ++ [128] ++ AJ j)):=by rw [hq];exact r
     rw [<- hq] at hj f6 ⊢;have o9:N + 1 <= q:=by omega
     clear hq r a9;have f7:=s.size
     by_cases hdone:q = T
     ·have n5:Int.tmod (q:Int) 16 = 0:=by rw [Qk (by omega)];omega
      have m0:(q:Int) % 16 = 0:=by omega
      clear hown';go_wp2_with fail;go_meet
      case rel=>exact ⟨g4,c4,rfl,by rw [m1.out];exact a5,by rw [n3.out,show 15 - N % 16 = j from by have:=HQ.out;have:=HT.out;omega];exact m3.out,s⟩
     ·have m0:((q:Int) % 16 != 0) = true:=by rw [qm];omega
      have n5:¬ Int.tmod (q:Int) 16 = 0:=by rw [Qk (by omega)];omega
      go_wp2_with (at_builtin;refine Qq _ rfl _ _ 22 rfl w.heap.size 5 i0 (.int .u8 0) 1 1 underlying22 hi b9 a8 a7 rfl (by decide) _ _ _ rfl (hown'.alloc _) ⟨wr.heap.size,0,none⟩ 1 1 [.int .u8 0] rfl rfl (qy _ _ _) (by intro u hu;simp at hu;subst hu;rfl) (by unfold maxLen;omega) (by omega) (by simp;omega) ?_;intro v7 w7 f0 z j2 i7)
      have a9:(data ++ [128] ++ AJ j).length = q:=by have:=hown'.1;simpa using this
      have R1:AO w7 w.heap.size v7 (data ++ [128] ++ AJ (j + 1)):=by
       have e:data ++ [128] ++ AJ (j + 1) = (data ++ [128] ++ AJ j) ++ [0]:=by unfold AJ;rw [QV (data ++ [128]),List.replicate_succ']
       unfold AO;rw [e,QC,a9,Qf];exact f0
      have R2:=(s.alloc f7 _).grown z (by simp;omega) (fun k W=>(hown'.lt k W).1);have l9:RowAt w7 (some ⟨g4,0,none⟩) DK:=RowAt.grown (a5.below (At _ _)) z (by intro a ha hc;cases ha;exact f6 hc)
      have n6:v7.ownBlock ≠ some g4:=by
       rcases i7 with h | h
       ·rw [h];exact f6
       ·intro hc;rw [hc] at h;simp at h;omega
      have n4:g4 < w7.heap.size:=by have:=z.size;simp at this;omega
      have m2:∃ f1 c8,v7 = .slice f1 (q + 1) c8:=by
       obtain ⟨f1,c8,h,-⟩:=R1.own.shape;have m8:(data ++ [128] ++ AJ (j + 1)).length = q + 1:=by
        rw [QC,QC,M1,p,HQ.out]
        rfl
       rw [m8] at h;exact ⟨f1,c8,h⟩
      obtain ⟨f1,c8,rfl⟩:=m2;clear f0 z j2 i7 hown' s a5;go_roundw
      case rel=>exact ⟨j + 1,by have:=HQ.out;omega,R1,n6,n4,l9,R2⟩
      case measure=>simp;omega
  case rest =>
   obtain ⟨gM,cM,rfl,i4,oF,bC⟩:=hcut;clear a3 b3 n0 OD;have J:=Ft data;have j5:=Cu data;have i9:=Mj data;have d6:=IS data A a6;have H:=AK (show F3 data A = (Cw data).take (16 * ((AM data).length - 1)) ++ AE ((Cw data).drop (16 * ((AM data).length - 1))) (Ez data A) from rfl);have I:=Pl data A a6;rw [j3.out.symm] at L;obtain ⟨m,hm⟩:=uX ((AM data).length);rw [<- hm] at J j5 i9 H I L;have o1:m <= 257:=by rw [i9,p];split <;> omega
   obtain ⟨F,hF⟩:=uX (Cw data);obtain ⟨M,hM⟩:=uX (Ez data A);obtain ⟨C,j9⟩:=uX (F3 data A);rw [<- hF] at J H oF;rw [<- hM] at d6 H i4;rw [<- j9] at H I L;obtain ⟨n,g8⟩:=uX (16 * (m - 1));rw [<- g8] at H;obtain ⟨T,hT⟩:=uX (16 * m);rw [<- hT] at J I;have f5:=AK hT;have p9:(T:Int) - 16 = (n:Int):=by omega
   have o4:T - n = 16:=by omega
   have p6:n <= T:=by omega
   have q2:T <= 4112:=by omega
   have k7:0 < T:=by omega
   have e8:(F.take n).length = n:=by rw [QI];omega
   have d1:(F.drop n).length = 16:=by rw [QN];omega
   obtain ⟨y,cF,q8,rfl,h8⟩:=BE oF J k7;have o3:n <= cF:=by omega
   have p5:(n:Int) <= (cF:Int):=by omega
   have o5:(n:Int) <= (T:Int):=by omega
   have p2:¬ cF = n:=by omega
   have d5:=AK (fun (o:World) (h:RowAt o (some ⟨y,0,none⟩) (F.take n))=>Ew (F.take n) (some ⟨y,0,none⟩) cF o (by omega) h);rw [e8] at d5;have h7:=AK (fun (o:World) (h1:RowAt o (some ⟨y,n,none⟩) (F.drop n)) (h2:RowAt o (some ⟨gM,0,none⟩) M)=>Fo (F.drop n) M y n (cF - n) gM 0 cM o d1 d6 h1 h2);obtain ⟨X,hX⟩:=uX (AE (F.drop n) M);have k6:X.length = 16:=by rw [hX,AW _ _ (by omega)];exact d1
   rw [<- hX] at H h7;have l2:RowAt wc (some ⟨y,0,none⟩) (F.take n):=h8.take n;have j8:RowAt wc (some ⟨y,n,none⟩) (F.drop n):=by have h:=h8.drop n;rwa [QZ] at h
   clear oF h8 hm hF hM j9 hX g8 hT i9 j5 d6 h6 j3 HB HN p d1 J;go_upto_region 12 with fail
   obtain ⟨V,hV⟩:=uX (World.drew wc);have bV:Bl w V:=by rw [hV];exact bC.drew
   have Z:=bV.size;have rT:RowAt V (some ⟨y,0,none⟩) (F.take n):=by rw [hV];exact l2.drew1
   have rD:RowAt V (some ⟨y,n,none⟩) (F.drop n):=by rw [hV];exact j8.drew1
   have rM:RowAt V (some ⟨gM,0,none⟩) M:=by rw [hV];exact i4.drew1
   clear l2 j8 i4 bC;have f8:Bl V V:=Below.refl _ _;have h4:Hid (∀ {x},Bl V x -> RowAt x (some ⟨y,0,none⟩) (F.take n)):=fun h=>rT.below h;have rowD:Hid (∀ {x},Bl V x -> RowAt x (some ⟨y,n,none⟩) (F.drop n)):=fun h=>rD.below h;have g6:Hid (∀ {x},Bl V x -> RowAt x (some ⟨gM,0,none⟩) M):=fun h=>rM.below h;have U:Hid (∀ {B x},Below B V x -> True):=fun _=>trivial;clear rT rD rM;refine QJ (S:=fun _=>True) (by kernel_rfl) trivial (fun d=>?_);rw [<- hV];clear hV;refine tA 0 (.slice (some ⟨y,0,none⟩) T cF) d ?_;simp only [put,pS];refine tA 1 (.int .i64 (n:Int)) d ?_;simp only [put,pS];refine tA 2 (.slice (some ⟨y,0,none⟩) n cF) d ?_;simp only [put,pS];refine tA 4 (.slice (some ⟨y,0,none⟩) T cF) d ?_;simp only [put,pS];refine tA 5 (.int .i64 (n:Int)) d ?_;simp only [put,pS];refine tA 6 (.slice (some ⟨y,n,none⟩) 16 (cF - n)) d ?_;simp only [put,pS];refine tA 7 (.slice (some ⟨gM,0,none⟩) 16 cM) d ?_;simp only [put,pS];refine rdy1 3 (fun K R=>?_);go_simp;refine (d5.out _ (h4.out f8)).mono ?_;rintro e o0 ⟨q7,rfl,e7,e4⟩;have b5:=AB f8 e4;go_wp2_with fail;refine R.out _ _ (U.out b5) (fun d=>?_);clear R K
   try dsimp only [put]
   refine rdy1 8 (fun K R=>?_);go_simp;refine (h7.out _ (rowD.out b5) (g6.out b5)).mono ?_;rintro e q3 ⟨rfl,f4,a0⟩;have c9:=e7.below a0;have O:=AB b5 a0;have b8:=Ai f4;go_wp2_with fail;refine R.out _ _ (U.out O) (fun d=>?_);clear R K
   try dsimp only [put]
   refine rdy1 9 (fun K R=>?_);rw [if_pos (by rfl)];refine Pc (some 59) rfl _ _ 22 rfl w.heap.size 5 i0 (.int .u8 0) 1 1 underlying22 hi b9 a8 a7 rfl (by decide) _ n ((F.take n).map byte) rfl (By (c9.mono (QG Z (QE _))) e8) ⟨o0.heap.size,0,none⟩ 16 16 (X.map byte) rfl (by rw [QD,k6]) (ZI b8) (GU _) (by unfold maxLen;omega) (by omega) (QG Z O.size) ?_;intro m6 g0 f2 b6 j0;have bz:Bl w g0:=(bV.trans (O.mono Z)).grown b6 (QG Z O.size) (fun k W=>((By (c9.mono (QG Z (QE _))) e8).lt k W).1)
   try dsimp only [put]
   refine R.out _ _ (U.out O) (fun d=>?_);clear R K
   try dsimp only [put]
   refine rdy1 10 (fun K R=>?_);go_simp;refine R.out _ _ (U.out O) (fun d=>?_);clear R K
   try dsimp only [put]
   refine QM (by kernel_rfl) ?_ _;have oX:AO g0 w.heap.size m6 C:=by rw [H.out];exact Ir e8 k6 f2
   obtain ⟨gX,cX,o8,rfl,rX⟩:=BE oX I k7;have j4:=bz.size;clear f2 b6 j0 d c9 e7 e4 b5 a0 O b8 f4 d5 h7 h4 rowD g6 U bV Z f8;go_wp2_with (at_make;refine Qv _ rfl _ _ 22 rfl w.heap.size 5 i0 (.int .u8 0) 1 underlying22 hi b9 a8 .i64 .i64 _ _ 16 rfl rfl rfl rfl (by rw [a7];omega) (by unfold maxLen;omega) j4 ?_;intro w9 a1 b0;have e0:=Ac b0)
   rw [j6] at a1;have i1:AO w9 w.heap.size (.slice (some ⟨g0.heap.size,0,none⟩) 16 16) (chQ f C 0):=a1;have B9:=bz.trans (e0.mono j4);have j7:=rX.below e0;clear a1 b0 e0 bz oX rX
   go_loopw [9,10] (fun v i wr=>∃ k:Nat,k <= m /\ i = .int .i64 ((16 * k:Nat):Int) /\ AO wr w.heap.size v (chQ f C k) /\ RowAt wr (some ⟨gX,0,none⟩) C /\ Bl w wr) (fun _ i _=>T + 16 - (intOf i).toNat)
   case atStart=>exact ⟨0,QU _,rfl,i1,j7,B9⟩
   case round =>
    clear i1 j7 B9;obtain ⟨k,p3,rfl,r,rX,s⟩:=hrel;obtain ⟨a,ha⟩:=uX (16 * k);have c0:=AK ha;have HS:=AK (show chQ f C (k + 1) = f (AE (chQ f C k) ((C.drop (16 * k)).take 16)) from rfl);have e6:=VI f n7.out C k;have f3:RowAt wr (some ⟨gX,16 * k,none⟩) ((C.drop (16 * k)).take 16):=by have h:=(rX.drop (16 * k)).take 16;rwa [QZ] at h
    rw [<- ha] at HS f3 ⊢;clear ha
    by_cases m9:a < T
    ·have k9:((C.drop a).take 16).length = 16:=by rw [QI,QN,I];have:=c0.out;have:=f5.out;omega
     obtain ⟨Y,hY⟩:=uX ((C.drop a).take 16);obtain ⟨Pk,hP⟩:=uX (chQ f C k);rw [<- hY] at HS f3 k9;rw [<- hP] at HS r e6;obtain ⟨g,c,p1,hv,g5⟩:=BE r e6 (by omega);subst hv;have f7:=s.size;have l8:=AK (fun (cp:Nat) (o:World) (h1:RowAt o (some ⟨g,0,none⟩) Pk) (h2:RowAt o (some ⟨gX,a,none⟩) Y)=>Fo Pk Y g 0 c gX a cp o e6 k9 h1 h2);have l4:(AE Pk Y).length = 16:=by rw [AW _ _ (by omega),e6]
     obtain ⟨XY,k0⟩:=uX (AE Pk Y);rw [<- k0] at HS l8 l4;have p0:(a:Int) < (T:Int):=by omega
     have o6:(0:Int) <= (a:Int):=by omega
     have q6:IntKind.i64.wrap ((a:Int) + 16) = (a:Int) + 16:=by rw [QH];omega
     have p7:((a:Int) + 16) <= (cX:Int):=by have:=c0.out;have:=f5.out;omega
     have q4:(a:Int) <= (a:Int) + 16:=by omega
     clear hY hP k0;go_wp2_with (first
      | (go_at_call 143;refine (l8.out _ _ g5 f3).mono ?_;rintro e1 p8 ⟨rfl,i2,E⟩;have i5:=Ai i2;have b1':=(s.trans (E.mono f7));have k8:=rk.below b1')
      | (go_at_call 144;refine (HA.out _ _ _ _ l4 k8 i5).mono ?_;rintro e2 n8 ⟨v2,rfl,G,D⟩))
     have b2':=b1'.trans (D.mono b1'.size);have R1:AO n8 w.heap.size v2 (chQ f C (k + 1)):=by rw [HS.out];exact G.mono b1'.size
     have n1:=(rX.below E).below D;clear G i2 r E D s i5 k8 b1' g5 f3 rX;go_wp2;go_roundw
     case rel=>exact ⟨k + 1,by have:=c0.out;have:=f5.out;omega,by have:=c0.out;go_num,R1,n1,b2'⟩
     case measure=>simp [intOf];omega
    ·go_wp2;go_ret;have n9:k = m:=by have:=c0.out;have:=f5.out;omega
     refine ⟨_,rfl,?_,s⟩;rw [L.out,<- n9];exact r
theorem Kf (u:Int) (w:World) :
 Calls prog 30 #[.int .i64 u] w fun e w'=>e = .returned (.bool (decide (1 <= u) && decide (u <= 3))) /\ w' = w:=by
 by_cases h:1 <= u
 ·go_enter func30,ntmps30;go_wp2;go_ret;exact ⟨by simp [h],rfl⟩
 ·go_enter func30,ntmps30;go_wp2;go_ret;exact ⟨by rw [QT (show ¬ 1 <= u from by omega)];rfl,rfl⟩
theorem Own.at' {w:World} {base n:Nat} {v:Value} {l:LU} (h:Own w base v l) (o:l.length = n) (z:0 < n):∃ g a,n <= a /\ v = .slice (some ⟨g,0,none⟩) n a /\ w.rangeAt g 0 (l.map byte) /\ base <= g /\ g < w.heap.size:=by
 subst o;have j:=h;obtain ⟨t,h⟩:=h;obtain ⟨x,a,rfl,row,u,-,-⟩:=j.shape;rcases h.2 with ⟨-,b⟩ | ⟨g,k,p,c,f,d,b,q,r,y⟩
 ·omega
 ·simp only [Value.slice.injEq,true_and] at c;obtain ⟨rfl,rfl⟩:=c;obtain ⟨g',s,m,i⟩:=row.range (by omega);cases m
  exact ⟨g,a,b,rfl,i,f,qS d⟩
theorem Blk.apart {w:World} {g g' t c:Nat} {cs b:List Value} (h:Blk w g t cs) (a:Blk w g' c b) (d:t ≠ c):some g ≠ some g':=by
 intro f;cases f
 unfold Blk at h a;rw [h] at a;simp only [Option.some.injEq,Obj.cells.injEq] at a;exact d a.2.1
def Bw (a:LU):LU:=Bf a [69]
theorem LN (a:LU) (y x U:Nat) (w:World) (u:a.length = 16) (N:w.rangeAt y x (a.map byte)) :
 Calls prog 33 #[.slice (some ⟨y,x,none⟩) 16 U] w fun e w'=>∃ m l n o,e = .returned (.agg (aesCells ((keysUpto (Bw a) 11).map byte) m l n o).toArray) /\ Tabs w' m l n o /\ Bl w w':=by
 have hz:=(QO Tryz.zero93).1;have d:(Bw a).length = 16:=Aw a [69] u;have V:=AK (fun (c:Nat) (g:Nat) (i:World) (Z:1 <= c) (h1:i.rangeAt y x (a.map byte)) (Y:RowAt i (some ⟨g,0,none⟩) [69])=>KD a [69] y x U c (some ⟨g,0,none⟩) i u (by simp) (by simpa using Z) h1 Y);obtain ⟨E,B⟩:=uX (Bw a);have hE':Bf a [69] = E:=B.symm;rw [hE'] at V;rw [<- B] at d ⊢;have D:=AK (fun i=>NP E i d);have H:(E.map byte).length = 16:=by rw [QD,d]
 have W:((keysUpto E 11).map byte).length = 176:=by rw [QD,BS E d]
 obtain ⟨z,f⟩:=uX ((w.alloc (.cells Fj.toArray 93)).alloc (.cells #[.int .u8 69] 5));have A:Bl w z:=by rw [f];exact ((Below.refl _ w).alloc (QE _) _).alloc (by simp) _
 have C:Blk z w.heap.size 93 Fj:=by rw [f];exact (Blk.new w _ _).alloc _
 have R:RowAt z (some ⟨w.heap.size + 1,0,none⟩) [69]:=by rw [f];exact Ai (t:=5) (Blk.new2 w _ _ _)
 have O:=AU N A;clear B hE' N;go_enter func33,ntmps33;go_wp2_with fail;rw [<- f];clear f;refine (V.out _ _ z (QE _) O R).mono ?_;rintro e w1 ⟨v1,rfl,p,j⟩;obtain ⟨g1,c1,a0,rfl,M,-,-⟩:=Own.at' p d (by omega);have T:=C.below j C.lt;have b1:=AB A j;have a1:=fun c (i:World)=>run_arrayAt (P:=prog) (w:=i) 88 5 16 (some ⟨g1,0,none⟩) 16 c underlying88 (QE _);clear C p j A;go_wp2_with (first
  | (refine Qw rfl 88 _ rfl g1 0 rfl (E.map byte) _ M underlying88 rfl (by rw [H];kernel_rfl) ?_)
  | (go_at_call 76;refine (D.out _).mono ?_;rintro e w2 ⟨m,l,n,o,rfl,L,X,G,I,r⟩;have q:=Cb ((keysUpto E 11).map byte) m l n o W;have s:=T.below r T.lt;have J:=AB b1 r)
  | (refine store_blk rfl 93 _ _ rfl _ rfl rfl s (by rw [q];kernel_rfl) (by rw [q];exact E9) (JZ _ _ _ _ _) ?_;intro w3 F b a2))
 have l2:=J.size;exact Qc (v:=.agg (aesCells ((keysUpto E 11).map byte) m l n o).toArray) (AG results33 _ _ rfl F underlying93 rfl (by rw [q];kernel_rfl)) rfl ⟨m,l,n,o,rfl,⟨L.grown b (L.apart s (by decide)),X.grown b (X.apart s (by decide)),G.grown b (G.apart s (by decide)),I.grown b (I.apart s (by decide))⟩,J.grown b l2 (by intro k u;cases u;exact QE _)⟩
end Go.Proofs.YtbkokcjolanpeaaGreatDoor
