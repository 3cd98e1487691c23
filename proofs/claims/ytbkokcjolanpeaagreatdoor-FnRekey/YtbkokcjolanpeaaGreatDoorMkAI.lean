import Derived.Test.YtbkokcjolanpeaaGreatDoorMkAG
import Derived.Test.YtbkokcjolanpeaaGreatDoorMkAH
set_option maxRecDepth 100000
set_option maxHeartbeats 5000000
namespace Go.Proofs.YtbkokcjolanpeaaGreatDoor
open Go.RowKit Go.Proofs.Tryz Act
theorem T8 (a:List Int) (o:a.length <= 2) (b:Int) (c:∃ i,i < a.length /\ (b == a.getD i 0) = true) (l:Nat) (w:World) (v:∀ i,i < a.length -> w.cell? ⟨l,i,none⟩ = some (.int .i64 (a.getD i 0))) :
 Calls prog 98 #[.slice (some ⟨l,0,none⟩) a.length a.length,.int .i64 b] w fun e w'=>(∃ r:Nat,e = .returned (.int .i64 (r:Int))) /\ w' = w:=by
 obtain ⟨n,g⟩:=uX (a.length);have d:=AA c;have s:=AA v;rw [<- g] at d s o ⊢;clear c v g;go_enter func98,ntmps98;go_wp2_with fail
 go_loopw [8] (fun i wr=>∃ k:Nat,k <= n /\ i = .int .i64 (k:Int) /\ Hid (∀ j,j < k -> (b == a.getD j 0) = false) /\ wr = w) (fun i _=>n - (intOf i).toNat)
 case atStart=>exact ⟨0,QU _,rfl,fun j h=>absurd h (Qj j),rfl⟩
 case round =>
  obtain ⟨k,C,rfl,p,t⟩:=hrel;have m:=t.symm;subst m;clear t
  by_cases hlt:k < n
  ·have x:(k:Int) < (n:Int):=by omega
   have y:=s.out k hlt;obtain ⟨q,f⟩:=uX (a.getD k 0);rw [<- f] at y;have z:=AA f;clear f;cases hb:(b == q)
   ·go_wp2_with fail;go_roundw
    case rel=>exact ⟨k + 1,by omega,by go_num,fun j B=>by
     by_cases hjk:j = k
     ·rw [hjk,<- z.out];exact hb
     ·exact p.out j (by omega),trivial⟩
    case measure=>simp [intOf];omega
   ·go_wp2_with fail;go_ret;exact ⟨⟨k,rfl⟩,rfl⟩
  ·exfalso
   obtain ⟨i,A,u⟩:=d.out;rw [p.out i (by omega)] at u;cases u
theorem O7 (a:List Int) (c:a.length <= 2) (d:Int) (b:∃ i,i < a.length /\ (d == a.getD i 0) = true) (f:Nat) (w:World) (m:∀ i,i < a.length -> w.cell? ⟨f,i,none⟩ = some (.int .i64 (a.getD i 0))) :
 Calls prog 48 #[.slice (some ⟨f,0,none⟩) a.length a.length,.int .i64 d] w fun e w'=>e = .returned (.bool true) /\ w' = w:=by
 have j:=AA (T8 a c d b f w m);obtain ⟨n,g⟩:=uX (a.length);rw [<- g] at j ⊢;clear g b m c;go_enter func48,ntmps48;go_wp2_with fail;refine j.out.mono ?_;rintro e w2 ⟨⟨r,rfl⟩,k⟩;have l:=k.symm;subst l;clear k;have o:(0:Int) <= (r:Int):=by omega
 go_wp2_with fail;go_ret;exact ⟨rfl,rfl⟩
abbrev GI:List Value:=[.int .i64 0,.int .i64 0,.slice none 0 0]
theorem Tryz.zeroKI3:(prog.info? 55).map (fun i=>(i.zero,i.size)) = some (some (.agg GI.toArray),3):=by kernel_rfl
theorem Jq (b d:LU) (M T:Option Addr) (cm O:Nat) (V Z:Addr) (f:List Int) (a5:f.length <= 2) (h1:Bb b d = true) (h2:BZ b d = true) (D:∃ i,i < f.length /\ (opU b d == f.getD i 0) = true) (u:Nat) (w:World) (a0:d.length <= O) (hs:Sents w V Z) (rm:RowAt w M b) (rb:RowAt w T d) (hN:∀ i,i < f.length -> w.cell? ⟨u,i,none⟩ = some (.int .i64 (f.getD i 0))) :
 Calls prog 116 #[.slice M b.length cm,.slice T d.length O,.slice (some ⟨u,0,none⟩) f.length f.length] w fun e w'=>(∃ a c,e = .returned (.tuple #[.agg #[.int .i64 (opU b d),.int .i64 (opG b d),.slice a (BH b d).length c],.nilIface]) /\ RowAt w' a (BH b d)) /\ Bl w w':=by
 have hz:=(QO Tryz.zeroKI3).1;obtain ⟨x,m⟩:=uX (w.heap.size);obtain ⟨W,z⟩:=uX (w.alloc (Obj.cells GI.toArray 55));have r:=uB z;have N:Blk W x 55 GI:=by rw [z,m];exact Blk.new _ _ _
 have B:=AA (Jc b d M T cm O V Z W a0 (hs.below r) (rm.below r) (rb.below r));rw [show FC V Z b d = .nilIface from by unfold FC;rw [h1,h2];rfl] at B;have J:=AA (fun (y:World) (hy:Bl w y)=>O7 f a5 (opU b d) D u y (fun i hi=>(hy.cell (p:=⟨u,i,none⟩) (QF w _ (hN i hi))).trans (hN i hi)));obtain ⟨n,L⟩:=uX (f.length);obtain ⟨nm,s⟩:=uX (b.length);obtain ⟨nb,g⟩:=uX (d.length);obtain ⟨U,C⟩:=uX (opU b d);obtain ⟨G,Y⟩:=uX (opG b d);rw [<- L,<- C] at J;rw [<- s,<- g,<- C,<- Y] at B;rw [<- L,<- s,<- g,<- C,<- Y];have HW:=AA z;have H:=AA m;have R:=AA m;clear L s g C Y z m D hN h1 h2 hs rm rb;go_enter func116,ntmps116;go_upto_region 1 with fail
 rw [<- show W = _ from HW,<- show x = _ from H];clear HW H;go_wp2_with fail;refine B.out.mono ?_;rintro e X1 ⟨v,rfl,j,b1⟩;obtain ⟨a1,X,rfl,r1,A,a4⟩:=j.shape;obtain ⟨nK,q⟩:=uX ((BH b d).length);rw [<- q];have a6:=AA q;obtain ⟨gI,t⟩:=uX (X1.heap.size);obtain ⟨X2,l⟩:=uX (X1.alloc (Obj.cells #[.int .i64 U,.int .i64 G,.slice a1 nK X] 55));have b2:=uB l;have kI:=uK l t;have I:=b1.trans (b2.mono b1.size);have o:=r.trans (I.mono r.size);have a7:=N.below I N.lt;have i0:=kI.c 0;have R2:=AA (r1.below b2);have E:=AA l;have F:=AA t;have g:=LD j (show x < W.heap.size from N.lt);clear q l t j r1 A a4 B;go_upto_region 2 with fail
 rw [<- show X2 = _ from E,<- show gI = _ from F];clear E F;go_wp2_with fail;refine (J.out X2 o).mono ?_;rintro e X3 ⟨rfl,hw⟩;have a2:=hw.symm;subst a2;clear hw;go_wp2_with (first
  | (refine AL rfl 55 _ rfl gI rfl kI underlying55 rfl (by kernel_rfl) ?_)
  | (refine store_blk (cs:=[.int .i64 U,.int .i64 G,.slice a1 nK X]) rfl 55 _ _ rfl x rfl rfl a7 (by kernel_rfl) rfl (by simp [Value.oneCell']) ?_;intro w3 a3 g3 a8))
 refine Qc (CK results116 _ _ rfl a3 underlying55 rfl (by kernel_rfl)) rfl ⟨⟨a1,X,by rw [<- a6.out];rfl,R2.out.grown g3 (fun a ha e=>by
  cases ha
  rcases g with h | h
  ·cases h
  ·exact h e.symm)⟩,o.grown g3 o.size (fun k hk=>by cases hk;rw [R.out];exact QE _)⟩
theorem Ro (a b d:LU) (H C E:Option Addr) (cm B F:Nat) (fm:Int) (x0 x1:Addr) (p1:Bb a b = true) (p2:BZ a b = true) (p3:opU a b = 1 \/ opU a b = 3) (m1:Bb a d = true) (m2:BZ a d = true) (m3:opU a d = 2) (w:World) (a3:b.length <= B) (a6:d.length <= F) (hs:Sents w x0 x1) (rm:RowAt w H a) (rp:RowAt w C b) (rc:RowAt w E d) :
 Calls prog 69 #[.slice H a.length cm,.agg #[.slice C b.length B,.slice E d.length F,.int .i64 fm]] w fun e w'=>e = .returned .nilIface /\ Bl w w':=by
 have hz:=(QO Tryz.zeroKI3).1;obtain ⟨gL,z⟩:=uX (w.heap.size);obtain ⟨W,s⟩:=uX (w.alloc (Obj.cells #[.slice C b.length B,.slice E d.length F,.int .i64 fm] 35));have bW:=uB s;have D:=uK s z;have l0:=D.c 0;obtain ⟨gN,n⟩:=uX (W.heap.size);obtain ⟨W1,j⟩:=uX (W.alloc (Obj.cells #[.int .i64 1,.int .i64 3] 3));have o:=uB j;have kN:=uK j n;have f:=bW.trans (o.mono bW.size);have A:=AA (Jq a b H C cm B x0 x1 [1,3] (by decide) p1 p2 (by
  rcases p3 with e | e
  ·exact ⟨0,by decide,by rw [e];rfl⟩
  ·exact ⟨1,by decide,by rw [e];rfl⟩) gN W1 a3 (hs.below f) (rm.below f) (rp.below f) (fun i hi=>by
  have a5:i = 0 \/ i = 1:=by simp at hi;omega
  rcases a5 with rfl | rfl
  ·exact kN.c 0
  ·exact kN.c 1))
 have q:=AA (fun (u:Nat) (y:World) (hy:Bl w y) (hk:y.cell? ⟨u,0,none⟩ = some (.int .i64 2))=>Jq a d H E cm F x0 x1 [2] (by decide) m1 m2 ⟨0,by decide,by rw [m3];rfl⟩ u y a6 (hs.below hy) (rm.below hy) (rc.below hy) (fun i hi=>by
  obtain rfl:i = 0:=by simp at hi;omega
  exact hk))
 obtain ⟨nm,m⟩:=uX (a.length);obtain ⟨np,g⟩:=uX (b.length);obtain ⟨nc,l⟩:=uX (d.length);rw [<- m,<- g] at A;rw [<- m,<- l] at q;rw [<- g,<- l] at s D;rw [<- g] at l0;rw [<- m,<- g,<- l];have HW:=AA s;have T:=AA j;have X:=AA z;have M:=AA n;clear s j z n m g l kN hs rm rp rc p1 p2 p3 m1 m2 m3;go_enter func69,ntmps69;go_upto_region 1 with fail;rw [<- show W = _ from HW,<- show gL = _ from X];clear HW X;go_wp2_with fail;rw [<- show W1 = _ from T,<- show gN = _ from M];clear T M;refine A.out.mono ?_;rintro e X1 ⟨⟨a1,c1,rfl,-⟩,b1⟩;obtain ⟨nk,O⟩:=uX ((BH a b).length);rw [<- O];clear O A;obtain ⟨U,hU⟩:=uX (opU a b);obtain ⟨G,hG⟩:=uX (opG a b);rw [<- hU,<- hG];clear hU hG;obtain ⟨I,p⟩:=uX (X1.alloc (Obj.cells #[.int .i64 U,.int .i64 G,.slice a1 nk c1] 55));have b2:=uB p;have v:=b1.trans (b2.mono b1.size);have J:=f.trans (v.mono f.size);have a2:Bl W I:=o.trans (v.mono o.size);have k1:=(D.below a2 D.lt).c 1;obtain ⟨u,t⟩:=uX (I.heap.size);obtain ⟨X3,k⟩:=uX (I.alloc (Obj.cells #[.int .i64 2] 3));have b3:=uB k;have kK:=uK k t;have x:=J.trans (b3.mono J.size);have N:=AA (q.out u X3 x (kK.c 0));have R:=AA p;have a0:=AA k;have Y:=AA t;clear p k t kK q b2 v a2;go_upto_region 2 with fail;rw [<- show I = _ from R];clear R;go_wp2_with fail;rw [<- show X3 = _ from a0,<- show u = _ from Y];clear a0 Y;refine N.out.mono ?_;rintro e X4 ⟨⟨a4,c4,rfl,-⟩,b4⟩;have Z:=x.trans (b4.mono x.size);obtain ⟨a7,r⟩:=uX ((BH a d).length);rw [<- r];obtain ⟨U4,V⟩:=uX (opU a d);obtain ⟨G4,L⟩:=uX (opG a d);rw [<- V,<- L];clear r V L N;go_wp2_with fail;go_ret;exact ⟨rfl,Z.alloc Z.size _⟩
abbrev Lk:=LU × LU × Int
def FQ (w:World) (j:Option Addr) (a:List Lk):Prop:=∀ i,i < a.length -> ∃ g o d f c b,j = some ⟨g,o,none⟩ /\ w.cell? ⟨g,o + i * 3,none⟩ = some (.slice d (a.getD i ([],[],0)).1.length f) /\ w.cell? ⟨g,o + i * 3 + 1,none⟩ = some (.slice c (a.getD i ([],[],0)).2.1.length b) /\ w.cell? ⟨g,o + i * 3 + 2,none⟩ = some (.int .i64 (a.getD i ([],[],0)).2.2) /\ (a.getD i ([],[],0)).1.length <= f /\ (a.getD i ([],[],0)).2.1.length <= b /\ RowAt w d (a.getD i ([],[],0)).1 /\ RowAt w c (a.getD i ([],[],0)).2.1
theorem FQ.below {w w':World} {c:Option Addr} {f:List Lk} (h:FQ w c f) (a:Bl w w'):FQ w' c f:=fun i t=>by
 obtain ⟨g,o,q,u,m,j,e,d,n,k,v,l,r,s⟩:=h i t;have b:=QF w _ d;exact ⟨g,o,q,u,m,j,e,(a.cell (p:=⟨g,o + i * 3,none⟩) b).trans d,(a.cell (p:=⟨g,o + i * 3 + 1,none⟩) b).trans n,(a.cell (p:=⟨g,o + i * 3 + 2,none⟩) b).trans k,v,l,r.below a,s.below a⟩
def UJ (w:World) (d:Nat) (b:List Lk):Prop:=∀ i,i < b.length -> ∃ a c,w.cell? ⟨d,i * 2,none⟩ = some (.slice a (b.getD i ([],[],0)).2.1.length c) /\ w.cell? ⟨d,i * 2 + 1,none⟩ = some (.slice none 0 0) /\ (b.getD i ([],[],0)).2.1.length <= c /\ RowAt w a (b.getD i ([],[],0)).2.1
def UX (a:List Value):List Value:=a.flatMap fun v=>[v,.slice none 0 0]
theorem Tq (b:List Value):∀ i,i < b.length -> (UX b)[i * 2]? = some (b.getD i undef) /\ (UX b)[i * 2 + 1]? = some (.slice none 0 0):=by
 induction b with
 | nil=>intro i c;exact absurd c (Qj i)
 | cons a r ih =>
   intro i c
   cases i with
   | zero=>exact ⟨rfl,rfl⟩
   | succ i =>
     have:=ih i (by simpa using c);exact ⟨by rw [show (i + 1) * 2 = i * 2 + 2 from by omega];exact this.1,by rw [show (i + 1) * 2 + 1 = i * 2 + 1 + 2 from by omega];exact this.2⟩
def WA (w:World) (d:List Lk) (b:List Value):Prop:=∀ i,i < b.length -> ∃ a c,b.getD i undef = .slice a (d.getD i ([],[],0)).2.1.length c /\ (d.getD i ([],[],0)).2.1.length <= c /\ RowAt w a (d.getD i ([],[],0)).2.1
theorem Tryz.infoMk:(prog.info? 140).map (fun i=>(i.zero,i.size,i.bytes)) = some (some (.agg #[.slice none 0 0,.slice none 0 0]),2,48):=by kernel_rfl
def KeysOk (a:LU) (p:Lk):Prop:=(Bb a p.1 = true /\ BZ a p.1 = true /\ (opU a p.1 = 1 \/ opU a p.1 = 3)) /\ Bb a p.2.1 = true /\ BZ a p.2.1 = true /\ opU a p.2.1 = 2
def KRw (w w':World) (d:Nat) (b:List Lk):Prop:=∀ i,i < b.length -> ∀ a n c,w'.cell? ⟨d,i * 2,none⟩ = some (.slice a n c) -> RowAt w a (b.getD i ([],[],0)).2.1
theorem Pd (d:LU) (l:List Lk) (d6:l.length <= 8) (d0:0 < l.length) (b7:∀ i,i < l.length -> KeysOk d (l.getD i ([],[],0))) (am al:Option Addr) (cm cl:Nat) (x0 x1:Addr) (w:World) (hs:Sents w x0 x1) (rm:RowAt w am d) (hl:FQ w al l) :
 Calls prog 26 #[.slice am d.length cm,.slice al l.length cl] w fun e w'=>(∃ s cK,e = .returned (.tuple #[.slice (some ⟨s,0,none⟩) l.length cK,.nilIface]) /\ UJ w' s l /\ w.heap.size <= s /\ (∀ j,w'.frozen? ⟨s,j,none⟩ = false) /\ KRw w w' s l) /\ Bl w w':=by
 obtain ⟨i0,a9,c3,a6,a4⟩:=Qg Tryz.infoMk;obtain ⟨n,hn⟩:=uX (l.length);obtain ⟨nm,Z⟩:=uX (d.length);have c4:=AA (fun (p m:LU) (ap ac:Option Addr) (cp L:Nat) (J:Int) (q:KeysOk d (p,m,J)) (y:World) (hy:Bl w y) (h1:p.length <= cp) (h2:m.length <= L) (X:RowAt w ap p) (I:RowAt w ac m)=>Ro d p m am ap ac cm cp L J x0 x1 q.1.1 q.1.2.1 q.1.2.2 q.2.1 q.2.2.1 q.2.2.2 y h1 h2 (hs.below hy) (rm.below hy) (X.below hy) (I.below hy));have e0:=AA b7;have e5:=AA hl;rw [<- Z] at c4;rw [<- hn] at d6 d0 ⊢;rw [<- Z];have HN:=AA hn;clear hn Z hs rm hl b7;go_enter func26,ntmps26;go_wp2_with (at_make;go_loud (refine wpList_make_own _ rfl _ _ 73 rfl w.heap.size 140 i0 _ 2 underlying73 a9 c3 a6 .i64 .i64 _ n rfl rfl rfl (by rw [a4];omega) (by unfold maxLen;omega) (QE _) ?_);intro w3 a3 b9;have b3:=Ac b9;clear b9)
 go_loopw [6,15] (fun v i wr=>∃ (k:Nat) (b:List Value) (a:Option Addr) (c:Nat),k <= n /\ i = .int .i64 (k:Int) /\ v = .slice a k c /\ Hid (b.length = k) /\ Hid (WA w l b) /\ Hid (wr.ownsRow w.heap.size 140 2 (.slice a k c) k (UX b)) /\ Bl w wr) (fun _ i _=>n - (intOf i).toNat)
 case atStart=>exact ⟨0,[],some ⟨w.heap.size,0,none⟩,n,QU _,rfl,rfl,rfl,fun i A=>absurd A (Qj i),a3,b3⟩
 case round =>
  clear a3 b3;obtain ⟨k,b,a,c,hk,rfl,rfl,H,N,a7,f⟩:=hrel
  by_cases hlt:k < n
  ·have c9:(k:Int) < (n:Int):=by omega
   have b5:k < l.length:=by rw [<- HN.out];exact hlt
   obtain ⟨g,o,a1,c1,x,z,e,q1,q2,q3,q4,q5,X,I⟩:=e5.out k b5;subst e;have b6:=e0.out k b5;obtain ⟨P1,M⟩:=uX ((l.getD k ([],[],0)).1);obtain ⟨P2,D⟩:=uX ((l.getD k ([],[],0)).2.1);obtain ⟨J,O⟩:=uX ((l.getD k ([],[],0)).2.2);have T:KeysOk d (P1,P2,J):=by rw [M,D,O];exact b6
   rw [<- M] at q1 q4 X;rw [<- D] at q2 q5 I;rw [<- O] at q3;have G:=QF w _ q1;have d1:=(f.cell (p:=⟨g,o + k * 3,none⟩) G).trans q1;have d2:=(f.cell (p:=⟨g,o + k * 3 + 1,none⟩) G).trans q2;have d3:=(f.cell (p:=⟨g,o + k * 3 + 2,none⟩) G).trans q3;obtain ⟨gL,a0⟩:=uX (wr.heap.size);obtain ⟨n1,U⟩:=uX (P1.length);obtain ⟨n2,E⟩:=uX (P2.length);rw [<- U] at d1;rw [<- E] at d2;obtain ⟨W,hW⟩:=uX (wr.alloc (Obj.cells #[.slice a1 n1 c1,.slice x n2 z,.int .i64 J] 35));have bW:=uB hW;have kL:=uK hW a0;have b4:=f.trans (bW.mono f.size);have HC:=AA (c4.out P1 P2 a1 x c1 z J T W b4 q4 q5 X I);rw [<- U,<- E] at HC;have c8:Hid (WA w l (b ++ [.slice x n2 z])):=fun i A=>by
    rw [QC] at A
    by_cases hc:i < b.length
    ·rw [Az _ _ _ _ hc];exact N.out i hc
    ·have c0:i = b.length:=by simp at A;omega
     rw [BG _ _ _ _ c0,c0,H.out,<- D];exact ⟨x,z,by rw [E],q5,I⟩
   have HW:=AA hW;have c6:=AA a0;clear hW a0 M D O b6 T q1 q2 q3 q4 q5 X I G U E;go_upto_region 5 with fail
   rw [<- show W = _ from HW,<- show gL = _ from c6];clear HW c6;go_wp2_with (refine AL rfl 35 _ rfl gL rfl kL underlying35 rfl (by kernel_rfl) ?_)
   refine HC.out.mono ?_;rintro e X1 ⟨rfl,b1⟩;have l1:=(kL.below b1 kL.lt).c 1;obtain ⟨X2,F⟩:=uX (X1.alloc (Obj.cells #[.slice x n2 z,.slice none 0 0] 140));have b2:=uB F;have k2:Blk X2 X1.heap.size 140 [.slice x n2 z,.slice none 0 0]:=by rw [F];exact Blk.new _ _ _
   have V:=bW.trans ((b1.trans (b2.mono b1.size)).mono bW.size);have R:=f.trans (V.mono f.size);have c7:=AA (Bd (ts:=[]) a7.out (Sm.below V) (by simp));have K2:=AA k2;have e4:=AA F;have b0:w.heap.size <= X2.heap.size:=R.size;have d5:=AA R;clear F k2 b2 b1 bW b4 V R d1 d2 d3 HC kL;go_wp2_with (at_builtin;(rw [<- show X2 = _ from e4];refine Qi _ rfl _ _ 73 rfl w.heap.size 140 i0 (.agg #[.slice none 0 0,.slice none 0 0]) 2 48 underlying73 a9 c3 a6 a4 rfl (by decide) (.slice a k c) k _ rfl c7.out ⟨X1.heap.size,0,none⟩ 1 1 [.slice x n2 z,.slice none 0 0] rfl rfl (FM K2.out) (by intro u hu;simp at hu;rcases hu with rfl | rfl <;> rfl) (by unfold maxLen;omega) (by omega) b0 ?_;intro v5 Y C a8 _;obtain ⟨a5,c5,rfl⟩:=EV C))
   have HF:=AA (And.intro C a8);clear C a8;go_roundw
   case rel =>
    refine ⟨k + 1,b ++ [.slice x n2 z],a5,c5,by omega,by go_num,rfl,?_,c8,?_,d5.out.grown HF.out.2 b0 (fun j hj=>(c7.out.lt j hj).1)⟩
    ·show (b ++ [Value.slice x n2 z]).length = k + 1;rw [QC,H.out];rfl
    ·have r:=HF.out.1;show World.ownsRow _ _ _ _ _ _ _;unfold UX at r ⊢;rw [List.flatMap_append];exact r
   case measure=>simp [intOf];omega
  ·obtain rfl:k = n:=by omega
   have c9:¬ (k:Int) < (k:Int):=by omega
   have t:=a7.out;obtain ⟨s,rfl,b8⟩:∃ s,a = some ⟨s,0,none⟩ /\ Hid (w.heap.size <= s /\ ∀ j,wr.frozen? ⟨s,j,none⟩ = false):=by
    rcases t.2 with ⟨_,hz⟩ | ⟨g,L,e8,hv,hb,hg,-⟩
    ·omega
    ·cases hv;exact ⟨g,rfl,hb,fun j=>by simp [World.frozen?,hg]⟩
   have e7:Hid (UJ wr s l):=fun i A=>by
    have d4:i < k:=by rw [HN.out];exact A
    have B:i < b.length:=by rw [H.out];exact d4
    obtain ⟨aa,L,e1,e2,e3⟩:=N.out i B;obtain ⟨n1,n2⟩:=Tq b i B;refine ⟨aa,L,?_,?_,e2,e3.below f⟩
    ·rw [t.cellAt (i * 2) (by omega),n1,e1]
    ·rw [t.cellAt (i * 2 + 1) (by omega),n2]
   have e6:Hid (KRw w wr s l):=fun i A a n c h=>by
    have B:i < b.length:=by rw [H.out,HN.out];exact A
    obtain ⟨aa,L,e1,-,e3⟩:=N.out i B;rw [t.cellAt (i * 2) (by have:=HN.out;omega),(Tq b i B).1,e1] at h;cases h
    exact e3
   clear t;go_wp2_with fail;go_ret2;exact ⟨⟨s,⟨c,rfl⟩,e7.out,b8.out.1,b8.out.2,e6.out⟩,f⟩
theorem Yk (a b c:Int) (s:Option Addr) (n k:Nat) (w:World):(Instr.field 145 (.agg #[.int .i64 a,.int .i64 b,.int .i64 c,.slice s n k]) 1).run prog w = .ok (.agg #[.int .i64 b,.int .i64 c,.slice s n k]) w:=by kernel_rfl
theorem eO (b c:Int) (s:Option Addr) (n k:Nat) (w:World):(Instr.field 55 (.agg #[.int .i64 b,.int .i64 c,.slice s n k]) 1).run prog w = .ok (.int .i64 c) w:=by kernel_rfl
theorem Tryz.infoIn:(prog.info? 3).map (fun i=>(i.zero,i.size,i.bytes)) = some (some (.int .i64 0),1,8):=by kernel_rfl
theorem Re {w:World} {o:Oper} {a:Act} {K:Act -> World -> Prop} {Q:Exit -> Act -> World -> Prop} (s x:Operand)
 (G:o.op = .call { callee:=.builtin .append,args:=#[s,x],argTypes:=#[42,42] }) (base:Nat) (v:Value) (n:Nat) (k:List Value) (D:a.eval s = v) (p:w.ownsRow base 3 1 v n k)
 (l:Addr) (m c:Nat) (b:List Value) (B:a.eval x = .slice (some l) m c) (F:b.length = m * 1) (f:∀ j u,b[j]? = some u -> w.cell? (l.add j) = some u) (I:∀ u ∈ b,u.oneCell' = true)
 (q:n + m <= maxLen) (d:(n + m) * 8 <= 140737488355328) (g:base <= w.heap.size)
 (h:∀ i w',w'.ownsRow base 3 1 i (n + m) (k ++ b) -> w.grownBy w' v.ownBlock -> K (a.put o.dst i) w'):o.wp prog a w K Q:=by
 obtain ⟨H,A,t,y,r⟩:=Qg Tryz.infoIn;obtain ⟨i,w',z,E,C,-,-⟩:=run_append_own_at (P:=prog) w base 42 o.type 3 H (.int .i64 0) 1 8 underlying42 A t y r rfl (by decide) v n k p l m c b F f I q d g;unfold Oper.wp execOp;simp only [G,resolve,invoke,builtin,Qe,ql,qB,qR,qD,qN,D,B,z];exact h i w' E C
structure KS (w:World) (P:Nat -> Prop) (gK l:Nat) (a1:Option Addr) (c1:Nat) (k1:LU) (a2:Option Addr) (c2:Nat) (k2:LU):Prop where
 e1:w.cell? ⟨gK,l * 2,none⟩ = some (.slice a1 k1.length c1)
 e2:w.cell? ⟨gK,l * 2 + 1,none⟩ = some (.slice a2 k2.length c2)
 f1:w.frozen? ⟨gK,l * 2,none⟩ = false
 f2:w.frozen? ⟨gK,l * 2 + 1,none⟩ = false
 l1:k1.length <= c1
 l2:k2.length <= c2
 r1:RowAt w a1 k1
 r2:RowAt w a2 k2
 p1:∀ a,a1 = some a -> ¬ P a.block /\ a.block ≠ gK
 p2:∀ a,a2 = some a -> ¬ P a.block /\ a.block ≠ gK
 pK:¬ P gK
theorem KS.kp {w w':World} {P:Nat -> Prop} {b l:Nat} {g:Option Addr} {j:Nat} {i:LU} {d:Option Addr} {c:Nat} {m:LU} (h:KS w P b l g j i d c m) (k:Kp P w w'):KS w' P b l g j i d c m:=by
 have f:=k b (QF w _ h.e1) h.pK;exact ⟨k.cell h.e1 h.pK,k.cell h.e2 h.pK,(World.frozen?_of_block f).trans h.f1,(World.frozen?_of_block f).trans h.f2,h.l1,h.l2,h.r1.kp k (fun a e=>(h.p1 a e).1),h.r2.kp k (fun a e=>(h.p2 a e).1),h.p1,h.p2,h.pK⟩
theorem KS.below {w w':World} {P:Nat -> Prop} {d l:Nat} {f:Option Addr} {i:Nat} {g:LU} {c:Option Addr} {a:Nat} {j:LU} (h:KS w P d l f i g c a j) (b:Bl w w'):KS w' P d l f i g c a j:=h.kp (Kp.below b)
theorem Vj (s:SS) (w0:World) (T:Nat) (P:Nat -> Prop) (x0 x1:Addr) (J:Option Addr) (U:Nat) (b:LU) (M:Mst w0 x0 x1 J b) (hm:s.mst = .slice J b.length U) (l N V cK:Nat) (a8:s.kys = .slice (some ⟨N,0,none⟩) V cK) (b7:l < V) (p:Option Addr) (o:Nat) (q:LU) (g:Option Addr) (n:Nat) (t:LU)
 (data:LU) (ad:Option Addr) (cd:Nat) (b5:data.length <= cd) (hn:data.length <= 1048576) (w:World) (I:Bl w0 w) (h:Ses w w0.heap.size T P s) (K:KS w P N l p o q g n t) (rd:RowAt w ad data) :
 Calls prog 130 #[.pointer (some ⟨T,0,none⟩),.int .i64 (l:Int),.slice ad data.length cd] w fun e w' =>
  e = .returned (.tuple #[if !opB b q data && opB b t data then .slice g t.length n else .slice p q.length o,.bool (opB b q data || opB b t data)]) /\ Bl w w':=by
 obtain ⟨wv,sv,lv,ps,h⟩:=h;obtain ⟨n1,B⟩:=uX (q.length);obtain ⟨n2,v⟩:=uX (t.length);obtain ⟨nD,C⟩:=uX (data.length);obtain ⟨nM,x⟩:=uX (b.length);have q1:=K.e1;have q2:=K.e2;rw [<- B] at q1;rw [<- v] at q2;have a9:Hid (w.rangeAt N (l * 2) [.slice p n1 o,.slice g n2 n]):=fun j u O=>by
  cases j with
  | zero=>simp at O;subst O;exact q1
  | succ j =>
    cases j with
    | zero=>simp at O;subst O;exact q2
    | succ j=>simp at O
 have c4:w.cell? ⟨T,4,none⟩ = some (.slice (some ⟨N,0,none⟩) V cK):=by rw [<- a8];exact h.c4
 obtain ⟨gR,H⟩:=uX (w.heap.size);obtain ⟨W,X⟩:=uX (w.alloc (Obj.cells #[.slice p n1 o,.slice g n2 n] 140));have bW:=uB X;have G:=uK X H;have r0:=G.c 0;have r1:=G.c 1;obtain ⟨gL,R⟩:=uX (W.heap.size);obtain ⟨F,A⟩:=uX (W.alloc (Obj.cells #[.slice p n1 o,.slice g n2 n] 22));have a0:=uB A;have kL:=uK A R;have a4:=G.below a0 G.lt;have d:=bW.trans (a0.mono bW.size);have b1:=AA (h.sm (Sm.below d));have L:=AA (fun (k:LU) (a:Option Addr) (c:Nat) (y:World) (E:Bl F y) (hc:k.length <= c) (r:RowAt w a k)=>Ic b k data J a ad U c cd x0 x1 y (M.sents.below (I.trans ((d.trans (E.mono d.size)).mono I.size))) hc b5 hn (M.row.below (I.trans ((d.trans (E.mono d.size)).mono I.size))) (r.below (d.trans (E.mono d.size))) (rd.below (d.trans (E.mono d.size))));have D:=AA (L.out q p o F (Below.refl _ _) K.l1 K.r1);have z:=AA (fun (y:World) (E:Bl F y)=>L.out t g n y E K.l2 K.r2);rw [<- B,<- C,<- x] at D;rw [<- v,<- C,<- x] at z;rw [<- B,<- v,<- C];obtain ⟨o1,a5⟩:=uX (opB b q data);obtain ⟨o2,a3⟩:=uX (opB b t data);rw [<- a5] at D ⊢;rw [<- a3] at z ⊢;have b3:Hid (s.mst = .slice J nM U):=by rw [x];exact hm
 have b6:(l:Int) < (V:Int):=by omega
 have HW:=AA X;have a6:=AA A;have Y:=AA H;have a7:=AA R;clear X A H R h K rd a8 B v C x G q1 q2 hm I L a5 a3;go_enter func130,ntmps130;go_upto_region 2 with (refine Qw rfl 140 _ rfl N (l * 2) (by go_simp) [.slice p n1 o,.slice g n2 n] _ a9.out underlying140 rfl (by kernel_rfl) ?_)
 rw [<- show W = _ from HW,<- show gR = _ from Y];clear HW Y;go_wp2_with fail;rw [<- show F = _ from a6,<- show gL = _ from a7];clear a6 a7 r0 r1
 go_loopw [10,24] (fun _ i wr=>((i = .int .i64 0 /\ wr = F) \/ (i = .int .i64 1 /\ o1 = false) \/ (i = .int .i64 2 /\ o1 = false /\ o2 = false)) /\ Bl F wr) (fun _ i _=>3 - (intOf i).toNat)
 case atStart=>exact ⟨.inl ⟨rfl,rfl⟩,Below.refl _ _⟩
 case round =>
  obtain ⟨hi,f⟩:=hrel;have c0:wr.cell? ⟨T,0,none⟩ = some (.slice J nM U):=by rw [<- b3.out];exact (b1.out.sm (Sm.below f)).c0
  have Z:=kL.below f kL.lt;have l0:=Z.c 0;have l1:=Z.c 1;have b4:=a4.below f a4.lt;have r0:=b4.c 0;rcases hi with ⟨rfl,hw⟩ | ⟨rfl,rfl⟩ | ⟨rfl,rfl,rfl⟩
  ·subst hw;cases o1
   ·go_wp2_with (go_at_call 16;refine D.out.mono ?_;rintro e w2 ⟨rfl,m⟩)
    go_roundw
    case rel=>exact ⟨.inr (.inl ⟨rfl,trivial⟩),m⟩
    case measure=>simp [intOf]
   ·go_wp2_with (go_at_call 16;refine D.out.mono ?_;rintro e w2 ⟨rfl,m⟩)
    go_ret2;exact ⟨rfl,d.trans (m.mono d.size)⟩
  ·cases o2
   ·go_wp2_with (go_at_call 16;refine (z.out _ f).mono ?_;rintro e w2 ⟨rfl,m⟩)
    go_roundw
    case rel=>exact ⟨.inr (.inr ⟨rfl,trivial,trivial⟩),f.trans (m.mono f.size)⟩
    case measure=>simp [intOf]
   ·go_wp2_with (go_at_call 16;refine (z.out _ f).mono ?_;rintro e w2 ⟨rfl,m⟩)
    go_ret2;exact ⟨rfl,(d.trans (f.mono d.size)).trans (m.mono (d.trans (f.mono d.size)).size)⟩
  ·go_wp2_with fail;go_ret2;exact ⟨rfl,d.trans (f.mono d.size)⟩
end Go.Proofs.YtbkokcjolanpeaaGreatDoor
