import Derived.Test.YtbkokcjolanpeaaGreatDoorMkRb
import Derived.Test.YtbkokcjolanpeaaGreatDoorMkS
import Derived.Test.YtbkokcjolanpeaaGreatDoorMkT
import Derived.Carry
import Derived.MapKept
import Derived.Laws.StructEq
import Derived.Stop.IfaceNil
set_option maxRecDepth 100000
set_option maxHeartbeats 20000000
namespace Go.Proofs.YtbkokcjolanpeaaGreatDoor
open Go.RowKit Go.Proofs.Tryz Act
def chS (key a:LU):Nat -> LU
 | 0=>AJ 8
 | k + 1=>desS key (AE (chS key a k) ((a.drop (8 * k)).take 8)) false
theorem Eu (key a:LU) (k:Nat):(chS key a k).length = 8:=by
 cases k with
 | zero=>exact DF 8
 | succ k=>exact Gf _ _ _
theorem RowAt.part {w:World} {b a n k:Nat} {l:LU} (h:RowAt w (some ⟨b,a,none⟩) l):RowAt w (some ⟨b,a + k,none⟩) ((l.drop k).take n):=(h.drop k).take n
theorem UD (key d:LU) (M:Option Addr) (ck b j E m:Nat) (w:World) (hk:key.length = 8) (hf:d.length = 8 * m) (hm:m <= 4096) (hc:8 * m <= E) (rk:RowAt w M key) (rf:RowAt w (some ⟨b,j,none⟩) d) :
 Calls prog 147 #[.slice M 8 ck,.slice (some ⟨b,j,none⟩) (8 * m) E] w fun e w'=>∃ v,e = .returned v /\ AO w' w.heap.size v (chS key d m) /\ Bl w w':=by
 obtain ⟨i0,hi,a2,a3,a1⟩:=Qg Tryz.info5;have a4:(madeCells (Value.int .u8 0).cells (8 * 1)).toList = (AJ 8).map byte:=by kernel_rfl
 have HX:=Aa (fun (g c s:Nat) (x y:LU) (f:World) (hx:x.length = 8) (hy:y.length = 8) (o:Nat) (u:RowAt f (some ⟨g,0,none⟩) x) (t:RowAt f (some ⟨b,o,none⟩) y)=>H7 (some ⟨g,0,none⟩) (some ⟨b,o,none⟩) c s x y f (by omega) (by omega) u t);have HD:=Aa (fun (g c:Nat) (x:LU) (f:World) (hx:x.length = 8) (u:RowAt f M key) (t:RowAt f (some ⟨g,0,none⟩) x)=>L2 M (some ⟨g,0,none⟩) ck c key x false f hk hx u t);obtain ⟨N,Z⟩:=uX (8 * m);have O:=Aa Z;rw [<- Z] at hf hc ⊢;have b0:N <= 32768:=by omega
 clear Z;go_enter func147,ntmps147;go_wp2_with (at_make;refine Qv _ rfl _ _ 22 rfl w.heap.size 5 i0 (.int .u8 0) 1 underlying22 hi a2 a3 .i64 .i64 _ _ 8 rfl rfl rfl rfl (by rw [a1];omega) (by unfold maxLen;omega) (QE _) ?_;intro w0 n r;have L:=Ac r)
 rw [a4] at n;clear r
 go_loopw [5,6] (fun v i wr=>∃ k:Nat,k <= m /\ i = .int .i64 ((8 * k:Nat):Int) /\ AO wr w.heap.size v (chS key d k) /\ Bl w wr) (fun _ i _=>N + 8 - (intOf i).toNat)
 case atStart=>exact ⟨0,QU _,rfl,n,L⟩
 case round =>
  clear n L;obtain ⟨k,a7,rfl,p,l⟩:=hrel;obtain ⟨a,V⟩:=uX (8 * k);have A:=Aa V;have HS:=Aa (show chS key d (k + 1) = desS key (AE (chS key d k) ((d.drop (8 * k)).take 8)) false from rfl);have q:=Eu key d k;have z:RowAt wr (some ⟨b,j + 8 * k,none⟩) ((d.drop (8 * k)).take 8):=(rf.below l).part;rw [<- V] at HS z ⊢;clear V
  by_cases hlt:a < N
  ·have F:((d.drop a).take 8).length = 8:=by rw [QI,QN,hf];have:=A.out;have:=O.out;omega
   obtain ⟨Y,hY⟩:=uX ((d.drop a).take 8);obtain ⟨P,hP⟩:=uX (chS key d k);rw [<- hY] at HS z F;rw [<- hP] at HS p q;obtain ⟨g,c,b4,hv,D⟩:=BE p q (by omega);subst hv;have a0:=l.size;have T:=Aa (fun (s:Nat) (f:World) (u:RowAt f (some ⟨g,0,none⟩) P) (t:RowAt f (some ⟨b,j + a,none⟩) Y)=>HX.out g c s P Y f q F (j + a) u t);have X:Hid (∀ (s:Nat) (f:World),RowAt f (some ⟨g,0,none⟩) P -> RowAt f (some ⟨b,j + a,none⟩) Y -> Calls prog 143 #[.slice (some ⟨g,0,none⟩) 8 c,.slice (some ⟨b,j + a,none⟩) 8 s] f fun e w'=>e = .returned (.slice (some ⟨f.heap.size,0,none⟩) 8 8) /\ AO w' f.heap.size (.slice (some ⟨f.heap.size,0,none⟩) 8 8) (AE P Y) /\ Bl f w'):=by
    intro s f u t;have:=T.out s f u t;rw [q,F] at this;exact this
   have U:(AE P Y).length = 8:=by rw [AW _ _ (by omega),q]
   have b3:(a:Int) < (N:Int):=by omega
   have a6:(0:Int) <= (a:Int):=by omega
   have a9:IntKind.i64.wrap ((a:Int) + 8) = (a:Int) + 8:=by rw [QH];omega
   have a8:((a:Int) + 8) <= (E:Int):=by have:=A.out;have:=O.out;omega
   have b5:(a:Int) <= (a:Int) + 8:=by omega
   clear hY hP T;go_wp2_with (first
    | (go_at_call 143;refine (X.out _ _ D z).mono ?_;rintro e1 w1 ⟨rfl,B,I⟩;have G:RowAt w1 (some ⟨wr.heap.size,0,none⟩) (AE P Y):=(by obtain ⟨g',c',-,a5,W⟩:=BE B U (by omega);cases a5;exact W);have H:=(l.trans (I.mono a0));have R:=rk.below H)
    | (go_at_call 146;refine (HD.out _ _ _ _ U R G).mono ?_;rintro e2 w2 ⟨v2,rfl,J,C⟩))
   have b2:=H.trans (C.mono H.size);have R1:AO w2 w.heap.size v2 (chS key d (k + 1)):=by rw [HS.out];exact J.mono H.size
   clear J B p I C l G R H D z;go_wp2;go_roundw
   case rel=>exact ⟨k + 1,by have:=A.out;have:=O.out;omega,by have:=A.out;go_num,R1,b2⟩
   case measure=>simp [intOf];omega
  ·go_wp2;go_ret;rw [show m = k from by have:=A.out;have:=O.out;omega];exact ⟨_,rfl,p,l⟩
def fullL (data:LU):LU:=data ++ AJ (8 * (macBlocks data).length - data.length)
theorem Ko (data:LU):data.length <= 8 * (macBlocks data).length /\ 8 * (macBlocks data).length <= data.length + 8 /\ (0 < data.length -> 8 * (macBlocks data).length < data.length + 8):=by
 unfold macBlocks Ep;rw [Ci];unfold nBlocks
 split
 ·rename_i h;simp;omega
 ·rw [Ci];omega
theorem KL (data:LU):(fullL data).length = 8 * (macBlocks data).length:=by
 have:=Ko data;unfold fullL;rw [QC,DF];omega
theorem SP (n k:Nat):(AJ n).drop k = AJ (n - k):=by simp [AJ]
theorem SQ (n k:Nat):(AJ n).take k = AJ (min k n):=by simp [AJ]
theorem bk (data:LU) (k:Nat) (b:k < (macBlocks data).length):(macBlocks data).getD k [] = ((fullL data).drop (8 * k)).take 8:=by
 have d:=Ko data
 by_cases h0:data.length = 0
 ·obtain rfl:data = []:=List.length_eq_zero_iff.1 h0;have c:k = 0:=by have:(macBlocks []).length = 1:=rfl;omega
  subst c
  rfl
 ·have a:(macBlocks data) = chunks data (nBlocks data):=by
   unfold macBlocks Ep;rw [if_neg (by rw [Ci];unfold nBlocks;omega)]
  rw [a,Ci] at b;have f:(macBlocks data).length = nBlocks data:=by rw [a,Ci]
  rw [f] at d;have g:(chunks data (nBlocks data)).getD k [] = Jm data k:=by simp [chunks,b]
  rw [a,g];unfold fullL Jm GE;rw [f];have i:8 * k < data.length:=by unfold nBlocks at b;omega
  rw [List.drop_append,SP,List.take_append,SQ,QI,QN]
  congr 2
  unfold nBlocks at b d;simp only [nBlocks];omega
theorem cq (key data:LU) (a:key.length = 8) (k:Nat) (h:k <= (macBlocks data).length):F9 (EE key) (AJ 8) (macBlocks data) k = chS key (fullL data) k:=by
 induction k with
 | zero=>rfl
 | succ k ih =>
   show EE key (AE ((macBlocks data).getD k []) (F9 (EE key) (AJ 8) (macBlocks data) k)) = desS key (AE (chS key (fullL data) k) (((fullL data).drop (8 * k)).take 8)) false;rw [ih (by omega),bk data k (by omega),OM,Wo _ _ a];rw [AW _ _ _,Eu];rw [Eu,QI,QN,KL];omega
theorem Vq (key data:LU) (a:key.length = 16):IA key data = desS (key.take 8) (desS (key.drop 8) (chS (key.take 8) (fullL data) (macBlocks data).length) true) false:=by
 unfold IA IY;rw [cq _ _ (Un a) _ (QE _),bQ _ _ (ZN a) (Eu _ _ _),Wo _ _ (Un a) (Gf _ _ _)]
theorem Ui (j:Option Addr) (c:Nat) (w:World) :
 Calls prog 37 #[.slice j 0 c] w fun e w'=>∃ v,e = .returned v /\ AO w' w.heap.size v [] /\ Bl w w':=by
 obtain ⟨l,k,f,i,g⟩:=Qg Tryz.info5;go_enter func37,ntmps37;go_wp2_with (first
  | (at_make;refine Qv _ rfl _ _ 22 rfl w.heap.size 5 l (.int .u8 0) 1 underlying22 k f i .i64 .i64 _ _ 0 rfl rfl rfl rfl (by rw [g];omega) (by unfold maxLen;omega) (QE _) ?_;intro m a b;have d:=Ac b)
  | (refine wpList_copy_nothing rfl _ _ 22 22 rfl 5 underlying22 (by kernel_rfl) _ _ 0 0 0 c rfl rfl rfl ?_))
 go_ret;rw [show (madeCells (Value.int .u8 0).cells (0 * 1)).toList = [] from by kernel_rfl] at a;exact ⟨_,rfl,a,d⟩
theorem WO (data:LU) (b:Option Addr) (a:Nat) (w:World) (f:data.length <= 1048576) (g:RowAt w b data) :
 Calls prog 37 #[.slice b data.length a] w fun e w'=>∃ v,e = .returned v /\ AO w' w.heap.size v data /\ Bl w w':=by
 by_cases h0:0 < data.length
 ·refine (EF b a data w f h0 g).mono ?_;rintro e w' ⟨rfl,d,c⟩;exact ⟨_,rfl,d,c⟩
 ·obtain rfl:data = []:=List.length_eq_zero_iff.1 (by omega);exact Ui b a w
theorem Pe (key data:LU) (f d s cd:Nat) (ad:Option Addr) (w:World) (R:key.length = 16) (h4:16 <= s) (hn:data.length <= 4096) (rk:RowAt w (some ⟨f,d,none⟩) key) (rd:RowAt w ad data) :
 Calls prog 86 #[.slice (some ⟨f,d,none⟩) 16 s,.slice ad data.length cd] w fun e w'=>∃ v,e = .returned v /\ Own w' w.heap.size v (IA key data) /\ Bl w w':=by
 obtain ⟨i0,hi,d3,c8,c7⟩:=Qg Tryz.info5;rw [Vq key data R];have HB:=Aa (fun (t:World) (h:RowAt t ad data)=>WO data ad cd t (by omega) h);have m:=Ko data;have a2:=KL data;have c9:=Kl data hn;have e6:=Jy data;have a6:=Aa (show fullL data = data ++ AJ (8 * (macBlocks data).length - data.length) from rfl);have h1:=Un R;have h2:=ZN R;have HE:=Aa (fun (g c:Nat) (t:World) (U:RowAt t (some ⟨f,d,none⟩) (key.take 8)) (W:RowAt t (some ⟨g,0,none⟩) (desS (key.drop 8) (chS (key.take 8) (fullL data) (macBlocks data).length) true))=>L2 (some ⟨f,d,none⟩) (some ⟨g,0,none⟩) s c (key.take 8) _ false t h1 (Gf _ _ _) U W);have HD:=Aa (fun (g c:Nat) (t:World) (U:RowAt t (some ⟨f,d + 8,none⟩) (key.drop 8)) (W:RowAt t (some ⟨g,0,none⟩) (chS (key.take 8) (fullL data) (macBlocks data).length))=>L2 (some ⟨f,d + 8,none⟩) (some ⟨g,0,none⟩) (s - 8) c (key.drop 8) _ true t h2 (Eu _ _ _) U W);have I:=Aa (fun (b d2:Nat) (e3:8 * (macBlocks data).length <= d2) (t:World) (U:RowAt t (some ⟨f,d,none⟩) (key.take 8)) (W:RowAt t (some ⟨b,0,none⟩) (fullL data))=>UD (key.take 8) (fullL data) (some ⟨f,d,none⟩) s b 0 d2 (macBlocks data).length t h1 a2 c9 e3 U W);have d0:=Eu (key.take 8) (fullL data) (macBlocks data).length;have b2:=Gf (key.drop 8) (chS (key.take 8) (fullL data) (macBlocks data).length) true;have RK:=Aa rk;obtain ⟨A,hA⟩:=uX (chS (key.take 8) (fullL data) (macBlocks data).length);rw [<- hA] at I HD HE d0 b2 ⊢;obtain ⟨D,hD⟩:=uX (desS (key.drop 8) A true);rw [<- hD] at HD HE b2 ⊢;obtain ⟨M,hM⟩:=uX (desS (key.take 8) D false);rw [<- hM] at HE ⊢;obtain ⟨k1,b3⟩:=uX (key.take 8);obtain ⟨k2,b0⟩:=uX (key.drop 8);have e8:Hid (RowAt w (some ⟨f,d,none⟩) k1):=by rw [b3];exact rk.take 8
 have f0:Hid (RowAt w (some ⟨f,d + 8,none⟩) k2):=by rw [b0];exact rk.drop 8
 rw [<- b3] at I HE;rw [<- b0] at HD;obtain ⟨G,Z⟩:=uX (fullL data);rw [<- Z] at I a6 a2;obtain ⟨T,hT⟩:=uX (8 * (macBlocks data).length);rw [<- hT] at I a6 a2 m;have d5:Hid (T % 8 = 0 /\ 0 < T):=by show _ /\ _;omega
 have h3:T <= 32768:=by omega
 have f1:=Aa (show data.length = data.length from rfl);obtain ⟨n,b8⟩:=uX (data.length);have b5:=Aa b8;rw [<- b8] at hn HB a6 m ⊢;have e5:=Aa m;have e9:=m.1;clear hA hD hM b3 b0 Z hT b8 m e6 c9 f1 h1 h2 R rk;have g8:(8:Int) <= (s:Int):=by omega
 have f7:(16:Int) <= (s:Int):=by omega
 have g6:¬ s = 8:=by omega
 have g9:¬ ((4096:Int) < (n:Int)):=by omega
 go_enter func86,ntmps86;go_wp2_with (first | (go_at_call 37;refine (HB.out _ rd).mono ?_;rintro e1 w1 ⟨L,rfl,b6,b7⟩))
 go_loopw [5] (fun v wr=>∃ j:Nat,n + j <= T /\ AO wr w.heap.size v (data ++ AJ j) /\ Bl w wr) (fun v _=>match v with | .slice _ l _=>T - l | _=>0)
 case atStart=>exact ⟨0,e9,by rw [show AJ 0 = [] from rfl,qM];exact b6,b7⟩
 case round =>
  clear b6 b7;obtain ⟨j,hj,o,p⟩:=hrel;have J:(data ++ AJ j).length = n + j:=by rw [QC,DF,b5.out]
  obtain ⟨ao,c,hv,b1,-,-,-⟩:=o.own.shape;rw [J] at hv;subst hv;obtain ⟨q,hq⟩:=uX (n + j);have HQ:=Aa hq;rw [<- hq] at J hj o ⊢;clear hq;have c6:=p.size
  by_cases hdone:q = T
  ·have h8:=d5.out;have a7:¬ ((q:Int) = 0):=by omega
   have f2:(q:Int) % 8 = 0:=by omega
   have e4:((q:Int) == 0) = false:=by rw [QP];exact a7
   have hF:data ++ AJ j = G:=by rw [a6.out,show T - n = j from by have:=HQ.out;omega]
   rw [hF] at o;have a4:AO wr w.heap.size (.slice ao q c) G:=o;obtain ⟨gF,cF,h9,Y,a5⟩:=BE a4 (a2.trans hdone.symm) (by omega);cases Y
   have f4:=Aa hdone;have f3:T <= c:=by omega
   clear hF b1 o a4 h8 J hdone;go_wp2_with fail;obtain ⟨V,hV⟩:=uX (World.drew wr);have bV:Bl w V:=by rw [hV];exact p.drew
   have rF:RowAt V (some ⟨gF,0,none⟩) G:=by rw [hV];exact a5.drew1
   have d1:=bV.size
   replace I:=Aa (I.out gF c f3)
   rw [<- f4.out] at I;obtain ⟨vF,Y⟩:=uX (Value.slice (some ⟨gF,0,none⟩) q c);rw [<- Y] at I ⊢;clear Y a5 p;have a8:Bl V V:=Below.refl _ _;have a1:Hid (∀ {x},Bl V x -> RowAt x (some ⟨f,d,none⟩) k1):=fun h=>(e8.out.below bV).below h;have c2:Hid (∀ {x},Bl V x -> RowAt x (some ⟨f,d + 8,none⟩) k2):=fun h=>(f0.out.below bV).below h;have e0:Hid (∀ {x},Bl V x -> RowAt x (some ⟨gF,0,none⟩) G):=fun h=>rF.below h;have H:Hid (∀ {B x},Below B V x -> True):=fun _=>trivial;refine QJ (S:=fun _=>True) (by kernel_rfl) trivial (fun a=>?_);rw [<- hV];clear hV;refine tA 0 (.slice (some ⟨f,d,none⟩) 16 s) a ?_
   try dsimp only [put]
   refine tA 1 (.slice (some ⟨f,d,none⟩) 8 s) a ?_
   try dsimp only [put]
   refine tA 2 (.slice (some ⟨f,d,none⟩) 16 s) a ?_
   try dsimp only [put]
   refine tA 3 (.slice (some ⟨f,d + 8,none⟩) 8 (s - 8)) a ?_
   try dsimp only [put]
   refine tA 4 (.slice (some ⟨f,d,none⟩) 16 s) a ?_
   try dsimp only [put]
   refine tA 5 (.slice (some ⟨f,d,none⟩) 8 s) a ?_
   try dsimp only [put]
   refine tA 6 vF a ?_
   try dsimp only [put]
   refine rdy1 7 (fun K z=>?_);go_simp;refine (I.out _ (a1.out a8) (e0.out a8)).mono ?_;rintro e i2 ⟨h7,rfl,c3,c0⟩;have a9:=AB a8 c0;obtain ⟨f9,f8,-,d6,O⟩:=BE c3 d0 (by omega);subst d6;go_wp2_with fail;refine z.out _ _ (H.out a9) (fun a=>?_);clear z K
   try dsimp only [put]
   refine rdy1 8 (fun K z=>?_);go_simp;refine (HD.out _ _ _ (c2.out a9) O).mono ?_;rintro e h6 ⟨h5,rfl,c4,X⟩;have e7:=O.below X;have a0:=AB a9 X;obtain ⟨f5,f6,-,e2,N⟩:=BE c4 b2 (by omega);subst e2;go_wp2_with fail;refine z.out _ _ (H.out a0) (fun a=>?_);clear z K
   try dsimp only [put]
   refine rdy1 9 (fun K z=>?_);go_simp;refine (HE.out _ _ _ (a1.out a0) N).mono ?_;rintro e g0 ⟨g7,rfl,c5,C⟩;have g5:=e7.below C;have i1:=N.below C;have b4:=AB a0 C;have bq:=b4;go_wp2_with fail;refine z.out _ _ (H.out b4) (fun a=>?_);clear z K
   try dsimp only [put]
   refine rdy1 10 (fun K z=>?_);go_simp;refine z.out _ _ (H.out b4) (fun a=>?_);clear z K
   try dsimp only [put]
   refine QM (by kernel_rfl) ?_ _;go_wp2_with fail;go_ret;exact ⟨_,rfl,(c5.mono (QG d1 (a0.size))).own,bV.trans (bq.mono d1)⟩
  ·have m:=e5.out;have h8:=d5.out;have hq:=HQ.out;have a3:∀ (L:Value) (w1:World),w1.ownsRow w.heap.size 5 1 L (q + 1) ((data ++ AJ j).map byte ++ [Value.int .u8 0]) -> AO w1 w.heap.size L (data ++ AJ (j + 1)):=by
    intro L w1 h;have e:data ++ AJ (j + 1) = (data ++ AJ j) ++ [0]:=by unfold AJ;rw [QV,List.replicate_succ']
    unfold AO;rw [e,QC,J,Qf];exact h
   have d4:=Aa a3;have hown':wr.ownsRow w.heap.size 5 1 (.slice ao q c) q ((data ++ AJ j).map byte):=by have h:=o;unfold AO at h;rw [J] at h;exact h
   clear o b1 a3
   by_cases hq0:q = 0
   ·have h0:((q:Int) == 0) = true:=by rw [beq_iff_eq];omega
    clear m h8 hq hq0;go_wp2_with (at_builtin;refine Qi _ rfl _ _ 22 rfl w.heap.size 5 i0 (.int .u8 0) 1 1 underlying22 hi d3 c8 c7 rfl (by decide) _ _ _ rfl (hown'.alloc _) ⟨wr.heap.size,0,none⟩ 1 1 [.int .u8 0] rfl rfl (qy _ _ _) (by intro u hu;simp at hu;subst hu;rfl) (by unfold maxLen;omega) (by omega) (by simp;omega) ?_;intro L w1 r i F)
    have R1:=d4.out _ _ r;have R2:=(p.alloc c6 _).grown i (by simp;omega) (fun k R=>(hown'.lt k R).1);have b9:∃ y E,L = .slice y (n + (j + 1)) E:=by
     obtain ⟨y,E,h,-⟩:=R1.own.shape;rw [QC,DF,<- b5.out] at h;exact ⟨y,E,h⟩
    obtain ⟨y,E,rfl⟩:=b9;clear r i F hown' p;go_roundw
    case rel=>exact ⟨j + 1,by have:=HQ.out;omega,R1,R2⟩
    case measure=>have:=HQ.out;simp;omega
   ·have a7:¬ ((q:Int) = 0):=by omega
    have f2:((q:Int) % 8 != 0) = true:=by rw [qm];omega
    have e4:((q:Int) == 0) = false:=by rw [QP];exact a7
    clear m h8 hq;go_wp2_with (at_builtin;refine Qi _ rfl _ _ 22 rfl w.heap.size 5 i0 (.int .u8 0) 1 1 underlying22 hi d3 c8 c7 rfl (by decide) _ _ _ rfl (hown'.alloc _) ⟨wr.heap.size,0,none⟩ 1 1 [.int .u8 0] rfl rfl (qy _ _ _) (by intro u hu;simp at hu;subst hu;rfl) (by unfold maxLen;omega) (by omega) (by simp;omega) ?_;intro L w1 r i F)
    have R1:=d4.out _ _ r;have R2:=(p.alloc c6 _).grown i (by simp;omega) (fun k R=>(hown'.lt k R).1);have b9:∃ y E,L = .slice y (n + (j + 1)) E:=by
     obtain ⟨y,E,h,-⟩:=R1.own.shape;rw [QC,DF,<- b5.out] at h;exact ⟨y,E,h⟩
    obtain ⟨y,E,rfl⟩:=b9;clear r i F hown' p;go_roundw
    case rel=>exact ⟨j + 1,by have:=HQ.out;omega,R1,R2⟩
    case measure=>have:=HQ.out;simp;omega
theorem Ph (n m:Nat) (a f:Option Addr) (d c:Nat) (w:World) (_hn:n <= 1048576) (_hm:m <= 1048576) (h:¬ (n = 16 /\ m <= 4096)) :
 Calls prog 57 #[.slice a n d,.slice f m c] w fun e w'=>e = .returned (.slice none 0 0) /\ w' = w:=by
 by_cases h1:n = 16
 ·have b:(4096:Int) < (m:Int):=by omega
  subst h1;go_enter func57,ntmps57;go_wp2;go_ret;exact ⟨rfl,rfl⟩
 ·have b:((n:Int) != 16) = true:=by rw [qm];omega
  go_enter func57,ntmps57;go_wp2;go_ret;exact ⟨rfl,rfl⟩
theorem Oq (n m:Nat) (a f:Option Addr) (d c:Nat) (w:World) (_hn:n <= 1048576) (_hm:m <= 1048576) (h:¬ (n = 16 /\ m <= 4096)) :
 Calls prog 86 #[.slice a n d,.slice f m c] w fun e w'=>e = .returned (.slice none 0 0) /\ w' = w:=by
 by_cases h1:n = 16
 ·have b:(4096:Int) < (m:Int):=by omega
  subst h1;go_enter func86,ntmps86;go_wp2;go_ret;exact ⟨rfl,rfl⟩
 ·have b:((n:Int) != 16) = true:=by rw [qm];omega
  go_enter func86,ntmps86;go_wp2;go_ret;exact ⟨rfl,rfl⟩
def DB (key data:LU):LU:=if key.length = 16 /\ data.length <= 4096 then IA key data else []
theorem Ty (key data:LU) (d c:Option Addr) (b a:Nat) (w:World) (g:key.length <= 1048576) (i:data.length <= 1048576) (_hc:key.length <= b) (m:data.length <= a) (j:RowAt w d key) (f:RowAt w c data) :
 Calls prog 57 #[.slice d key.length b,.slice c data.length a] w fun e w' =>
  ∃ v,e = .returned v /\ Own w' w.heap.size v (DB key data) /\ Bl w w':=by
 unfold DB
 by_cases h:key.length = 16 /\ data.length <= 4096
 ·rw [if_pos h];obtain ⟨n,l,rfl,k⟩:=j.range (by omega);have:=Sl key data n l b a c w h.1 h.2 m k f;rw [h.1];exact this
 ·rw [if_neg h];refine (Ph _ _ d c b a w g i h).mono ?_;rintro e w' ⟨rfl,rfl⟩;exact ⟨_,rfl,⟨5,Qa _ _ _ _⟩,Below.refl _ _⟩
theorem SB (key data:LU) (d c:Option Addr) (a b:Nat) (w:World) (i:key.length <= 1048576) (j:data.length <= 1048576) (n:key.length <= a) (_hd:data.length <= b) (f:RowAt w d key) (g:RowAt w c data) :
 Calls prog 86 #[.slice d key.length a,.slice c data.length b] w fun e w' =>
  ∃ v,e = .returned v /\ Own w' w.heap.size v (DB key data) /\ Bl w w':=by
 unfold DB
 by_cases h:key.length = 16 /\ data.length <= 4096
 ·rw [if_pos h];obtain ⟨m,l,rfl,-⟩:=f.at (k:=0) (by omega);have:=Pe key data m l a b c w h.1 (by omega) h.2 f g;rw [h.1];exact this
 ·rw [if_neg h];refine (Oq _ _ d c a b w i j h).mono ?_;rintro e w' ⟨rfl,rfl⟩;exact ⟨_,rfl,⟨5,Qa _ _ _ _⟩,Below.refl _ _⟩
theorem Je {a b:LU} (h:okO a b = true):BH a b = Ao a b /\ (Ao a b).length = 16:=by
 have c:=Fu (Bool.and_eq_true_iff.1 h).1;exact ⟨by unfold BH;rw [h];rfl,Gt _ _ c.1 c.2.1⟩
abbrev Fw:List Value:=[.int .i64 0,.slice none 0 0]
theorem Tryz.zeroMc:(prog.info? 68).map (fun i=>(i.zero,i.size)) = some (some (.agg Fw.toArray),2):=by kernel_rfl
def okM (a key:LU):Bool:=okO a key && decide (opU a key = 2)
def Dp (a key data:LU):Int:=if okM a key then (if data.length <= 4096 then 0 else 6) else 1
def macL (a key data:LU):LU:=if okM a key then (if data.length <= 4096 then DB (Ao a key) data else []) else []
theorem Ss (a b:LU) (k n:Option Addr) (o i:Nat) (w:World) (q:a.length <= 1048576) (z:b.length <= i) (x:RowAt w k a) (p:RowAt w n b) :
 Calls prog 85 #[.slice k a.length o,.slice n b.length i] w fun e w'=>∃ v,e = .returned (.agg #[.int .i64 (Cy a b),.int .i64 (opU a b),.int .i64 (opG a b),v]) /\ Own w' w.heap.size v (BH a b) /\ Bl w w':=by
 by_cases hl:a.length = 16 /\ b.length = 36
 ·obtain ⟨m,l⟩:=hl;obtain ⟨u,t,rfl,-⟩:=p.range (by omega);have y:36 <= i:=by omega
  rw [m,l];refine (RB a b k o u t i w m l y x p).mono ?_;have c:Bb a b = DH b:=by unfold Bb;rw [QK m,QK l];rfl
  rintro e w' ⟨⟨rfl,f⟩ | ⟨rfl,f,j⟩ | ⟨g,rfl,r,s,f,j⟩,d⟩
  ·refine ⟨.slice none 0 0,?_,?_,d⟩
   ·unfold Cy opU opG okO;rw [c,f]
    rfl
   ·unfold BH okO;rw [c,f];exact ET _ _
  ·refine ⟨.slice none 0 0,?_,?_,d⟩
   ·unfold Cy opU opG okO;rw [c,f,j]
    rfl
   ·unfold BH okO;rw [c,f,j];exact ET _ _
  ·refine ⟨.slice (some ⟨g,0,none⟩) 16 16,?_,?_,d⟩
   ·unfold Cy opU opG okO;rw [c,f,j]
    rfl
   ·unfold BH okO;rw [c,f,j];exact E7 s (qz r) (Gt _ _ m l) (by unfold maxLen;omega)
 ·have c:Bb a b = false:=by
   cases hq:Bb a b with
   | false=>rfl
   | true=>exact absurd ⟨(Fu hq).1,(Fu hq).2.1⟩ hl
  refine (SY _ _ k n o i w q hl).mono ?_;rintro e w' ⟨rfl,d⟩;refine ⟨.slice none 0 0,?_,?_,d⟩
  ·unfold Cy opU opG okO;rw [c]
   rfl
  ·unfold BH okO;rw [c];exact ET _ _
end Go.Proofs.YtbkokcjolanpeaaGreatDoor
