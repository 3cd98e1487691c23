import Derived.Test.YtbkokcjolanpeaaGreatDoorMkAL
import Derived.Test.YtbkokcjolanpeaaGreatDoorMkAO
import Derived.Lib.RabinKarpLaws
set_option maxRecDepth 100000
set_option maxHeartbeats 10000000
namespace Go.Proofs.YtbkokcjolanpeaaGreatDoor
open Go.RowKit Go.Proofs.Tryz Act
def LkX (w:World) (c k:Nat) (d:List Value) (P:Nat -> Prop):Prop:=∀ j,j < k -> ∃ b g a f,d[j * 3]? = some (.slice b (lkN c j).1.length g) /\ d[j * 3 + 1]? = some (.slice a (lkN c j).2.1.length f) /\ d[j * 3 + 2]? = some (.int .i64 (lkN c j).2.2) /\ (lkN c j).1.length <= g /\ (lkN c j).2.1.length <= f /\ (RowAt w b (lkN c j).1 /\ ∀ p,b = some p -> ¬ P p.block /\ p.block < w.heap.size) /\ (RowAt w a (lkN c j).2.1 /\ ∀ p,a = some p -> ¬ P p.block /\ p.block < w.heap.size)
theorem LkX.snoc {w y:World} {c k:Nat} {b:List Value} {P Q:Nat -> Prop} (N:b.length = k * 3) (h:LkX w c k b P) (n:Kp P w y) (o:w.heap.size <= y.heap.size) (r:∀ q,q < w.heap.size -> ¬ P q -> ¬ Q q) {g d:Option Addr} {m l:Nat} (L:(lkN c k).1.length <= m) (G:(lkN c k).2.1.length <= l) (B:RowAt y g (lkN c k).1) (v:RowAt y d (lkN c k).2.1) (x:∀ p,g = some p -> ¬ Q p.block /\ p.block < y.heap.size) (J:∀ p,d = some p -> ¬ Q p.block /\ p.block < y.heap.size) :
 LkX y c (k + 1) (b ++ [.slice g (lkN c k).1.length m,.slice d (lkN c k).2.1.length l,.int .i64 (lkN c k).2.2]) Q:=by
 intro j M
 by_cases hc:j < k
 ·obtain ⟨I,F,D,s,C,u,E,H,A,⟨z,f⟩,⟨t,i⟩⟩:=h j hc;refine ⟨I,F,D,s,by rw [List.getElem?_append_left (by omega)];exact C,by rw [List.getElem?_append_left (by omega)];exact u,by rw [List.getElem?_append_left (by omega)];exact E,H,A,⟨z.kp n (fun p a=>(f p a).1),fun p a=>⟨r _ (f p a).2 (f p a).1,QX (f p a).2 o⟩⟩,⟨t.kp n (fun p a=>(i p a).1),fun p a=>⟨r _ (i p a).2 (i p a).1,QX (i p a).2 o⟩⟩⟩
 ·obtain rfl:j = k:=by omega
  refine ⟨g,m,d,l,?_,?_,?_,L,G,⟨B,x⟩,⟨v,J⟩⟩
  ·rw [List.getElem?_append_right (by omega),show j * 3 - b.length = 0 from by omega];rfl
  ·rw [List.getElem?_append_right (by omega),show j * 3 + 1 - b.length = 1 from by omega];rfl
  ·rw [List.getElem?_append_right (by omega),show j * 3 + 2 - b.length = 2 from by omega];rfl
theorem LkX.lks {w:World} {c:Nat} {f:List Value} {P:Nat -> Prop} {lo j:Nat} {a:Option Addr} (h:LkX w c 3 f P) (row:w.ownsRow lo 35 3 (.slice a 3 j) 3 f):FQ w a ((List.range 3).map (lkN c)):=by
 intro i o;have b:i < 3:=by simpa using o
 obtain ⟨x,u,s,k,r,m,t,v,q,⟨p,-⟩,⟨l,-⟩⟩:=h i b;have n:((List.range 3).map (lkN c)).getD i ([],[],0) = lkN c i:=by
  rw [QA,List.getElem?_map,List.getElem?_range b];rfl
 rw [n];rcases row.2 with ⟨d,hz⟩ | ⟨g,z,y,d,-⟩
 ·omega
 ·cases d
  exact ⟨g,0,x,u,s,k,rfl,by rw [QZ,row.cellAt (i * 3) (by omega)];exact r,by rw [QZ,row.cellAt (i * 3 + 1) (by omega)];exact m,by rw [QZ,row.cellAt (i * 3 + 2) (by omega)];exact t,v,q,p,l⟩
abbrev I5:List Value:=[.slice none 0 0,.slice none 0 0,.slice none 0 0,.int .i64 0]
theorem Tryz.zeroCf:(prog.info? 26).map (fun i=>(i.zero,i.size)) = some (some (.agg I5.toArray),4):=by kernel_rfl
theorem Tryz.infoLk:(prog.info? 35).map (fun i=>(i.zero,i.size,i.bytes)) = some (some (.agg #[.slice none 0 0,.slice none 0 0,.int .i64 0]),3,56):=by kernel_rfl
theorem LkX.lksK {w y:World} {c:Nat} {d:List Value} {P:Nat -> Prop} {lo g:Nat} {a:Option Addr} (h:LkX w c 3 d P) (f:Kp P w y) (k:w.heap.size <= y.heap.size) (row:y.ownsRow lo 35 3 (.slice a 3 g) 3 d):FQ y a ((List.range 3).map (lkN c)):=by
 refine LkX.lks (P:=fun _=>False) (fun j q=>?_) row;obtain ⟨A,x,u,m,t,o,v,z,s,⟨r,i⟩,⟨n,l⟩⟩:=h j q;exact ⟨A,x,u,m,t,o,v,z,s,⟨r.kp f (fun p b=>(i p b).1),fun p b=>⟨id,QX (i p b).2 k⟩⟩,⟨n.kp f (fun p b=>(l p b).1),fun p b=>⟨id,QX (l p b).2 k⟩⟩⟩
theorem Blk.kp {P:Nat -> Prop} {w y:World} {g t:Nat} {cs:List Value} (h:Blk w g t cs) (k:Kp P w y) (a:¬ P g):Blk y g t cs:=(k g h.lt a).trans h
theorem Z7 {w:World} {g t:Nat} (k:Blk w g t [.string ⟨#[52]⟩,.int .i64 0,.string ⟨#[52,53]⟩,.int .i64 1,.string ⟨#[53]⟩,.int .i64 1,.string ⟨#[52,53,57]⟩,.int .i64 0,.string ⟨#[52,53]⟩,.int .i64 0,.string ⟨#[55]⟩,.int .i64 2]):EW w (some ⟨g,0,none⟩) I0:=by
 refine .inr ⟨g,0,rfl,fun i r a=>?_⟩;have c:i < 6:=(List.getElem?_eq_some_iff.1 a).1;have b:i = 0 \/ i = 1 \/ i = 2 \/ i = 3 \/ i = 4 \/ i = 5:=by omega
 rcases b with rfl | rfl | rfl | rfl | rfl | rfl <;> (cases a;exact ⟨k.cell _ (by simp),k.cell _ (by simp)⟩)
theorem Nx {wr j l O:World} {B b W U c k:Nat} {u:List Value} {a i z v:Option Addr} {m f D A:Nat} (R:Blk wr b 26 [.slice (some ⟨W,0,none⟩) 16 16,.slice a k m,.slice none 0 0,.int .i64 (U:Int)]) (M:wr.ownsRow B 35 3 (.slice a k m) k u) (HX:LkX wr c k u (fun q=>q < B \/ q = b \/ (Value.slice a k m).ownBlock = some q)) (F:some b ≠ (Value.slice a k m).ownBlock) (X:B <= b) (V:B = O.heap.size) (t:Below B O wr) (n:Bl wr j)
 (L:l.ownsRow B 35 3 (.slice i (k + 1) f) (k + 1) (u ++ [.slice z (lkN c k).1.length D,.slice v (lkN c k).2.1.length A,.int .i64 (lkN c k).2.2])) (o:j.grownBy l (Value.slice a k m).ownBlock) (r:(Value.slice i (k + 1) f).ownBlock = (Value.slice a k m).ownBlock \/ (Value.slice i (k + 1) f).ownBlock = some j.heap.size)
 (h1:(lkN c k).1.length <= D) (h2:(lkN c k).2.1.length <= A) (r1:RowAt j z (lkN c k).1) (Z:RowAt j v (lkN c k).2.1) (C:∀ p,z = some p -> wr.heap.size <= p.block /\ p.block < j.heap.size) (E:∀ p,v = some p -> wr.heap.size <= p.block /\ p.block < j.heap.size) :
 Blk (l.setCell ⟨b,1,none⟩ (.slice i (k + 1) f)) b 26 [.slice (some ⟨W,0,none⟩) 16 16,.slice i (k + 1) f,.slice none 0 0,.int .i64 (U:Int)] /\ (l.setCell ⟨b,1,none⟩ (.slice i (k + 1) f)).ownsRow B 35 3 (.slice i (k + 1) f) (k + 1) (u ++ [.slice z (lkN c k).1.length D,.slice v (lkN c k).2.1.length A,.int .i64 (lkN c k).2.2]) /\ LkX (l.setCell ⟨b,1,none⟩ (.slice i (k + 1) f)) c (k + 1) (u ++ [.slice z (lkN c k).1.length D,.slice v (lkN c k).2.1.length A,.int .i64 (lkN c k).2.2]) (fun q=>q < B \/ q = b \/ (Value.slice i (k + 1) f).ownBlock = some q) /\ some b ≠ (Value.slice i (k + 1) f).ownBlock /\ Below B O (l.setCell ⟨b,1,none⟩ (.slice i (k + 1) f)):=by
 have T:=R.below n R.lt;have lT:=R.lt;have I:B <= wr.heap.size:=by rw [V];exact t.size
 have G:=T.grown o F;have s9:=Sm.setCell (ts:=[26]) G (by simp) 1 (.slice i (k + 1) f);have x:Kp (fun q=>q < B \/ q = b \/ (Value.slice a k m).ownBlock = some q) j (l.setCell ⟨b,1,none⟩ (.slice i (k + 1) f)):=(Kp.grown o (fun g e=>.inr (.inr e))).trans o.size (Kp.setCell l (.inr (.inl rfl)) 1 _);have kp:=(Kp.below (P:=fun q=>q < B \/ q = b \/ (Value.slice a k m).ownBlock = some q) n).trans n.size x;have s:j.heap.size <= (l.setCell ⟨b,1,none⟩ (.slice i (k + 1) f)).heap.size:=by simp [World.setCell];exact o.size
 have y:∀ q,wr.heap.size <= q -> ¬ (q < B \/ q = b \/ (Value.slice a k m).ownBlock = some q):=fun q N h=>by
  rcases h with h | h | h
  ·omega
  ·omega
  ·have:=(M.lt q h).2;omega
 have H:∀ q,wr.heap.size <= q -> q < j.heap.size -> ¬ (q < B \/ q = b \/ (Value.slice i (k + 1) f).ownBlock = some q):=fun q N a0 h=>by
  rcases h with h | h | h
  ·omega
  ·omega
  ·rcases r with e | e
   ·exact y q N (.inr (.inr (by rw [<- e];exact h)))
   ·rw [e] at h;cases h;omega
 refine ⟨G.set 1 _,Bd L s9 (by decide),LkX.snoc M.1 HX kp (QG n.size s) (fun q N d h=>?_) h1 h2 (r1.kp x (fun p d=>y _ (C p d).1)) (Z.kp x (fun p d=>y _ (E p d).1)) (fun p d=>⟨H _ (C p d).1 (C p d).2,QX (C p d).2 s⟩) (fun p d=>⟨H _ (E p d).1 (E p d).2,QX (E p d).2 s⟩),?_,?_⟩
 ·rcases h with h | h | h
  ·exact d (.inl h)
  ·exact d (.inr (.inl h))
  ·rcases r with e | e
   ·exact d (.inr (.inr (by rw [<- e];exact h)))
   ·rw [e] at h;cases h;have:=n.size;omega
 ·intro e;rcases r with J | J
  ·exact F (by rw [<- J];exact e)
  ·rw [J] at e;cases e;have:=n.size;omega
 ·exact ((t.trans (n.mono I)).grown o (QG I n.size) (fun g Y=>(M.lt g Y).1)).setCell X _
theorem Rh (R:Nat) (ao:Option Addr) (h4:Nat) (b7:LU) (i:Nat) (w:World) (hn:b7.length <= 1048576) (hi:i <= b7.length) (hr:RowAt w ao b7) (hR:Rd w R ao h4 b7 i) :
 Calls prog 17 #[.pointer (some ⟨R,0,none⟩)] w fun e w'=>∃ (c gM:Nat) (al:Option Addr) (cl gR:Nat),c < 256 /\ e = .returned (.agg #[.slice (some ⟨gM,0,none⟩) 16 16,.slice al 3 cl,.slice (some ⟨gR,0,none⟩) 6 6,.int .i64 ((1 + c % 4:Nat):Int)]) /\ (∀ y,w'.heap.size <= y.heap.size -> Kp (fun q=>q < w.heap.size) w' y -> RowAt y (some ⟨gM,0,none⟩) masterL /\ FQ y al ((List.range 3).map (lkN c)) /\ EW y (some ⟨gR,0,none⟩) I0) /\ w.grownBy w' (some R):=by
 have hz:=(QO Tryz.zeroCf).1;obtain ⟨i0,f6,g0,f3,f1⟩:=Qg Tryz.infoLk;obtain ⟨gO,e6⟩:=uX (w.heap.size);obtain ⟨W,hW⟩:=uX (w.alloc (Obj.cells I5.toArray 26));have bW:=uB hW;have kO:Blk W gO 26 I5:=by rw [hW,e6];exact Blk.new _ _ _
 have lR:R < w.heap.size:=Blk.lt hR;have h1:=AA (YQ R ao h4 b7 i W hn hi (hr.below bW) (Blk.below hR bW lR));have HW:=AA hW;have i5:=AA e6;have i8:=AA e6;have k4:gO ≠ R:=by omega
 clear hW e6 hr hR;go_enter func17,ntmps17;go_upto_region 1 with fail
 rw [<- show W = _ from HW,<- show gO = _ from i5];clear HW i5;go_wp2_with fail;refine h1.out.mono ?_;rintro e X1 ⟨c,i',rfl,hc,-,-,c4,l7⟩;have h2:=kO.grown c4 (by intro e;cases e;exact k4 rfl)
 obtain ⟨m4,i7⟩:=uX (c % 4);have m1:(c:Int).tmod 4 = (m4:Int):=by rw [Qk (by omega)];omega
 have l4:(c:Int) % 4 = (m4:Int):=by omega
 obtain ⟨rm,g9⟩:=uX (1 + m4);have l8:IntKind.i64.wrap (m4:Int) = (m4:Int):=by rw [QH];omega
 have l9:IntKind.i64.wrap (1 + (m4:Int)) = (rm:Int):=by rw [QH];omega
 have j3:Hid (rm = 1 + c % 4):=by rw [g9,i7];rfl
 clear i7 g9 h1;go_wp2_with fail;refine (NV X1).mono ?_;rintro e L ⟨gM,rfl,k9,m0,rM,b2⟩;obtain ⟨F,e7⟩:=uX (L.heap.size);obtain ⟨W3,e4⟩:=uX (L.alloc (Obj.cells #[.slice (some ⟨gM,0,none⟩) 16 16,.slice none 0 0,.slice none 0 0,.int .i64 (rm:Int)] 26));have b3:=uB e4;have kT:=uK e4 e7;have RM:=AA rM;have i4:=AA e4;have i6:=AA e7;have l0:=AA e7;have g7:L.heap.size <= F:=by omega
 clear e4 e7 rM;go_upto_region 3 with fail
 rw [<- show W3 = _ from i4,<- show F = _ from i6];clear i4 i6;go_wp2_with fail
 go_loopw [5] (fun i wr=>∃ (k:Nat) (xs:List Value) (a:Option Addr) (U:Nat),k <= 3 /\ i = .int .i64 (k:Int) /\ Hid (Blk wr F 26 [.slice (some ⟨gM,0,none⟩) 16 16,.slice a k U,.slice none 0 0,.int .i64 (rm:Int)]) /\ Hid (wr.ownsRow L.heap.size 35 3 (.slice a k U) k xs) /\ Hid (LkX wr c k xs (fun q=>q < L.heap.size \/ q = F \/ (Value.slice a k U).ownBlock = some q)) /\ Hid (some F ≠ (Value.slice a k U).ownBlock) /\ Bl L wr) (fun i _=>3 - (intOf i).toNat)
 case atStart=>exact ⟨0,[],none,0,by omega,rfl,kT,Qa _ _ _ _,fun j hj=>absurd hj (Qj j),(fun e=>by cases e),b3⟩
 case round =>
  obtain ⟨k,xs,a,U,hk,rfl,z,HR,HX,e3,b⟩:=hrel;have g6:Hid (∀ r:Option Nat,r = (Value.slice a k U).ownBlock -> some F ≠ r):=fun r e=>by rw [e];exact e3.out
  have j4:k = 0 \/ k = 1 \/ k = 2 \/ k = 3:=by omega
  rcases j4 with rfl | rfl | rfl | rfl
  ·skip
   obtain ⟨M,m⟩:=uX (c / 2 ^ 2);have h5:(c:Int) / 4 = (M:Int):=by rw [m,show (2:Nat) ^ 2 = 4 from rfl];omega
   have A:M < 9223372036854775808:=by rw [m];exact Nat.lt_of_le_of_lt (qX _ _) (by omega)
   have d2:=Go.Proofs.and_one M A;obtain ⟨bN,C⟩:=uX (M % 2);rw [<- C] at d2;obtain ⟨l,Z⟩:=uX (bN * 3);have h9:wrap64 ((bN:Int) * 3) = (l:Int):=by unfold wrap64;omega
   have d5:Hid ((l:Int) = (lkN c 0).2.2):=by
    show (l:Int) = (fmtN c 0:Int);rw [Z,C,m];rfl
   clear m C Z A;go_wp2_with fail;refine (Em 0 1 0 (by omega) (.inl ⟨rfl,rfl⟩) wr).mono ?_;rintro e Y1 ⟨⟨a1,c1,rfl,a6,r1,o1⟩,b1⟩;obtain ⟨n1,G⟩:=uX ((DR 0 1 0).length);rw [<- G];have H1:=AA (And.intro G (And.intro a6 (And.intro r1 o1)));clear G a6 r1 o1;go_wp2_with fail;refine (Em 0 2 1 (by omega) (.inr (.inl ⟨rfl,rfl⟩)) Y1).mono ?_;rintro e Y2 ⟨⟨I,J,rfl,Y,r2,o2⟩,D⟩;obtain ⟨n2,B⟩:=uX ((DR 0 2 1).length);rw [<- B];have x:=AA (And.intro B (And.intro Y (And.intro r2 o2)));clear B Y r2 o2;obtain ⟨T,o⟩:=uX (Y2.heap.size);obtain ⟨X,n⟩:=uX (Y2.alloc (Obj.cells #[.slice a1 n1 c1,.slice I n2 J,.int .i64 (l:Int)] 35));have b6:=uB n;have kl:=uK n o;have V:=b1.trans (D.mono b1.size);have H:=V.trans (b6.mono V.size);have a7:=AA o;have c6:=AA o;have b4:=AA n;clear n o;go_upto_region 7 with fail
   rw [<- show X = _ from b4,<- show T = _ from a7];clear b4 a7;have k6:=z.out.below H z.out.lt;have t1:=k6.c 1;have H6:Hid (∃ (u1:Option Addr) (d1:Nat),True):=⟨none,0,trivial⟩;obtain ⟨W8,s⟩:=uX (X.alloc (Obj.cells #[.slice a1 n1 c1,.slice I n2 J,.int .i64 (l:Int)] 35));have b8:=uB s;have k8:Blk W8 X.heap.size 35 [.slice a1 n1 c1,.slice I n2 J,.int .i64 (l:Int)]:=by rw [s];exact Blk.new _ _ _
   have v:=H.trans (b8.mono H.size);have e1:=AA (Bd (ts:=[]) HR.out (Sm.below v) (by simp));have a8:=z.out.below v z.out.lt;have K8:=AA k8;have d6:=AA s;have d4:=AA a8;have d3:L.heap.size <= W8.heap.size:=QG b.size v.size;clear s k8 a8 H6;go_wp2_with (first
    | (refine AL rfl 35 _ rfl T rfl kl underlying35 rfl (by kernel_rfl) ?_)
    | (at_builtin;(rw [<- show W8 = _ from d6];refine Qq _ rfl _ _ 23 rfl L.heap.size 35 i0 (.agg #[.slice none 0 0,.slice none 0 0,.int .i64 0]) 3 56 underlying23 f6 g0 f3 f1 rfl (by decide) (.slice a 0 U) 0 _ rfl e1.out ⟨X.heap.size,0,none⟩ 1 1 [.slice a1 n1 c1,.slice I n2 J,.int .i64 (l:Int)] rfl rfl (FM K8.out) (by intro u hu;simp at hu;rcases hu with rfl | rfl | rfl <;> rfl) (by unfold maxLen;omega) (by omega) d3 ?_;intro v9 W9 E a0 _ d0;obtain ⟨a9,c9,rfl⟩:=EV E;have a4:=d4.out.grown a0 (g6.out _ (by rfl));have t9:=a4.c 1;have f9:=a4.free 1)))
   have N:=b6.trans (b8.mono b6.size);have f:=AA (Nx (k:=0) z.out HR.out HX.out e3.out g7 rfl b v (by have r:=E;rw [H1.out.1,x.out.1,d5.out] at r;exact r) a0 d0 H1.out.2.1 x.out.2.1 (H1.out.2.2.1.below (D.trans (N.mono D.size))) (x.out.2.2.1.below N) (fun p d=>⟨(H1.out.2.2.2 p d).1,QX (H1.out.2.2.2 p d).2 (QG D.size N.size)⟩) (fun p d=>⟨QG b1.size (x.out.2.2.2 p d).1,QX (x.out.2.2.2 p d).2 N.size⟩));go_roundw
   case rel=>exact ⟨1,_,a9,c9,by omega,rfl,f.out.1,f.out.2.1,f.out.2.2.1,f.out.2.2.2.1,f.out.2.2.2.2⟩
   case measure=>simp [intOf]
  ·skip
   obtain ⟨M,m⟩:=uX (c / 2 ^ 3);have h5:(c:Int) / 8 = (M:Int):=by rw [m,show (2:Nat) ^ 3 = 8 from rfl];omega
   have A:M < 9223372036854775808:=by rw [m];exact Nat.lt_of_le_of_lt (qX _ _) (by omega)
   have d2:=Go.Proofs.and_one M A;obtain ⟨bN,C⟩:=uX (M % 2);rw [<- C] at d2;obtain ⟨l,Z⟩:=uX (bN * 3);have h9:wrap64 ((bN:Int) * 3) = (l:Int):=by unfold wrap64;omega
   have d5:Hid ((l:Int) = (lkN c 1).2.2):=by
    show (l:Int) = (fmtN c 1:Int);rw [Z,C,m];rfl
   clear m C Z A;go_wp2_with fail;refine (Em 1 1 0 (by omega) (.inl ⟨rfl,rfl⟩) wr).mono ?_;rintro e Y1 ⟨⟨a1,c1,rfl,a6,r1,o1⟩,b1⟩;obtain ⟨n1,G⟩:=uX ((DR 1 1 0).length);rw [<- G];have H1:=AA (And.intro G (And.intro a6 (And.intro r1 o1)));clear G a6 r1 o1;go_wp2_with fail;refine (Em 1 2 1 (by omega) (.inr (.inl ⟨rfl,rfl⟩)) Y1).mono ?_;rintro e Y2 ⟨⟨I,J,rfl,Y,r2,o2⟩,D⟩;obtain ⟨n2,B⟩:=uX ((DR 1 2 1).length);rw [<- B];have x:=AA (And.intro B (And.intro Y (And.intro r2 o2)));clear B Y r2 o2;obtain ⟨T,o⟩:=uX (Y2.heap.size);obtain ⟨X,n⟩:=uX (Y2.alloc (Obj.cells #[.slice a1 n1 c1,.slice I n2 J,.int .i64 (l:Int)] 35));have b6:=uB n;have kl:=uK n o;have V:=b1.trans (D.mono b1.size);have H:=V.trans (b6.mono V.size);have a7:=AA o;have c6:=AA o;have b4:=AA n;clear n o;go_upto_region 7 with fail
   rw [<- show X = _ from b4,<- show T = _ from a7];clear b4 a7;have k6:=z.out.below H z.out.lt;have t1:=k6.c 1;have H6:Hid (∃ (u1:Option Addr) (d1:Nat),True):=⟨none,0,trivial⟩;obtain ⟨W8,s⟩:=uX (X.alloc (Obj.cells #[.slice a1 n1 c1,.slice I n2 J,.int .i64 (l:Int)] 35));have b8:=uB s;have k8:Blk W8 X.heap.size 35 [.slice a1 n1 c1,.slice I n2 J,.int .i64 (l:Int)]:=by rw [s];exact Blk.new _ _ _
   have v:=H.trans (b8.mono H.size);have e1:=AA (Bd (ts:=[]) HR.out (Sm.below v) (by simp));have a8:=z.out.below v z.out.lt;have K8:=AA k8;have d6:=AA s;have d4:=AA a8;have d3:L.heap.size <= W8.heap.size:=QG b.size v.size;clear s k8 a8 H6;go_wp2_with (first
    | (refine AL rfl 35 _ rfl T rfl kl underlying35 rfl (by kernel_rfl) ?_)
    | (at_builtin;(rw [<- show W8 = _ from d6];refine Qq _ rfl _ _ 23 rfl L.heap.size 35 i0 (.agg #[.slice none 0 0,.slice none 0 0,.int .i64 0]) 3 56 underlying23 f6 g0 f3 f1 rfl (by decide) (.slice a 1 U) 1 _ rfl e1.out ⟨X.heap.size,0,none⟩ 1 1 [.slice a1 n1 c1,.slice I n2 J,.int .i64 (l:Int)] rfl rfl (FM K8.out) (by intro u hu;simp at hu;rcases hu with rfl | rfl | rfl <;> rfl) (by unfold maxLen;omega) (by omega) d3 ?_;intro v9 W9 E a0 _ d0;obtain ⟨a9,c9,rfl⟩:=EV E;have a4:=d4.out.grown a0 (g6.out _ (by rfl));have t9:=a4.c 1;have f9:=a4.free 1)))
   have N:=b6.trans (b8.mono b6.size);have f:=AA (Nx (k:=1) z.out HR.out HX.out e3.out g7 rfl b v (by have r:=E;rw [H1.out.1,x.out.1,d5.out] at r;exact r) a0 d0 H1.out.2.1 x.out.2.1 (H1.out.2.2.1.below (D.trans (N.mono D.size))) (x.out.2.2.1.below N) (fun p d=>⟨(H1.out.2.2.2 p d).1,QX (H1.out.2.2.2 p d).2 (QG D.size N.size)⟩) (fun p d=>⟨QG b1.size (x.out.2.2.2 p d).1,QX (x.out.2.2.2 p d).2 N.size⟩));go_roundw
   case rel=>exact ⟨2,_,a9,c9,by omega,rfl,f.out.1,f.out.2.1,f.out.2.2.1,f.out.2.2.2.1,f.out.2.2.2.2⟩
   case measure=>simp [intOf]
  ·skip
   obtain ⟨M,m⟩:=uX (c / 2 ^ 4);have h5:(c:Int) / 16 = (M:Int):=by rw [m,show (2:Nat) ^ 4 = 16 from rfl];omega
   have A:M < 9223372036854775808:=by rw [m];exact Nat.lt_of_le_of_lt (qX _ _) (by omega)
   have d2:=Go.Proofs.and_one M A;obtain ⟨bN,C⟩:=uX (M % 2);rw [<- C] at d2;obtain ⟨l,Z⟩:=uX (bN * 3);have h9:wrap64 ((bN:Int) * 3) = (l:Int):=by unfold wrap64;omega
   have d5:Hid ((l:Int) = (lkN c 2).2.2):=by
    show (l:Int) = (fmtN c 2:Int);rw [Z,C,m];rfl
   clear m C Z A;go_wp2_with fail;refine (Em 2 1 0 (by omega) (.inl ⟨rfl,rfl⟩) wr).mono ?_;rintro e Y1 ⟨⟨a1,c1,rfl,a6,r1,o1⟩,b1⟩;obtain ⟨n1,G⟩:=uX ((DR 2 1 0).length);rw [<- G];have H1:=AA (And.intro G (And.intro a6 (And.intro r1 o1)));clear G a6 r1 o1;go_wp2_with fail;refine (Em 2 2 1 (by omega) (.inr (.inl ⟨rfl,rfl⟩)) Y1).mono ?_;rintro e Y2 ⟨⟨I,J,rfl,Y,r2,o2⟩,D⟩;obtain ⟨n2,B⟩:=uX ((DR 2 2 1).length);rw [<- B];have x:=AA (And.intro B (And.intro Y (And.intro r2 o2)));clear B Y r2 o2;obtain ⟨T,o⟩:=uX (Y2.heap.size);obtain ⟨X,n⟩:=uX (Y2.alloc (Obj.cells #[.slice a1 n1 c1,.slice I n2 J,.int .i64 (l:Int)] 35));have b6:=uB n;have kl:=uK n o;have V:=b1.trans (D.mono b1.size);have H:=V.trans (b6.mono V.size);have a7:=AA o;have c6:=AA o;have b4:=AA n;clear n o;go_upto_region 7 with fail
   rw [<- show X = _ from b4,<- show T = _ from a7];clear b4 a7;go_wp2_with fail;refine (Em 2 3 0 (by omega) (.inr (.inr ⟨rfl,rfl⟩)) X).mono ?_;rintro e Y3 ⟨⟨a3,c3,rfl,h6,r3,o3⟩,e9⟩;obtain ⟨n3,f0⟩:=uX ((DR 2 3 0).length);rw [<- f0];have H3:=AA (And.intro f0 (And.intro h6 (And.intro r3 o3)));clear f0 h6 r3 o3;have g5:=kl.below e9 kl.lt;have e0:=g5.c 0;have m2:=g5.free 0;obtain ⟨W7,c0⟩:=uX (Y3.setCell ⟨T,0,none⟩ (.slice a3 n3 c3));have j8:Blk W7 T 35 [.slice a3 n3 c3,.slice I n2 J,.int .i64 (l:Int)]:=by rw [c0];exact g5.set 0 _
   have j0:wr.heap.size <= T:=by rw [c6.out];exact V.size
   have f7:Bl wr W7:=by rw [c0];exact (H.trans (e9.mono H.size)).setCell j0 _
   have g8:Kp (fun q=>q = T) Y3 W7:=by rw [c0];exact Kp.setCell (P:=fun q=>q = T) Y3 rfl 0 _
   have i3:Y3.heap.size <= W7.heap.size:=by rw [c0];simp [World.setCell]
   have l1:W7.heap.size <= Y3.heap.size:=by rw [c0];simp [World.setCell]
   have i2:=z.out.below f7 z.out.lt;have t7:=i2.c 1;have l2:T < X.heap.size:=kl.lt;have R3:=AA (H3.out.2.2.1.kp g8 (fun p d e=>by have:=(H3.out.2.2.2 p d).1;omega));have R2:=AA ((x.out.2.2.1.below (b6.trans (e9.mono b6.size))).kp g8 (fun p d e=>by have:=(x.out.2.2.2 p d).2;have:=c6.out;omega));obtain ⟨W8,s⟩:=uX (W7.alloc (Obj.cells #[.slice a3 n3 c3,.slice I n2 J,.int .i64 (l:Int)] 35));have b8:=uB s;have k8:Blk W8 W7.heap.size 35 [.slice a3 n3 c3,.slice I n2 J,.int .i64 (l:Int)]:=by rw [s];exact Blk.new _ _ _
   have v:=f7.trans (b8.mono f7.size);have e1:=AA (Bd (ts:=[]) HR.out (Sm.below v) (by simp));have a8:=z.out.below v z.out.lt;have K8:=AA k8;have d6:=AA s;have k7:=AA c0;have d4:=AA a8;have d3:L.heap.size <= W8.heap.size:=QG b.size v.size;have h7:=b8.size;clear s k8 a8 c0 i2 g8;go_upto_region 9 with fail
   rw [<- show W7 = _ from k7];go_wp2_with (first
    | (refine AL rfl 35 _ rfl T rfl j8 underlying35 rfl (by kernel_rfl) ?_)
    | (at_builtin;(rw [<- show W8 = _ from d6];refine Qq _ rfl _ _ 23 rfl L.heap.size 35 i0 (.agg #[.slice none 0 0,.slice none 0 0,.int .i64 0]) 3 56 underlying23 f6 g0 f3 f1 rfl (by decide) (.slice a 2 U) 2 _ rfl e1.out ⟨W7.heap.size,0,none⟩ 1 1 [.slice a3 n3 c3,.slice I n2 J,.int .i64 (l:Int)] rfl rfl (FM K8.out) (by intro u hu;simp at hu;rcases hu with rfl | rfl | rfl <;> rfl) (by unfold maxLen;omega) (by omega) d3 ?_;intro v9 W9 E a0 _ d0;obtain ⟨a9,c9,rfl⟩:=EV E;have a4:=d4.out.grown a0 (g6.out _ (by rfl));have t9:=a4.c 1;have f9:=a4.free 1)))
   have f:=AA (Nx (k:=2) z.out HR.out HX.out e3.out g7 rfl b v (by have r:=E;rw [H3.out.1,x.out.1,d5.out] at r;exact r) a0 d0 H3.out.2.1 x.out.2.1 (R3.out.below b8) (R2.out.below b8) (fun p d=>⟨QG H.size (H3.out.2.2.2 p d).1,QX (H3.out.2.2.2 p d).2 (QG i3 h7)⟩) (fun p d=>⟨QG b1.size (x.out.2.2.2 p d).1,QX (x.out.2.2.2 p d).2 (QG (QG b6.size e9.size) (QG i3 h7))⟩));go_roundw
   case rel=>exact ⟨3,_,a9,c9,by omega,rfl,f.out.1,f.out.2.1,f.out.2.2.1,f.out.2.2.2.1,f.out.2.2.2.2⟩
   case measure=>simp [intOf]
  ·obtain ⟨gR,f5⟩:=uX (wr.heap.size);obtain ⟨b0,b9⟩:=uX (wr.alloc (Obj.cells #[.string ⟨#[52]⟩,.int .i64 0,.string ⟨#[52,53]⟩,.int .i64 1,.string ⟨#[53]⟩,.int .i64 1,.string ⟨#[52,53,57]⟩,.int .i64 0,.string ⟨#[52,53]⟩,.int .i64 0,.string ⟨#[55]⟩,.int .i64 2] 105));have t:=uB b9;have kR:=uK b9 f5;have c5:=z.out.below t z.out.lt;have t2:=c5.c 2;have f2:=c5.free 2;obtain ⟨a5,c7⟩:=uX (b0.setCell ⟨F,2,none⟩ (.slice (some ⟨gR,0,none⟩) 6 6));have j2:Blk a5 F 26 [.slice (some ⟨gM,0,none⟩) 16 16,.slice a 3 U,.slice (some ⟨gR,0,none⟩) 6 6,.int .i64 (rm:Int)]:=by rw [c7];exact c5.set 2 _
   have e2:gO < X1.heap.size:=h2.lt;have h8:=h2.below b2 e2;have i1:=h8.below b (QX e2 b2.size);have h3:=i1.below t (QX (QX e2 b2.size) b.size);have j9:gO ≠ F:=by have:=b2.size;omega
   have k5:Blk a5 gO 26 I5:=by rw [c7];exact h3.other ⟨F,2,none⟩ _ j9
   have i9:=AA b9;have b5:=AA c7;have e5:=AA f5;rw [b9] at t2 f2;clear b9 c7 f5 c5 h8 i1 h3;go_upto_region 11 with fail
   rw [<- show b0 = _ from i9,<- show gR = _ from e5,<- show a5 = _ from b5];clear t2 f2;go_wp2_with (first
    | (refine AL rfl 26 _ rfl F rfl j2 underlying26 rfl (by kernel_rfl) ?_)
    | (refine store_blk (cs:=[.slice (some ⟨gM,0,none⟩) 16 16,.slice a 3 U,.slice (some ⟨gR,0,none⟩) 6 6,.int .i64 (rm:Int)]) rfl 26 _ _ rfl gO rfl rfl k5 (by kernel_rfl) rfl (by simp [Value.oneCell']) ?_;intro k0 j7 O l3))
   refine Qc (AG results17 _ _ rfl j7 underlying26 rfl (by kernel_rfl)) rfl ⟨c,gM,a,U,gR,hc,by rw [<- j3.out],?_,?_⟩
   all_goals have l5:=i8.out
   all_goals have c8:Kp (fun q=>q = F) b0 a5:=by rw [b5.out];exact Kp.setCell (P:=fun q=>q = F) b0 rfl 2 _
   all_goals have h0:a5.heap.size = b0.heap.size:=by rw [b5.out];simp [World.setCell]
   all_goals have z1:=bW.size
   all_goals have z2:=c4.size
   all_goals have z3:=b2.size
   all_goals have z4:=b.size
   all_goals have z5:=t.size
   all_goals have z6:=O.size
   ·intro y l6 e8;refine ⟨?_,?_,?_⟩
    ·have j6:=(((RM.out.below b).below t).kp c8 (fun p d e=>by cases d;simp only at e;omega)).kp (Kp.grown (P:=fun q=>q = gO) O (fun q e=>by cases e;rfl)) (fun p d e=>by cases d;simp only at e;omega);exact j6.kp e8 (fun p d e=>by cases d;simp only at e;omega)
    ·have k1:Kp (fun q=>q < L.heap.size \/ q = F \/ (Value.slice a 3 U).ownBlock = some q) wr k0:=((Kp.below t).trans t.size (c8.weak (fun q _ e=>.inr (.inl e)))).trans (by rw [h0];exact t.size) (Kp.grown O (fun q e=>by cases e;exact .inl (QX e2 b2.size)));have k2:=k1.trans (by omega) (e8.weak (Q:=fun q=>q < L.heap.size \/ q = F \/ (Value.slice a 3 U).ownBlock = some q) (fun q _ e=>.inl (by omega)));have k3:Kp (fun q=>q < L.heap.size \/ q = F) wr y:=(((Kp.below t).trans t.size (c8.weak (fun q _ e=>.inr e))).trans (by rw [h0];exact t.size) (Kp.grown O (fun q e=>by cases e;exact .inl (QX e2 b2.size)))).trans (by omega) (e8.weak (fun q _ e=>.inl (by omega)));exact HX.out.lksK k2 (by omega) (IZ HR.out k3 (fun g hg e=>by
      rcases e with e | e
      ·have:=(HR.out.lt g hg).1;omega
      ·exact e3.out (by rw [hg,e])))
    ·have f4:=kR.other ⟨F,2,none⟩ (.slice (some ⟨gR,0,none⟩) 6 6) (by have:=z.out.lt;have:=e5.out;simp only;omega);rw [<- b5.out] at f4;have j1:=f4.grown O (fun e=>by cases e;have:=e5.out;omega);exact Z7 (j1.kp e8 (by have:=e5.out;omega))
   ·have f8:a5.os = b0.os /\ a5.tape = b0.tape /\ a5.output = b0.output:=by rw [b5.out];exact ⟨rfl,rfl,rfl⟩
    refine ⟨O.os.trans (f8.1.trans (t.os.trans (b.os.trans (b2.os.trans (c4.os.trans bW.os))))),O.tape.trans (f8.2.1.trans (t.tape.trans (b.tape.trans (b2.tape.trans (c4.tape.trans bW.tape))))),O.output.trans (f8.2.2.trans (t.output.trans (b.output.trans (b2.output.trans (c4.output.trans bW.output))))),by omega,fun q hq j5=>?_⟩;exact (O.block q (by omega) (fun e=>by cases e;omega)).trans ((c8 q (by omega) (fun e=>by omega)).trans ((t.block q (by omega)).trans ((b.block q (by omega)).trans ((b2.block q (by omega)).trans ((c4.block q (by omega) j5).trans (bW.block q hq))))))
theorem GG (c:Nat):((List.range 3).map (lkN c)).length = 3:=by simp
theorem GA (c i:Nat) (h:i < 3):((List.range 3).map (lkN c)).getD i ([],[],0) = lkN c i:=by
 rw [QA,List.getElem?_map,List.getElem?_range h];rfl
theorem FQ.elt {w:World} {q:Option Addr} {c:Nat} (h:FQ w q ((List.range 3).map (lkN c))):∃ d:List (List Value),d.length = 3 /\ DA 3 w q d /\ ∀ i,i < d.length -> ∃ F H f,d.getD i [] = [F,H,.int .i64 f] /\ (f = 0 \/ f = 3):=by
 obtain ⟨g,o,M,E,B,A,rfl,m,t,u,-⟩:=h 0 (by rw [GG];omega);obtain ⟨g1,O,J,I,C,z,D,n,v,r,-⟩:=h 1 (by rw [GG];omega);obtain ⟨g2,R,N,y,L,G,x,p,l,s,-⟩:=h 2 (by rw [GG];omega);cases D
 cases x
 rw [GA c 0 (by omega)] at m t u;rw [GA c 1 (by omega)] at n v r;rw [GA c 2 (by omega)] at p l s;refine ⟨[[.slice M (lkN c 0).1.length E,.slice B (lkN c 0).2.1.length A,.int .i64 (lkN c 0).2.2],[.slice J (lkN c 1).1.length I,.slice C (lkN c 1).2.1.length z,.int .i64 (lkN c 1).2.2],[.slice N (lkN c 2).1.length y,.slice L (lkN c 2).2.1.length G,.int .i64 (lkN c 2).2.2]],rfl,fun i b=>⟨g,o,rfl,?_,fun j T=>?_⟩,fun i b=>?_⟩
 ·have a:i = 0 \/ i = 1 \/ i = 2:=by have:i < 3:=b;omega
  rcases a with rfl | rfl | rfl <;> rfl
 ·have a:i = 0 \/ i = 1 \/ i = 2:=by have:i < 3:=b;omega
  have k:j = 0 \/ j = 1 \/ j = 2:=by omega
  rcases a with rfl | rfl | rfl <;> rcases k with rfl | rfl | rfl
  ·exact m
  ·exact t
  ·exact u
  ·exact n
  ·exact v
  ·exact r
  ·exact p
  ·exact l
  ·exact s
 ·have a:i = 0 \/ i = 1 \/ i = 2:=by have:i < 3:=b;omega
  rcases a with rfl | rfl | rfl
  ·exact ⟨_,_,_,rfl,Nr c 0⟩
  ·exact ⟨_,_,_,rfl,Nr c 1⟩
  ·exact ⟨_,_,_,rfl,Nr c 2⟩
theorem EW.elt {w:World} {f:Option Addr} (h:EW w f I0):DA 2 w f qrN:=by
 rcases h with h | ⟨g,o,rfl,n⟩
 ·simp [I0] at h
 ·intro i m;have a:i < 6:=m;obtain ⟨r,b⟩:∃ r,I0[i]? = some r:=⟨_,List.getElem?_eq_getElem (by show i < 6;exact a)⟩;obtain ⟨k,l⟩:=n i r b;have c:qrN.getD i [] = [.string r.1,.int .i64 r.2]:=by
   unfold qrN;rw [QA,List.getElem?_map,b]
   rfl
  refine ⟨g,o,rfl,by rw [c];rfl,fun j p=>?_⟩;rw [c];have d:j = 0 \/ j = 1:=by omega
  rcases d with rfl | rfl
  ·exact k
  ·exact l
theorem Nd {α:Type} (f:α -> List Value) (z:Nat) (c:∀ a,(f a).length = z):∀ (l:List α) (i:Nat) (b:i < l.length) (j:Nat),j < z -> (l.flatMap f)[i * z + j]? = (f l[i])[j]?
 | [],i,b,_,_=>absurd b (Qj i)
 | a :: l,0,_,j,hj=>by
   rw [List.flatMap_cons,List.getElem?_append_left (by rw [c];omega),Nat.zero_mul,QZ]
   rfl
 | a :: l,i + 1,b,j,hj=>by
   rw [List.flatMap_cons,List.getElem?_append_right (by rw [c,Nat.add_mul];omega),c,show (i + 1) * z + j - z = i * z + j from by rw [Nat.add_mul];omega];exact Nd f z c l i (by simpa using b) j hj
structure Rm (w:World) (c:Nat) (x0 x1:Addr) (gM:Nat) (al:Option Addr) (gR:Nat) (D:LU) (ad:Option Addr):Prop where
 hs:Sents w x0 x1
 hT:∀ w',Bl w w' -> Lib.TabIs prog w' "internal/strconv.uint64pow10" .u64 Lib.pow10Tab
 rm:RowAt w (some ⟨gM,0,none⟩) masterL
 lk:FQ w al ((List.range 3).map (lkN c))
 rt:EW w (some ⟨gR,0,none⟩) I0
 rd:RowAt w ad D
theorem Rm.below {w w':World} {c:Nat} {d b:Addr} {f:Nat} {j:Option Addr} {i:Nat} {D:LU} {g:Option Addr} (h:Rm w c d b f j i D g) (a:Bl w w'):Rm w' c d b f j i D g :=
 ⟨h.hs.below a,fun y k=>h.hT y (a.trans (k.mono a.size)),h.rm.below a,h.lk.below a,h.rt.below a,h.rd.below a⟩
abbrev PF:List Value:=[.int .i64 0,.int .i64 0,.int .i64 0,.slice none 0 0]
theorem Tryz.zeroEv:(prog.info? 38).map (fun i=>(i.zero,i.size)) = some (some (.agg PF.toArray),4):=by kernel_rfl
theorem N1 (a:LU) (l:Option Addr) (b:Nat) (w:World) (N:a.length <= 1048576) (H:RowAt w l a) :
 Calls prog 5 #[.slice l a.length b] w fun e w'=>(∃ (c s:Nat) (p:Option Addr) (y v:Nat),e = .returned (.agg #[.slice (some ⟨s,0,none⟩) 16 16,.slice p 3 y,.slice (some ⟨v,0,none⟩) 6 6,.int .i64 ((1 + c % 4:Nat):Int)]) /\ RowAt w' (some ⟨s,0,none⟩) masterL /\ FQ w' p ((List.range 3).map (lkN c)) /\ EW w' (some ⟨v,0,none⟩) I0) /\ Bl w w':=by
 have hz:=(QO Tryz.zeroCf).1;obtain ⟨n,t⟩:=uX (a.length);obtain ⟨x,f⟩:=uX (w.alloc (Obj.cells I5.toArray 26));obtain ⟨u,m⟩:=uX (w.heap.size);have g:Blk x u 26 I5:=by rw [f,m];exact Blk.new _ _ _
 have o:=uB f;obtain ⟨z,i⟩:=uX (x.alloc (Obj.cells #[.slice l n b,.int .i64 0] 62));obtain ⟨R,d⟩:=uX (x.heap.size);have G:Rd z R l b a 0:=by unfold Rd;rw [i,d,<- t];exact Blk.new _ _ _
 have j:=uB i;have M:=g.below j g.lt;have k:=o.trans (j.mono o.size);have a0:u < R:=by rw [d];exact g.lt
 have U:=AA (Rh R l b a 0 z N (QU _) (H.below k) G);have Z:R < z.heap.size:=Blk.lt G;have a1:w.heap.size <= u:=by omega
 have A:=AA f;have E:=AA m;have C:=AA i;have D:=AA d;have B:=AA k;rw [<- t];clear t f m i d H G o j g k;go_enter func5,ntmps5;go_upto_region 1 with fail
 rw [<- show x = _ from A,<- show u = _ from E];clear A E;go_wp2_with fail;rw [<- show z = _ from C,<- show R = _ from D];clear C D;refine U.out.mono ?_;rintro e w2 ⟨c,s,p,y,v,W,rfl,J,F⟩;have L:=M.grown F (fun e=>by cases e;omega);obtain ⟨V,r⟩:∃ q:Int,q = ((1 + c % 4:Nat):Int):=⟨_,rfl⟩;rw [<- r];have I:=AA r;have Y:=AA J;clear r W J;go_wp2_with (refine store_blk (cs:=[.slice (some ⟨s,0,none⟩) 16 16,.slice p 3 y,.slice (some ⟨v,0,none⟩) 6 6,.int .i64 V]) rfl 26 _ _ rfl u rfl rfl L (by kernel_rfl) rfl (by simp [Value.oneCell']) ?_;intro X T g3 a2)
 have O:=B.out.size;have z2:=F.size;exact Qc (AG results5 _ _ rfl T underlying26 rfl (by kernel_rfl)) rfl ⟨⟨c,s,p,y,v,by rw [<- I.out],Y.out X g3.size (Kp.grown g3 (fun q e=>by cases e;omega))⟩,(B.out.grown F O (fun q e=>by cases e;omega)).grown g3 (by omega) (fun q e=>by cases e;omega)⟩
theorem ZE {w:World} {g t:Nat} {cs:List Value} (h:Blk w g t cs):w.rangeAt g 0 cs:=fun j v a=>by
 rw [QZ];obtain ⟨b,e⟩:=List.getElem?_eq_some_iff.1 a;rw [h.cell j b,e]
theorem Uy {w:World} {lo t z n b:Nat} {a:Option Addr} {d:List Value} (row:w.ownsRow lo t z (.slice a n b) n d) (j:0 < n):∃ g,a = some ⟨g,0,none⟩ /\ lo <= g /\ g < w.heap.size /\ ∀ k,k < n * z -> w.cell? ⟨g,k,none⟩ = d[k]?:=by
 rcases row.2 with ⟨c,hz⟩ | ⟨g,l,i,c,-⟩
 ·omega
 ·cases c
  exact ⟨g,rfl,(row.lt g rfl).1,(row.lt g rfl).2,fun k f=>row.cellAt k f⟩
abbrev bf:List Value:=[.string ⟨#[]⟩,.slice none 0 0]
theorem Tryz.zeroMg:(prog.info? 32).map (fun i=>(i.zero,i.size)) = some (some (.agg bf.toArray),2):=by kernel_rfl
theorem Ya (A:LU) (c b:Option Addr) (n j d:Nat) (w:World) (a:A.length = n) (f:RowAt w c A) (g:RowAt w b A) :
 Calls prog 15 #[.slice c n j,.slice b n d] w fun e w'=>e = .returned (.bool true) /\ w' = w:=by
 have l:=DC A c n j w a f;have k:=DC A b n d w a g;obtain ⟨S,i⟩:∃ S:ByteArray,S = ⟨A.toArray⟩:=⟨_,rfl⟩;rw [<- i] at l k;clear i f g a;go_enter func15,ntmps15;go_wp2;go_ret;exact ⟨by simp,rfl⟩
theorem Ej (l:Int) (i:Option Addr) (c d:Nat) (w:World) :
 Calls prog 7 #[.int .i64 l,.slice i c d] w fun e w'=>e = .returned (.agg #[.int .i64 1,.int .i64 l,.int .i64 0,.slice i c d]) /\ Bl w w':=by
 have hz:=(QO Tryz.zeroEv).1;obtain ⟨j,a⟩:=uX (w.alloc (Obj.cells PF.toArray 38));obtain ⟨g,f⟩:=uX (w.heap.size);have o:Blk j g 38 PF:=by rw [a,f];exact Blk.new _ _ _
 have m:=uB a;have k:w.heap.size <= g:=by omega
 have b:=AA a;have n:=AA f;clear a f;go_enter func7,ntmps7;go_upto_region 1 with fail
 rw [<- show j = _ from b,<- show g = _ from n];clear b n;go_wp2_with (refine store_blk (cs:=[.int .i64 1,.int .i64 l,.int .i64 0,.slice i c d]) rfl 38 _ _ rfl g rfl rfl o (by kernel_rfl) rfl (by simp [Value.oneCell']) ?_;intro s p g3 r)
 exact Qc (AG results7 _ _ rfl p underlying38 rfl (by kernel_rfl)) rfl ⟨rfl,m.grown g3 m.size (fun q e=>by cases e;exact k)⟩
theorem dl {w:World} {g j d:Nat} {f:Option Addr} {k:Nat} {a:LU} (m:a.length = 36) (o:RowAt w (some ⟨g,0,none⟩) FB) (q:RowAt w f a) (n:RowAt w (some ⟨j,0,none⟩) [49,48,49]) (b:Blk w d 29 [.int .i64 11,.slice (some ⟨g,0,none⟩) 6 6,.int .i64 48,.slice f 36 k,.int .i64 70,.slice (some ⟨j,0,none⟩) 3 3]):Fr w (.slice (some ⟨d,0,none⟩) 3 3) (keyL a):=by
 refine ⟨⟨_,_,rfl⟩,fun i p=>?_⟩;have l:i = 0 \/ i = 1 \/ i = 2:=by have:i < 3:=p;omega
 rcases l with rfl | rfl | rfl
 ·exact ⟨d,0,3,_,_,rfl,b.c 0,b.c 1,o⟩
 ·exact ⟨d,0,3,f,k,rfl,b.c 2,by rw [show ((keyL a).getD 1 (0,[])).2.length = 36 from m];exact b.c 3,q⟩
 ·exact ⟨d,0,3,_,_,rfl,b.c 4,b.c 5,n⟩
theorem Wi (M U a:LU) (hM:M.length = 16) (hU:U.length = 36) (hb:a.length = 36) (I al ar au ab:Option Addr) (cm nl cl nr cr cu cb:Nat) (room:Int) (w:World) (a5:36 <= cu) (rm:RowAt w I M) (ru:RowAt w au U) (rb:RowAt w ab a) :
 Calls prog 12 #[.agg #[.slice I 16 cm,.slice al nl cl,.slice ar nr cr,.int .i64 room],.slice au 36 cu,.slice ab 36 cb] w fun e w'=>∃ G c,e = .returned (.slice G (Ah M U ⟨#[48,56,48,48]⟩ (keyL a)).length c) /\ RowAt w' G (Ah M U ⟨#[48,56,48,48]⟩ (keyL a)) /\ Bl w w' /\ (Ah M U ⟨#[48,56,48,48]⟩ (keyL a)).length <= c:=by
 have kc:=fun (w:World) (C:Array Value) (n c:Nat)=>Lib.run_convert_bytes_const (P:=prog) w 22 5 C n c underlying22 underlying5;have a6:=(QO Tryz.zeroMg).1;have r:=AA (fun (v:Value) (wx:World) (h:Bl w wx) (F:Fr wx v (keyL a))=>N9 M U ⟨#[48,56,48,48]⟩ (keyL a) (by decide) (by intro p hp;have h3:p = (11,FB) \/ p = (48,a) \/ p = (70,[49,48,49]):=by { simpa [keyL] using hp };rcases h3 with rfl | rfl | rfl;(· decide);(· show a.length <= _;omega);(· decide)) (by show (3:Nat) <= _;omega) I au cm cu v wx (by omega) (by omega) (rm.below h) (ru.below h) F);obtain ⟨D,hD⟩:=uX (Ah M U ⟨#[48,56,48,48]⟩ (keyL a));rw [<- hD,hM,hU] at r;rw [<- hD];have HB:=AA rb;obtain ⟨N,hN⟩:=uX (D.length);rw [<- hN] at r ⊢;obtain ⟨gC,s⟩:=uX (w.heap.size);obtain ⟨b,j⟩:=uX (w.alloc (Obj.cells #[.slice I 16 cm,.slice al nl cl,.slice ar nr cr,.int .i64 room] 26));have y:=uK j s;have t:=uB j;have R:=AA j;have V:=AA s;clear j s hD hN rm ru rb a5 hM hU;go_enter func12,ntmps12;go_upto_region 1 with fail
 rw [<- show b = _ from R,<- show gC = _ from V];clear R V;have a7:∀ (A:Obj) (C:Array Value) (n c:Nat),(convert 22 22 (.slice (some ⟨b.heap.size + 1,0,none⟩) n c)).run prog ((b.alloc A).alloc (.cells C 5)) = .ok (.slice (some ⟨b.heap.size + 1,0,none⟩) n c) ((b.alloc A).alloc (.cells C 5 (C.size,C.size + 1))):=fun A C n c=>by
  have h:=kc (b.alloc A) C n c;have e:(b.alloc A).heap.size = b.heap.size + 1:=by simp
  rw [e] at h;exact h
 obtain ⟨J,k⟩:=uX (b.heap.size);obtain ⟨q,d⟩:=uX (b.alloc (Obj.cells #[.int .u8 48,.int .u8 48,.int .u8 48,.int .u8 48,.int .u8 48,.int .u8 57] 5 (6,7)));obtain ⟨B,z⟩:=uX (J + 1);obtain ⟨L,g⟩:=uX (q.alloc (Obj.cells #[.int .u8 49,.int .u8 48,.int .u8 49] 5 (3,4)));obtain ⟨H,m⟩:=uX (B + 1);obtain ⟨Y3,f⟩:=uX (L.alloc (Obj.cells #[.int .i64 11,.slice (some ⟨J,0,none⟩) 6 6,.int .i64 48,.slice ab 36 cb,.int .i64 70,.slice (some ⟨B,0,none⟩) 3 3] 29));obtain ⟨gA,E⟩:=uX (H + 1);obtain ⟨X4,i⟩:=uX (Y3.alloc (Obj.cells #[.string ⟨#[48,56,48,48]⟩,.slice (some ⟨H,0,none⟩) 3 3] 32));have z1:B = q.heap.size:=by rw [z,k,d];simp
 have z2:H = L.heap.size:=by rw [m,z1,g];simp
 have z3:gA = Y3.heap.size:=by rw [E,z2,f];simp
 have k1:RowAt q (some ⟨J,0,none⟩) FB:=by rw [d,k];exact DQ b FB 5 (6,7)
 have k2:RowAt L (some ⟨B,0,none⟩) [49,48,49]:=by rw [g,z1];exact DQ q [49,48,49] 5 (3,4)
 have k3:=uK f z2;have a4:=uK i z3;have c1:=uB d;have c2:=uB g;have c3:=uB f;have c4:=uB i;have x:=c3.trans (c4.mono c3.size);have u:=c2.trans (x.mono c2.size);have o:=c1.trans (u.mono c1.size);have l:=t.trans (o.mono t.size);have a3:=AA (dl hb (k1.below u) (HB.out.below l) (k2.below x) (k3.below c4 k3.lt));have a2:=y.below o y.lt;have T:=AA d;have a1:=AA g;have X:=AA f;have a0:=AA i;have Z:=AA k;have O:=AA z;have Y:=AA m;have W:=AA E;clear z1 z2 z3 d g f i k z m E k1 k2 k3 c1 c2 c3 c4 x u o y t;go_upto_region 2 with fail
 try rw [<- show q = _ from T]
 try rw [<- show J = _ from Z]
 try rw [<- show L = _ from a1]
 rw [<- show B = _ from O,<- show H = _ from Y,<- show gA = _ from W,<- show Y3 = _ from X,<- show X4 = _ from a0];clear T a1 X a0 Z O Y W;have e0:=a2.c 0;go_wp2_with (refine AL rfl 32 _ rfl gA rfl a4 underlying32 rfl (by kernel_rfl) ?_)
 refine (r.out _ X4 l a3.out).mono ?_;rintro e w5 ⟨G,c,rfl,r5,b5,hc⟩;go_wp2_with fail;go_ret;exact ⟨G,c,rfl,r5,l.trans (b5.mono l.size),hc⟩
end Go.Proofs.YtbkokcjolanpeaaGreatDoor
