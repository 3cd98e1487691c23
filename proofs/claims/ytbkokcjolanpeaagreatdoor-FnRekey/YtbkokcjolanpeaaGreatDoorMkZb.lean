import Derived.Test.YtbkokcjolanpeaaGreatDoorMkY
import Derived.Test.YtbkokcjolanpeaaGreatDoorMkZ
set_option maxRecDepth 100000
set_option maxHeartbeats 20000000
namespace Go.Proofs.YtbkokcjolanpeaaGreatDoor
open Go.RowKit Go.Proofs.Tryz Act
theorem VU (c p:Int) (w:World):Calls prog 87 #[.int .i64 c,.int .i64 p] w fun e w'=>e = .returned (.agg #[.int .i64 c,.int .i64 p,.string ByteArray.empty,.slice none 0 0,.int .i64 0]) /\ Bl w w':=by
 have hz:=(QO Tryz.zeroDc).1;go_enter func87,ntmps87;go_wp2;exact Qc (v:=.agg [.int .i64 c,.int .i64 p,.string ByteArray.empty,.slice none 0 0,.int .i64 0].toArray) (AG results87 _ _ rfl (show Blk _ _ 97 [.int .i64 c,.int .i64 p,.string ByteArray.empty,.slice none 0 0,.int .i64 0] from Blk.new w _ #[.int .i64 c,.int .i64 p,.string ByteArray.empty,.slice none 0 0,.int .i64 0]) underlying97 rfl (by kernel_rfl)) rfl ⟨rfl,BR _ _⟩
def PAt (c:Nat) (w:World) (d b o N a q:Nat):Prop:=c = 0 -> Blk w d 159 [.slice (some ⟨b,o,none⟩) N a,.int .i64 (q:Int)]
theorem V4 (a n:Nat) (b:kpD a = 0) (c:kpS a = fun _=>n) (d:kpB a = fun _=>true) (rest:LU) :
 fldC a rest = (if rest.length < n then 1 else if Ag (kpL a) (kpM a) (Dc a) (rest.take n) = true then 0 else 4) /\ EM a rest = (if fldC a rest = 0 then rest.take n else []) /\ fldE a rest = (if fldC a rest = 0 then n else 0):=by
 refine ⟨?_,?_,?_⟩
 ·unfold fldC fC;rw [b,c,d];simp
 ·unfold EM fD;show (if fldC a rest = 0 then _ else _) = _;rw [b,c];simp
 ·unfold fldE fE;show (if fldC a rest = 0 then _ else _) = _;rw [b,c];simp
theorem Bo (c:Nat) (Z:c ∈ tabNos) (K:Int) (n:Nat) (hk:Bh (c:Int) = (K,(n:Int))) (a7:¬ K = 4) (a5:¬ K = 5) (X:kpD c = 0) (h2:kpS c = fun _=>n) (h3:kpB c = fun _=>true) (b1:n <= 1000)
 (data:LU) (a k b o d N:Nat) (w:World) (hN:N = data.length) (a4:N <= 4096) (a0:N <= d) (ha:a <= N) (Y:b ≠ k) (kP:Blk w k 159 [.slice (some ⟨b,o,none⟩) N d,.int .i64 (a:Int)]) (hr:RowAt w (some ⟨b,o,none⟩) data) :
 Calls prog 91 #[.pointer (some ⟨k,0,none⟩),.int .i64 (c:Int)] w fun e w'=>∃ v,e = .returned (.tuple #[v,.int .i64 (fldC c (data.drop a):Nat)]) /\ Own w' w.heap.size v (EM c (data.drop a)) /\ PAt (fldC c (data.drop a)) w' k b o N d (a + fldE c (data.drop a)) /\ w.grownBy w' (some k):=by
 have HK:=AA (fun (wx:World)=>Dl (c:Int) wx);rw [hk] at HK;have i:=AA (V4 c n X h2 h3 (data.drop a));have y:(data.drop a).length = N - a:=by rw [QN,hN]
 rw [y] at i;obtain ⟨f,F⟩:=uX ((data.drop a).take n);have HH:=AA F;rw [<- F] at i;obtain ⟨RC,C⟩:=uX (fldC c (data.drop a));obtain ⟨RD,u⟩:=uX (EM c (data.drop a));obtain ⟨RE,A⟩:=uX (fldE c (data.drop a));rw [<- C,<- u,<- A] at i;rw [<- C,<- u,<- A];have t:a + n <= N -> f.length = n:=by intro h;rw [F,QI,y];omega
 clear C u A F hk X h2 h3 y hN;have b0:(K == 4) = false:=by rw [QP];exact a7
 have a9:(K == 5) = false:=by rw [QP];exact a5
 go_enter func91,ntmps91;go_upto_region 16 with (go_at_call 82;refine (HK.out _).mono ?_;rintro e wk ⟨rfl,a8⟩;have W:=a8.symm;subst W)
 by_cases hsh:N < a + n
 ·rw [if_pos (by omega)] at i;obtain ⟨l,g,j⟩:=i.out;rw [l] at g j;rw [if_neg (by decide)] at g j;subst l g j;go_wp2_with fail;refine (GQ N a n k d _ w (by omega) (by omega) hsh kP).mono ?_;rintro e E ⟨rfl,R⟩;have q:=grown_trans (grown_of_below (Below.refl w.heap.size w) (some k)) (grown_of_below (show Below w.heap.size w E from by rw [R];exact (Below.refl _ _).drew) (some k));clear R;go_wp2_with fail;go_ret2;exact ⟨_,rfl,BJ _ _,(fun h=>absurd h (by decide)),q⟩
 rw [if_neg (by omega)] at i;have G:=AA (t (by omega));clear t;obtain ⟨m,B⟩:∃ m,(d = a /\ m = o) \/ (¬ d = a /\ m = o + a):=by
  by_cases h:d = a
  ·exact ⟨o,.inl ⟨h,rfl⟩⟩
  ·exact ⟨o + a,.inr ⟨h,rfl⟩⟩
 have z:=AA (GT N a n k b o m d w a4 (by omega) a0 B kP);have RH:Hid (∀ {x:World},RowAt x (some ⟨b,o,none⟩) data -> RowAt x (some ⟨b,m,none⟩) f):=by
  intro x U;rcases B with ⟨X,rfl⟩ | ⟨-,rfl⟩
  ·exact .inl (List.length_eq_zero_iff.1 (by rw [G.out];omega))
  ·rw [show f = _ from HH.out];exact (RowAt.drop U a).take n
 clear B;obtain ⟨A2,s⟩:=uX (a + n);rw [<- s] at z;have a2:=AA s;have J:=G.out;clear s;go_wp2_with fail;refine z.out.mono ?_;rintro e E ⟨rfl,I,L⟩;have q:=grown_trans (grown_of_below (Below.refl w.heap.size w) (some k)) L;have V:=RH.out (RowAt.grown hr q (by intro x U e;cases U;cases e;exact Y rfl))
 have p:=AA (JS c Z f (some ⟨b,m,none⟩) (d - a) E (by omega) V);have H:=AA (Ew f (some ⟨b,m,none⟩) (d - a) E (by omega) V);rw [J] at p H;obtain ⟨fq,O⟩:=uX (Ag (kpL c) (kpM c) (Dc c) f);rw [<- O] at p i;have a3:=q.size;clear O z L V RH J;cases fq
 ·rw [if_neg (by decide)] at i;obtain ⟨l,g,j⟩:=i.out;rw [l] at g j;rw [if_neg (by decide)] at g j;subst l g j;go_wp2_with fail;refine p.out.mono ?_;rintro e w8 ⟨rfl,r⟩;subst r;go_wp2_with fail;go_ret2;exact ⟨_,rfl,BJ _ _,(fun h=>absurd h (by decide)),q⟩
 ·rw [if_pos rfl] at i;obtain ⟨l,g,j⟩:=i.out;rw [l] at g j;rw [if_pos rfl] at g j;have M:=AA (And.intro g j);subst l;clear g j i;go_wp2_with fail;refine p.out.mono ?_;rintro e w8 ⟨rfl,r⟩;subst r;go_wp2_with fail;refine H.out.mono ?_;rintro e w9 ⟨v9,rfl,D,T⟩;have a6:=grown_trans q (grown_of_below T (some k));have a1:=I.below T I.lt;have own9':=(AO.own D).monoI a3;clear D T;go_wp2_with fail;go_ret2;exact ⟨_,rfl,by rw [M.out.1];exact own9',(fun _=>by rw [M.out.2,show a + n = A2 from by have:=a2.out;omega];exact a1),a6⟩
theorem OG (l:LU) (x:UInt8):numL (l ++ [x]) = numL l * 10 + (x.toNat - 48):=by unfold numL;simp
theorem TF (a d l m:Nat) (b:kpD a = d) (c:kpS a = szN) (f:kpB a = sdN l m) (rest:LU) :
 fldC a rest = (if rest.length < d then 1 else if sdN l m (rest.take d) = false then 4 else if rest.length < d + szN (rest.take d) then 1 else if Ag (kpL a) (kpM a) (Dc a) ((rest.drop d).take (szN (rest.take d))) = true then 0 else 4) /\ EM a rest = (if fldC a rest = 0 then (rest.drop d).take (szN (rest.take d)) else []) /\ fldE a rest = (if fldC a rest = 0 then d + szN (rest.take d) else 0):=by
 refine ⟨?_,?_,?_⟩
 ·unfold fldC fC;rw [b,c,f]
 ·unfold EM fD;show (if fldC a rest = 0 then _ else _) = _;rw [b,c]
 ·unfold fldE fE;show (if fldC a rest = 0 then _ else _) = _;rw [b,c]
theorem I2 (B:Nat) (h0:B ∈ tabNos) (K:Int) (d l m:Nat) (hk:Bh (B:Int) = (K,(d:Int))) (e0:(K = 4 /\ l = 13 /\ m = 19) \/ (K = 5 /\ l = 0 /\ m = 200)) (V:kpD B = d) (h2:kpS B = szN) (h3:kpB B = sdN l m) (i2:0 < d) (h4:d <= 3)
 (data:LU) (a L b o p N:Nat) (w:World) (hN:N = data.length) (g5:N <= 4096) (f3:N <= p) (U:a <= N) (e4:b ≠ L) (kP:Blk w L 159 [.slice (some ⟨b,o,none⟩) N p,.int .i64 (a:Int)]) (hr:RowAt w (some ⟨b,o,none⟩) data) :
 Calls prog 91 #[.pointer (some ⟨L,0,none⟩),.int .i64 (B:Int)] w fun e w'=>∃ v,e = .returned (.tuple #[v,.int .i64 (fldC B (data.drop a):Nat)]) /\ Own w' w.heap.size v (EM B (data.drop a)) /\ PAt (fldC B (data.drop a)) w' L b o N p (a + fldE B (data.drop a)) /\ w.grownBy w' (some L):=by
 have HK:=AA (fun (wx:World)=>Dl (B:Int) wx);rw [hk] at HK;have n:=AA (TF B d l m V h2 h3 (data.drop a));have e5:(data.drop a).length = N - a:=by rw [QN,hN]
 rw [e5] at n;obtain ⟨RC,e3⟩:=uX (fldC B (data.drop a));obtain ⟨RD,d6⟩:=uX (EM B (data.drop a));obtain ⟨RE,e8⟩:=uX (fldE B (data.drop a));rw [<- e3,<- d6,<- e8] at n;rw [<- e3,<- d6,<- e8];have e7:=AA e0;have f2:((K == 4) = true /\ (K == 5) = false) \/ ((K == 4) = false /\ (K == 5) = true):=by
  rcases e0 with ⟨rfl,-⟩ | ⟨rfl,-⟩
  ·exact .inl ⟨rfl,rfl⟩
  ·exact .inr ⟨rfl,rfl⟩
 obtain ⟨f,a6⟩:=uX ((data.drop a).take d);rw [<- a6] at n;have h9:(0:Int) <= (d:Int):=by omega
 obtain ⟨r,c6⟩:=uX (a + d);have g9:=AA c6
 by_cases hs1:N < a + d
 ·rw [if_pos (by omega)] at n;obtain ⟨q,g,j⟩:=n.out;rw [q] at g j;rw [if_neg (by decide)] at g j;subst q g j;have HT:=AA (GQ N a d L p _ w (by omega) U hs1 kP);clear a6 n e5 e3 d6 e8 hk V h2 h3 e0 c6;go_enter func91,ntmps91;rcases f2 with ⟨q1,q2⟩ | ⟨q1,q2⟩
  all_goals
   go_wp2_with (first | (go_at_call 82;refine (HK.out _).mono ?_;rintro e wk ⟨rfl,b1⟩;have a0:=b1.symm;subst a0) | (go_at_call 88;refine HT.out.mono ?_;rintro e wt ⟨rfl,a5⟩))
   go_ret2;exact ⟨_,rfl,BJ _ _,(fun h=>absurd h (by decide)),ES (grown_of_below (Below.refl _ _) _)⟩
 rw [if_neg (by omega)] at n;have H:f.length = d:=by rw [a6,QI,e5];omega
 obtain ⟨A,F⟩:∃ A,(p = a /\ A = o) \/ (¬ p = a /\ A = o + a):=by
  by_cases h:p = a
  ·exact ⟨o,.inl ⟨h,rfl⟩⟩
  ·exact ⟨o + a,.inr ⟨h,rfl⟩⟩
 have HT:=AA (GT N a d L b o A p w g5 (by omega) f3 F kP);rw [<- c6] at HT;have RH:Hid (∀ {x:World},RowAt x (some ⟨b,o,none⟩) data -> RowAt x (some ⟨b,A,none⟩) f):=by
  intro x E;rcases F with ⟨V,rfl⟩ | ⟨-,rfl⟩
  ·exfalso;omega
  ·rw [a6];exact (RowAt.drop E a).take d
 have g8:=AA a6;have e1:Hid (∀ z,((data.drop a).drop d).take z = (data.drop r).take z):=fun z=>by rw [List.drop_drop,<- c6]
 have e6:Hid (∀ z,r + z <= N -> ((data.drop r).take z).length = z):=fun z h=>by rw [QI,QN,<- hN];omega
 have i0:r <= N:=by omega
 have a7:Hid (∀ z,(N - a < d + z) ↔ (N < r + z)):=fun z=>by omega
 clear a6 e5 e3 d6 e8 hk V h2 h3 e0 c6 F hs1;have e9:(⟨f.toArray⟩:ByteArray).size = d:=by rw [<- H];simp [ByteArray.size]
 have R:=AA (fun (wx:World)=>F6 ⟨f.toArray⟩ d d wx (by rw [e9];unfold maxLen;omega) (by omega) (by omega));rw [e9,I7,QK (QE d),Qp,Qp] at R;have c0:=AA (fun (wx:World) (h:RowAt wx (some ⟨b,A,none⟩) f)=>Er f (some ⟨b,A,none⟩) d (p - a) wx H h);obtain ⟨S,hS⟩:∃ S:ByteArray,S = ⟨f.toArray⟩:=⟨_,rfl⟩;rw [<- hS] at R c0;obtain ⟨dg,f4⟩:=uX (f.all dig);rw [<- f4] at R;have t:=AA f4;clear hS e9 f4;go_enter func91,ntmps91;rcases f2 with ⟨q1,q2⟩ | ⟨q1,q2⟩
 ·skip
  go_upto_region 6 with (first | (go_at_call 82;refine (HK.out _).mono ?_;rintro e wk ⟨rfl,b1⟩;have a0:=b1.symm;subst a0) | (go_at_call 88;refine HT.out.mono ?_;rintro e D ⟨rfl,b4,g1⟩))
  have f9:=RowAt.grown hr g1 (by intro x E e;cases E;cases e;exact e4 rfl)
  have Y:=RH.out f9;have f1:=c0.out D Y;obtain ⟨d5,d1⟩:l = 13 /\ m = 19:=by
   rcases e7.out with ⟨e,V,h2⟩ | ⟨e,V,h2⟩
   ·exact ⟨V,h2⟩
   ·rw [e] at q2;exact absurd q2 (by decide)
  subst d5 d1;clear HT RH c0 e7 HK
  cases dg with
  | false =>
    have s:sdN 13 19 f = false:=by unfold sdN;rw [<- t.out];rfl
    rw [if_pos s] at n;obtain ⟨q,g,j⟩:=n.out;rw [q] at g j;rw [if_neg (by decide)] at g j;subst q g j;go_wp2_with (go_at_call 89;refine (R.out _).mono ?_;rintro e w5 ⟨rfl,W⟩;subst W)
    go_ret2;exact ⟨_,rfl,BJ _ _,(fun h=>absurd h (by decide)),g1⟩
  | true =>
    have J:szN f = numL f:=by unfold szN;rw [if_pos t.out.symm]
    rw [J] at n;have c4:=JI d h4 f H;rw [J] at c4;have G:Hid (sdN 13 19 f = decide (13 <= numL f /\ numL f <= 19)):=by
     show _ = _;unfold sdN;rw [<- t.out,Qp]
    have X:Hid (∀ k,k <= d -> numL (f.take k) <= 1000):=by
     intro k hk;have h:=JI k (by omega) (f.take k) (by rw [QI];omega);have e:szN (f.take k) = numL (f.take k):=by
      unfold szN;rw [if_pos];rw [Qt];intro x E;have U:=t.out.symm;rw [Qt] at U;exact U x (qV E)
     omega
    go_wp2_with (go_at_call 89;refine (R.out _).mono ?_;rintro e w5 ⟨rfl,W⟩;have g7:=W.symm;subst g7)
    go_loopw [7,41] (fun n7 i wr=>∃ k:Nat,k <= d /\ i = .int .i64 (k:Int) /\ n7 = .int .i64 (numL (f.take k):Nat) /\ wr = D) (fun _ i _=>d - (intOf i).toNat)
    case atStart=>exact ⟨0,QU _,rfl,rfl,rfl⟩
    case round =>
     obtain ⟨k,hk,rfl,rfl,f8⟩:=hrel;have c8:=f8.symm;subst c8
     by_cases hlt:k < d
     ·have d4:(k:Int) < (d:Int):=by omega
      obtain ⟨b2,o2,e2,hc⟩:=Y.at (k:=k) (by omega);cases e2
      have ck:=hc k (by omega);have M:k < f.length:=by omega
      have g6:=FF (show dig (f.getD k 0) = true by
       have U:=t.out.symm;rw [Qt] at U;rw [QA,List.getElem?_eq_getElem M];exact U _ (Qd M))
      have C:Hid (numL (f.take (k + 1)) = numL (f.take k) * 10 + ((f.getD k 0).toNat - 48)):=by
       show _ = _;rw [Qu M,OG]
       congr 2
       rw [QA,List.getElem?_eq_getElem M]
       rfl
      have f5:=X.out k hk;obtain ⟨y,hy⟩:=uX ((f.getD k 0).toNat);obtain ⟨c,c1⟩:=uX (numL (f.take k));rw [<- hy] at ck g6 C;rw [<- c1] at f5 C ⊢;clear hy c1 hc;have d2:IntKind.u8.wrap ((y:Int) - 48) = ((y - 48:Nat):Int):=by rw [show (y:Int) - 48 = ((y - 48:Nat):Int) from by omega];unfold IntKind.wrap;simp [IntKind.bits,IntKind.signed];omega
      obtain ⟨y2,b3⟩:=uX (y - 48);rw [<- b3] at d2 C;have h8:y2 <= 9:=by omega
      clear b3;have d0:IntKind.i64.wrap ((c:Int) * 10) = ((c * 10:Nat):Int):=by rw [QH];omega
      obtain ⟨c2,b0⟩:=uX (c * 10);rw [<- b0] at d0 C;have h6:c2 <= 10000:=by omega
      clear b0;have d3:IntKind.i64.wrap ((c2:Int) + (y2:Int)) = ((c2 + y2:Nat):Int):=by rw [QH];omega
      obtain ⟨c3,b5⟩:=uX (c2 + y2);rw [<- b5] at d3 C;clear b5;go_wp2_with fail;go_roundw
      case rel=>exact ⟨k + 1,by omega,by go_num,by rw [C.out],by trivial⟩
      case measure=>simp [intOf];omega
     ·have d4:¬ (k:Int) < (d:Int):=by omega
      have h7:k = d:=by omega
      have a8:f.take k = f:=by rw [QS (by omega)]
      rw [a8];obtain ⟨z,hz⟩:=uX (numL f);rw [<- hz] at c4 n G ⊢;clear hz X R t Y f1 a8 J
      by_cases hz1:z < 13
      ·have h5:(z:Int) < 13:=by omega
       have s:=G.out;rw [QT (by omega)] at s;rw [if_pos s] at n;obtain ⟨q,g,j⟩:=n.out;rw [q] at g j;rw [if_neg (by decide)] at g j;subst q g j;go_wp2_with fail;go_ret2;exact ⟨_,rfl,BJ _ _,(fun h=>absurd h (by decide)),g1⟩
      have h5:¬ (z:Int) < 13:=by omega
      by_cases hz2:19 < z
      ·have c9:(19:Int) < (z:Int):=by omega
       have s:=G.out;rw [QT (by omega)] at s;rw [if_pos s] at n;obtain ⟨q,g,j⟩:=n.out;rw [q] at g j;rw [if_neg (by decide)] at g j;subst q g j;go_wp2_with fail;go_ret2;exact ⟨_,rfl,BJ _ _,(fun h=>absurd h (by decide)),g1⟩
      have c9:¬ (19:Int) < (z:Int):=by omega
      have i1:¬ (200:Int) < (z:Int):=by omega
      have s:=G.out;rw [QK (by omega)] at s;rw [if_neg (by rw [s];decide),e1.out z] at n;simp only [a7.out z] at n;have I:=e6.out z;obtain ⟨u,hh⟩:=uX ((data.drop r).take z);rw [<- hh] at n I;have HH:=AA hh;clear hh s G e1 a7 e6 g8;go_upto_region 16 with fail
      by_cases hsh:N < r + z
      ·rw [if_pos (by omega)] at n;obtain ⟨q,g,j⟩:=n.out;rw [q] at g j;rw [if_neg (by decide)] at g j;subst q g j;go_wp2_with fail;refine (GQ N r z L p _ D (by omega) (by omega) hsh b4).mono ?_;rintro e wt ⟨rfl,a5⟩;have T:=grown_trans g1 (grown_of_below (show Below D.heap.size D wt from by rw [a5];exact (Below.refl _ _).drew) (some L));clear a5;go_wp2_with fail;go_ret2;exact ⟨_,rfl,BJ _ _,(fun h=>absurd h (by decide)),T⟩
      rw [if_neg (by omega)] at n;have a9:=AA (I (by omega));clear I;obtain ⟨A,F⟩:∃ A,(p = r /\ A = o) \/ (¬ p = r /\ A = o + r):=by
       by_cases h:p = r
       ·exact ⟨o,.inl ⟨h,rfl⟩⟩
       ·exact ⟨o + r,.inr ⟨h,rfl⟩⟩
      have a4:=AA (GT N r z L b o A p D g5 (by omega) f3 F b4);have RH:Hid (∀ {x:World},RowAt x (some ⟨b,o,none⟩) data -> RowAt x (some ⟨b,A,none⟩) u):=by
       intro x E;rcases F with ⟨V,rfl⟩ | ⟨-,rfl⟩
       ·exact .inl (List.length_eq_zero_iff.1 (by rw [a9.out];omega))
       ·rw [show u = _ from HH.out];exact (RowAt.drop E r).take z
      clear F;obtain ⟨A2,a3⟩:=uX (r + z);rw [<- a3] at a4;have g0:=AA a3;have H:=a9.out;clear a3;go_wp2_with fail;refine a4.out.mono ?_;rintro e wt ⟨rfl,c5,b6⟩;have T:=grown_trans g1 b6;have rt:=RH.out (RowAt.grown hr T (by intro x E e;cases E;cases e;exact e4 rfl))
      have O:=AA (JS B h0 u (some ⟨b,A,none⟩) (p - r) wt (by omega) rt);have b7:=AA (Ew u (some ⟨b,A,none⟩) (p - r) wt (by omega) rt);rw [H] at O b7;obtain ⟨fq,c7⟩:=uX (Ag (kpL B) (kpM B) (Dc B) u);rw [<- c7] at O n;have f7:=T.size;clear c7 a4 b6 rt RH H;cases fq
      ·rw [if_neg (by decide)] at n;obtain ⟨q,g,j⟩:=n.out;rw [q] at g j;rw [if_neg (by decide)] at g j;subst q g j;go_wp2_with fail;refine O.out.mono ?_;rintro e w8 ⟨rfl,a2⟩;subst a2;go_wp2_with fail;go_ret2;exact ⟨_,rfl,BJ _ _,(fun h=>absurd h (by decide)),T⟩
      ·rw [if_pos rfl] at n;obtain ⟨q,g,j⟩:=n.out;rw [q] at g j;rw [if_pos rfl] at g j;have b8:=AA (And.intro g j);subst q;clear g j n;go_wp2_with fail;refine O.out.mono ?_;rintro e w8 ⟨rfl,a2⟩;subst a2;go_wp2_with fail;refine b7.out.mono ?_;rintro e w9 ⟨v9,rfl,Z,b9⟩;have f0:=grown_trans T (grown_of_below b9 (some L));have f6:=c5.below b9 c5.lt;have own9':=(AO.own Z).monoI f7;clear Z b9;go_wp2_with fail;go_ret2;exact ⟨_,rfl,by rw [b8.out.1];exact own9',(fun _=>by rw [b8.out.2,show a + (d + z) = A2 from by have:=g0.out;have:=g9.out;omega];exact f6),f0⟩
 ·skip
  go_upto_region 6 with (first | (go_at_call 82;refine (HK.out _).mono ?_;rintro e wk ⟨rfl,b1⟩;have a0:=b1.symm;subst a0) | (go_at_call 88;refine HT.out.mono ?_;rintro e D ⟨rfl,b4,g1⟩))
  have f9:=RowAt.grown hr g1 (by intro x E e;cases E;cases e;exact e4 rfl)
  have Y:=RH.out f9;have f1:=c0.out D Y;obtain ⟨d5,d1⟩:l = 0 /\ m = 200:=by
   rcases e7.out with ⟨e,V,h2⟩ | ⟨e,V,h2⟩
   ·rw [e] at q1;exact absurd q1 (by decide)
   ·exact ⟨V,h2⟩
  subst d5 d1;clear HT RH c0 e7 HK
  cases dg with
  | false =>
    have s:sdN 0 200 f = false:=by unfold sdN;rw [<- t.out];rfl
    rw [if_pos s] at n;obtain ⟨q,g,j⟩:=n.out;rw [q] at g j;rw [if_neg (by decide)] at g j;subst q g j;go_wp2_with (go_at_call 89;refine (R.out _).mono ?_;rintro e w5 ⟨rfl,W⟩;subst W)
    go_ret2;exact ⟨_,rfl,BJ _ _,(fun h=>absurd h (by decide)),g1⟩
  | true =>
    have J:szN f = numL f:=by unfold szN;rw [if_pos t.out.symm]
    rw [J] at n;have c4:=JI d h4 f H;rw [J] at c4;have G:Hid (sdN 0 200 f = decide (0 <= numL f /\ numL f <= 200)):=by
     show _ = _;unfold sdN;rw [<- t.out,Qp]
    have X:Hid (∀ k,k <= d -> numL (f.take k) <= 1000):=by
     intro k hk;have h:=JI k (by omega) (f.take k) (by rw [QI];omega);have e:szN (f.take k) = numL (f.take k):=by
      unfold szN;rw [if_pos];rw [Qt];intro x E;have U:=t.out.symm;rw [Qt] at U;exact U x (qV E)
     omega
    go_wp2_with (go_at_call 89;refine (R.out _).mono ?_;rintro e w5 ⟨rfl,W⟩;have g7:=W.symm;subst g7)
    go_loopw [7,41] (fun n7 i wr=>∃ k:Nat,k <= d /\ i = .int .i64 (k:Int) /\ n7 = .int .i64 (numL (f.take k):Nat) /\ wr = D) (fun _ i _=>d - (intOf i).toNat)
    case atStart=>exact ⟨0,QU _,rfl,rfl,rfl⟩
    case round =>
     obtain ⟨k,hk,rfl,rfl,f8⟩:=hrel;have c8:=f8.symm;subst c8
     by_cases hlt:k < d
     ·have d4:(k:Int) < (d:Int):=by omega
      obtain ⟨b2,o2,e2,hc⟩:=Y.at (k:=k) (by omega);cases e2
      have ck:=hc k (by omega);have M:k < f.length:=by omega
      have g6:=FF (show dig (f.getD k 0) = true by
       have U:=t.out.symm;rw [Qt] at U;rw [QA,List.getElem?_eq_getElem M];exact U _ (Qd M))
      have C:Hid (numL (f.take (k + 1)) = numL (f.take k) * 10 + ((f.getD k 0).toNat - 48)):=by
       show _ = _;rw [Qu M,OG]
       congr 2
       rw [QA,List.getElem?_eq_getElem M]
       rfl
      have f5:=X.out k hk;obtain ⟨y,hy⟩:=uX ((f.getD k 0).toNat);obtain ⟨c,c1⟩:=uX (numL (f.take k));rw [<- hy] at ck g6 C;rw [<- c1] at f5 C ⊢;clear hy c1 hc;have d2:IntKind.u8.wrap ((y:Int) - 48) = ((y - 48:Nat):Int):=by rw [show (y:Int) - 48 = ((y - 48:Nat):Int) from by omega];unfold IntKind.wrap;simp [IntKind.bits,IntKind.signed];omega
      obtain ⟨y2,b3⟩:=uX (y - 48);rw [<- b3] at d2 C;have h8:y2 <= 9:=by omega
      clear b3;have d0:IntKind.i64.wrap ((c:Int) * 10) = ((c * 10:Nat):Int):=by rw [QH];omega
      obtain ⟨c2,b0⟩:=uX (c * 10);rw [<- b0] at d0 C;have h6:c2 <= 10000:=by omega
      clear b0;have d3:IntKind.i64.wrap ((c2:Int) + (y2:Int)) = ((c2 + y2:Nat):Int):=by rw [QH];omega
      obtain ⟨c3,b5⟩:=uX (c2 + y2);rw [<- b5] at d3 C;clear b5;go_wp2_with fail;go_roundw
      case rel=>exact ⟨k + 1,by omega,by go_num,by rw [C.out],by trivial⟩
      case measure=>simp [intOf];omega
     ·have d4:¬ (k:Int) < (d:Int):=by omega
      have h7:k = d:=by omega
      have a8:f.take k = f:=by rw [QS (by omega)]
      rw [a8];obtain ⟨z,hz⟩:=uX (numL f);rw [<- hz] at c4 n G ⊢;clear hz X R t Y f1 a8 J
      by_cases hz2:200 < z
      ·have c9:(200:Int) < (z:Int):=by omega
       have s:=G.out;rw [QT (by omega)] at s;rw [if_pos s] at n;obtain ⟨q,g,j⟩:=n.out;rw [q] at g j;rw [if_neg (by decide)] at g j;subst q g j;go_wp2_with fail;go_ret2;exact ⟨_,rfl,BJ _ _,(fun h=>absurd h (by decide)),g1⟩
      have c9:¬ (200:Int) < (z:Int):=by omega
      have s:=G.out;rw [QK (by omega)] at s;rw [if_neg (by rw [s];decide),e1.out z] at n;simp only [a7.out z] at n;have I:=e6.out z;obtain ⟨u,hh⟩:=uX ((data.drop r).take z);rw [<- hh] at n I;have HH:=AA hh;clear hh s G e1 a7 e6 g8;go_upto_region 16 with fail
      by_cases hsh:N < r + z
      ·rw [if_pos (by omega)] at n;obtain ⟨q,g,j⟩:=n.out;rw [q] at g j;rw [if_neg (by decide)] at g j;subst q g j;go_wp2_with fail;refine (GQ N r z L p _ D (by omega) (by omega) hsh b4).mono ?_;rintro e wt ⟨rfl,a5⟩;have T:=grown_trans g1 (grown_of_below (show Below D.heap.size D wt from by rw [a5];exact (Below.refl _ _).drew) (some L));clear a5;go_wp2_with fail;go_ret2;exact ⟨_,rfl,BJ _ _,(fun h=>absurd h (by decide)),T⟩
      rw [if_neg (by omega)] at n;have a9:=AA (I (by omega));clear I;obtain ⟨A,F⟩:∃ A,(p = r /\ A = o) \/ (¬ p = r /\ A = o + r):=by
       by_cases h:p = r
       ·exact ⟨o,.inl ⟨h,rfl⟩⟩
       ·exact ⟨o + r,.inr ⟨h,rfl⟩⟩
      have a4:=AA (GT N r z L b o A p D g5 (by omega) f3 F b4);have RH:Hid (∀ {x:World},RowAt x (some ⟨b,o,none⟩) data -> RowAt x (some ⟨b,A,none⟩) u):=by
       intro x E;rcases F with ⟨V,rfl⟩ | ⟨-,rfl⟩
       ·exact .inl (List.length_eq_zero_iff.1 (by rw [a9.out];omega))
       ·rw [show u = _ from HH.out];exact (RowAt.drop E r).take z
      clear F;obtain ⟨A2,a3⟩:=uX (r + z);rw [<- a3] at a4;have g0:=AA a3;have H:=a9.out;clear a3;go_wp2_with fail;refine a4.out.mono ?_;rintro e wt ⟨rfl,c5,b6⟩;have T:=grown_trans g1 b6;have rt:=RH.out (RowAt.grown hr T (by intro x E e;cases E;cases e;exact e4 rfl))
      have O:=AA (JS B h0 u (some ⟨b,A,none⟩) (p - r) wt (by omega) rt);have b7:=AA (Ew u (some ⟨b,A,none⟩) (p - r) wt (by omega) rt);rw [H] at O b7;obtain ⟨fq,c7⟩:=uX (Ag (kpL B) (kpM B) (Dc B) u);rw [<- c7] at O n;have f7:=T.size;clear c7 a4 b6 rt RH H;cases fq
      ·rw [if_neg (by decide)] at n;obtain ⟨q,g,j⟩:=n.out;rw [q] at g j;rw [if_neg (by decide)] at g j;subst q g j;go_wp2_with fail;refine O.out.mono ?_;rintro e w8 ⟨rfl,a2⟩;subst a2;go_wp2_with fail;go_ret2;exact ⟨_,rfl,BJ _ _,(fun h=>absurd h (by decide)),T⟩
      ·rw [if_pos rfl] at n;obtain ⟨q,g,j⟩:=n.out;rw [q] at g j;rw [if_pos rfl] at g j;have b8:=AA (And.intro g j);subst q;clear g j n;go_wp2_with fail;refine O.out.mono ?_;rintro e w8 ⟨rfl,a2⟩;subst a2;go_wp2_with fail;refine b7.out.mono ?_;rintro e w9 ⟨v9,rfl,Z,b9⟩;have f0:=grown_trans T (grown_of_below b9 (some L));have f6:=c5.below b9 c5.lt;have own9':=(AO.own Z).monoI f7;clear Z b9;go_wp2_with fail;go_ret2;exact ⟨_,rfl,by rw [b8.out.1];exact own9',(fun _=>by rw [b8.out.2,show a + (d + z) = A2 from by have:=g0.out;have:=g9.out;omega];exact f6),f0⟩
theorem Ww (p:Nat) (d:p ∈ tabNos) (data:LU) (a j b o c N:Nat) (w:World) (n:N = data.length) (i:N <= 4096) (g:N <= c) (k:a <= N) (f:b ≠ j) (m:Blk w j 159 [.slice (some ⟨b,o,none⟩) N c,.int .i64 (a:Int)]) (l:RowAt w (some ⟨b,o,none⟩) data) :
 Calls prog 91 #[.pointer (some ⟨j,0,none⟩),.int .i64 (p:Int)] w fun e w'=>∃ v,e = .returned (.tuple #[v,.int .i64 (fldC p (data.drop a):Nat)]) /\ Own w' w.heap.size v (EM p (data.drop a)) /\ PAt (fldC p (data.drop a)) w' j b o N c (a + fldE p (data.drop a)) /\ w.grownBy w' (some j):=by
 have h:=d;simp only [tabNos,qx,qd,or_false] at h;rcases h with rfl | rfl | rfl | rfl | rfl | rfl | rfl | rfl | rfl | rfl | rfl | rfl | rfl | rfl
 ·exact I2 2 d 4 2 13 19 rfl (.inl ⟨rfl,rfl,rfl⟩) rfl rfl rfl (by omega) (by omega) data a j b o c N w n i g k f m l
 ·exact Bo 3 d 1 6 rfl (by decide) (by decide) rfl rfl rfl (by omega) data a j b o c N w n i g k f m l
 ·exact Bo 4 d 1 12 rfl (by decide) (by decide) rfl rfl rfl (by omega) data a j b o c N w n i g k f m l
 ·exact Bo 7 d 1 10 rfl (by decide) (by decide) rfl rfl rfl (by omega) data a j b o c N w n i g k f m l
 ·exact Bo 11 d 1 6 rfl (by decide) (by decide) rfl rfl rfl (by omega) data a j b o c N w n i g k f m l
 ·exact Bo 37 d 2 12 rfl (by decide) (by decide) rfl rfl rfl (by omega) data a j b o c N w n i g k f m l
 ·exact Bo 39 d 2 2 rfl (by decide) (by decide) rfl rfl rfl (by omega) data a j b o c N w n i g k f m l
 ·exact Bo 41 d 2 8 rfl (by decide) (by decide) rfl rfl rfl (by omega) data a j b o c N w n i g k f m l
 ·exact I2 48 d 5 3 0 200 rfl (.inr ⟨rfl,rfl,rfl⟩) rfl rfl rfl (by omega) (by omega) data a j b o c N w n i g k f m l
 ·exact Bo 52 d 3 8 rfl (by decide) (by decide) rfl rfl rfl (by omega) data a j b o c N w n i g k f m l
 ·exact Bo 53 d 3 10 rfl (by decide) (by decide) rfl rfl rfl (by omega) data a j b o c N w n i g k f m l
 ·exact Bo 64 d 3 8 rfl (by decide) (by decide) rfl rfl rfl (by omega) data a j b o c N w n i g k f m l
 ·exact Bo 70 d 1 3 rfl (by decide) (by decide) rfl rfl rfl (by omega) data a j b o c N w n i g k f m l
 ·exact Bo 128 d 3 8 rfl (by decide) (by decide) rfl rfl rfl (by omega) data a j b o c N w n i g k f m l
end Go.Proofs.YtbkokcjolanpeaaGreatDoor
