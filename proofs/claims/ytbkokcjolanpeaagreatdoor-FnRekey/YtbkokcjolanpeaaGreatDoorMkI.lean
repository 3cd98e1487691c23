import Derived.Test.YtbkokcjolanpeaaGreatDoorMkE
import Derived.Test.YtbkokcjolanpeaaGreatDoorMkG
import Derived.Test.YtbkokcjolanpeaaGreatDoorMkH
set_option maxRecDepth 100000
set_option maxHeartbeats 20000000
namespace Go.Proofs.YtbkokcjolanpeaaGreatDoor
open Go.RowKit Go.Proofs.Tryz Act
theorem Tp:∀ n:Nat,n < 256 -> bits BinOp.xor IntKind.u8 ((n:Int) * 2 % 256) ((n:Int) / 128 * 27) = ((tXN n:Nat):Int):=by decide +kernel
theorem LE (A B:Nat) (w:World) (C:A < 256) (x:B < 256) :
 Calls prog 204 #[.int .u8 A,.int .u8 B] w fun e w'=>e = .returned (.int .u8 (mulN A B:Nat)) /\ w' = w:=by
 go_enter func204,ntmps204;go_wp2
 go_loopw [0,1,5,6] (fun a b p _ wr=>∃ f v u l:Nat,l < 2 ^ f /\ l < 256 /\ u < 256 /\ v < 256 /\ a = .int .u8 u /\ b = .int .u8 l /\ p = .int .u8 v /\ Hid (GZ f v u l = mulN A B) /\ Hid (wr = w)) (fun _ b _ _ _=>(intOf b).toNat)
 case atStart=>exact ⟨8,0,A,B,x,x,C,by omega,rfl,rfl,rfl,rfl,rfl⟩
 case round =>
  obtain ⟨f,p,a,b,j,m,c,i,rfl,rfl,rfl,t,k⟩:=hrel
  by_cases hb0:b = 0
  ·subst hb0;have D:Hid (p = mulN A B):=(UT f p a).symm.trans t.out;go_wp2;go_ret;exact ⟨CH (by rw [D.out]),k.out⟩
  ·have G:(0:Int) < (b:Int):=by omega
   obtain ⟨g,rfl⟩:∃ g,f = g + 1:=by
    cases f with
    | zero=>simp at j;omega
    | succ g=>exact ⟨g,rfl⟩
   have r:b / 2 < 2 ^ g:=by rw [Nat.pow_succ] at j;omega
   have o:Value.int .u8 ((b:Int) / 2) = .int .u8 ((b / 2:Nat):Int):=by simp
   have z:Hid (Value.int .u8 ((b:Int) / 2) = .int .u8 ((b / 2:Nat):Int)):=o;clear j o
   by_cases h1:b % 2 = 1
   ·obtain s:bits BinOp.and IntKind.u8 (b:Int) 1 = 1:=by
     have h:=u8_and_nat b 1 m (by decide);rw [show b &&& 1 = b % 2 from Nat.and_one_is_mod b,h1] at h;exact h
    have d:Hid (GZ g (p ^^^ a) (tXN a) (b / 2) = mulN A B):=by
     have h:=t.out;unfold GZ at h;rw [if_pos h1] at h;exact h
    obtain ⟨q,H,y,F⟩:∃ q:Nat,bits BinOp.xor IntKind.u8 (p:Int) (a:Int) = (q:Int) /\ q < 256 /\ Hid (q = p ^^^ a):=⟨_,qK p a i c,Qx (n:=8) i c,rfl⟩;rw [<- F.out] at d;go_wp2;go_roundw
    case rel =>
     refine ⟨g,q,tXN a,b / 2,r,by omega,Dm a c,y,?_,z.out,rfl,d,k⟩;refine congrArg (Value.int .u8) ?_;exact Tp a c
    case measure=>simp [intOf];omega
   ·have E:b % 2 = 0:=by omega
    obtain s:bits BinOp.and IntKind.u8 (b:Int) 1 = 0:=by
     have h:=u8_and_nat b 1 m (by decide);rw [show b &&& 1 = b % 2 from Nat.and_one_is_mod b,E] at h;exact h
    have d:Hid (GZ g p (tXN a) (b / 2) = mulN A B):=by
     have h:=t.out;unfold GZ at h;rw [if_neg h1] at h;exact h
    go_wp2;go_roundw
    case rel =>
     refine ⟨g,p,tXN a,b / 2,r,by omega,Dm a c,i,?_,z.out,rfl,d,k⟩;refine congrArg (Value.int .u8) ?_;exact Tp a c
    case measure=>simp [intOf];omega
theorem Xq (a k:Nat):(Ce a (k + 1)).1 = mulN (Ce a k).1 (Ce a k).1:=by rw [Ce]
theorem Xn (a k:Nat):(Ce a (k + 1)).2 = mulN (Ce a k).2 (mulN (Ce a k).1 (Ce a k).1):=by rw [Ce]
theorem RX (a:Nat):(Ce a 7).2 = invN a:=by rw [invN]
theorem Za (a:Nat) (h:a < 256):invN a < 256:=by rw [<- RX];exact (Rq a 7 h).2
theorem AS {p:Prop} (h:p):Hid p:=h
theorem SV (A:Nat) (w:World) (m:A < 256) :
 Calls prog 207 #[.int .u8 A] w fun e w'=>e = .returned (.int .u8 (invN A:Nat)) /\ w' = w:=by
 go_enter func207,ntmps207;go_wp2
 go_loopw [0,3,4] (fun a p i wr=>∃ k:Nat,k <= 7 /\ i = .int .i64 k /\ a = .int .u8 ((Ce A k).1:Nat) /\ p = .int .u8 ((Ce A k).2:Nat) /\ Hid (wr = w)) (fun _ _ i _=>7 - (intOf i).toNat)
 case atStart=>exact ⟨0,by omega,rfl,rfl,rfl,rfl⟩
 case round =>
  obtain ⟨k,r,rfl,rfl,rfl,f⟩:=hrel;have b:=Rq A k m;obtain ⟨x,d⟩:=uX ((Ce A k).1);obtain ⟨y,c⟩:=uX ((Ce A k).2);have l:Hid ((Ce A (k + 1)).1 = mulN x x):=AS (by rw [d,Xq]);have n:Hid ((Ce A (k + 1)).2 = mulN y (mulN x x)):=AS (by rw [d,c,Xn]);have o:Hid (y = (Ce A k).2):=AS c;rw [<- d,<- c] at b ⊢;clear d c
  by_cases hlt:k < 7
  ·have q:(k:Int) < 7:=by omega
   obtain ⟨z,j,g⟩:∃ z:Nat,z < 256 /\ Hid (z = mulN x x):=⟨mulN x x,JJ x x b.1,AS rfl⟩;go_wp2_with fail;refine (LE x x _ b.1 b.1).mono ?_;rintro e w' ⟨rfl,rfl⟩;rw [<- g.out];go_wp2_with fail;refine (LE y z _ b.2 j).mono ?_;rintro e w' ⟨rfl,rfl⟩;go_wp2;go_roundw
   case rel=>exact ⟨k + 1,by omega,by go_num,by rw [l.out,g.out],by rw [n.out,g.out],f⟩
   case measure=>simp [intOf];omega
  ·obtain rfl:k = 7:=by omega
   go_wp2;go_ret;exact ⟨CH (by rw [o.out,RX]),f.out⟩
theorem Jf (x k:Nat) (a:Int) (w:World) (f:x < 256) (b:a = (k:Int)) (d:1 <= k) (c:k <= 4) :
 Calls prog 208 #[.int .u8 x,.int .i64 a] w fun e w'=>e = .returned (.int .u8 (turn8 x k:Nat)) /\ w' = w:=by
 obtain ⟨rfl,rfl⟩ | ⟨rfl,rfl⟩ | ⟨rfl,rfl⟩ | ⟨rfl,rfl⟩:(k = 1 /\ a = 1) \/ (k = 2 /\ a = 2) \/ (k = 3 /\ a = 3) \/ (k = 4 /\ a = 4):=by omega
 all_goals
  clear d c b;go_enter func208,ntmps208;go_wp2;go_ret;refine ⟨CH ?_,rfl⟩
  revert x
  decide +kernel
theorem PA (n k:Nat) (a:n < 256):turn8 n k < 256:=by
 unfold turn8;have b:n / 2 ^ (8 - k) <= n:=qX _ _;exact qO (n:=8) (by omega) (by omega)
theorem Tj (n:Nat) (w:World) (f:n < 256) :
 Calls prog 174 #[.int .u8 n] w fun e w'=>e = .returned (.int .u8 ((AT.getD n 0).toNat:Int)) /\ w' = w:=by
 obtain ⟨c,d,o⟩:∃ c:Nat,c < 256 /\ Hid (c = invN n):=⟨invN n,Za n f,AS rfl⟩;have X:∀ a b:Nat,a < 256 -> b < 256 -> a ^^^ b < 256:=fun a b M F=>Qx (n:=8) M F;obtain ⟨p,D,r⟩:∃ t:Nat,t < 256 /\ Hid (t = turn8 c 1):=⟨turn8 c 1,PA c 1 d,AS rfl⟩;obtain ⟨A,s,v⟩:∃ t:Nat,t < 256 /\ Hid (t = turn8 c 2):=⟨turn8 c 2,PA c 2 d,AS rfl⟩;obtain ⟨g,k,z⟩:∃ t:Nat,t < 256 /\ Hid (t = turn8 c 3):=⟨turn8 c 3,PA c 3 d,AS rfl⟩;obtain ⟨l,q,i⟩:∃ t:Nat,t < 256 /\ Hid (t = turn8 c 4):=⟨turn8 c 4,PA c 4 d,AS rfl⟩;obtain ⟨E,T,u,I⟩:∃ y:Nat,bits BinOp.xor IntKind.u8 (c:Int) (p:Int) = (y:Int) /\ y < 256 /\ Hid (y = c ^^^ p):=⟨_,qK _ _ d D,X _ _ d D,rfl⟩;obtain ⟨C,O,x,H⟩:∃ y:Nat,bits BinOp.xor IntKind.u8 (E:Int) (A:Int) = (y:Int) /\ y < 256 /\ Hid (y = E ^^^ A):=⟨_,qK _ _ u s,X _ _ u s,rfl⟩;obtain ⟨B,U,j,L⟩:∃ y:Nat,bits BinOp.xor IntKind.u8 (C:Int) (g:Int) = (y:Int) /\ y < 256 /\ Hid (y = C ^^^ g):=⟨_,qK _ _ x k,X _ _ x k,rfl⟩;obtain ⟨m,V,J,G⟩:∃ y:Nat,bits BinOp.xor IntKind.u8 (B:Int) (l:Int) = (y:Int) /\ y < 256 /\ Hid (y = B ^^^ l):=⟨_,qK _ _ j q,X _ _ j q,rfl⟩;obtain ⟨W,R,N⟩:∃ y:Nat,bits BinOp.xor IntKind.u8 (m:Int) 99 = (y:Int) /\ Hid (y = (AT.getD n 0).toNat):=by
  refine ⟨_,qK m 99 J (by decide),?_⟩;refine AS ?_;rw [<- Zd n f,<- o.out,G.out,L.out,H.out,I.out,r.out,v.out,z.out,i.out,affN]
 clear X;go_enter func174,ntmps174;go_wp2_with fail;refine (SV n _ f).mono ?_;rintro e w' ⟨rfl,rfl⟩;rw [<- o.out];go_wp2_with fail;refine (Jf c 1 _ _ d rfl (by omega) (by omega)).mono ?_;rintro e w' ⟨rfl,rfl⟩;rw [<- r.out];go_wp2_with fail;refine (Jf c 2 _ _ d rfl (by omega) (by omega)).mono ?_;rintro e w' ⟨rfl,rfl⟩;rw [<- v.out];go_wp2_with fail;refine (Jf c 3 _ _ d rfl (by omega) (by omega)).mono ?_;rintro e w' ⟨rfl,rfl⟩;rw [<- z.out];go_wp2_with fail;refine (Jf c 4 _ _ d rfl (by omega) (by omega)).mono ?_;rintro e w' ⟨rfl,rfl⟩;rw [<- i.out];go_wp2;go_ret;exact ⟨CH (by rw [N.out]),rfl⟩
def Dh (K:Nat -> LU) (b:LU):Nat -> LU
 | 0=>AE b (K 0)
 | r + 1=>AE (Al Bn (AX 1 (Dh K b r))) (K (r + 1))
def CW (K:Nat -> LU) (b:LU):LU:=AE ((AX 1 (Dh K b 9)).map Av) (K 10)
def DM (K:Nat -> LU) (b:LU):Nat -> LU
 | 0=>(AX 3 (AE b (K 10))).map BP
 | k + 1=>(AX 3 (Al Bc (AE (DM K b k) (K (9 - k))))).map BP
def Is (K:Nat -> LU) (b:LU):LU:=AE (DM K b 9) (K 0)
theorem En (K:Nat -> LU) (b:LU) (c:b.length = 16) (a:∀ r,(K r).length = 16) (r:Nat):(Dh K b r).length = 16:=by
 cases r with
 | zero=>show (AE b (K 0)).length = 16;rw [AW _ _ (by rw [c,a]),c]
 | succ r=>show (AE (Al Bn (AX 1 (Dh K b r))) (K (r + 1))).length = 16;rw [AW _ _ (by rw [Ct,a]),Ct]
theorem FJ (K:Nat -> LU) (b:LU) (a:∀ r,(K r).length = 16):(CW K b).length = 16:=by
 unfold CW;rw [AW _ _ (by rw [QD,A4,a]),QD,A4]
theorem D7 (K:Nat -> LU) (b:LU) (r:Nat):(DM K b r).length = 16:=by
 cases r <;> simp [DM,A4]
theorem LQ (K:Nat -> LU) (b:LU) (a:∀ r,(K r).length = 16):(Is K b).length = 16:=by
 unfold Is;rw [AW _ _ (by rw [D7,a]),D7]
def Du (m:Nat) (w:LU):LU :=
 if m % 4 = 0 then [Av (w.getD (4 * m + 13) 0) ^^^ Dq (m / 4),Av (w.getD (4 * m + 14) 0),Av (w.getD (4 * m + 15) 0),Av (w.getD (4 * m + 12) 0)]
 else (w.drop (4 * m + 12)).take 4
def Af (key:LU):Nat -> LU
 | 0=>key
 | m + 1=>Af key m ++ AE (((Af key m).drop (4 * m)).take 4) (Du m (Af key m))
theorem Rp (m:Nat) (w:LU) (h:w.length = 16 + 4 * m):(Du m w).length = 4:=by
 unfold Du
 split
 ·rfl
 ·simp;omega
theorem DV (key:LU) (h:key.length = 16) (m:Nat):(Af key m).length = 16 + 4 * m:=by
 induction m with
 | zero=>exact h
 | succ m ih =>
   show (Af key m ++ AE (((Af key m).drop (4 * m)).take 4) (Du m (Af key m))).length = _;have e:(((Af key m).drop (4 * m)).take 4).length = 4:=by simp;omega
   rw [QC,AW _ _ (by rw [e,Rp m _ ih]),e,ih];omega
theorem MV (l:LU) (h:l.length = 16):∃ q n j k o i m r p s a d g f c b,l = [q,n,j,k,o,i,m,r,p,s,a,d,g,f,c,b]:=by
 match l,h with
 | [q,n,j,k,o,i,m,r,p,s,a,d,g,f,c,b],_=>exact ⟨q,n,j,k,o,i,m,r,p,s,a,d,g,f,c,b,rfl⟩
theorem UQ (key a l:LU) (r:Nat) (C:a.length = 16 * r) (L:l.length = 16) (h:Af key (4 * r) = a ++ l):Af key (4 * r + 4) = a ++ l ++ Fk (Dq r) l:=by
 obtain ⟨s,z,p,v,q,B,y,t,A,u,f,j,m,i,c,b,rfl⟩:=MV l L;have g:∀ (x:LU) (k:Nat),(a ++ x).getD (16 * r + k) 0 = x.getD k 0:=by
  intro x k;rw [<- C];rw [QA,QA,List.getElem?_append_right (by omega),show a.length + k - a.length = k from by omega]
 have d:∀ (x:LU) (k:Nat),(a ++ x).drop (16 * r + k) = x.drop k:=by
  intro x k;rw [<- C];simp [List.drop_append]
 have J:(4 * r) % 4 = 0:=by omega
 have H:¬ (4 * r + 1) % 4 = 0:=by omega
 have E:¬ (4 * r + 2) % 4 = 0:=by omega
 have I:¬ (4 * r + 3) % 4 = 0:=by omega
 have M:4 * r / 4 = r:=by omega
 obtain ⟨n,o⟩:=uX (Fk (Dq r) [s,z,p,v,q,B,y,t,A,u,f,j,m,i,c,b]);have G:Af key (4 * r + 1) = a ++ ([s,z,p,v,q,B,y,t,A,u,f,j,m,i,c,b] ++ n.take 4):=by
  show Af key (4 * r) ++ AE (((Af key (4 * r)).drop (4 * (4 * r))).take 4) (Du (4 * r) (Af key (4 * r))) = _;rw [h];unfold Du;rw [if_pos J,M];rw [show 4 * (4 * r) + 13 = 16 * r + 13 from by omega,show 4 * (4 * r) + 14 = 16 * r + 14 from by omega,show 4 * (4 * r) + 15 = 16 * r + 15 from by omega,show 4 * (4 * r) + 12 = 16 * r + 12 from by omega,show 4 * (4 * r) = 16 * r + 0 from by omega,g,g,g,g,d];rw [QV,o]
  congr 2
  simp [Fk,CL,M8,AE,List.range_succ,UInt8.xor_comm]
 have D:Af key (4 * r + 2) = a ++ ([s,z,p,v,q,B,y,t,A,u,f,j,m,i,c,b] ++ n.take 8):=by
  show Af key (4 * r + 1) ++ AE (((Af key (4 * r + 1)).drop (4 * (4 * r + 1))).take 4) (Du (4 * r + 1) (Af key (4 * r + 1))) = _;rw [G];unfold Du;rw [if_neg H,show 4 * (4 * r + 1) + 12 = 16 * r + 16 from by omega,show 4 * (4 * r + 1) = 16 * r + 4 from by omega,d,d];rw [QV,QV,o]
  congr 2
  simp [Fk,CL,M8,AE,List.range_succ,UInt8.xor_comm]
 have F:Af key (4 * r + 3) = a ++ ([s,z,p,v,q,B,y,t,A,u,f,j,m,i,c,b] ++ n.take 12):=by
  show Af key (4 * r + 2) ++ AE (((Af key (4 * r + 2)).drop (4 * (4 * r + 2))).take 4) (Du (4 * r + 2) (Af key (4 * r + 2))) = _;rw [D];unfold Du;rw [if_neg E,show 4 * (4 * r + 2) + 12 = 16 * r + 20 from by omega,show 4 * (4 * r + 2) = 16 * r + 8 from by omega,d,d];rw [QV,QV,o]
  congr 2
  simp [Fk,CL,M8,AE,List.range_succ,UInt8.xor_comm]
 show Af key (4 * r + 3) ++ AE (((Af key (4 * r + 3)).drop (4 * (4 * r + 3))).take 4) (Du (4 * r + 3) (Af key (4 * r + 3))) = _;rw [F];unfold Du;rw [if_neg I,show 4 * (4 * r + 3) + 12 = 16 * r + 24 from by omega,show 4 * (4 * r + 3) = 16 * r + 12 from by omega,d,d];rw [QV,QV,QV,o]
 congr 2
 simp [Fk,CL,M8,AE,List.range_succ,UInt8.xor_comm]
def NT (key:LU):LU:=Af key 40
theorem K5 (key:LU) (h:key.length = 16):(NT key).length = 176:=DV key h 40
def keysUpto (key:LU):Nat -> LU
 | 0=>[]
 | r + 1=>keysUpto key r ++ AQ key r
theorem BS (key:LU) (h:key.length = 16) (r:Nat):(keysUpto key r).length = 16 * r:=by
 induction r with
 | zero=>rfl
 | succ r ih=>show (keysUpto key r ++ AQ key r).length = _;rw [QC,ih,BI key h];omega
theorem VJ (key:LU) (h:key.length = 16) (r:Nat):Af key (4 * r) = keysUpto key r ++ AQ key r:=by
 induction r with
 | zero=>rfl
 | succ r ih =>
   rw [show 4 * (r + 1) = 4 * r + 4 from by omega,UQ key _ _ r (BS key h r) (BI key h r) ih]
   rfl
theorem Xm (key:LU) (h:key.length = 16):NT key = keysUpto key 11:=VJ key h 10
theorem TH (key:LU) (h:key.length = 16) (n r:Nat) (b:r < n):((keysUpto key n).drop (16 * r)).take 16 = AQ key r:=by
 induction n with
 | zero=>omega
 | succ n ih =>
   show ((keysUpto key n ++ AQ key n).drop (16 * r)).take 16 = AQ key r;have a:=BS key h n
   by_cases e:r = n
   ·subst e;rw [<- a,List.drop_left,QS (by rw [BI key h];exact QE _)]
   ·rw [Qy (by omega),qT (by simp;omega)];exact ih (by omega)
theorem P6 (key:LU) (h:key.length = 16) (r:Nat) (a:r < 11):((NT key).drop (16 * r)).take 16 = AQ key r:=by
 rw [Xm key h];exact TH key h 11 r a
theorem M9 (K:Nat -> LU) (b:LU) (c:b.length = 16) (a:∀ r,(K r).length = 16) (r:Nat):Dh K b (r + 1) = AE (DX FU (AX 1 ((Dh K b r).map Av))) (K (r + 1)):=by
 show AE (Al Bn (AX 1 (Dh K b r))) (K (r + 1)) = _;rw [Uv _ (A4 _ _),Of Av 1 _ (En K b c a r)]
theorem OV (K:Nat -> LU) (b:LU) (c:b.length = 16) (a:∀ r,(K r).length = 16):CW K b = AE (AX 1 ((Dh K b 9).map Av)) (K 10):=by
 unfold CW;rw [Of Av 1 _ (En K b c a 9)]
theorem Mt (K:Nat -> LU) (b:LU) (a:∀ r,(K r).length = 16) (k:Nat):DM K b (k + 1) = (AX 3 (DX rowD (AE (DM K b k) (K (9 - k))))).map BP:=by
 show (AX 3 (Al Bc (AE (DM K b k) (K (9 - k))))).map BP = _;rw [Xi _ (by rw [AW _ _ (by rw [D7,a]),D7])]
theorem Ou (w:World) :
 Calls prog 205 #[] w fun e w'=>∃ v,e = .returned v /\ AO w' w.heap.size v AT /\ Bl w w':=by
 obtain ⟨s,r,n,o,m⟩:=Qg Tryz.info5;have B:=Bq;go_enter func205,ntmps205;go_wp2
 go_loopw [1,2] (fun v i wr=>∃ k:Nat,k <= 256 /\ i = .int .i64 k /\ AO wr w.heap.size v (AT.take k) /\ Bl w wr) (fun _ i _=>256 - (intOf i).toNat)
 case atStart=>exact ⟨0,by omega,rfl,Qa _ _ _ _,Below.refl _ _⟩
 case round =>
  obtain ⟨k,E,rfl,a,c⟩:=hrel
  by_cases hlt:k < 256
  ·have A:(k:Int) < 256:=by omega
   have C:IntKind.u8.wrap (k:Int) = (k:Int):=by rw [JE];omega
   have F:(AT.take k).length <= 256:=by rw [QI];omega
   have z:=c.size;obtain ⟨y,q⟩:∃ y:Nat,Hid (y = (AT.getD k 0).toNat):=⟨_,rfl⟩;have j:∀ w,Calls prog 174 #[.int .u8 k] w fun e w'=>e = .returned (.int .u8 (y:Int)) /\ w' = w:=by
    intro w;rw [q.out];exact Tj k w hlt
   go_wp2_with (first
    | (go_at_call 174;refine (j _).mono ?_;rintro e w' ⟨rfl,t⟩;subst w')
    | (at_builtin;refine Qi _ rfl _ _ 22 rfl w.heap.size 5 s (.int .u8 0) 1 1 underlying22 r n o m rfl (by decide) _ _ _ rfl (a.alloc _) ⟨wr.heap.size,0,none⟩ 1 1 [.int .u8 (y:Int)] rfl rfl (qy _ _ _) (by intro u p;simp at p;subst p;rfl) (by unfold maxLen;omega) (by omega) (by simp;omega) ?_;intro G D d b f))
   have R:=ME (x:=AT.getD k 0) a c d b (by show Value.int .u8 _ = Value.int .u8 _;rw [q.out]);have l:AT.take k ++ [AT.getD k 0] = AT.take (k + 1):=by
    have g:k < AT.length:=by omega
    rw [B3 AT k g];simp [g]
   rw [l] at R;clear d b a f l;go_wp2;go_roundw
   case rel=>exact ⟨k + 1,by omega,by go_num,R.1,R.2⟩
   case measure=>simp [intOf];omega
  ·go_wp2;go_ret;rw [QS (by omega)] at a;exact ⟨_,rfl,a,c⟩
theorem Tl:∀ k:Nat,k < 256 -> (invTab.getD (AT.getD k 0).toNat 0).toNat = k:=by decide +kernel
theorem an:∀ k:Nat,k < 256 -> (AT.getD (invTab.getD k 0).toNat 0).toNat = k:=by decide +kernel
theorem OH (b a l:Nat) (v:Nat) (w:World) (p:v < 256) (m:∀ i,i < 256 -> w.cell? ⟨b,a + i,none⟩ = some (.int .u8 ((AT.getD i 0).toNat:Int))) :
 Calls prog 206 #[.slice (some ⟨b,a,none⟩) 256 l,.int .u8 v] w fun e w'=>e = .returned (.int .u8 ((invTab.getD v 0).toNat:Int)) /\ w' = w:=by
 obtain ⟨q,y,t⟩:∃ q:Nat,q < 256 /\ Hid (q = (invTab.getD v 0).toNat):=⟨_,QW _,rfl⟩;have r:=AS m;clear m;go_enter func206,ntmps206;go_wp2
 go_loopw [5,6,9] (fun _ _ i wr=>∃ k:Nat,k <= q /\ i = .int .i64 k /\ Hid (wr = w)) (fun _ _ i _=>256 - (intOf i).toNat)
 case atStart=>exact ⟨0,by omega,rfl,rfl⟩
 case round =>
  obtain ⟨k,B,rfl,c⟩:=hrel;have u:(k:Int) < 256:=by omega
  have d:k < 256:=by omega
  obtain ⟨x,z,f⟩:∃ x:Nat,x < 256 /\ Hid (x = (AT.getD k 0).toNat):=⟨_,QW _,rfl⟩;have o:wr.cell? ⟨b,a + k,none⟩ = some (.int .u8 (x:Int)):=by rw [c.out,r.out k d,f.out]
  have A:IntKind.u8.wrap (k:Int) = (k:Int):=by rw [JE];omega
  by_cases hxv:x = v
  ·have j:Hid (k = (invTab.getD v 0).toNat):=AS (by rw [<- hxv,f.out,Tl k d]);subst hxv;go_wp2;go_ret;exact ⟨CH (by rw [<- j.out]),c.out⟩
  ·have n:k + 1 <= q:=by
    rcases Nat.lt_or_ge k q with h | h
    ·exact h
    ·have e:k = q:=by omega
     exfalso
     apply hxv;rw [f.out,e,t.out,an v p]
   have g:¬ (x:Int) = (v:Int):=by omega
   have s:((x:Int) == (v:Int)) = false:=by simpa using g
   go_wp2;go_roundw
   case rel=>exact ⟨k + 1,n,by go_num,c⟩
   case measure=>simp [intOf];omega
theorem MB {w wr:World} {b a:Nat} {s:LU} (d:∀ i,i < s.length -> w.cell? ⟨b,a + i,none⟩ = some (.int .u8 ((s.getD i 0).toNat:Int))) (c:Bl w wr) (j:Nat) (f:j < s.length):wr.cell? ⟨b,a + j,none⟩ = some (.int .u8 ((s.getD j 0).toNat:Int)) :=
 (c.cell (RowAt.lt d f)).trans (d j f)
theorem Kj (a:Nat) (E:Int) (s:LU) (b l L:Nat) (w:World) (z:a = 1 \/ a = 3) (O:E = (a:Int)) (hs:s.length = 16) (M:∀ i,i < s.length -> w.cell? ⟨b,l + i,none⟩ = some (.int .u8 ((s.getD i 0).toNat:Int))) :
 Calls prog 175 #[.slice (some ⟨b,l,none⟩) 16 L,.int .i64 E] w fun e w'=>e = .returned (.slice (some ⟨w.heap.size,0,none⟩) 16 16) /\ Blk w' w.heap.size 5 ((AX a s).map byte) /\ Bl w w':=by
 subst O;obtain ⟨i0,W,I,J,H⟩:=Qg Tryz.info5;have Y:=AS M;clear M;go_enter func175,ntmps175;go_wp2_with (at_make;refine Qv _ rfl _ _ 22 rfl w.heap.size 5 i0 (.int .u8 0) 1 underlying22 W I J .i64 .i64 _ _ 16 rfl rfl rfl rfl (by rw [H];omega) (by unfold maxLen;omega) (QE _) ?_;intro w0 j g)
 have o:=C8 j;rw [Cl,show List.replicate 16 (Value.int .u8 0) = BQ (tuC a s) (.int .u8 0) 16 0 from (Cz _ _ _).symm] at o;have n:=Ac g;clear j g
 go_loopw [6,7] (fun i _ wr=>∃ c:Nat,c <= 4 /\ i = .int .i64 c /\ Blk wr w.heap.size 5 (BQ (tuC a s) (.int .u8 0) 16 (4 * c)) /\ Bl w wr) (fun i _ _=>4 - (intOf i).toNat)
 case atStart=>exact ⟨0,by omega,rfl,o,n⟩
 case round =>
  clear o n;obtain ⟨c,a7,rfl,f,d⟩:=hrel
  by_cases hlt:c < 4
  ·have a9:(c:Int) < 4:=by omega
   go_wp2
   go_loopw [7] (fun i wr=>∃ k:Nat,k <= 4 /\ i = .int .i64 k /\ Blk wr w.heap.size 5 (BQ (tuC a s) (.int .u8 0) 16 (4 * c + k)) /\ Bl w wr) (fun i _=>4 - (intOf i).toNat)
   case atStart=>exact ⟨0,by omega,rfl,f,d⟩
   case round =>
    clear f d;obtain ⟨k,a0,rfl,f,d⟩:=hrel
    by_cases hkl:k < 4
    ·obtain ⟨m1,b2,N⟩:∃ m:Nat,IntKind.i64.wrap (4 * (c:Int)) = (m:Int) /\ Hid (m = 4 * c):=⟨4 * c,by rw [QH];omega,rfl⟩;obtain ⟨p,a6,B,U,t⟩:∃ m:Nat,IntKind.i64.wrap ((m1:Int) + (k:Int)) = (m:Int) /\ m < 16 /\ (m:Int) < 16 /\ Hid (m = 4 * c + k):=⟨4 * c + k,by have:=N.out;rw [QH];omega,by omega,by omega,rfl⟩;obtain ⟨q,hq,a8,Hq⟩:∃ m:Nat,IntKind.i64.wrap ((a:Int) * (k:Int)) = (m:Int) /\ m <= 9 /\ Hid (m = a * k):=by
      have h:=Nat.mul_le_mul (show a <= 3 by omega) (show k <= 3 by omega);have e:(a:Int) * (k:Int) = ((a * k:Nat):Int):=by simp
      exact ⟨a * k,by rw [e,QH];omega,h,rfl⟩
     obtain ⟨x,b3,G⟩:∃ m:Nat,IntKind.i64.wrap ((c:Int) + (q:Int)) = (m:Int) /\ Hid (m = c + q):=⟨c + q,by rw [QH];omega,rfl⟩;obtain ⟨r,hr,b0,Hr⟩:∃ r:Nat,Int.tmod (x:Int) 4 = (r:Int) /\ r < 4 /\ Hid (r = x % 4):=⟨x % 4,by rw [Qk (by omega)];omega,by omega,rfl⟩;obtain ⟨m3,b1,F⟩:∃ m:Nat,IntKind.i64.wrap (4 * (r:Int)) = (m:Int) /\ Hid (m = 4 * r):=⟨4 * r,by rw [QH];omega,rfl⟩;obtain ⟨A,a4,X,V,C⟩:∃ m:Nat,IntKind.i64.wrap ((m3:Int) + (k:Int)) = (m:Int) /\ m < 16 /\ (m:Int) < 16 /\ Hid (m = 4 * r + k):=⟨4 * r + k,by have:=F.out;rw [QH];omega,by omega,by omega,rfl⟩;obtain ⟨y,R⟩:∃ y:Nat,Hid (y = (s.getD A 0).toNat):=⟨_,rfl⟩;have T:wr.cell? ⟨b,l + A,none⟩ = some (.int .u8 (y:Int)):=by rw [MB Y.out d A (by omega),R.out]
     have hf:=f.free p;obtain ⟨u,hu⟩:∃ u,wr.cell? ⟨w.heap.size,p,none⟩ = some u:=⟨_,f.cell p (by rw [Bs];exact B)⟩;have v:=f.set (4 * c + k) (tuC a s (4 * c + k));rw [Cv,<- t.out] at v;have HV:Hid (Value.int .u8 (y:Int) = tuC a s p):=by
      show Value.int .u8 _ = Value.int .u8 _;have Z:(4 * c + k) / 4 = c:=by omega
      have D:(4 * c + k) % 4 = k:=by omega
      have h:=Zk a (4 * c + k) z (by omega);rw [Z,D] at h;rw [R.out,C.out,Hr.out,G.out,Hq.out,t.out,D,h]
     have a5:(k:Int) < 4:=by omega
     go_wp2;go_roundw
     case rel =>
      rw [HV.out];exact ⟨k + 1,by omega,by go_num,by rw [show 4 * c + (k + 1) = p + 1 from by rw [t.out];omega];exact v,d.setCell (QE _) _⟩
     case measure=>simp [intOf];omega
    ·obtain rfl:k = 4:=by omega
     go_wp2;go_roundw
     case rel=>exact ⟨c + 1,by omega,by go_num,by rw [show 4 * (c + 1) = 4 * c + 4 from by omega];exact f,d⟩
     case measure=>simp [intOf];omega
  ·obtain rfl:c = 4:=by omega
   have e:(List.range 16).map (tuC a s) = (AX a s).map byte:=by
    unfold AX tuC;rw [JA]
    rfl
   rw [show 4 * 4 = 16 from rfl,DD,e] at f;go_wp2;go_ret;exact ⟨rfl,f,d⟩
def muC (row s:LU) (j:Nat):Value:=byte (A8 row s (j / 4) (j % 4) 4)
theorem WS (f:Nat -> Value) (z:Value) (n k:Nat) (a:k < n):(BQ f z n k).set k z = BQ f z n k:=by
 apply qA;intro i;rw [List.getElem?_set]
 by_cases hi:k = i
 ·subst hi;simp [BQ,a]
 ·rw [if_neg hi]
theorem RL (row s:LU) (b p U F l G:Nat) (w:World) (hs:s.length = 16) (a5:row.length = 4) (V:∀ i,i < s.length -> w.cell? ⟨b,p + i,none⟩ = some (.int .u8 ((s.getD i 0).toNat:Int))) (B:∀ i,i < row.length -> w.cell? ⟨F,l + i,none⟩ = some (.int .u8 ((row.getD i 0).toNat:Int))) :
 Calls prog 176 #[.slice (some ⟨b,p,none⟩) 16 U,.slice (some ⟨F,l,none⟩) 4 G] w fun e w'=>e = .returned (.slice (some ⟨w.heap.size,0,none⟩) 16 16) /\ Blk w' w.heap.size 5 ((DX row s).map byte) /\ Bl w w':=by
 obtain ⟨i0,hi,N,O,M⟩:=Qg Tryz.info5;have Hc:=AS V;have H:=AS B;clear V B;go_enter func176,ntmps176;go_wp2_with (at_make;refine Qv _ rfl _ _ 22 rfl w.heap.size 5 i0 (.int .u8 0) 1 underlying22 hi N O .i64 .i64 _ _ 16 rfl rfl rfl rfl (by rw [M];omega) (by unfold maxLen;omega) (QE _) ?_;intro w0 n g)
 have u:=C8 n;rw [Cl,show List.replicate 16 (Value.int .u8 0) = BQ (muC row s) (.int .u8 0) 16 0 from (Cz _ _ _).symm] at u;have t:=Ac g;clear n g
 go_loopw [6,7,8] (fun i _ _ wr=>∃ c:Nat,c <= 4 /\ i = .int .i64 c /\ Blk wr w.heap.size 5 (BQ (muC row s) (.int .u8 0) 16 (4 * c)) /\ Bl w wr) (fun i _ _ _=>4 - (intOf i).toNat)
 case atStart=>exact ⟨0,by omega,rfl,u,t⟩
 case round =>
  clear u t;obtain ⟨c,b0,rfl,f,a⟩:=hrel
  by_cases hlt:c < 4
  ·have b1 : (c:Int) < 4:=by omega
   go_wp2
   go_loopw [7,8] (fun i _ wr=>∃ k:Nat,k <= 4 /\ i = .int .i64 k /\ Blk wr w.heap.size 5 (BQ (muC row s) (.int .u8 0) 16 (4 * c + k)) /\ Bl w wr) (fun i _ _=>4 - (intOf i).toNat)
   case atStart=>exact ⟨0,by omega,rfl,f,a⟩
   case round =>
    clear f a;obtain ⟨i,b6,rfl,f,a⟩:=hrel
    by_cases hil:i < 4
    ·have b8:(i:Int) < 4:=by omega
     obtain ⟨X,b5,D⟩:∃ m:Nat,IntKind.i64.wrap (4 * (c:Int)) = (m:Int) /\ Hid (m = 4 * c):=⟨4 * c,by rw [QH];omega,rfl⟩;obtain ⟨j,a9,v,a0,A⟩:∃ m:Nat,IntKind.i64.wrap ((X:Int) + (i:Int)) = (m:Int) /\ m < 16 /\ (m:Int) < 16 /\ Hid (m = 4 * c + i):=⟨4 * c + i,by have:=D.out;rw [QH];omega,by omega,by omega,rfl⟩;rw [<- A.out] at f;go_wp2
     go_loopw [8] (fun q wr=>∃ k:Nat,k <= 4 /\ q = .int .i64 k /\ Blk wr w.heap.size 5 ((BQ (muC row s) (.int .u8 0) 16 j).set j (byte (A8 row s c i k))) /\ Bl w wr) (fun q _=>4 - (intOf q).toNat)
     case atStart=>exact ⟨0,by omega,rfl,by rw [show byte (A8 row s c i 0) = .int .u8 0 from rfl,WS _ _ _ _ v];exact f,a⟩
     case round =>
      clear f a;obtain ⟨k,a6,rfl,f,a⟩:=hrel
      by_cases hkl:k < 4
      ·have a7:(k:Int) < 4:=by omega
       obtain ⟨R,b9,a4,a3,L⟩:∃ m:Nat,IntKind.i64.wrap ((X:Int) + (k:Int)) = (m:Int) /\ m < 16 /\ (m:Int) < 16 /\ Hid (m = 4 * c + k):=⟨4 * c + k,by have:=D.out;rw [QH];omega,by omega,by omega,rfl⟩;obtain ⟨d,hd,Hd⟩:∃ d:Int,IntKind.i64.wrap ((k:Int) - (i:Int)) = d /\ Hid (d = (k:Int) - (i:Int)):=⟨(k:Int) - (i:Int),by rw [QH];omega,rfl⟩;obtain ⟨e,he,He⟩:∃ e:Nat,IntKind.i64.wrap (d + 4) = (e:Int) /\ Hid (e = k + 4 - i):=⟨k + 4 - i,by have:=Hd.out;rw [QH];omega,rfl⟩;obtain ⟨r,hr,b4,b7,Hr⟩:∃ r:Nat,Int.tmod (e:Int) 4 = (r:Int) /\ r < 4 /\ (r:Int) < 4 /\ Hid (r = (k + 4 - i) % 4):=⟨e % 4,by rw [Qk (by omega)];omega,by omega,by omega,by show e % 4 = _;rw [He.out]⟩;obtain ⟨x,C,Z⟩:∃ y:Nat,y < 256 /\ Hid (y = (s.getD (4 * c + k) 0).toNat):=⟨_,QW _,rfl⟩;obtain ⟨y,W,Y⟩:∃ y:Nat,y < 256 /\ Hid (y = (row.getD ((k + 4 - i) % 4) 0).toNat):=⟨_,QW _,rfl⟩;obtain ⟨o,T,J⟩:∃ y:Nat,y < 256 /\ Hid (y = (A8 row s c i k).toNat):=⟨_,QW _,rfl⟩;have c0:wr.cell? ⟨b,p + R,none⟩ = some (.int .u8 (x:Int)):=by rw [MB Hc.out a R (by omega),Z.out,L.out]
       have b3:wr.cell? ⟨F,l + r,none⟩ = some (.int .u8 (y:Int)):=by rw [MB H.out a r (by omega),Y.out,Hr.out]
       have a8:wr.cell? ⟨w.heap.size,j,none⟩ = some (.int .u8 (o:Int)):=by
        rw [f.cell j (by rw [QQ,Bs];exact v),List.getElem_set_self,J.out];rfl
       have hf:=f.free j;have E:=f.set j (byte (A8 row s c i (k + 1)));rw [List.set_set] at E;have I:=JJ x y C;obtain ⟨z,hz,Hz⟩:∃ z:Nat,bits BinOp.xor IntKind.u8 (o:Int) ((mulN x y:Nat):Int) = (z:Int) /\ Hid (Value.int .u8 (z:Int) = byte (A8 row s c i (k + 1))):=by
        refine ⟨_,qK o _ T I,AS ?_⟩;show Value.int .u8 _ = Value.int .u8 _;show Value.int .u8 _ = Value.int .u8 (((A8 row s c i k ^^^ BD (s.getD (4 * c + k) 0) (row.getD ((k + 4 - i) % 4) 0)).toNat:Nat):Int);rw [Qs,EL,<- Z.out,<- Y.out,<- J.out]
       clear f;go_wp2;go_region_with (go_at_call 204;refine (LE x y _ C W).mono ?_;rintro e w' ⟨rfl,rfl⟩)
       all_goals
        go_wp2
        all_goals
         go_roundw
         case rel =>
          rw [Hz.out];exact ⟨k + 1,by omega,by go_num,E.drew1,(a.setCell (QE _) _).drew⟩
         case measure=>simp [intOf];omega
      ·obtain rfl:k = 4:=by omega
       have e:byte (A8 row s c i 4) = muC row s j:=by
        unfold muC;rw [A.out,show (4 * c + i) / 4 = c from by omega,show (4 * c + i) % 4 = i from by omega]
       rw [e,Cv] at f;clear e;go_wp2;go_roundw
       case rel=>exact ⟨i + 1,by omega,by go_num,by rw [show 4 * c + (i + 1) = j + 1 from by rw [A.out];omega];exact f,a⟩
       case measure=>simp [intOf];omega
    ·obtain rfl:i = 4:=by omega
     go_wp2;go_roundw
     case rel=>exact ⟨c + 1,by omega,by go_num,by rw [show 4 * (c + 1) = 4 * c + 4 from by omega];exact f,a⟩
     case measure=>simp [intOf];omega
  ·obtain rfl:c = 4:=by omega
   have e:(List.range 16).map (muC row s) = (DX row s).map byte:=by
    unfold DX muC;rw [JA]
    rfl
   rw [show 4 * 4 = 16 from rfl,DD,e] at f;go_wp2;go_ret;exact ⟨rfl,f,a⟩
theorem RowAt.mid {w:World} {g n:Nat} {l:LU} (h:RowAt w (some ⟨g,0,none⟩) l) (k:Nat):RowAt w (some ⟨g,k,none⟩) ((l.drop k).take n):=by
 have:=(h.drop k).take n
 rwa [QZ] at this
def subI (n:Nat):Nat:=(AT.getD n 0).toNat
theorem ZY (n:Nat):subI n < 256:=QW _
theorem ZM (n:Nat) (w:World) (a:n < 256):Calls prog 174 #[.int .u8 n] w fun e w'=>e = .returned (.int .u8 (subI n:Nat)) /\ w' = w:=Tj n w a
theorem TM {b:World} {base:Nat} {a:Value} {l x:LU} {n:Nat} (c:l.length = n) (d:x.length = 4) (h:b.ownsRow base 5 1 a (n + 4) (l.map byte ++ x.map byte)):AO b base a (l ++ x):=by
 unfold AO;rw [Qf,QC,c,d];exact h
theorem YI (m:Nat) (h:m % 4 = 0):Dq ((m + 1 + 3) / 4) = tXB (Dq ((m + 3) / 4)):=by
 rw [show (m + 1 + 3) / 4 = (m + 3) / 4 + 1 from by omega]
 rfl
theorem OE (ao:Option Addr) (ca:Nat) (key:LU) (w:World) (Z:key.length = 16) (hr:RowAt w ao key) :
 Calls prog 172 #[.slice ao 16 ca] w fun e w'=>∃ v,e = .returned v /\ AO w' w.heap.size v (NT key) /\ Bl w w':=by
 obtain ⟨i0,c8,c9,c6,c5⟩:=Qg Tryz.info5;have HB:=AS (fun (wx:World) (h:RowAt wx ao key)=>EF ao ca key wx (by omega) (by omega) h);rw [Z] at HB;go_enter func172,ntmps172;go_wp2_with fail;refine (HB.out _ hr).mono ?_;rintro e w1 ⟨rfl,b3,b8⟩;clear HB;go_wp2
 go_loopw [3,4,5,6] (fun v p i _ wr=>∃ m:Nat,m <= 40 /\ i = .int .i64 ((m + 4:Nat):Int) /\ p = .int .u8 ((Dq ((m + 3) / 4)).toNat:Int) /\ AO wr w.heap.size v (Af key m) /\ Bl w wr) (fun _ _ i _ _=>44 - (intOf i).toNat)
 case atStart=>exact ⟨0,by omega,rfl,rfl,by show w1.ownsRow _ _ 1 _ key.length _;rw [Z];exact By b3 Z,b8⟩
 case round =>
  clear b3 b8;obtain ⟨m,hm,rfl,rfl,o,M⟩:=hrel;have d5:=DV key Z m
  by_cases hlt:m < 40
  ·obtain ⟨I,hI,e5,HI⟩:∃ I:Nat,m + 4 = I /\ I < 44 /\ Hid (I = m + 4):=⟨_,rfl,by omega,rfl⟩;rw [hI];obtain ⟨P,hP,b1,HP⟩:∃ P:Nat,(Dq ((m + 3) / 4)).toNat = P /\ P < 256 /\ Hid (P = (Dq ((m + 3) / 4)).toNat):=⟨_,rfl,QW _,rfl⟩;rw [hP];obtain ⟨N,hN,HN⟩:∃ N:Nat,(Af key m).length = N /\ Hid (N = 16 + 4 * m):=⟨_,rfl,d5⟩;obtain ⟨g,s,e4,rfl,row⟩:=BE o hN (by have:=HN.out;omega);have hg:=(o.lt g rfl);have c2:=By o hN;have e7:(I:Int) < 44:=by omega
   obtain ⟨V,h4,H4⟩:∃ a:Nat,IntKind.i64.wrap (4 * (I:Int)) = (a:Int) /\ Hid (a = 4 * m + 16):=⟨4 * I,by rw [QH];omega,by show 4 * I = _;omega⟩;obtain ⟨b4,k4,K4⟩:∃ a:Nat,IntKind.i64.wrap ((V:Int) - 4) = (a:Int) /\ Hid (a = 4 * m + 12):=⟨4 * m + 12,by have:=H4.out;rw [QH];omega,rfl⟩;obtain ⟨H,l4,L4⟩:∃ a:Nat,IntKind.i64.wrap ((V:Int) - 16) = (a:Int) /\ Hid (a = 4 * m):=⟨4 * m,by have:=H4.out;rw [QH];omega,rfl⟩;obtain ⟨d4,m4,M4⟩:∃ a:Nat,IntKind.i64.wrap ((V:Int) - 12) = (a:Int) /\ Hid (a = 4 * m + 4):=⟨4 * m + 4,by have:=H4.out;rw [QH];omega,rfl⟩;have q1:V <= s:=by have:=H4.out;have:=HN.out;omega
   have q2:b4 <= V:=by have:=H4.out;have:=K4.out;omega
   have q3:H <= d4:=by have:=L4.out;have:=M4.out;omega
   have q4:d4 <= s:=by have:=M4.out;have:=HN.out;omega
   have f0:(V:Int) <= (s:Int):=by omega
   have f2:(b4:Int) <= (V:Int):=by omega
   have f1:(H:Int) <= (d4:Int):=by omega
   have e9:(d4:Int) <= (s:Int):=by omega
   have e1:V - b4 = 4:=by have:=H4.out;have:=K4.out;omega
   have e2:d4 - H = 4:=by have:=L4.out;have:=M4.out;omega
   clear hI hP hN d5;obtain ⟨T,hT,HT⟩:∃ T,T = ((Af key m).drop (4 * m + 12)).take 4 /\ Hid (T = ((Af key m).drop (4 * m + 12)).take 4):=⟨_,rfl,rfl⟩;have F:T.length = 4:=by rw [hT,QI,QN,DV key Z m];omega
   have a9:RowAt wr (some ⟨g,b4,none⟩) T:=by rw [hT,K4.out];exact row.mid _
   have HB:=AS (EF (some ⟨g,b4,none⟩) (s - b4) T wr (by omega) (by omega) a9);rw [F] at HB;have a8:Hid ((Af key m).length = N):=AS (by rw [DV key Z m,HN.out]);clear hT;go_wp2_with fail;refine HB.out.mono ?_;rintro e w2 ⟨rfl,c0,R⟩;clear HB a9;have A:RowAt w2 (some ⟨wr.heap.size,0,none⟩) T:=by
    obtain ⟨g',c',-,a1,C⟩:=BE c0 F (by omega);cases a1
    exact C
   have L:=row.below R;have t:=o.below R;have b2:=M.trans (R.mono M.size);obtain ⟨G,hG⟩:=uX (wr.heap.size);rw [<- hG] at A ⊢;clear c0 R row o M c2 hG;obtain ⟨rr,e8,c7⟩:∃ r:Nat,Int.tmod (I:Int) 4 = (r:Int) /\ Hid (r = m % 4):=⟨m % 4,by have:=HI.out;rw [Qk (by omega)];omega,rfl⟩
   by_cases h4m:m % 4 = 0
   ·obtain rfl:rr = 0:=by rw [c7.out,h4m]
    obtain ⟨bb,oo,e0,a0⟩:=A.at (show 0 < T.length by omega);cases e0
    obtain ⟨x0,l0,X0⟩:∃ y:Nat,y < 256 /\ Hid (y = (T.getD 0 0).toNat):=⟨_,QW _,rfl⟩;obtain ⟨x1,l1,X1⟩:∃ y:Nat,y < 256 /\ Hid (y = (T.getD 1 0).toNat):=⟨_,QW _,rfl⟩;obtain ⟨x2,l2,X2⟩:∃ y:Nat,y < 256 /\ Hid (y = (T.getD 2 0).toNat):=⟨_,QW _,rfl⟩;obtain ⟨x3,l3,X3⟩:∃ y:Nat,y < 256 /\ Hid (y = (T.getD 3 0).toNat):=⟨_,QW _,rfl⟩;have d0:w2.cell? ⟨G,0,none⟩ = some (.int .u8 (x0:Int)):=by rw [X0.out];have:=a0 0 (by omega);simpa using this
    have d1:w2.cell? ⟨G,1,none⟩ = some (.int .u8 (x1:Int)):=by rw [X1.out];have:=a0 1 (by omega);simpa using this
    have d2:w2.cell? ⟨G,2,none⟩ = some (.int .u8 (x2:Int)):=by rw [X2.out];have:=a0 2 (by omega);simpa using this
    have d3:w2.cell? ⟨G,3,none⟩ = some (.int .u8 (x3:Int)):=by rw [X3.out];have:=a0 3 (by omega);simpa using this
    have s1:=ZY x1;obtain ⟨z,hz,Hz⟩:∃ z:Nat,bits BinOp.xor IntKind.u8 ((subI x1:Nat):Int) (P:Int) = (z:Int) /\ Hid (z = subI x1 ^^^ P):=⟨_,qK _ _ s1 b1,rfl⟩;clear a0;go_upto_region 8 with fail
    go_cut [6] (fun p wx=>p = .slice (some ⟨w2.heap.size,0,none⟩) 4 4 /\ wx = (w2.alloc (.cells #[.int .u8 (z:Int),.int .u8 ((subI x2:Nat):Int),.int .u8 ((subI x3:Nat):Int),.int .u8 ((subI x0:Nat):Int)] 5)).drew)
    case first =>
     go_region_held3 (fun w'=>w'.cell? ⟨G,0,none⟩ = some (.int .u8 (x0:Int)) /\ w'.cell? ⟨G,1,none⟩ = some (.int .u8 (x1:Int)) /\ w'.cell? ⟨G,2,none⟩ = some (.int .u8 (x2:Int)) /\ w'.cell? ⟨G,3,none⟩ = some (.int .u8 (x3:Int))) (first | exact ⟨d0,d1,d2,d3⟩ | go_keep)
      (first | (go_at_call 174;refine (ZM _ _ (by assumption)).mono ?_;rintro e w' ⟨rfl,rfl⟩))
     all_goals
      go_wp2_with fail;go_meet
      case rel=>exact ⟨rfl,rfl⟩
    case rest =>
     obtain ⟨rfl,U⟩:=hcut;obtain ⟨b,a3⟩:∃ b:LU,Hid (b = [Av (T.getD 1 0) ^^^ Dq (m / 4),Av (T.getD 2 0),Av (T.getD 3 0),Av (T.getD 0 0)]):=⟨_,AS rfl⟩;have F:b.length = 4:=by rw [a3.out];rfl
     have b0:Hid (b = Du m (Af key m)):=AS (by
      rw [a3.out];unfold Du;rw [if_pos h4m];have gd:∀ k,k < 4 -> T.getD k 0 = (Af key m).getD (4 * m + (12 + k)) 0:=by
       intro k e3;rw [HT.out,QA,QA,List.getElem?_take_of_lt e3,List.getElem?_drop,show 4 * m + 12 + k = 4 * m + (12 + k) from by omega]
      rw [gd 0 (by omega),gd 1 (by omega),gd 2 (by omega),gd 3 (by omega)])
     obtain ⟨TB,b7⟩:=uX (w2.heap.size);have a5:RowAt wc (some ⟨TB,0,none⟩) b:=by
      have hb:Blk wc TB 5 (b.map byte):=by
       have e:b.map byte = [.int .u8 (z:Int),.int .u8 ((subI x2:Nat):Int),.int .u8 ((subI x3:Nat):Int),.int .u8 ((subI x0:Nat):Int)]:=by
        rw [a3.out,Hz.out,X0.out,X1.out,X2.out,X3.out];show [byte (Av (T.getD 1 0) ^^^ Dq (m / 4)),byte (Av (T.getD 2 0)),byte (Av (T.getD 3 0)),byte (Av (T.getD 0 0))] = _;rw [HP.out,show (m + 3) / 4 = m / 4 from by omega];unfold byte;rw [Qs]
        rfl
       rw [U,e,b7];exact Blk.drew1 (Blk.new w2 _ _)
      exact Ai hb
     have a7:RowAt wc (some ⟨g,0,none⟩) (Af key m):=by rw [U];exact RowAt.drew1 (L.below (At _ _))
     have O:AO wc w.heap.size (.slice (some ⟨g,0,none⟩) N s) (Af key m):=by rw [U];exact AO.drew1 (t.below (At _ _))
     have x:Bl w wc:=by rw [U];exact (b2.alloc b2.size _).drew
     obtain ⟨pn,c3,b9⟩:∃ n:Nat,mulN P 2 = n /\ Hid (n = (Dq ((m + 1 + 3) / 4)).toNat):=⟨_,rfl,AS (by rw [YI m h4m,CD,<- HP.out,db P b1])⟩;rw [<- b7];clear U L t b2 A d0 d1 d2 d3 hz b7;go_wp2_with fail;refine (LE P 2 _ b1 (by decide)).mono ?_;rintro e w4 ⟨rfl,f3⟩;subst w4;rw [c3];clear c3;obtain ⟨Y,J⟩:=uX (((Af key m).drop (4 * m)).take 4);have X:Y.length = 4:=by rw [J,QI,QN,DV key Z m];omega
     have a6:RowAt wc (some ⟨g,H,none⟩) Y:=by rw [J,L4.out];exact (a7.mid (4 * m))
     have E:(AE Y b).length = 4:=by rw [AW _ _ (by omega),X]
     have HX:=AS (H7 (some ⟨g,H,none⟩) (some ⟨TB,0,none⟩) (s - H) 4 Y b wc (by omega) (by omega) a6 a5);rw [X,F] at HX;have HY:Hid (Af key (m + 1) = Af key m ++ AE Y b):=AS (by rw [J,b0.out];rfl);clear J;go_wp2_with fail;refine HX.out.mono ?_;rintro e w5 ⟨rfl,B,f⟩;clear HX;have c:=By (O.below f) a8.out;have D:RowAt w5 (some ⟨wc.heap.size,0,none⟩) (AE Y b):=by
      obtain ⟨g',c',-,a1,C⟩:=BE B E (by omega);cases a1
      exact C
     have b5:=x.trans (f.mono x.size);have W:=b5.size;go_wp2_with (at_builtin;refine Qi _ rfl _ _ 22 rfl w.heap.size 5 i0 (.int .u8 0) 1 1 underlying22 c8 c9 c6 c5 rfl (by decide) _ _ _ rfl c ⟨wc.heap.size,0,none⟩ 4 4 ((AE Y b).map byte) rfl (by rw [QD,E]) D.news (by intro u hu;simp only [Qz] at hu;obtain ⟨q,-,rfl⟩:=hu;rfl) (by unfold maxLen;have:=HN.out;omega) (by have:=HN.out;omega) W ?_;intro v6 w6 l d c1)
     have b6:=b5.grown d W (fun j hj=>(c.lt j hj).1);have R6:AO w6 w.heap.size v6 (Af key (m + 1)):=by rw [HY.out];exact TM a8.out E l
     clear l d c D B f;go_wp2;go_roundw
     case rel=>exact ⟨m + 1,by omega,by have:=HI.out;go_num,by rw [b9.out],R6,b6⟩
     case measure=>have:=HI.out;simp [intOf];omega
   ·have d6:¬ ((rr:Int) = 0):=by have:=c7.out;omega
    have e6:((rr:Int) == 0) = false:=by simpa using d6
    obtain ⟨b,a2⟩:∃ b:LU,Hid (b = T):=⟨_,AS rfl⟩;have F:b.length = 4:=by rw [a2.out];exact F
    have b0:Hid (b = Du m (Af key m)):=AS (by rw [a2.out,HT.out];unfold Du;rw [if_neg h4m]);have a5:RowAt w2 (some ⟨G,0,none⟩) b:=by rw [a2.out];exact A
    have a7:=L;have O:=t;have x:=b2;have b9:Hid (P = (Dq ((m + 1 + 3) / 4)).toNat):=AS (by rw [HP.out,show (m + 1 + 3) / 4 = (m + 3) / 4 from by omega]);clear L t b2 A;obtain ⟨Y,J⟩:=uX (((Af key m).drop (4 * m)).take 4);have X:Y.length = 4:=by rw [J,QI,QN,DV key Z m];omega
    have a6:RowAt w2 (some ⟨g,H,none⟩) Y:=by rw [J,L4.out];exact (a7.mid (4 * m))
    have E:(AE Y b).length = 4:=by rw [AW _ _ (by omega),X]
    have HX:=AS (H7 (some ⟨g,H,none⟩) (some ⟨G,0,none⟩) (s - H) 4 Y b w2 (by omega) (by omega) a6 a5);rw [X,F] at HX;have HY:Hid (Af key (m + 1) = Af key m ++ AE Y b):=AS (by rw [J,b0.out];rfl);clear J;go_wp2_with fail;refine HX.out.mono ?_;rintro e w5 ⟨rfl,B,f⟩;clear HX;have c:=By (O.below f) a8.out;have D:RowAt w5 (some ⟨w2.heap.size,0,none⟩) (AE Y b):=by
     obtain ⟨g',c',-,a1,C⟩:=BE B E (by omega);cases a1
     exact C
    have b5:=x.trans (f.mono x.size);have W:=b5.size;go_wp2_with (at_builtin;refine Qi _ rfl _ _ 22 rfl w.heap.size 5 i0 (.int .u8 0) 1 1 underlying22 c8 c9 c6 c5 rfl (by decide) _ _ _ rfl c ⟨w2.heap.size,0,none⟩ 4 4 ((AE Y b).map byte) rfl (by rw [QD,E]) D.news (by intro u hu;simp only [Qz] at hu;obtain ⟨q,-,rfl⟩:=hu;rfl) (by unfold maxLen;have:=HN.out;omega) (by have:=HN.out;omega) W ?_;intro v6 w6 l d c1)
    have b6:=b5.grown d W (fun j hj=>(c.lt j hj).1);have R6:AO w6 w.heap.size v6 (Af key (m + 1)):=by rw [HY.out];exact TM a8.out E l
    clear l d c D B f;go_wp2;go_roundw
    case rel=>exact ⟨m + 1,by omega,by have:=HI.out;go_num,by rw [b9.out],R6,b6⟩
    case measure=>have:=HI.out;simp [intOf];omega
  ·obtain rfl:m = 40:=by omega
   go_wp2;go_ret;exact ⟨_,rfl,o,M⟩
end Go.Proofs.YtbkokcjolanpeaaGreatDoor
