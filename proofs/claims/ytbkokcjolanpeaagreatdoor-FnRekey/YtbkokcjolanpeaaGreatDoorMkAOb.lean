import Derived.Test.YtbkokcjolanpeaaGreatDoorMkAM
import Derived.Test.YtbkokcjolanpeaaGreatDoorMkAO
set_option maxRecDepth 100000
set_option maxHeartbeats 40000000
namespace Go.Proofs.YtbkokcjolanpeaaGreatDoor
open Go.RowKit Go.Proofs.Tryz Act
theorem L5 (M b:LU) (a:Nat) (z:M.length = 16) (r:b.length = 16) (x:a <= 255) (s:ByteArray) (L:List (Int × LU)) (j:(decide (s.size = 4) && Bu s) = true) (p:Ax L = L) (t:okL L = true) (q:bef L L.length < Cq L):∃ m,m.length = 8 /\ (Ah M (AY M b 2 a) s L).length <= 4096 /\ dC (Ah M (AY M b 2 a) s L) = 0 /\ dM (Ah M (AY M b 2 a) s L) = s /\ Gj (dL (Ah M (AY M b 2 a) s L)) = L ++ [(Cq L,m)] /\ opB M (AY M b 2 a) (Ah M (AY M b 2 a) s L) = true:=by
 have i:=My L;obtain ⟨d,g⟩:=uX (Cq L);rw [<- g] at i q ⊢;have c:∀ m:LU,m.length = 8 -> okL (L ++ [(d,m)]) = true:=fun m h=>aE i t q m h;have o:=(Ts s L d CT i j (c CT rfl)).2.2.2;have n:(B8 s L d).length <= 4096:=by rw [QC] at o;omega
 obtain ⟨u,k⟩:=Sf M b (B8 s L d) a z r x n;have f:(DB b (B8 s L d)).length = 8:=by unfold DB;rw [if_pos ⟨r,n⟩];exact JL _ _
 have l:=aT M (AY M b 2 a) s L j (by unfold sealF;rw [p,<- g];exact c CT rfl) (by rw [p,<- g];exact u);rw [p,<- g,k] at l;obtain ⟨A,v,d3,y⟩:=Ts s L d _ i j (c _ f);refine ⟨DB b (B8 s L d),f,?_⟩;rw [l];refine ⟨y,A,v,d3,?_⟩;rw [cw M _ s _ _ _ f i j (c _ f) u,k];exact QK rfl
def Jb:LU:=[48,48,48,48,48,49]
def Cm:List (Int × LU):=[(11,Jb)]
theorem aq:Ax Cm = Cm /\ okL Cm = true /\ Cq Cm = 64 /\ bef Cm Cm.length < 64:=⟨by kernel_rfl,by kernel_rfl,by kernel_rfl,by decide⟩
theorem Zv (a:LU) (h:a.length = 36):Ax (keyL a) = keyL a /\ okL (keyL a) = true /\ Cq (keyL a) = 128 /\ bef (keyL a) (keyL a).length < 128:=by
 refine ⟨rfl,?_,rfl,by show (70:Int) < 128;decide⟩;have c:okF 0 ((11:Int),FB) = true:=by kernel_rfl
 have d:okF 48 ((70:Int),([49,48,49]:LU)) = true:=by kernel_rfl
 have b:okF 11 ((48:Int),a) = true:=by
  unfold okF JQ inZ;show (decide ((11:Int) < 48) && (decide ((0:Int) <= 48) && decide (48 ∈ tabNos) && Ag (kpL 48) (kpM 48) (Dc 48) a)) = true;have f:Ag (kpL 48) (kpM 48) (Dc 48) a = true:=by
   have e:kpL 48 = 0 /\ kpM 48 = 200 /\ Dc 48 = Ba:=⟨rfl,rfl,rfl⟩;rw [e.1,e.2.1,e.2.2];unfold Ag;rw [h,show ∀ l:LU,l.all Ba = true from fun l=>List.all_eq_true.2 (fun _ _=>rfl)]
   rfl
  rw [f]
  rfl
 have e:okL (keyL a) = (okF 0 ((11:Int),FB) && (okF 11 ((48:Int),a) && (okF 48 ((70:Int),([49,48,49]:LU)) && true))):=rfl;rw [e,c,b,d]
 rfl
theorem Ff (M b:LU) (a:Nat) (m:M.length = 16) (l:b.length = 16) (k:a <= 255):Bb M (AY M b 2 a) = true /\ BZ M (AY M b 2 a) = true /\ opU M (AY M b 2 a) = 2 /\ opG M (AY M b 2 a) = (a:Int) /\ BH M (AY M b 2 a) = b:=by
 obtain ⟨f,d,g,j,i⟩:=KH M b 2 a m l (by omega) (by omega) k;have c:=KZ f d;exact ⟨f,d,by rw [c.2.1,g];rfl,by rw [c.2.2.1,j],by rw [c.2.2.2];exact i⟩
theorem LF (M b:LU) (a:Nat) (n:M.length = 16) (l:b.length = 16) (k:a <= 255):∃ m,Md (Ah M (AY M b 2 a) ⟨#[48,57,48,48]⟩ Cm) ⟨#[48,57,48,48]⟩ (Cm ++ [(64,m)]) /\ opB M (AY M b 2 a) (Ah M (AY M b 2 a) ⟨#[48,57,48,48]⟩ Cm) = true:=by
 obtain ⟨o,p,d,f⟩:=aq;obtain ⟨m,-,q,j,g,c,i⟩:=L5 M b a n l k ⟨#[48,57,48,48]⟩ Cm (by kernel_rfl) o p (by rw [d];exact f);rw [d] at c;exact ⟨m,⟨QG q (by decide),j,g,c.symm,by simp [Cm],rfl,by show Jb.length <= _;decide⟩,i⟩
theorem JM (M c a:LU) (b:Nat) (q:M.length = 16) (p:c.length = 16) (n:b <= 255) (l:a.length = 36):∃ m,Md (Ah M (AY M c 2 b) ⟨#[48,56,48,48]⟩ (keyL a)) ⟨#[48,56,48,48]⟩ (keyL a ++ [(128,m)]) /\ opB M (AY M c 2 b) (Ah M (AY M c 2 b) ⟨#[48,56,48,48]⟩ (keyL a)) = true:=by
 obtain ⟨r,s,d,g⟩:=Zv a l;obtain ⟨m,-,o,k,i,f,j⟩:=L5 M c b q p n ⟨#[48,56,48,48]⟩ (keyL a) (by kernel_rfl) r s (by rw [d];exact g);rw [d] at f;exact ⟨m,⟨QG o (by decide),k,i,f.symm,by simp [keyL],rfl,by show FB.length <= _;decide⟩,j⟩
theorem NY (M a b:LU) (g1 g2:Nat) (c:M.length = 16) (l:a.length = 16) (i:b.length = 16) (d:g1 <= 255) (f:g2 <= 255) (m:LU):Mk M (AY M a 2 g1) (keyL (AY M b 2 g2) ++ [(128,m)]):=by
 obtain ⟨-,-,-,g,-⟩:=Ff M a g1 c l d;obtain ⟨k,w2,j,-,-⟩:=Ff M b g2 c i f;exact ⟨rfl,rfl,k,w2,j,by rw [g];omega⟩
def Fe (M key a m:LU):KM:=⟨Ah M key ⟨#[48,56,48,48]⟩ (keyL a),keyL a ++ [(128,m)],true⟩
def EO (M key m:LU):KM:=⟨Ah M key ⟨#[48,57,48,48]⟩ Cm,Cm ++ [(64,m)],false⟩
def s0:ByteArray:=⟨Jb.toArray⟩
theorem NH (M:LU) (l:Nat) (a:KA) (key b m:LU):EY M l a (Fe M key b m) = { now:=(kyN M a.now a.bef b).1.1,bef:=(kyN M a.now a.bef b).1.2,DS:=a.DS ++ [Da M (F5 M a.now a.bef (Fe M key b m).D) s9 (kyN M a.now a.bef b).2],C:=a.C ++ [(((kyN M a.now a.bef b).2:Int),(l:Int),s9)] }:=rfl
theorem Wq (M:LU) (l:Nat) (a:KA) (key m:LU):EY M l a (EO M key m) = { a with C:=a.C ++ [((if opB M a.now (EO M key m).D || opB M a.bef (EO M key m).D then 12 else 63),(l:Int),s0)] }:=rfl
def msK (M b a f d c i j g:LU):List KM:=[Fe M b a d,Fe M b a d,EO M b c,EO M a i,Fe M a f j,EO M b c,Fe M f a g]
def stK (M c a b d:LU) (l:Nat):List KA :=
 let d1:=Da M c s9 0
 [⟨c,[],[],[]⟩,⟨a,c,[d1],[(0,l,s9)]⟩,⟨a,c,[d1,d1],[(0,l,s9),(0,l,s9)]⟩,⟨a,c,[d1,d1],[(0,l,s9),(0,l,s9),(12,l,s0)]⟩,⟨a,c,[d1,d1],[(0,l,s9),(0,l,s9),(12,l,s0),(12,l,s0)]⟩,
  ⟨b,a,[d1,d1,Da M a s9 0],[(0,l,s9),(0,l,s9),(12,l,s0),(12,l,s0),(0,l,s9)]⟩,⟨b,a,[d1,d1,Da M a s9 0],[(0,l,s9),(0,l,s9),(12,l,s0),(12,l,s0),(0,l,s9),(if opB M b d || opB M a d then 12 else 63,l,s0)]⟩,
  ⟨b,a,[d1,d1,Da M a s9 0,Da M b s9 12],[(0,l,s9),(0,l,s9),(12,l,s0),(12,l,s0),(0,l,s9),(if opB M b d || opB M a d then 12 else 63,l,s0),(12,l,s9)]⟩]
theorem Zg (M a c d g f m j i:LU) (l:Nat) (g1:opG M a = 1) (g2:opG M c = 2) (g3:opG M d = 3) (x:opB M a (Fe M a c g).D = true) (o:opB M c (Fe M a c g).D = false) (C:opB M a (EO M a f).D = true) (z:opB M c (EO M c m).D = true) (A:opB M c (Fe M c d j).D = true) (B:opB M d (Fe M d c i).D = true) :
 ∀ k,k <= 7 -> Ca M l a (msK M a c d g f m j i) k = (stK M a c d (EO M a f).D l).getD k ⟨[],[],[],[]⟩:=by
 have G:∀ b,kyN M a b c = ((c,a),0):=fun b=>by unfold kyN;rw [g1,g2];simp
 have I:∀ b,kyN M c b c = ((c,b),0):=fun b=>by unfold kyN;simp
 have y:∀ b,kyN M c b d = ((d,c),0):=fun b=>by unfold kyN;rw [g3,g2];simp
 have H:∀ b,kyN M d b c = ((d,b),12):=fun b=>by unfold kyN;rw [g3,g2];simp
 have u:∀ now bef D,opB M now D = true -> F5 M now bef D = now:=fun now bef D h=>by unfold F5;rw [h];rfl
 have s:Ca M l a (msK M a c d g f m j i) 0 = ⟨a,[],[],[]⟩:=rfl;have p:Ca M l a (msK M a c d g f m j i) 1 = (stK M a c d (EO M a f).D l).getD 1 ⟨[],[],[],[]⟩:=by
  rw [Dk M l a _ 0 (by simp [msK]),s];show EY M l ⟨a,[],[],[]⟩ (Fe M a c g) = _;rw [NH,G,u a [] _ x]
  rfl
 have n:Ca M l a (msK M a c d g f m j i) 2 = (stK M a c d (EO M a f).D l).getD 2 ⟨[],[],[],[]⟩:=by
  rw [Dk M l a _ 1 (by simp [msK]),p];show EY M l ⟨c,a,_,_⟩ (Fe M a c g) = _;rw [NH,I,show F5 M c a (Fe M a c g).D = a from by unfold F5;rw [o,x];rfl]
  rfl
 have t:Ca M l a (msK M a c d g f m j i) 3 = (stK M a c d (EO M a f).D l).getD 3 ⟨[],[],[],[]⟩:=by
  rw [Dk M l a _ 2 (by simp [msK]),n];show EY M l ⟨c,a,_,_⟩ (EO M a f) = _;rw [Wq,C,Bool.or_true,if_pos rfl]
  rfl
 have v:Ca M l a (msK M a c d g f m j i) 4 = (stK M a c d (EO M a f).D l).getD 4 ⟨[],[],[],[]⟩:=by
  rw [Dk M l a _ 3 (by simp [msK]),t];show EY M l ⟨c,a,_,_⟩ (EO M c m) = _;rw [Wq,z,Bool.true_or,if_pos rfl]
  rfl
 have q:Ca M l a (msK M a c d g f m j i) 5 = (stK M a c d (EO M a f).D l).getD 5 ⟨[],[],[],[]⟩:=by
  rw [Dk M l a _ 4 (by simp [msK]),v];show EY M l ⟨c,a,_,_⟩ (Fe M c d j) = _;rw [NH,y,u c a _ A]
  rfl
 have r:Ca M l a (msK M a c d g f m j i) 6 = (stK M a c d (EO M a f).D l).getD 6 ⟨[],[],[],[]⟩:=by
  rw [Dk M l a _ 5 (by simp [msK]),q]
  rfl
 have F:Ca M l a (msK M a c d g f m j i) 7 = (stK M a c d (EO M a f).D l).getD 7 ⟨[],[],[],[]⟩:=by
  rw [Dk M l a _ 6 (by simp [msK]),r];show EY M l ⟨d,c,_,_⟩ (Fe M d c i) = _;rw [NH,H,u d c _ B]
  rfl
 intro k J;have E:k = 0 \/ k = 1 \/ k = 2 \/ k = 3 \/ k = 4 \/ k = 5 \/ k = 6 \/ k = 7:=by omega
 rcases E with rfl | rfl | rfl | rfl | rfl | rfl | rfl | rfl
 ·exact s
 ·exact p
 ·exact n
 ·exact t
 ·exact v
 ·exact q
 ·exact r
 ·exact F
theorem Kx (M c:LU) (b:Nat) (i:M.length = 16) (g:c.length = 16) (f:b <= 255) (a:Nat) (j:a = 0 \/ a = 12):opB M (AY M c 2 b) (Da M (AY M c 2 b) s9 a) = true:=by
 have k:Ax [((11:Int),FB),(39,An 2 a),(70,[49,48,49])] = [((11:Int),FB),(39,An 2 a),(70,[49,48,49])]:=rfl;have d:okL [((11:Int),FB),(39,An 2 a),(70,[49,48,49])] = true:=by rcases j with rfl | rfl <;> kernel_rfl
 obtain ⟨m,-,-,-,-,-,h⟩:=L5 M c b i g f ⟨#[48,56,49,48]⟩ [((11:Int),FB),(39,An 2 a),(70,[49,48,49])] (by kernel_rfl) k d (by show (70:Int) < 128;decide);exact h
theorem ok7 (M c a f:LU) (l:Nat) (b:M.length = 16) (x:c.length = 16) (g:a.length = 16) (v:f.length = 16) (A:opB M (AY M a 2 2) (Ah M (AY M c 2 1) ⟨#[48,56,48,48]⟩ (keyL (AY M a 2 2))) = false) :
 ∃ i n q m j,(∀ k,k <= 7 -> Ca M l (AY M c 2 1) (msK M (AY M c 2 1) (AY M a 2 2) (AY M f 2 3) i n q m j) k = (stK M (AY M c 2 1) (AY M a 2 2) (AY M f 2 3) (EO M (AY M c 2 1) n).D l).getD k ⟨[],[],[],[]⟩) /\
  ∀ k,k < 7 -> VK M (Ca M l (AY M c 2 1) (msK M (AY M c 2 1) (AY M a 2 2) (AY M f 2 3) i n q m j) k) (kmD (msK M (AY M c 2 1) (AY M a 2 2) (AY M f 2 3) i n q m j) k):=by
 obtain ⟨o,I⟩:=uX (AY M c 2 1);obtain ⟨d,B⟩:=uX (AY M a 2 2);obtain ⟨p,E⟩:=uX (AY M f 2 3);have N:d.length = 36:=by rw [B];exact Bp _ _ _ _ b
 have R:p.length = 36:=by rw [E];exact Bp _ _ _ _ b
 obtain ⟨i,F,u⟩:=JM M c d 1 b x (by omega) N;obtain ⟨n,z,L⟩:=LF M c 1 b x (by omega);obtain ⟨q,d3,O⟩:=LF M a 2 b g (by omega);obtain ⟨m,H,C⟩:=JM M a p 2 b g (by omega) R;obtain ⟨j,J,G⟩:=JM M f d 3 b v (by omega) N;have t:=NY M c a 1 2 b x g (by omega) (by omega);have y:=NY M a a 2 2 b g g (by omega) (by omega);have s:=NY M a f 2 3 b g v (by omega) (by omega);have r:=NY M f a 3 2 b v g (by omega) (by omega);have g1:=(Ff M c 1 b x (by omega)).2.2.2.1;have g2:=(Ff M a 2 b g (by omega)).2.2.2.1;have g3:=(Ff M f 3 b v (by omega)).2.2.2.1;rw [<- I] at F u z L t g1 A;rw [<- B] at d3 O H C t y s r g2 A;rw [<- E] at J G s r g3;rw [<- I,<- B,<- E];have S:=Zg M o d p i n q m j l g1 g2 g3 u A L O C G;refine ⟨i,n,q,m,j,S,fun k U=>?_⟩;rw [S k (by omega)];have T:k = 0 \/ k = 1 \/ k = 2 \/ k = 3 \/ k = 4 \/ k = 5 \/ k = 6:=by omega
 rcases T with rfl | rfl | rfl | rfl | rfl | rfl | rfl
 ·exact ⟨F,t i,by show (opB M o (Ah M o ⟨#[48,56,48,48]⟩ (keyL d)) || opB M [] _) = true;rw [u];rfl⟩
 ·exact ⟨F,y i,by show (opB M d _ || opB M o (Ah M o ⟨#[48,56,48,48]⟩ (keyL d))) = true;rw [u];exact Bool.or_true _⟩
 ·exact z
 ·exact d3
 ·exact ⟨H,s m,by show (opB M d (Ah M d ⟨#[48,56,48,48]⟩ (keyL p)) || opB M o _) = true;rw [C];rfl⟩
 ·exact z
 ·exact ⟨J,r j,by show (opB M p (Ah M p ⟨#[48,56,48,48]⟩ (keyL d)) || opB M d _) = true;rw [G];rfl⟩
end Go.Proofs.YtbkokcjolanpeaaGreatDoor
