import Derived.Test.YtbkokcjolanpeaaGreatDoorMkAI
set_option maxRecDepth 100000
set_option maxHeartbeats 20000000
namespace Go.Proofs.YtbkokcjolanpeaaGreatDoor
open Go.RowKit Go.Proofs.Tryz Act
theorem TU (l:LU) (k j:Nat) (d:k / 8 < l.length):Bv (BX l k) j = (Bv l j || decide (j = k)):=by
 unfold Bv BX
 by_cases h:j / 8 = k / 8
 ·rw [h,QA,List.getElem?_set_self d,qG,Qb];have c:(l.getD (k / 8) 0).toNat < 2 ^ 8:=QW _;have b:=XI k;have a:(l.getD (k / 8) 0).toNat ||| 2 ^ (7 - k % 8) < 2 ^ 8:=qO c b;rw [qF a,Nat.testBit_or,Nat.testBit_two_pow]
  congr 1
  rw [decide_eq_decide];omega
 ·rw [QA,List.getElem?_set_ne (fun e=>h e.symm),<- QA];have:decide (j = k) = false:=QT (fun e=>h (by rw [e]));rw [this,Bool.or_false]
theorem Ys (n k:Nat):Bv (List.replicate n 0) k = false:=by
 unfold Bv;rw [QA,List.getElem?_replicate]
 split <;> simp
def noL (L:List (Int × LU)) (i:Nat):Nat:=(L.getD i (0,[])).1.toNat
theorem Tg {L:List (Int × LU)} (h:okL L = true) {i:Nat} (a:i < L.length):noL L i ∈ tabNos:=(Eh h i a).2.2.1
theorem JN {L:List (Int × LU)} (h:okL L = true) {i:Nat} (a:i < L.length):2 <= noL L i /\ noL L i <= 128:=Mw _ (Tg h a)
theorem P9 {L:List (Int × LU)} (h:okL L = true):∀ k i,i + k + 1 < L.length -> noL L i < noL L (i + k + 1)
 | 0,i,hi=>by
   have a:=Eh h (i + 1) (by omega);have b:(L.getD i (0,[])).1 < (L.getD (i + 1) (0,[])).1:=a.1;show (L.getD i (0,[])).1.toNat < (L.getD (i + 1) (0,[])).1.toNat;have c:=(Eh h i (by omega)).2.1;omega
 | k + 1,i,hi=>by
   have a:=P9 h k i (by omega);have b:=P9 h 0 (i + k + 1) (by omega);exact Nat.lt_trans a b
theorem PE {L:List (Int × LU)} (h:okL L = true) (k:Nat):∀ i,i <= L.length -> (Bv (bmE L i) k = true ↔ ∃ j,j < i /\ noL L j - 1 = k)
 | 0,_=>by
   show Bv (List.replicate 16 0) k = true ↔ _;rw [Ys];exact ⟨fun h=>(by cases h),fun ⟨j,a,_⟩=>absurd a (Qj j)⟩
 | i + 1,hi=>by
   have b:=JN h (i:=i) (by omega);show Bv (BX (bmE L i) (noL L i - 1)) k = true ↔ _;rw [TU _ _ _ (by rw [DO];omega),Bool.or_eq_true,PE h k i (by omega),Qh]
   constructor
   ·rintro (⟨j,a,e⟩ | e)
    ·exact ⟨j,by omega,e⟩
    ·exact ⟨i,by omega,e.symm⟩
   ·rintro ⟨j,a,e⟩
    by_cases hji:j = i
    ·subst hji;exact .inr e.symm
    ·exact .inl ⟨j,by omega,e⟩
theorem XO (l:LU) (n k:Nat) (h:k / 8 < n):Bv (l.take n) k = Bv l k:=by
 unfold Bv;rw [QA,List.getElem?_take,if_pos h,<- QA]
theorem Xz (a b:LU) (k:Nat) (h:k / 8 < a.length):Bv (a ++ b) k = Bv a k:=by
 unfold Bv;rw [QA,List.getElem?_append_left h,<- QA]
theorem Mu:∀ (a b:List Nat),a.Pairwise (· < ·) -> b.Pairwise (· < ·) -> (∀ x,x ∈ a ↔ x ∈ b) -> a = b
 | [],[],_,_,_=>rfl
 | [],y :: b,_,_,h=>absurd ((h y).2 List.mem_cons_self) (by simp)
 | x :: a,[],_,_,h=>absurd ((h x).1 List.mem_cons_self) (by simp)
 | x :: a,y :: b,ha,hb,h=>by
   rw [List.pairwise_cons] at ha hb;have f:x = y:=by
    rcases List.mem_cons.1 ((h x).1 List.mem_cons_self) with e | e
    ·exact e
    ·rcases List.mem_cons.1 ((h y).2 List.mem_cons_self) with c | c
     ·exact c.symm
     ·have d:=hb.1 x e;have g:=ha.1 y c;omega
   subst f;rw [Mu a b ha.2 hb.2 (fun z=>?_)]
   constructor
   ·intro hz;have d:=ha.1 z hz;rcases List.mem_cons.1 ((h z).1 (List.mem_cons_of_mem _ hz)) with e | e
    ·omega
    ·exact e
   ·intro hz;have d:=hb.1 z hz;rcases List.mem_cons.1 ((h z).2 (List.mem_cons_of_mem _ hz)) with e | e
    ·omega
    ·exact e
def DJ (L:List (Int × LU)):List Nat:=(List.range L.length).map (noL L)
theorem FG (L:List (Int × LU)):(DJ L).length = L.length:=by unfold DJ;simp
theorem Ku (L:List (Int × LU)) (i:Nat) (a:i < L.length):(DJ L).getD i 0 = noL L i:=by
 unfold DJ;simp [List.getD_eq_getElem?_getD,a]
theorem Rz {L:List (Int × LU)} (h:okL L = true):(DJ L).Pairwise (· < ·):=by
 rw [List.pairwise_iff_getElem];intro i j a b d;rw [FG] at a b;have e:∀ k (c:k < (DJ L).length),(DJ L)[k] = noL L k:=fun k c=>by simp [DJ]
 rw [e,e];have:=P9 h (j - i - 1) i (by omega);rw [show i + (j - i - 1) + 1 = j from by omega] at this;exact this
theorem P7 (L:List (Int × LU)) (x:Nat):x ∈ DJ L ↔ ∃ j,j < L.length /\ noL L j = x:=by
 unfold DJ;rw [Qz]
 constructor
 ·rintro ⟨j,a,e⟩;exact ⟨j,List.mem_range.1 a,e⟩
 ·rintro ⟨j,a,e⟩;exact ⟨j,List.mem_range.2 a,e⟩
theorem bp {L:List (Int × LU)} (h:okL L = true) (b:0 < L.length):(bef L L.length).toNat = noL L (L.length - 1) /\ 0 <= bef L L.length:=by
 obtain ⟨m,a⟩:∃ m,L.length = m + 1:=⟨L.length - 1,by omega⟩;have e:bef L L.length = (L.getD m (0,[])).1:=by rw [a];rfl
 rw [e,a];exact ⟨rfl,(Eh h m (by omega)).2.1⟩
theorem Gr (L:List (Int × LU)):(Aq L).length = if 64 < bef L L.length then 16 else 8:=by
 unfold Aq
 split
 ·rw [Ei,DO]
 ·rw [QI,DO];rfl
theorem bit_maps {L:List (Int × LU)} (h:okL L = true) (k:Nat) (a:k < 8 * (Aq L).length):Bv (Aq L) k = true ↔ (k = 0 /\ 64 < bef L L.length) \/ ∃ j,j < L.length /\ noL L j - 1 = k:=by
 have b:=Gr L;unfold Aq at a ⊢
 by_cases h64:64 < bef L L.length
 ·rw [if_pos h64] at a b ⊢;rw [TU _ _ _ (by rw [DO];omega),Bool.or_eq_true,PE h k _ (QE _),Qh]
  constructor
  ·rintro (e | e)
   ·exact .inr e
   ·exact .inl ⟨e,h64⟩
  ·rintro (⟨e,-⟩ | e)
   ·exact .inr e
   ·exact .inl e
 ·rw [if_neg h64] at a b ⊢;rw [XO _ _ _ (by rw [QI,DO] at a;omega),PE h k _ (QE _)]
  constructor
  ·exact .inr
  ·rintro (⟨-,e⟩ | e)
   ·exact absurd e h64
   ·exact e
theorem Ud {L:List (Int × LU)} (h:okL L = true) {j:Nat} (c:j < L.length):noL L j - 1 < 8 * (Aq L).length:=by
 have b:=PC h j c;have a:=Gr L;unfold nbE at b;show (L.getD j (0,[])).1.toNat - 1 < _
 split at b
 ·rename_i h64;rw [if_pos h64] at a;omega
 ·rename_i h64;rw [if_neg h64] at a;omega
theorem Xw {L:List (Int × LU)} (h:okL L = true):A5 (Aq L) (8 * (Aq L).length + 1) = DJ L:=by
 refine Mu _ _ (List.Pairwise.filter _ List.pairwise_lt_range) (Rz h) (fun x=>?_);unfold A5;rw [List.mem_filter,qp,P7,Qm,Qh]
 constructor
 ·rintro ⟨f,b,c⟩;rcases (bit_maps h (x - 1) (by omega)).1 c with ⟨e,-⟩ | ⟨j,a,e⟩
  ·omega
  ·have:=JN h a;exact ⟨j,a,by omega⟩
 ·rintro ⟨j,a,rfl⟩;have d:=JN h a;have b:=Ud h a;exact ⟨by omega,d.1,(bit_maps h _ b).2 (.inr ⟨j,a,rfl⟩)⟩
theorem OR (L:List (Int × LU)):∀ k i,∃ t,Aj L (i + k) = Aj L i ++ t
 | 0,i=>⟨[],by simp⟩
 | k + 1,i=>by
   obtain ⟨t,e⟩:=OR L k i;exact ⟨t ++ (An (kpD (L.getD (i + k) (0,[])).1.toNat) (L.getD (i + k) (0,[])).2.length ++ (L.getD (i + k) (0,[])).2),by
    show Aj L (i + k) ++ _ = _;rw [e,QV]
    rfl⟩
theorem PQ:∀ d n,(An d n).all dig = true
 | 0,_=>rfl
 | d + 1,n=>by
   unfold An;rw [List.all_append,PQ d,Qp];have b:n % 10 < 10:=Nat.mod_lt _ (by omega);have a:(UInt8.ofNat (48 + n % 10)).toNat = 48 + n % 10:=by rw [Qb];omega
   simp only [List.all_cons,List.all_nil,Bool.and_true];unfold dig;rw [a,QK (by omega),QK (by omega)]
   rfl
theorem PT:∀ d n,n < 10 ^ d -> numL (An d n) = n
 | 0,n,h=>by
   have:n = 0:=by simpa using h
   subst this
   rfl
 | d + 1,n,h=>by
   have c:n % 10 < 10:=Nat.mod_lt _ (by omega);have a:(UInt8.ofNat (48 + n % 10)).toNat = 48 + n % 10:=by rw [Qb];omega
   have b:=PT d (n / 10) (by rw [Nat.pow_succ] at h;omega);unfold An numL;rw [List.foldl_append];show numL (An d (n / 10)) * 10 + ((UInt8.ofNat (48 + n % 10)).toNat - 48) = n;rw [b,a];omega
theorem kp_two:∀ n ∈ tabNos,(n = 2 \/ n = 48) \/ (kpD n = 0 /\ kpM n = kpL n):=by decide
theorem pad_fitB:∀ n ∈ tabNos,kpM n < 10 ^ kpD n \/ kpD n = 0:=by decide
theorem Xo (a:Nat) (l:a ∈ tabNos) (d t:LU) (m:Ag (kpL a) (kpM a) (Dc a) d = true):fldC a (An (kpD a) d.length ++ d ++ t) = 0 /\ EM a (An (kpD a) d.length ++ d ++ t) = d /\ fldE a (An (kpD a) d.length ++ d ++ t) = kpD a + d.length:=by
 have j:kpL a <= d.length /\ d.length <= kpM a:=by
  have h:=m;unfold Ag at h;rw [Qm,Qh] at h;exact h.1
 have p:=CX (kpD a) d.length;have g:(An (kpD a) d.length ++ d ++ t).take (kpD a) = An (kpD a) d.length:=by
  rw [QV,qT (by omega),QS (by omega)]
 have i:(An (kpD a) d.length ++ d ++ t).drop (kpD a) = d ++ t:=by
  rw [QV,Qy (by omega),qE (by omega),qQ]
 have c:kpS a (An (kpD a) d.length) = d.length /\ kpB a (An (kpD a) d.length) = true:=by
  unfold kpS kpB;rcases kp_two a l with b | ⟨o,q⟩
  ·rw [if_pos b,if_pos b];have n:d.length < 10 ^ kpD a:=by
    rcases pad_fitB a l with h | h
    ·omega
    ·rcases b with rfl | rfl <;> exact absurd h (by decide)
   unfold szN sdN;rw [PQ,if_pos rfl,PT _ _ n,Qp,QK j];exact ⟨rfl,rfl⟩
  ·by_cases b:a = 2 \/ a = 48
   ·exfalso
    rcases b with rfl | rfl <;> exact absurd o (by decide)
   ·rw [if_neg b,if_neg b];exact ⟨by omega,rfl⟩
 have k:fldC a (An (kpD a) d.length ++ d ++ t) = 0:=by
  unfold fldC fC;rw [if_neg (by rw [QC,QC];omega),g,c.2,if_neg (by decide),c.1,if_neg (by rw [QC,QC];omega),i,JC,if_pos m]
 have f:=k;unfold fldC at f;refine ⟨k,?_,?_⟩
 ·unfold EM fD;rw [if_pos f,g,i,c.1,JC]
 ·unfold fldE fE;rw [if_pos f,g,c.1]
theorem It (a b c:LU):(a ++ b ++ c).length = a.length + b.length + c.length:=by rw [QC,QC]
theorem Gx (L:List (Int × LU)):8 <= (Aq L).length /\ (Aq L).length <= 16:=by
 rw [Gr]
 split <;> omega
theorem UU {L:List (Int × LU)} (h:okL L = true) (S:LU) (f:S.length = 4):Cr (S ++ Aq L ++ Aj L L.length) = 4 + (Aq L).length /\ ((S ++ Aq L ++ Aj L L.length).drop 4).take (Aq L).length = Aq L:=by
 have b:(S ++ Aq L ++ Aj L L.length).drop 4 = Aq L ++ Aj L L.length:=by
  rw [QV,<- f,List.drop_left]
 have g:=Gx L;refine ⟨?_,by rw [b,JC]⟩;unfold Cr;rw [b,Xz _ _ _ (by omega)];have a:=Gr L
 by_cases h64:64 < bef L L.length
 ·rw [if_pos h64] at a;rw [if_pos ((bit_maps h 0 (by omega)).2 (.inl ⟨rfl,h64⟩)),a]
 ·rw [if_neg h64] at a;rw [if_neg,a];intro c;rcases (bit_maps h 0 (by omega)).1 c with ⟨-,e⟩ | ⟨j,d,e⟩
  ·exact h64 e
  ·have:=JN h d;omega
theorem VW {L:List (Int × LU)} (b:0 < L.length):Eb (DJ L) = noL L (L.length - 1):=by
 obtain ⟨m,a⟩:∃ m,L.length = m + 1:=⟨L.length - 1,by omega⟩;unfold DJ;rw [a,List.range_succ,Qf];exact F4 _ _
theorem TP {L:List (Int × LU)} (h:okL L = true) (S:LU) (k:S.length = 4):mapC (S ++ Aq L ++ Aj L L.length) = 0 /\ BW (S ++ Aq L ++ Aj L L.length) = DJ L /\ mapE (S ++ Aq L ++ Aj L L.length) = 4 + (Aq L).length:=by
 obtain ⟨b,g⟩:=UU h S k;have d:DL (S ++ Aq L ++ Aj L L.length) = DJ L:=by
  unfold DL;rw [b,show 4 + (Aq L).length - 4 = (Aq L).length from by omega,g];exact Xw h
 have a:mapC (S ++ Aq L ++ Aj L L.length) = 0:=by
  unfold mapC;rw [b,d,if_neg (by rw [It];omega),if_neg,if_neg]
  ·rintro ⟨n,f⟩;have m:=Gr L
   by_cases h64:64 < bef L L.length
   ·have c:0 < L.length:=by
     by_cases h0:L.length = 0
     ·rw [h0] at h64;exact absurd h64 (show ¬ (64:Int) < 0 by decide)
     ·omega
    rw [VW c] at f;have:=bp h c;omega
   ·rw [if_neg h64] at m;omega
  ·have:C9 (DJ L) = true:=by
    unfold C9;rw [Qt];intro x l;obtain ⟨j,i,rfl⟩:=(P7 L x).1 l;rw [Qh];exact Tg h i
   rw [this]
   decide
 refine ⟨a,?_,?_⟩
 ·unfold BW;rw [if_pos a,d]
 ·unfold mapE;rw [if_pos a,b]
theorem Yl (L:List (Int × LU)) (S:LU) (b:S.length = 4) (i:Nat) (c:i < L.length):∃ t,(S ++ Aq L ++ Aj L L.length).drop (4 + (Aq L).length + (Aj L i).length) = An (kpD (noL L i)) (L.getD i (0,[])).2.length ++ (L.getD i (0,[])).2 ++ t:=by
 obtain ⟨t,a⟩:=OR L (L.length - (i + 1)) (i + 1);rw [show i + 1 + (L.length - (i + 1)) = L.length from by omega] at a;refine ⟨t,?_⟩;have e:S ++ Aq L ++ Aj L L.length = (S ++ Aq L ++ Aj L i) ++ (An (kpD (noL L i)) (L.getD i (0,[])).2.length ++ (L.getD i (0,[])).2 ++ t):=by
  rw [a];show _ = _;rw [show Aj L (i + 1) = Aj L i ++ (An (kpD (noL L i)) (L.getD i (0,[])).2.length ++ (L.getD i (0,[])).2) from rfl];simp only [QV]
 rw [e];exact List.drop_left' (by rw [It,b])
theorem N7 {L:List (Int × LU)} (h:okL L = true) (S:LU) (c:S.length = 4):∀ i,i <= L.length -> decAt (S ++ Aq L ++ Aj L L.length) (DJ L) (4 + (Aq L).length) i = 4 + (Aq L).length + (Aj L i).length /\ (∀ j,j < i -> fc (S ++ Aq L ++ Aj L L.length) (DJ L) (4 + (Aq L).length) j = 0 /\ EM ((DJ L).getD j 0) ((S ++ Aq L ++ Aj L L.length).drop (decAt (S ++ Aq L ++ Aj L L.length) (DJ L) (4 + (Aq L).length) j)) = (L.getD j (0,[])).2)
 | 0,_=>⟨rfl,fun j b=>absurd b (Qj j)⟩
 | i + 1,hi=>by
   obtain ⟨d,k⟩:=N7 h S c i (by omega);obtain ⟨t,f⟩:=Yl L S c i (by omega);obtain ⟨-,-,g,l⟩:=Eh h i (by omega);obtain ⟨o,n,m⟩:=Xo (noL L i) g (L.getD i (0,[])).2 t l;have a:=Ku L i (by omega);refine ⟨?_,fun j b=>?_⟩
   ·show decAt _ _ _ i + fldE ((DJ L).getD i 0) (List.drop (decAt _ _ _ i) _) = _;rw [d,a,f,m];show _ = 4 + (Aq L).length + (Aj L i ++ (An (kpD (noL L i)) (L.getD i (0,[])).2.length ++ (L.getD i (0,[])).2)).length;rw [QC,QC,CX];omega
   ·by_cases hji:j = i
    ·subst hji;unfold fc;rw [d,a,f];exact ⟨o,n⟩
    ·exact k j (by omega)
theorem MH (s:ByteArray) (L:List (Int × LU)) (x:(decide (s.size = 4) && Bu s) = true) (h:okL L = true):dC (BA s L) = 0 /\ dM (BA s L) = s /\ dL (BA s L) = (List.range L.length).map (fun j=>(noL L j,(L.getD j (0,[])).2)) /\ dE (BA s L) = (BA s L).length /\ (BA s L).length = 4 + (Aq L).length + (Aj L L.length).length:=by
 have p:=x;rw [Qm,Qh] at p;rw [LA s L x h];obtain ⟨S,b⟩:=uX (s.data.toList);have g:S.length = 4:=by rw [b,Ql];exact p.1
 rw [<- b];have q:S.all dig = true:=by rw [b];exact p.2
 obtain ⟨v,f,d⟩:=TP h S g;obtain ⟨t,m⟩:=N7 h S g L.length (QE _);obtain ⟨D,n⟩:=uX (S ++ Aq L ++ Aj L L.length);have c:D.length = 4 + (Aq L).length + (Aj L L.length).length:=by rw [n,It,g]
 have i:D.take 4 = S:=by rw [n,QV,<- g,JC]
 rw [<- n] at v f d t m ⊢;have A:=Gx L;have u:=JP h;have z:=GY L L.length (fun j a=>by
  unfold okL at h;rw [Qt] at h;exact h j (List.mem_range.2 a))
 have y:=qU 203 u;have r:tyC D = 0:=by unfold tyC;rw [if_neg (by omega),i,if_pos q]
 have o:bad D (BW D) (mapE D) = none:=Fc _ _ _ (fun j a=>by rw [f,d] at *;rw [FG] at a;exact (m j a).1);have k:dE D = D.length:=by
  unfold dE;rw [f,d,FG,t,c]
 have l:dC D = 0:=by
  unfold dC;rw [if_neg (by omega),if_neg (by rw [r];decide),if_neg (by rw [v];decide),o];show (if dE D < D.length then 5 else 0) = 0;rw [k,if_neg (Nat.lt_irrefl _)]
 refine ⟨l,?_,?_,k,c⟩
 ·unfold dM;rw [if_pos l,i,b]
 ·unfold dL;rw [if_pos l,f,d,FG];unfold Dv;apply qr;intro j a;rw [qp] at a;rw [(m j a).2,Ku L j a]
theorem Xk {data:LU} (h:dC data = 0):data.length <= 4096 /\ tyC data = 0 /\ mapC data = 0 /\ (∀ j,j < (BW data).length -> fc data (BW data) (mapE data) j = 0) /\ ¬ dE data < data.length:=by
 unfold dC at h
 by_cases h1:4096 < data.length
 ·rw [if_pos h1] at h;omega
 rw [if_neg h1] at h
 by_cases h2:tyC data ≠ 0
 ·rw [if_pos h2] at h;exact absurd h h2
 rw [if_neg h2] at h
 by_cases h3:mapC data ≠ 0
 ·rw [if_pos h3] at h;exact absurd h h3
 rw [if_neg h3] at h;cases hb:bad data (BW data) (mapE data) with
 | none =>
   rw [hb] at h;refine ⟨by omega,by omega,by omega,fun j b=>?_,fun a=>?_⟩
   ·unfold bad at hb;rw [List.find?_eq_none] at hb;have:=hb j (List.mem_range.2 b)
    simpa using this
   ·have c:(if dE data < data.length then 5 else 0) = 0:=h;rw [if_pos a] at c;omega
 | some i =>
   exfalso
   rw [hb] at h;unfold bad at hb;have:=List.find?_some hb;simp at this;exact this h
def dLI (data:LU):List (Int × LU):=(dL data).map (fun (p:Nat × LU)=>((p.1:Int),p.2))
theorem Zc (a b:Nat) (l:a < 256) (m:b < 256):tXN (a ^^^ b) = tXN a ^^^ tXN b:=by
 have d:∀ n:Nat,n * 2 % 256 = (n <<< 1) &&& 255:=fun n=>by
  rw [Nat.shiftLeft_eq,show (255:Nat) = 2 ^ 8 - 1 from rfl,Nat.and_two_pow_sub_one_eq_mod]
 have c:∀ n:Nat,n / 128 = n >>> 7:=fun n=>by rw [Nat.shiftRight_eq_div_pow]
 have k:(a ^^^ b) / 128 = a / 128 ^^^ b / 128:=by rw [c,c,c,Nat.shiftRight_xor_distrib]
 have g:(a ^^^ b) * 2 % 256 = (a * 2 % 256) ^^^ (b * 2 % 256):=by rw [d,d,d,Nat.shiftLeft_xor_distrib,Nat.and_xor_distrib_right]
 unfold tXN;rw [k,g];have i:a / 128 = 0 \/ a / 128 = 1:=by omega
 have j:b / 128 = 0 \/ b / 128 = 1:=by omega
 rcases i with h | h <;> rcases j with f | f <;> rw [h,f]
 ·simp
 ·simp [Nat.xor_assoc]
 ·simp only [Nat.xor_zero,Nat.one_mul,Nat.zero_mul];ac_rfl
 ·simp only [Nat.xor_self,Nat.one_mul,Nat.zero_mul,Nat.xor_zero];rw [show a * 2 % 256 ^^^ 27 ^^^ (b * 2 % 256 ^^^ 27) = a * 2 % 256 ^^^ b * 2 % 256 ^^^ (27 ^^^ 27) from by ac_rfl,Nat.xor_self,Nat.xor_zero]
theorem Zz (a b:UInt8):tXB (a ^^^ b) = tXB a ^^^ tXB b:=by
 apply UInt8.toNat.inj;rw [Qs,CD,CD,CD,Qs];exact Zc _ _ a.toNat_lt b.toNat_lt
theorem FT:∀ n:Nat,n < 256 -> mulN n 1 = n /\ mulN n 2 = tXN n /\ mulN n 3 = tXN n ^^^ n /\ mulN n 9 = tXN (tXN (tXN n)) ^^^ n /\ mulN n 11 = tXN (tXN (tXN n)) ^^^ tXN n ^^^ n /\ mulN n 13 = tXN (tXN (tXN n)) ^^^ tXN (tXN n) ^^^ n /\ mulN n 14 = tXN (tXN (tXN n)) ^^^ tXN (tXN n) ^^^ tXN n:=by decide +kernel
theorem eQ (x:UInt8):BD x 1 = x:=UInt8.toNat.inj (by rw [EL];exact (FT _ x.toNat_lt).1)
theorem eM (x:UInt8):BD x 2 = tXB x:=UInt8.toNat.inj (by rw [EL,CD];exact (FT _ x.toNat_lt).2.1)
theorem eN (x:UInt8):BD x 3 = tXB x ^^^ x:=UInt8.toNat.inj (by rw [EL,Qs,CD];exact (FT _ x.toNat_lt).2.2.1)
theorem eD (x:UInt8):BD x 9 = tXB (tXB (tXB x)) ^^^ x:=UInt8.toNat.inj (by rw [EL,Qs,CD,CD,CD];exact (FT _ x.toNat_lt).2.2.2.1)
theorem dh (x:UInt8):BD x 11 = tXB (tXB (tXB x)) ^^^ tXB x ^^^ x:=UInt8.toNat.inj (by rw [EL,Qs,Qs,CD,CD,CD];exact (FT _ x.toNat_lt).2.2.2.2.1)
theorem dk (x:UInt8):BD x 13 = tXB (tXB (tXB x)) ^^^ tXB (tXB x) ^^^ x:=UInt8.toNat.inj (by rw [EL,Qs,Qs,CD,CD,CD];exact (FT _ x.toNat_lt).2.2.2.2.2.1)
theorem di (x:UInt8):BD x 14 = tXB (tXB (tXB x)) ^^^ tXB (tXB x) ^^^ tXB x:=UInt8.toNat.inj (by rw [EL,Qs,Qs,CD,CD,CD];exact (FT _ x.toNat_lt).2.2.2.2.2.2)
def Cg (a b c d:UInt8):UInt8:=BD a 2 ^^^ BD b 3 ^^^ BD c 1 ^^^ BD d 1
def C7 (a b c d:UInt8):UInt8:=BD a 14 ^^^ BD b 11 ^^^ BD c 13 ^^^ BD d 9
theorem Y0 (a b:UInt8):a ^^^ (a ^^^ b) = b:=by rw [<- UInt8.xor_assoc,UInt8.xor_self,JB]
theorem cJ (a b c:UInt8):a ^^^ (b ^^^ c) = b ^^^ (a ^^^ c):=by rw [<- UInt8.xor_assoc,UInt8.xor_comm a b,UInt8.xor_assoc]
theorem dG (a b c d:UInt8):C7 (Cg a b c d) (Cg b c d a) (Cg c d a b) (Cg d a b c) = a:=by
 simp only [Cg,C7,eQ,eM,eN,eD,dh,dk,di,Zz]
 generalize tXB (tXB (tXB (tXB a))) = a4;generalize tXB (tXB (tXB (tXB b))) = b4;generalize tXB (tXB (tXB (tXB c))) = c4;generalize tXB (tXB (tXB (tXB d))) = d4
 generalize tXB (tXB (tXB a)) = a3;generalize tXB (tXB (tXB b)) = b3;generalize tXB (tXB (tXB c)) = c3;generalize tXB (tXB (tXB d)) = d3
 generalize tXB (tXB a) = a2;generalize tXB (tXB b) = b2;generalize tXB (tXB c) = c2;generalize tXB (tXB d) = d2
 generalize tXB a = a1;generalize tXB b = b1;generalize tXB c = c1;generalize tXB d = d1
 simp only [UInt8.xor_comm,cJ,UInt8.xor_self,UInt8.xor_zero,Y0]
theorem d8 (s:LU) (c:Nat):A8 FU s c 0 4 = Cg (s.getD (4 * c + 0) 0) (s.getD (4 * c + 1) 0) (s.getD (4 * c + 2) 0) (s.getD (4 * c + 3) 0):=by
 show 0 ^^^ BD (s.getD (4 * c + 0) 0) 2 ^^^ BD (s.getD (4 * c + 1) 0) 3 ^^^ BD (s.getD (4 * c + 2) 0) 1 ^^^ BD (s.getD (4 * c + 3) 0) 1 = _;rw [JB];unfold Cg
 ac_rfl
theorem dx (s:LU) (c:Nat):A8 FU s c 1 4 = Cg (s.getD (4 * c + 1) 0) (s.getD (4 * c + 2) 0) (s.getD (4 * c + 3) 0) (s.getD (4 * c + 0) 0):=by
 show 0 ^^^ BD (s.getD (4 * c + 0) 0) 1 ^^^ BD (s.getD (4 * c + 1) 0) 2 ^^^ BD (s.getD (4 * c + 2) 0) 3 ^^^ BD (s.getD (4 * c + 3) 0) 1 = _;rw [JB];unfold Cg
 ac_rfl
theorem dq (s:LU) (c:Nat):A8 FU s c 2 4 = Cg (s.getD (4 * c + 2) 0) (s.getD (4 * c + 3) 0) (s.getD (4 * c + 0) 0) (s.getD (4 * c + 1) 0):=by
 show 0 ^^^ BD (s.getD (4 * c + 0) 0) 1 ^^^ BD (s.getD (4 * c + 1) 0) 1 ^^^ BD (s.getD (4 * c + 2) 0) 2 ^^^ BD (s.getD (4 * c + 3) 0) 3 = _;rw [JB];unfold Cg
 ac_rfl
theorem dp (s:LU) (c:Nat):A8 FU s c 3 4 = Cg (s.getD (4 * c + 3) 0) (s.getD (4 * c + 0) 0) (s.getD (4 * c + 1) 0) (s.getD (4 * c + 2) 0):=by
 show 0 ^^^ BD (s.getD (4 * c + 0) 0) 3 ^^^ BD (s.getD (4 * c + 1) 0) 1 ^^^ BD (s.getD (4 * c + 2) 0) 1 ^^^ BD (s.getD (4 * c + 3) 0) 2 = _;rw [JB];unfold Cg
 ac_rfl
theorem dw (s:LU) (c:Nat):A8 rowD s c 0 4 = C7 (s.getD (4 * c + 0) 0) (s.getD (4 * c + 1) 0) (s.getD (4 * c + 2) 0) (s.getD (4 * c + 3) 0):=by
 show 0 ^^^ BD (s.getD (4 * c + 0) 0) 14 ^^^ BD (s.getD (4 * c + 1) 0) 11 ^^^ BD (s.getD (4 * c + 2) 0) 13 ^^^ BD (s.getD (4 * c + 3) 0) 9 = _;rw [JB];unfold C7
 ac_rfl
theorem d7 (s:LU) (c:Nat):A8 rowD s c 1 4 = C7 (s.getD (4 * c + 1) 0) (s.getD (4 * c + 2) 0) (s.getD (4 * c + 3) 0) (s.getD (4 * c + 0) 0):=by
 show 0 ^^^ BD (s.getD (4 * c + 0) 0) 9 ^^^ BD (s.getD (4 * c + 1) 0) 14 ^^^ BD (s.getD (4 * c + 2) 0) 11 ^^^ BD (s.getD (4 * c + 3) 0) 13 = _;rw [JB];unfold C7
 ac_rfl
theorem dy (s:LU) (c:Nat):A8 rowD s c 2 4 = C7 (s.getD (4 * c + 2) 0) (s.getD (4 * c + 3) 0) (s.getD (4 * c + 0) 0) (s.getD (4 * c + 1) 0):=by
 show 0 ^^^ BD (s.getD (4 * c + 0) 0) 13 ^^^ BD (s.getD (4 * c + 1) 0) 9 ^^^ BD (s.getD (4 * c + 2) 0) 14 ^^^ BD (s.getD (4 * c + 3) 0) 11 = _;rw [JB];unfold C7
 ac_rfl
theorem dn (s:LU) (c:Nat):A8 rowD s c 3 4 = C7 (s.getD (4 * c + 3) 0) (s.getD (4 * c + 0) 0) (s.getD (4 * c + 1) 0) (s.getD (4 * c + 2) 0):=by
 show 0 ^^^ BD (s.getD (4 * c + 0) 0) 11 ^^^ BD (s.getD (4 * c + 1) 0) 13 ^^^ BD (s.getD (4 * c + 2) 0) 9 ^^^ BD (s.getD (4 * c + 3) 0) 14 = _;rw [JB];unfold C7
 ac_rfl
theorem Pv (row s:LU):DX row s = [A8 row s 0 0 4,A8 row s 0 1 4,A8 row s 0 2 4,A8 row s 0 3 4,A8 row s 1 0 4,A8 row s 1 1 4,A8 row s 1 2 4,A8 row s 1 3 4,A8 row s 2 0 4,A8 row s 2 1 4,A8 row s 2 2 4,A8 row s 2 3 4,A8 row s 3 0 4,A8 row s 3 1 4,A8 row s 3 2 4,A8 row s 3 3 4]:=rfl
theorem Xv (p m j k n i l q o r a d g f c b:UInt8):DX FU [p,m,j,k,n,i,l,q,o,r,a,d,g,f,c,b] = [Cg p m j k,Cg m j k p,Cg j k p m,Cg k p m j,Cg n i l q,Cg i l q n,Cg l q n i,Cg q n i l,Cg o r a d,Cg r a d o,Cg a d o r,Cg d o r a,Cg g f c b,Cg f c b g,Cg c b g f,Cg b g f c]:=by
 rw [Pv];simp only [d8,dx,dq,dp]
 rfl
theorem Y7 (p m j k n i l q o r a d g f c b:UInt8):DX rowD [p,m,j,k,n,i,l,q,o,r,a,d,g,f,c,b] = [C7 p m j k,C7 m j k p,C7 j k p m,C7 k p m j,C7 n i l q,C7 i l q n,C7 l q n i,C7 q n i l,C7 o r a d,C7 r a d o,C7 a d o r,C7 d o r a,C7 g f c b,C7 f c b g,C7 c b g f,C7 b g f c]:=by
 rw [Pv];simp only [dw,d7,dy,dn]
 rfl
theorem da (s:LU) (a:s.length = 16):DX rowD (DX FU s) = s:=by
 obtain ⟨q,n,k,l,o,j,m,r,p,t,b,f,i,g,d,c,rfl⟩:=MV s a;rw [Xv,Y7];simp only [dG]
theorem TV (s:LU) (a:s.length = 16):AX 3 (AX 1 s) = s:=by
 obtain ⟨q,n,k,l,o,j,m,r,p,t,b,f,i,g,d,c,rfl⟩:=MV s a
 rfl
theorem Vo (b:UInt8):BP (Av b) = b:=UInt8.toNat.inj (Tl b.toNat b.toNat_lt)
theorem J7 (s:LU):(s.map Av).map BP = s:=by
 rw [JA];have:(BP ∘ Av) = id:=funext Vo;rw [this,List.map_id]
theorem Hn (a b:LU) (h:a.length = b.length):AE (AE a b) b = a:=by
 apply qL
 ·rw [AW _ _ (by rw [AW _ _ h];exact h),AW _ _ h]
 ·intro i f c;have d:i < b.length:=by omega
  rw [Jp (AE a b) b i (by rw [AW _ _ h];exact c) d,Jp a b i c d,UInt8.xor_assoc,UInt8.xor_self,UInt8.xor_zero]
theorem cI (K:Nat -> LU) (b:LU) (c:b.length = 16) (a:∀ r,(K r).length = 16) (k:Nat) (f:k <= 9):DM K (CW K b) k = Dh K b (9 - k):=by
 have d:=En K b c a
 induction k with
 | zero =>
   show (AX 3 (AE (CW K b) (K 10))).map BP = _;rw [OV K b c a,Hn _ _ (by rw [A4,a]),TV _ (by rw [QD,d]),J7]
 | succ k ih =>
   rw [Mt K _ a,ih (by omega),show 9 - k = (8 - k) + 1 from by omega,M9 K b c a,Hn _ _ (by rw [Ix,a]),da _ (A4 _ _),TV _ (by rw [QD,d]),J7,show 9 - (k + 1) = 8 - k from by omega]
theorem SI (K:Nat -> LU) (b:LU) (c:b.length = 16) (a:∀ r,(K r).length = 16):Is K (CW K b) = b:=by
 show AE (DM K (CW K b) 9) (K 0) = b;rw [cI K b c a 9 (QE _)];show AE (AE b (K 0)) (K 0) = b;exact Hn _ _ (by rw [c,a])
theorem KH (a key:LU) (u b:Nat) (i:a.length = 16) (p:key.length = 16) (y:1 <= u) (x:u <= 3) (z:b <= 255) :
 Bb a (AY a key u b) = true /\ BZ a (AY a key u b) = true /\ uOf (AY a key u b) = u /\ gOf (AY a key u b) = b /\ Ao a (AY a key u b) = key:=by
 obtain ⟨B,g⟩:=uX (AY a key u b);have v:B.length = 36:=by rw [g];exact Bp _ _ _ _ i
 have f:(PZ a key u b).length = 16:=Aw _ _ (Aw a [77] i);have o:(Bw a).length = 16:=Aw a [69] i;obtain ⟨T,l⟩:=uX (PZ a key u b);have c:B = 75 :: UInt8.ofNat u :: UInt8.ofNat b :: 16 :: (T ++ Do (Bw a) (AE key T) false):=by
  rw [g,l];unfold AY headL;simp
 rw [<- l] at f;have m:(AE key T).length = 16:=by rw [AW _ _ (by omega),p]
 have k:uOf B = u:=by
  rw [c];show (UInt8.ofNat u).toNat = u;rw [Qb];omega
 have j:gOf B = b:=by
  rw [c];show (UInt8.ofNat b).toNat = b;rw [Qb];omega
 have d:Ao a B = key:=by
  have q:(B.drop 4).take 16 = T:=by
   rw [c];show (T ++ Do (Bw a) (AE key T) false).take 16 = T;rw [<- f];exact JC
  have n:B.drop 20 = Do (Bw a) (AE key T) false:=by
   rw [c];show (T ++ Do (Bw a) (AE key T) false).drop 16 = _;rw [<- f];exact List.drop_left
  have s:Do (Bw a) (Do (Bw a) (AE key T) false) true = AE key T:=SI (AQ (Bw a)) (AE key T) m (fun r=>BI _ o r);unfold Ao;rw [q,n,s];exact Hn _ _ (by omega)
 rw [<- g];refine ⟨?_,?_,k,j,d⟩
 ·have t:DH B = true:=by
   unfold DH;rw [k,c];simp;omega
  unfold Bb;rw [t,QK i,QK v]
  rfl
 ·unfold BZ;rw [d,k,j,<- g];exact QK rfl
theorem KZ {b a:LU} (c:Bb b a = true) (d:BZ b a = true):Cy b a = 0 /\ opU b a = (uOf a:Nat) /\ opG b a = (gOf a:Nat) /\ BH b a = Ao b a:=by
 unfold Cy opU opG BH okO;rw [c,d];exact ⟨rfl,rfl,rfl,rfl⟩
theorem Xf (L:List (Int × LU)) (p:Int × LU) (j:Nat) (h:j <= L.length):bef (L ++ [p]) j = bef L j:=by
 cases j with
 | zero=>rfl
 | succ j=>show ((L ++ [p]).getD j (0,[])).1 = (L.getD j (0,[])).1;rw [Az _ _ _ _ (by omega)]
theorem ZJ {L:List (Int × LU)} {p:Int × LU} (h:okL L = true) (b:okF (bef L L.length) p = true):okL (L ++ [p]) = true:=by
 refine Ns _ (fun j a=>?_);rw [QC] at a;have c:j < L.length + 1:=a;rw [Xf _ _ _ (by omega)]
 by_cases hc:j < L.length
 ·rw [Az _ _ _ _ hc];unfold okL at h;rw [Qt] at h;exact h j (List.mem_range.2 hc)
 ·have e:j = L.length:=by omega
  rw [BG _ _ _ _ e,e];exact b
theorem Vb {L:List (Int × LU)} (h:okL L = true):((List.range L.length).map (fun j=>(noL L j,(L.getD j (0,[])).2))).map (fun (p:Nat × LU)=>((p.1:Int),p.2)) = L:=by
 apply qL
 ·simp
 ·intro j f b;have a:j < L.length:=b;have c:=JN h a;have d:((noL L j:Nat):Int) = (L.getD j (0,[])).1:=by
   unfold noL at c ⊢;omega
  simp only [List.getElem_map,List.getElem_range];rw [d];rw [QA,List.getElem?_eq_getElem a]
  rfl
theorem Tf (K:List (Int × LU)) (p:Int × LU):bef (K ++ [p]) (K.length + 1) = p.1:=by
 show ((K ++ [p]).getD K.length (0,[])).1 = _;rw [BG _ _ _ _ rfl]
theorem Ed (K:List (Int × LU)) (p:Int × LU):(K ++ [p]).length = K.length + 1:=by rw [QC];rfl
theorem UH (K:List (Int × LU)) (c:Int) (a b:LU) (i:Nat) (h:i <= K.length):((K ++ [(c,a)]).getD i (0,[])).1 = ((K ++ [(c,b)]).getD i (0,[])).1:=by
 by_cases hc:i < K.length
 ·rw [Az _ _ _ _ hc,Az _ _ _ _ hc]
 ·rw [BG _ _ _ _ (by omega),BG _ _ _ _ (by omega)]
theorem NM (K:List (Int × LU)) (c:Int) (a b:LU):∀ i,i <= K.length + 1 -> bitsE (K ++ [(c,a)]) i = bitsE (K ++ [(c,b)]) i
 | 0,_=>by
   show (if 64 < bef (K ++ [(c,a)]) (K ++ [(c,a)]).length then _ else _) = (if 64 < bef (K ++ [(c,b)]) (K ++ [(c,b)]).length then _ else _);rw [Ed,Ed,Tf,Tf]
 | i + 1,h=>by
   show (bitsE (K ++ [(c,a)]) i).set _ 1 = (bitsE (K ++ [(c,b)]) i).set _ 1;rw [NM K c a b i (by omega),UH K c a b i (by omega)]
theorem Ju (K:List (Int × LU)) (p:Int × LU):∀ i,i <= K.length -> Aj (K ++ [p]) i = Aj K i
 | 0,_=>rfl
 | i + 1,h=>by
   show Aj (K ++ [p]) i ++ _ = Aj K i ++ _;rw [Ju K p i (by omega),Az _ _ _ _ (by omega)]
theorem Jh (K:List (Int × LU)) (a:Int) (m:LU) (h:a = 64 \/ a = 128):Aj (K ++ [(a,m)]) (K.length + 1) = Aj K K.length ++ m:=by
 show Aj (K ++ [(a,m)]) K.length ++ (An (kpD ((K ++ [(a,m)]).getD K.length (0,[])).1.toNat) ((K ++ [(a,m)]).getD K.length (0,[])).2.length ++ ((K ++ [(a,m)]).getD K.length (0,[])).2) = _;rw [Ju _ _ _ (QE _),BG _ _ _ _ rfl];have e:An (kpD a.toNat) m.length = []:=by rcases h with rfl | rfl <;> rfl
 show _ ++ (An (kpD a.toNat) m.length ++ m) = _;rw [e]
 rfl
def B8 (s:ByteArray) (K:List (Int × LU)) (a:Int):LU:=s.data.toList ++ Ar (bitsE (K ++ [(a,CT)]) (K.length + 1)) ++ Aj K K.length
theorem LG (s:ByteArray) (K:List (Int × LU)) (a:Int) (m:LU) (h:a = 64 \/ a = 128) (c:(decide (s.size = 4) && Bu s) = true) (b:okL (K ++ [(a,m)]) = true):BA s (K ++ [(a,m)]) = B8 s K a ++ m:=by
 have d:=JP b;unfold BA okE B8;rw [if_pos (by rw [c,b,QK (by omega)];rfl),Ed,Jh K a m h,NM K a m CT _ (QE _),QV,QV,QV]
theorem aE {K:List (Int × LU)} {a:Int} (b:a = 64 \/ a = 128) (f:okL K = true) (g:bef K K.length < a) (m:LU) (d:m.length = 8):okL (K ++ [(a,m)]) = true:=by
 refine ZJ f ?_;unfold okF JQ inZ;have i:∀ n:Nat,n = 64 \/ n = 128 -> Ag (kpL n) (kpM n) (Dc n) m = true:=by
  intro n c;have e:kpL n = 8 /\ kpM n = 8 /\ Dc n = Ba:=by rcases c with rfl | rfl <;> exact ⟨rfl,rfl,rfl⟩
  rw [e.1,e.2.1,e.2.2];unfold Ag;rw [d,show ∀ l:LU,l.all Ba = true from fun l=>List.all_eq_true.2 (fun _ _=>rfl)]
  rfl
 rw [Qm];refine ⟨QK g,?_⟩;show (decide (0 <= a) && decide (a.toNat ∈ tabNos) && Ag (kpL a.toNat) (kpM a.toNat) (Dc a.toNat) m) = true;rw [i a.toNat (by omega)];rcases b with rfl | rfl <;> rfl
theorem My (L:List (Int × LU)):Cq L = 64 \/ Cq L = 128:=by unfold Cq;split <;> simp
theorem bu (s:ByteArray) (K:List (Int × LU)) (a:Int) (m:LU) (p:m.length = 8) (h:a = 64 \/ a = 128) (c:(decide (s.size = 4) && Bu s) = true) (b:okL (K ++ [(a,m)]) = true):dA (B8 s K a ++ m) = (B8 s K a).length:=by
 have i:=c;rw [Qm,Qh] at i;have f:s.data.toList.length = 4:=by rw [Ql];exact i.1
 obtain ⟨l,-⟩:=MH s _ c b;have q:=LG s K a m h c b;have d:=LA s _ c b;rw [q] at l d;have g:=congrArg List.length d;rw [QC,QC,QC,f,Ed,Jh K a m h,QC,p] at g;obtain ⟨-,n,mE⟩:=TP b s.data.toList f;have k:=N7 b s.data.toList f K.length (by rw [Ed];omega);rw [<- d] at n mE k;have j:(DJ (K ++ [(a,m)])).length = K.length + 1:=by rw [FG,Ed]
 unfold dA;rw [if_pos l,n,mE,j];show macP ((DJ (K ++ [(a,m)])).getD K.length 0) (decAt (B8 s K a ++ m) (DJ (K ++ [(a,m)])) (4 + (Aq (K ++ [(a,m)])).length) K.length) = _;rw [k.1,Ku _ _ (by rw [Ed];omega),Ju _ _ _ (QE _)];have o:noL (K ++ [(a,m)]) K.length = 64 \/ noL (K ++ [(a,m)]) K.length = 128:=by
  unfold noL;rw [BG _ _ _ _ rfl];rcases h with rfl | rfl
  ·exact .inl rfl
  ·exact .inr rfl
 unfold macP;rw [if_pos o];omega
theorem cw (a key:LU) (s:ByteArray) (K:List (Int × LU)) (b:Int) (m:LU) (d:m.length = 8) (h:b = 64 \/ b = 128) (f:(decide (s.size = 4) && Bu s) = true) (c:okL (K ++ [(b,m)]) = true) (l:Dp a key (B8 s K b) = 0):opB a key (B8 s K b ++ m) = decide (macL a key (B8 s K b) = m):=by
 have k:=bu s K b m d h f c;obtain ⟨j,-,-,-,g⟩:=MH s _ f c;rw [LG s K b m h f c] at j g;have i:(B8 s K b).length ≠ 0:=by
  have n:=(Gx (K ++ [(b,m)])).1;rw [QC,d,Ed,Jh K b m h,QC,d] at g;omega
 unfold opB Gw;rw [j,k,JC,List.drop_left,l,QK i]
 by_cases hq:macL a key (B8 s K b) = m
 ·rw [if_neg (by simp [hq]),QK hq];rfl
 ·rw [if_pos ⟨rfl,hq⟩,QT hq];rfl
theorem Ts (s:ByteArray) (K:List (Int × LU)) (a:Int) (m:LU) (h:a = 64 \/ a = 128) (f:(decide (s.size = 4) && Bu s) = true) (b:okL (K ++ [(a,m)]) = true):dC (B8 s K a ++ m) = 0 /\ dM (B8 s K a ++ m) = s /\ dLI (B8 s K a ++ m) = K ++ [(a,m)] /\ (B8 s K a ++ m).length <= 4096:=by
 obtain ⟨c,d,g,-,-⟩:=MH s _ f b;rw [LG s K a m h f b] at c d g;refine ⟨c,d,?_,(Xk c).1⟩;unfold dLI;rw [g];exact Vb b
theorem aT (a key:LU) (s:ByteArray) (L:List (Int × LU)) (g:(decide (s.size = 4) && Bu s) = true) (b:okL (sealF L) = true) (f:Dp a key (B8 s (Ax L) (Cq L)) = 0):Ah a key s L = B8 s (Ax L) (Cq L) ++ macL a key (B8 s (Ax L) (Cq L)):=by
 have c:BA s (sealF L) = B8 s (Ax L) (Cq L) ++ CT:=LG s (Ax L) (Cq L) CT (My L) g b;have d:Ch s L = B8 s (Ax L) (Cq L):=by
  unfold Ch;rw [c,QC,show CT.length = 8 from rfl,Nat.add_sub_cancel,JC]
 unfold Ah;rw [d,c,if_neg (by intro e;have:=congrArg List.length e;rw [QC] at this;simp [CT] at this),if_pos f]
theorem Sf (M b D:LU) (a:Nat) (i:M.length = 16) (l:b.length = 16) (k:a <= 255) (m:D.length <= 4096):Dp M (AY M b 2 a) D = 0 /\ macL M (AY M b 2 a) D = DB b D:=by
 obtain ⟨d,c,g,o,j⟩:=KH M b 2 a i l (by omega) (by omega) k;have n:=KZ d c;have f:okM M (AY M b 2 a) = true:=by
  unfold okM okO;rw [d,c,n.2.1,g]
  rfl
 unfold Dp macL;rw [f,j];simp [m]
theorem PJ {w:World} {base n c:Nat} {a:Option Addr} {l:LU} (h:Own w base (.slice a n c) l):l.length <= c:=by
 obtain ⟨t,h⟩:=h;rcases h.2 with ⟨b,d⟩ | ⟨g,i,f,b,-,-,d,-⟩
 ·omega
 ·simp only [Value.slice.injEq] at b;omega
def Rd (w:World) (R:Nat) (c:Option Addr) (b:Nat) (a:LU) (i:Nat):Prop:=Blk w R 62 [.slice c a.length b,.int .i64 (i:Int)]
theorem Rd.cells {w:World} {R:Nat} {c:Option Addr} {b:Nat} {a:LU} {i:Nat} (h:Rd w R c b a i):w.cell? ⟨R,0,none⟩ = some (.slice c a.length b) /\ w.cell? ⟨R,1,none⟩ = some (.int .i64 (i:Int)) /\ w.frozen? ⟨R,1,none⟩ = false :=
 ⟨Blk.cell h 0 (by simp),Blk.cell h 1 (by simp),Blk.free h 1⟩
theorem YQ (R:Nat) (l:Option Addr) (f:Nat) (a:LU) (i:Nat) (w:World) (B:a.length <= 1048576) (v:i <= a.length) (j:RowAt w l a) (d:Rd w R l f a i) :
 Calls prog 42 #[.pointer (some ⟨R,0,none⟩)] w fun e w'=>∃ c q:Nat,e = .returned (.int .i64 (c:Int)) /\ c < 256 /\ q <= a.length /\ Rd w' R l f a q /\ w.grownBy w' (some R) /\ w'.heap.size = w.heap.size:=by
 obtain ⟨n,t⟩:=uX (a.length);obtain ⟨A,C,D⟩:=d.cells;rw [<- t] at A
 by_cases hlt:i < a.length
 ·obtain ⟨b,o,rfl,s⟩:=j.at hlt;have u:w.cell? ⟨b,o + i,none⟩ = some (.int .u8 (a[i].toNat:Int)):=(s i hlt).trans (by simp [hlt]);have p:=a[i].toNat_lt;obtain ⟨x,g⟩:=uX (a[i].toNat);rw [<- g] at u p;have m:=Aa d;have r:¬ ((n:Int) <= (i:Int)):=by omega
  have z:(i:Int) < (n:Int):=by omega
  clear s g d j;go_enter func42,ntmps42;go_wp2_with fail;go_region
  all_goals
   go_wp2_with fail;go_region
   all_goals
    go_wp2_with fail;go_ret;refine ⟨x,i + 1,rfl,p,by omega,?_,⟨rfl,rfl,rfl,by simp,fun k _ y=>(qv _ ⟨R,1,none⟩ k _ (fun e=>y (by simp [e])))⟩,by simp⟩;have h:=Blk.set (w:=w.drew.drew) m.out 1 (.int .i64 ((i + 1:Nat):Int));exact h
 ·have r:(n:Int) <= (i:Int):=by omega
  have m:=Aa d;clear d j;go_enter func42,ntmps42;go_wp2_with fail;go_region
  all_goals
   go_wp2_with fail;go_ret;exact ⟨0,i,rfl,by omega,v,m.out,⟨rfl,rfl,rfl,QE _,fun _ _ _=>rfl⟩,rfl⟩
def masterL:LU:=[48,49,50,51,52,53,54,55,56,57,109,97,115,116,101,114]
theorem NV (w:World):Calls prog 43 #[] w fun e w'=>∃ g,e = .returned (.slice (some ⟨g,0,none⟩) 16 16) /\ w.heap.size <= g /\ g < w'.heap.size /\ RowAt w' (some ⟨g,0,none⟩) masterL /\ Bl w w':=by
 have d:=fun (w:World) (C:Array Value) (n c:Nat)=>Lib.run_convert_bytes_const (P:=prog) w 22 5 C n c underlying22 underlying5;have a:=fun (fr:Nat × Nat)=>DQ w masterL 5 fr;have b:=fun (o:Obj)=>At w o;go_enter func43,ntmps43;go_wp2_with fail;go_ret;exact ⟨w.heap.size,rfl,QE _,by simp,a _,b _⟩
theorem Ip {w:World} {g:Nat} {l:LU} (h:RowAt w (some ⟨g,0,none⟩) l) (j:Nat) (a:j < l.length):w.cell? ⟨g,j,none⟩ = some (.int .u8 ((l.getD j 0).toNat:Int)):=by
 obtain ⟨b,o,d,c⟩:=h.at a;cases d
 have:=c j a
 rwa [QZ] at this
theorem PN {w:World} {g:Nat} {l:LU} (h:RowAt w (some ⟨g,0,none⟩) l) (j:Nat) (c:j < l.length) (y:UInt8):RowAt (w.setCell ⟨g,j,none⟩ (byte y)) (some ⟨g,0,none⟩) (l.set j y):=by
 refine .inr ⟨g,0,rfl,fun i a=>?_⟩;rw [QQ] at a;rw [QZ]
 by_cases e:i = j
 ·subst e;rw [World.cell?_setCell_same w _ _ (Ip h i a)];simp [byte,a]
 ·rw [World.cell?_setCell_other w ⟨g,j,none⟩ ⟨g,i,none⟩ (byte y) (by intro b;cases b;exact e rfl),Ip h i a]
  simp only [QA,List.getElem?_set];rw [if_neg (fun h=>e h.symm)]
def Um:LU:=[107,101,121,32,111,102,32,97,32,108,105,110,107,32,48,48]
def keyQ (n u g:Nat):LU:=(Um.set 14 (UInt8.ofNat (48 + n))).set 15 (UInt8.ofNat (48 + (4 * g + u)))
def DR (n u g:Nat):LU:=Mr masterL (keyQ n u g) (u:Int) (g:Int)
theorem Em (n u g:Nat) (hn:n <= 2) (V:(u = 1 /\ g = 0) \/ (u = 2 /\ g = 1) \/ (u = 3 /\ g = 0)) (w:World) :
 Calls prog 44 #[.int .i64 (n:Int),.int .i64 (u:Int),.int .i64 (g:Int)] w fun e w'=>(∃ a c,e = .returned (.slice a (DR n u g).length c) /\ (DR n u g).length <= c /\ RowAt w' a (DR n u g) /\ ∀ p,a = some p -> w.heap.size <= p.block /\ p.block < w'.heap.size) /\ Bl w w':=by
 have kc:=fun (w:World) (C:Array Value) (n c:Nat)=>Lib.run_convert_bytes_const (P:=prog) w 22 5 C n c underlying22 underlying5;obtain ⟨b,i⟩:=uX (w.heap.size);obtain ⟨d,l⟩:=uX (w.alloc (Obj.cells #[.int .u8 107,.int .u8 101,.int .u8 121,.int .u8 32,.int .u8 111,.int .u8 102,.int .u8 32,.int .u8 97,.int .u8 32,.int .u8 108,.int .u8 105,.int .u8 110,.int .u8 107,.int .u8 32,.int .u8 48,.int .u8 48] 5 (16,17)));have I:RowAt d (some ⟨b,0,none⟩) Um:=by rw [l,i];exact DQ w Um 5 (16,17)
 have b1:=uB l;have g1:d.heap[b]? = some (Obj.cells #[.int .u8 107,.int .u8 101,.int .u8 121,.int .u8 32,.int .u8 111,.int .u8 102,.int .u8 32,.int .u8 97,.int .u8 32,.int .u8 108,.int .u8 105,.int .u8 110,.int .u8 107,.int .u8 32,.int .u8 48,.int .u8 48] 5 (16,17)):=by rw [l,i];exact heap_alloc_new _ _
 have a3:d.frozen? ⟨b,14,none⟩ = false:=by simp [World.frozen?,g1]
 obtain ⟨X,J⟩:∃ x:UInt8,x = UInt8.ofNat (48 + n):=⟨_,rfl⟩;obtain ⟨Y,H⟩:∃ x:UInt8,x = UInt8.ofNat (48 + (4 * g + u)):=⟨_,rfl⟩;obtain ⟨k,j⟩:=uX (d.setCell ⟨b,14,none⟩ (byte X));have b7:d.cell? ⟨b,14,none⟩ = some (.int .u8 48):=Ip I 14 (by decide);have G:RowAt k (some ⟨b,0,none⟩) (Um.set 14 X):=by rw [j];exact PN I 14 (by decide) X
 have a4:k.cell? ⟨b,15,none⟩ = some (.int .u8 48):=by
  have:=Ip G 15 (by rw [QQ];decide);rw [this];rfl
 have g2:∃ cs,k.heap[b]? = some (Obj.cells cs 5 (16,17)):=by
  rw [j];have e:(d.setCell ⟨b,14,none⟩ (byte X)).heap[b]? = (d.heap[b]?).map (fun o=>match o with | .cells c t f=>Obj.cells (c.setIfInBounds 14 (byte X)) t f | o=>o):=by
   show (d.heap.modify b _)[b]? = _;rw [Array.getElem?_modify,if_pos rfl]
   rfl
  rw [e,g1];exact ⟨_,rfl⟩
 have a8:k.frozen? ⟨b,15,none⟩ = false:=by
  obtain ⟨cs,a1⟩:=g2;simp [World.frozen?,a1]
 obtain ⟨A,s⟩:=uX (k.setCell ⟨b,15,none⟩ (byte Y));have U:RowAt A (some ⟨b,0,none⟩) (keyQ n u g):=by
  have:=PN G 15 (by rw [QQ];decide) Y;rw [<- s] at this;unfold keyQ;rw [<- J,<- H];exact this
 have R:Bl w A:=by
  rw [s,j];exact (b1.setCell (by rw [i];exact QE _) _).setCell (by rw [i];exact QE _) _
 have q:(keyQ n u g).length = 16:=by unfold keyQ;rw [QQ,QQ];rfl
 have N:=AA (NV A);have z:=AA (fun (y:World) (F:Nat) (hy:Bl w y) (E:RowAt y (some ⟨F,0,none⟩) masterL) (rK:RowAt y (some ⟨b,0,none⟩) (keyQ n u g))=>Vc masterL (keyQ n u g) (u:Int) (g:Int) (some ⟨F,0,none⟩) (some ⟨b,0,none⟩) 16 16 y (by decide) (by rw [q];decide) E rK);rw [q] at z;have b6:IntKind.u8.wrap (n:Int) = (n:Int):=by rw [show IntKind.u8.wrap (n:Int) = (n:Int) % 256 from rfl];omega
 obtain ⟨O,D⟩:=uX (X.toNat);obtain ⟨M,B⟩:=uX (Y.toNat);have a9:IntKind.u8.wrap (48 + (n:Int)) = (O:Int):=by
  rw [D,J];rw [show IntKind.u8.wrap (48 + (n:Int)) = (48 + (n:Int)) % 256 from rfl,Qb]
  try omega
 have b2:IntKind.i64.wrap (4 * (g:Int)) = 4 * (g:Int):=by rw [QH];omega
 have a6:IntKind.i64.wrap (4 * (g:Int) + (u:Int)) = 4 * (g:Int) + (u:Int):=by rw [QH];omega
 have b0:IntKind.u8.wrap (4 * (g:Int) + (u:Int)) = 4 * (g:Int) + (u:Int):=by rw [show IntKind.u8.wrap (4 * (g:Int) + (u:Int)) = (4 * (g:Int) + (u:Int)) % 256 from rfl];omega
 have a7:IntKind.u8.wrap (48 + (4 * (g:Int) + (u:Int))) = (M:Int):=by
  rw [B,H];rw [show IntKind.u8.wrap (48 + (4 * (g:Int) + (u:Int))) = (48 + (4 * (g:Int) + (u:Int))) % 256 from rfl,Qb]
  try omega
 have T:=AA l;have a0:Hid (k = d.setCell ⟨b,14,none⟩ (.int .u8 (O:Int))):=by rw [D];exact j
 have W:Hid (A = k.setCell ⟨b,15,none⟩ (.int .u8 (M:Int))):=by rw [B];exact s
 have a2:=AA i;clear l j s i I G g1 g2 J H V hn q D B b1;go_enter func44,ntmps44;go_upto_region 2 with fail
 rw [show w.alloc _ = d from T.out.symm,<- show b = _ from a2];go_upto_region 3 with fail
 rw [<- show k = _ from a0];go_upto_region 4 with fail
 rw [<- show A = _ from W];go_wp2_with fail;refine N.out.mono ?_;rintro e X4 ⟨F,rfl,-,-,E,Z⟩;have r:=R.trans (Z.mono R.size);have L:=AA (z.out X4 F r E (U.below Z));clear E U z N;go_wp2_with fail;refine L.out.mono ?_;rintro e X5 ⟨v,rfl,m,b5⟩;obtain ⟨a5,c5,rfl,r5,-⟩:=m.shape;go_wp2_with fail;go_ret;exact ⟨⟨a5,c5,rfl,JH m,r5,fun p hp=>by
  have h:=Fp m p.block (by rw [hp];rfl);exact ⟨QG r.size h.1,h.2⟩⟩,r.trans (b5.mono r.size)⟩
def I0:List Rt:=[(⟨#[52]⟩,0),(⟨#[52,53]⟩,1),(⟨#[53]⟩,1),(⟨#[52,53,57]⟩,0),(⟨#[52,53]⟩,0),(⟨#[55]⟩,2)]
def qrN:List (List Value):=I0.map fun r=>[.string r.1,.int .i64 r.2]
theorem dH:∀ i,i < qrN.length -> ∃ t l,qrN.getD i [] = [.string t,.int .i64 l] /\ 0 < t.size /\ t.size <= 19 /\ Bu t = true /\ 0 <= l /\ l < ((3:Nat):Int):=by
 intro i a;have b:i = 0 \/ i = 1 \/ i = 2 \/ i = 3 \/ i = 4 \/ i = 5:=by simp [qrN,I0] at a;omega
 rcases b with rfl | rfl | rfl | rfl | rfl | rfl <;> exact ⟨_,_,rfl,by decide,by decide,by kernel_rfl,by decide,by decide⟩
theorem Wh (n u g:Nat) (b:1 <= u) (d:u <= 3) (k:g <= 1):Bb masterL (DR n u g) = true /\ BZ masterL (DR n u g) = true /\ opU masterL (DR n u g) = (u:Int):=by
 have c:(keyQ n u g).length = 16:=by unfold keyQ;rw [QQ,QQ];rfl
 have e:DR n u g = AY masterL (keyQ n u g) u g:=by
  unfold DR Mr;rw [if_pos (by unfold okW;exact ⟨rfl,c,by omega,by omega,by omega,by omega⟩),Int.toNat_natCast,Int.toNat_natCast]
 obtain ⟨f,a,i,-,-⟩:=KH masterL (keyQ n u g) u g rfl c b d (by omega);have j:=KZ f a;rw [e];exact ⟨f,a,by rw [j.2.1,i]⟩
def Lx (k:Nat):Nat:=if k = 2 then 3 else 1
def fmtN (c k:Nat):Nat:=c / 2 ^ (2 + k) % 2 * 3
def lkN (c k:Nat):Lk:=(DR k (Lx k) 0,DR k 2 1,(fmtN c k:Int))
theorem cZ (c k:Nat):KeysOk masterL (lkN c k):=by
 have a:=Wh k (Lx k) 0 (by unfold Lx;split <;> omega) (by unfold Lx;split <;> omega) (by omega);have b:=Wh k 2 1 (by omega) (by omega) (by omega);refine ⟨⟨a.1,a.2.1,?_⟩,b.1,b.2.1,b.2.2⟩;show opU masterL (DR k (Lx k) 0) = 1 \/ opU masterL (DR k (Lx k) 0) = 3;rw [a.2.2];unfold Lx
 split
 ·exact .inr rfl
 ·exact .inl rfl
theorem Nr (c k:Nat):(fmtN c k:Int) = 0 \/ (fmtN c k:Int) = 3:=by
 unfold fmtN;have:c / 2 ^ (2 + k) % 2 = 0 \/ c / 2 ^ (2 + k) % 2 = 1:=by omega
 rcases this with e | e
 ·exact .inl (by rw [e];rfl)
 ·exact .inr (by rw [e];rfl)
end Go.Proofs.YtbkokcjolanpeaaGreatDoor
