import Derived.Test.YtbkokcjolanpeaaGreatDoorMkAB
import Derived.Test.YtbkokcjolanpeaaGreatDoorMkY
import Derived.Test.YtbkokcjolanpeaaGreatDoorMkAC
set_option maxRecDepth 100000
set_option maxHeartbeats 20000000
namespace Go.Proofs.YtbkokcjolanpeaaGreatDoor
open Go.RowKit Go.Proofs.Tryz Act
def Bz (a:Int):Bool:=decide (a = 64) || decide (a = 128)
def ixN (a:Int):Int:=if a = 64 then 0 else if a = 128 then 1 else -1
theorem Uf (a:Int) (d:Nat) (w:World) (n:w.cell? ⟨d,0,none⟩ = some (.int .i64 64)) (o:w.cell? ⟨d,1,none⟩ = some (.int .i64 128)) :
 Calls prog 98 #[.slice (some ⟨d,0,none⟩) 2 2,.int .i64 a] w fun e w'=>e = .returned (.int .i64 (ixN a)) /\ w' = w:=by
 by_cases h1:a = 64
 ·have e:ixN a = 0:=by unfold ixN;rw [if_pos h1]
  rw [e];subst h1;go_enter func98,ntmps98;go_wp2_with fail
  go_loopw [8] (fun i wr=>i = .int .i64 0 /\ wr = w) (fun i _=>2 - (intOf i).toNat)
  case atStart=>exact ⟨rfl,rfl⟩
  case round =>
   obtain ⟨rfl,c⟩:=hrel;have b:=c.symm;subst b;go_wp2_with fail;go_ret;exact ⟨rfl,rfl⟩
 ·have l:(a == 64) = false:=by rw [QP];exact h1
  by_cases h2:a = 128
  ·have e:ixN a = 1:=by unfold ixN;rw [if_neg h1,if_pos h2]
   rw [e];subst h2;go_enter func98,ntmps98;go_wp2_with fail
   go_loopw [8] (fun i wr=>(i = .int .i64 0 \/ i = .int .i64 1) /\ wr = w) (fun i _=>2 - (intOf i).toNat)
   case atStart=>exact ⟨.inl rfl,rfl⟩
   case round =>
    obtain ⟨g,c⟩:=hrel;have b:=c.symm;subst b;rcases g with rfl | rfl
    ·go_wp2_with fail;go_roundw
     case rel=>exact ⟨.inr rfl,trivial⟩
     case measure=>simp [intOf]
    ·go_wp2_with fail;go_ret;exact ⟨rfl,rfl⟩
  ·have j:(a == 128) = false:=by rw [QP];exact h2
   have e:ixN a = -1:=by unfold ixN;rw [if_neg h1,if_neg h2]
   rw [e];go_enter func98,ntmps98;go_wp2_with fail
   go_loopw [8] (fun i wr=>∃ k:Nat,k <= 2 /\ i = .int .i64 (k:Int) /\ wr = w) (fun i _=>2 - (intOf i).toNat)
   case atStart=>exact ⟨0,by omega,rfl,rfl⟩
   case round =>
    obtain ⟨k,m,rfl,c⟩:=hrel;have b:=c.symm;subst b;have f:k = 0 \/ k = 1 \/ k = 2:=by omega
    rcases f with rfl | rfl | rfl
    ·go_wp2_with fail;go_roundw
     case rel=>exact ⟨1,by omega,rfl,trivial⟩
     case measure=>simp [intOf]
    ·go_wp2_with fail;go_roundw
     case rel=>exact ⟨2,by omega,rfl,trivial⟩
     case measure=>simp [intOf]
    ·go_wp2_with fail;go_ret;exact ⟨rfl,rfl⟩
theorem YS (a:Int):Bz a = decide (0 <= ixN a):=by
 unfold Bz ixN
 by_cases h1:a = 64
 ·simp [h1]
 ·by_cases h2:a = 128
  ·simp [h2]
  ·simp [h1,h2]
theorem Ow (a:Int) (b:Nat) (w:World) (f:w.cell? ⟨b,0,none⟩ = some (.int .i64 64)) (j:w.cell? ⟨b,1,none⟩ = some (.int .i64 128)) :
 Calls prog 48 #[.slice (some ⟨b,0,none⟩) 2 2,.int .i64 a] w fun e w'=>e = .returned (.bool (Bz a)) /\ w' = w:=by
 have c:=AA (Uf a b w f j);have k:=AA (YS a);obtain ⟨q,d⟩:=uX (ixN a);rw [<- d] at c k;clear d f j;go_enter func48,ntmps48;go_wp2_with (go_at_call 98;refine c.out.mono ?_;rintro e w2 ⟨rfl,g⟩;have i:=g.symm;subst i;clear g)
 go_ret;exact ⟨by rw [k.out];rfl,rfl⟩
theorem Kk (b:Int) (x:Value) (f a:Nat) (w:World) (j:w.cell? ⟨f,0,none⟩ = some (.slice (some ⟨a,0,none⟩) 2 2)) (i:w.cell? ⟨a,0,none⟩ = some (.int .i64 64)) (m:w.cell? ⟨a,1,none⟩ = some (.int .i64 128)) :
 Calls prog 47 #[.agg #[.int .i64 b,x],.pointer (some ⟨f,0,none⟩)] w fun e w'=>e = .returned (.bool (Bz b)) /\ Bl w w':=by
 obtain ⟨W,g⟩:=uX (w.alloc (Obj.cells #[.int .i64 b,x] 29));have d:=uB g;have n:=QF w _ j;have k:=QF w _ i;have t:W.cell? ⟨f,0,none⟩ = some (.slice (some ⟨a,0,none⟩) 2 2):=(d.cell (p:=⟨f,0,none⟩) n).trans j;have s:=AA (Ow b a W ((d.cell (p:=⟨a,0,none⟩) k).trans i) ((d.cell (p:=⟨a,1,none⟩) k).trans m));have q:Blk W w.heap.size 29 [.int .i64 b,x]:=by rw [g];exact Blk.new _ _ _
 have u:=q.c 0;have o:=AA g;clear g j i m;go_enter func47,ntmps47;go_upto_region 1 with fail
 rw [<- show W = _ from o];go_wp2_with fail;refine s.out.mono ?_;rintro e w2 ⟨rfl,r⟩;have l:=r.symm;subst l;go_wp2_with fail;go_ret;exact ⟨rfl,d⟩
def CF (a:Int):Bool:=decide (64 < a)
theorem Vx (a:Int) (x:Value) (w:World) :
 Calls prog 20 #[.agg #[.int .i64 a,x]] w fun e w'=>e = .returned (.bool (CF a)) /\ Bl w w':=by
 have b:Bl w (w.alloc (Obj.cells #[.int .i64 a,x] 29)):=BR _ _;go_enter func20,ntmps20;go_wp2_with fail;go_ret;exact ⟨rfl,b⟩
def Pg (w:World) (a:Option Addr) (Q:List (Int × Value)):Prop:=∀ i,i < Q.length -> ∃ g o,a = some ⟨g,o,none⟩ /\ w.cell? ⟨g,o + i * 2,none⟩ = some (.int .i64 (Q.getD i (0,undef)).1) /\ w.cell? ⟨g,o + i * 2 + 1,none⟩ = some (Q.getD i (0,undef)).2
def IxR (p:Int -> Bool) (Q:List (Int × Value)) (r:Int):Prop:=(r = -1 /\ ∀ j,j < Q.length -> p (Q.getD j (0,undef)).1 = false) \/ ∃ k:Nat,k < Q.length /\ r = (k:Int) /\ (∀ j,j < k -> p (Q.getD j (0,undef)).1 = false) /\ p (Q.getD k (0,undef)).1 = true
theorem VA (Q:List (Int × Value)) (U:Q.length <= 1048576) (a:Option Addr) (N:Nat) (w:World) (J:Pg w a Q) (y c:Nat) (E:w.cell? ⟨y,0,none⟩ = some (.slice (some ⟨c,0,none⟩) 2 2)) (F:w.cell? ⟨c,0,none⟩ = some (.int .i64 64)) (v:w.cell? ⟨c,1,none⟩ = some (.int .i64 128)) :
 Calls prog 49 #[.slice a Q.length N,.func (Fn.func 47) #[] #[.pointer (some ⟨y,0,none⟩)]] w fun e w'=>(∃ r,e = .returned (.int .i64 r) /\ IxR Bz Q r) /\ Bl w w':=by
 obtain ⟨n,D⟩:=uX (Q.length);have O:=AA D;rw [<- D] at U ⊢;have V:=AA J;have t:=AA (And.intro E (And.intro F v));have X:=QF w _ E;have R:=QF w _ F;clear E F v;clear D J;go_enter func49,ntmps49;go_wp2_with fail
 go_loopw [8] (fun i wr=>∃ k:Nat,k <= n /\ i = .int .i64 (k:Int) /\ Hid (∀ j,j < k -> Bz (Q.getD j (0,undef)).1 = false) /\ Bl w wr) (fun i _=>n - (intOf i).toNat)
 case atStart=>exact ⟨0,QU _,rfl,fun j h=>absurd h (Qj j),Below.refl _ _⟩
 case round =>
  obtain ⟨k,Y,rfl,H,b⟩:=hrel
  by_cases hlt:k < n
  ·have G:(k:Int) < (n:Int):=by omega
   have C:k < Q.length:=by rw [<- O.out];exact hlt
   obtain ⟨g,o,rfl,d,A⟩:=V.out k C;have f:=QF w _ d;have v:=(b.cell (p:=⟨g,o + k * 2,none⟩) f).trans d;have T:=(b.cell (p:=⟨g,o + k * 2 + 1,none⟩) f).trans A;obtain ⟨I,u⟩:=uX ((Q.getD k (0,undef)).1);obtain ⟨x,M⟩:=uX ((Q.getD k (0,undef)).2);rw [<- u] at v;rw [<- M] at T;have B:=AA u;have q:=AA (Kk I x y c wr ((b.cell (p:=⟨y,0,none⟩) X).trans t.out.1) ((b.cell (p:=⟨c,0,none⟩) R).trans t.out.2.1) ((b.cell (p:=⟨c,1,none⟩) R).trans t.out.2.2));obtain ⟨W,l⟩:=uX (Bz I);rw [<- l] at q;have z:=AA l;clear u M l d A f;cases W
   ·go_wp2_with (go_at_call 47;refine q.out.mono ?_;rintro e w2 ⟨rfl,m⟩;have s:=b.trans (m.mono b.size);clear m)
    go_roundw
    case rel=>exact ⟨k + 1,by omega,by go_num,fun j L=>by
     by_cases hjk:j = k
     ·rw [hjk,<- B.out,<- z.out]
     ·exact H.out j (by omega),s⟩
    case measure=>simp [intOf];omega
   ·go_wp2_with (go_at_call 47;refine q.out.mono ?_;rintro e w2 ⟨rfl,m⟩;have s:=b.trans (m.mono b.size);clear m)
    go_ret;exact ⟨⟨_,rfl,.inr ⟨k,C,rfl,H.out,by rw [<- B.out,<- z.out]⟩⟩,s⟩
  ·have G:¬ (k:Int) < (n:Int):=by omega
   go_wp2_with fail;go_ret;exact ⟨⟨_,rfl,.inl ⟨rfl,fun j L=>H.out j (by rw [<- O.out] at L;omega)⟩⟩,b⟩
theorem VF (Q:List (Int × Value)) (L:Q.length <= 1048576) (a:Option Addr) (G:Nat) (w:World) (D:Pg w a Q) :
 Calls prog 49 #[.slice a Q.length G,.func (Fn.func 20) #[] #[]] w fun e w'=>(∃ r,e = .returned (.int .i64 r) /\ IxR CF Q r) /\ Bl w w':=by
 obtain ⟨n,z⟩:=uX (Q.length);have H:=AA z;rw [<- z] at L ⊢;have M:=AA D;clear z D;go_enter func49,ntmps49;go_wp2_with fail
 go_loopw [8] (fun i wr=>∃ k:Nat,k <= n /\ i = .int .i64 (k:Int) /\ Hid (∀ j,j < k -> CF (Q.getD j (0,undef)).1 = false) /\ Bl w wr) (fun i _=>n - (intOf i).toNat)
 case atStart=>exact ⟨0,QU _,rfl,fun j h=>absurd h (Qj j),Below.refl _ _⟩
 case round =>
  obtain ⟨k,O,rfl,B,b⟩:=hrel
  by_cases hlt:k < n
  ·have A:(k:Int) < (n:Int):=by omega
   have y:k < Q.length:=by rw [<- H.out];exact hlt
   obtain ⟨g,o,rfl,c,u⟩:=M.out k y;have d:=QF w _ c;have J:=(b.cell (p:=⟨g,o + k * 2,none⟩) d).trans c;have I:=(b.cell (p:=⟨g,o + k * 2 + 1,none⟩) d).trans u;obtain ⟨C,s⟩:=uX ((Q.getD k (0,undef)).1);obtain ⟨x,F⟩:=uX ((Q.getD k (0,undef)).2);rw [<- s] at J;rw [<- F] at I;have v:=AA s;have m:=AA (Vx C x wr);obtain ⟨N,f⟩:=uX (CF C);rw [<- f] at m;have t:=AA f;clear s F f c u d;cases N
   ·go_wp2_with (go_at_call 20;refine m.out.mono ?_;rintro e w2 ⟨rfl,l⟩;have q:=b.trans (l.mono b.size);clear l)
    go_roundw
    case rel=>exact ⟨k + 1,by omega,by go_num,fun j E=>by
     by_cases hjk:j = k
     ·rw [hjk,<- v.out,<- t.out]
     ·exact B.out j (by omega),q⟩
    case measure=>simp [intOf];omega
   ·go_wp2_with (go_at_call 20;refine m.out.mono ?_;rintro e w2 ⟨rfl,l⟩;have q:=b.trans (l.mono b.size);clear l)
    go_ret;exact ⟨⟨_,rfl,.inr ⟨k,y,rfl,B.out,by rw [<- v.out,<- t.out]⟩⟩,q⟩
  ·have A:¬ (k:Int) < (n:Int):=by omega
   go_wp2_with fail;go_ret;exact ⟨⟨_,rfl,.inl ⟨rfl,fun j E=>B.out j (by rw [<- H.out] at E;omega)⟩⟩,b⟩
def EA (Q:List (Int × Value)):List Value:=Q.flatMap (fun q=>[.int .i64 q.1,q.2])
theorem Li (q:Int × Value) (r:List (Int × Value)):EA (q :: r) = .int .i64 q.1 :: q.2 :: EA r:=rfl
theorem Ox (Q:List (Int × Value)):(EA Q).length = Q.length * 2:=by
 induction Q with
 | nil=>rfl
 | cons q r ih=>rw [Li,Qn,Qn,Qn,ih];omega
theorem Ig (Q:List (Int × Value)):∀ i,i < Q.length -> (EA Q)[i * 2]? = some (.int .i64 (Q.getD i (0,undef)).1) /\ (EA Q)[i * 2 + 1]? = some (Q.getD i (0,undef)).2:=by
 induction Q with
 | nil=>intro i h;simp at h
 | cons q r ih =>
   intro i h
   cases i with
   | zero=>exact ⟨rfl,rfl⟩
   | succ i =>
     have:=ih i (by simpa using h);rw [show (i + 1) * 2 = i * 2 + 1 + 1 from by omega];exact this
def CU (Q:List (Int × Value)):List (Int × Value):=Q.filter (fun q=>!Bz q.1)
theorem JR (A:List (Int × Value)) (q:Int × Value):CU (A ++ [q]) = if Bz q.1 = true then CU A else CU A ++ [q]:=by
 unfold CU;rw [List.filter_append]
 by_cases h:Bz q.1 = true
 ·rw [if_pos h];simp [h]
 ·rw [if_neg h];simp [h]
theorem Oi (Q:List (Int × Value)) (h:∀ j,j < Q.length -> Bz (Q.getD j (0,undef)).1 = false):CU Q = Q:=by
 unfold CU;rw [List.filter_eq_self];intro q b;obtain ⟨i,a,rfl⟩:=qi b;have:=h i a;rw [QA,List.getElem?_eq_getElem a] at this
 simpa using this
theorem H0 {α:Type} (l:List α) (k:Nat) (d:α) (h:k < l.length):l.take (k + 1) = l.take k ++ [l.getD k d]:=by
 rw [Qu h,QA,List.getElem?_eq_getElem h]
 rfl
theorem NW {α:Type} (l:List α) (k j:Nat) (d:α) (h:j < k):(l.take k).getD j d = l.getD j d:=by
 rw [QA,QA,List.getElem?_take,if_pos h]
structure DI (Q:List (Int × Value)) (i j:Nat) (xs:List Value):Prop where
 len:(CU (Q.take j)).length = i
 lt:i < j
 front:∀ m,m < i -> xs[m * 2]? = some (.int .i64 ((CU (Q.take j)).getD m (0,undef)).1) /\ xs[m * 2 + 1]? = some ((CU (Q.take j)).getD m (0,undef)).2
 back:∀ m,j <= m -> m < Q.length -> xs[m * 2]? = some (.int .i64 (Q.getD m (0,undef)).1) /\ xs[m * 2 + 1]? = some (Q.getD m (0,undef)).2
theorem DI.start {Q:List (Int × Value)} {k:Nat} (c:k < Q.length) (f:∀ j,j < k -> Bz (Q.getD j (0,undef)).1 = false) (b:Bz (Q.getD k (0,undef)).1 = true):DI Q k (k + 1) (EA Q):=by
 have g:CU (Q.take k) = Q.take k:=Oi _ (fun j d=>by rw [QI] at d;rw [NW _ _ _ _ (by omega)];exact f j (by omega));have e:CU (Q.take (k + 1)) = Q.take k:=by rw [H0 Q k (0,undef) c,JR,if_pos b,g]
 refine ⟨by rw [e,QI];omega,by omega,fun m a=>?_,fun m _ a=>Ig Q m a⟩;rw [e,NW _ _ _ _ a];exact Ig Q m (by omega)
theorem DI.drop {Q:List (Int × Value)} {i j:Nat} {b:List Value} (h:DI Q i j b) (d:j < Q.length) (a:Bz (Q.getD j (0,undef)).1 = true):DI Q i (j + 1) b:=by
 have e:CU (Q.take (j + 1)) = CU (Q.take j):=by rw [H0 Q j (0,undef) d,JR,if_pos a]
 refine ⟨by rw [e];exact h.len,by have:=h.lt;omega,fun m a=>by rw [e];exact h.front m a,fun m f c=>h.back m (by omega) c⟩
theorem DI.keep {Q:List (Int × Value)} {i j:Nat} {c:List Value} (h:DI Q i j c) (k:j < Q.length) (p:c.length = Q.length * 2) (f:Bz (Q.getD j (0,undef)).1 = false):DI Q (i + 1) (j + 1) ((c.set (i * 2) (.int .i64 (Q.getD j (0,undef)).1)).set (i * 2 + 1) (Q.getD j (0,undef)).2):=by
 have e:CU (Q.take (j + 1)) = CU (Q.take j) ++ [Q.getD j (0,undef)]:=by rw [H0 Q j (0,undef) k,JR,if_neg (by rw [f];decide)]
 have d:=h.len;have n:=h.lt;refine ⟨by rw [e,QC,d];rfl,by omega,fun m l=>?_,fun m o g=>?_⟩
 ·rw [e]
  by_cases hmi:m = i
  ·subst hmi;rw [BG _ _ _ _ d.symm];refine ⟨?_,?_⟩
   ·rw [List.getElem?_set_ne (by omega),List.getElem?_set_self (by omega)]
   ·rw [List.getElem?_set_self (by simp;omega)]
  ·obtain ⟨a,b⟩:=h.front m (by omega);rw [Az _ _ _ _ (by omega)];refine ⟨?_,?_⟩
   ·rw [List.getElem?_set_ne (by omega),List.getElem?_set_ne (by omega)];exact a
   ·rw [List.getElem?_set_ne (by omega),List.getElem?_set_ne (by omega)];exact b
 ·obtain ⟨a,b⟩:=h.back m (by omega) g;refine ⟨?_,?_⟩
  ·rw [List.getElem?_set_ne (by omega),List.getElem?_set_ne (by omega)];exact a
  ·rw [List.getElem?_set_ne (by omega),List.getElem?_set_ne (by omega)];exact b
theorem DI.done {Q:List (Int × Value)} {i:Nat} {f:List Value} (h:DI Q i Q.length f) (l:f.length = Q.length * 2):f.take (i * 2) = EA (CU Q):=by
 have j:=h.len;have k:=h.lt;have g:=h.front;rw [qt] at j g;apply qA;intro m
 by_cases hm:m < i * 2
 ·rw [List.getElem?_take,if_pos hm];obtain ⟨a,b⟩:=g (m / 2) (by omega);obtain ⟨c,d⟩:=Ig (CU Q) (m / 2) (by omega)
  by_cases h2:m % 2 = 0
  ·rw [show m = m / 2 * 2 from by omega,a,c]
  ·rw [show m = m / 2 * 2 + 1 from by omega,b,d]
 ·rw [List.getElem?_eq_none (by rw [QI];omega),List.getElem?_eq_none (by rw [Ox];omega)]
theorem Kv (n:Nat):(Builtin.zeroCells (Value.agg #[.int .i64 0,.slice none 0 0]).cells n).toList.length = n * 2:=by
 rw [Ql,size_zeroCells]
 rfl
theorem WM (n:Nat):∀ v ∈ (Builtin.zeroCells (Value.agg #[.int .i64 0,.slice none 0 0]).cells n).toList,v.oneCell' = true:=by
 intro v b;unfold Builtin.zeroCells at b;rw [Array.mem_toList_iff,Array.mem_map] at b;obtain ⟨j,-,rfl⟩:=b;show (#[Value.int .i64 0,Value.slice none 0 0][j % 2]!).oneCell' = true;have a:j % 2 = 0 \/ j % 2 = 1:=by omega
 rcases a with a | a <;> rw [a] <;> rfl
theorem Ue {w:World} {g n i c:Nat} {a:Array Value} (l:w.heap[g]? = some (.cells a 29 (0,0))) (s:i < n) (r:n * 2 <= a.size) :
 ∃ w' b,(∀ o,(Builtin.clear_ #[30] o #[.slice (some ⟨g,i * 2,none⟩) (n - i) c]).run prog w = .ok (.tuple #[]) w') /\ w'.heap[g]? = some (.cells b 29 (0,0)) /\ b.size = a.size /\ b.toList.take (i * 2) = a.toList.take (i * 2) /\ w.grownBy w' (some g):=by
 obtain ⟨m,p⟩:∃ m,n - i = m + 1:=⟨n - i - 1,by omega⟩;have f:=Ja prog g (i * 2) 29 (0,0) (Builtin.zeroCells (Value.agg #[.int .i64 0,.slice none 0 0]).cells (m + 1)).toList 0 a w l (.inl rfl) (by rw [Kv];omega) (WM _);obtain ⟨j,d⟩:=uX ((a.toList.take (i * 2 + 0) ++ (Builtin.zeroCells (Value.agg #[.int .i64 0,.slice none 0 0]).cells (m + 1)).toList ++ a.toList.drop (i * 2 + 0 + (Builtin.zeroCells (Value.agg #[.int .i64 0,.slice none 0 0]).cells (m + 1)).toList.length)).toArray);rw [<- d] at f;refine ⟨w.setRow g j,j,?_,setRow_heap w g a _ _ _ l,?_,?_,⟨rfl,rfl,rfl,by simp,fun k _ q=>setRow_other w g k _ (fun e=>q (by rw [e]))⟩⟩
 ·intro o;rw [p];simp [Builtin.clear_,run_underlying underlying30,zeroValue29,f]
 ·rw [d,Qo,QC,QC,QI,QN,Kv,Ql];omega
 ·rw [d,qq,QV,qT (by rw [QI,Ql];omega),List.take_take,Nat.min_self]
theorem ZO {w:World} {lo d:Nat} {a:Option Addr} {Q:List (Int × Value)} (row:w.ownsRow lo 29 2 (.slice a Q.length d) Q.length (EA Q)):Pg w a Q:=by
 intro i k;obtain ⟨j,f⟩:=Ig Q i k;rcases row.2 with ⟨b,hz⟩ | ⟨g,c,l,b,-⟩
 ·omega
 ·simp only [Value.slice.injEq] at b;obtain ⟨rfl,-,rfl⟩:=b;refine ⟨g,0,rfl,?_,?_⟩
  ·rw [QZ,row.cellAt (i * 2) (by omega),j]
  ·rw [QZ,row.cellAt (i * 2 + 1) (by omega),f]
theorem SO (Q:List (Int × Value)) (hQ:Q.length <= 1048576) (b3:∀ j,j < Q.length -> ∃ L l H,(Q.getD j (0,undef)).2 = .slice L l H) (v:Value) (lo J B:Nat) (w:World) (row:w.ownsRow lo 29 2 v Q.length (EA Q)) (o:lo <= w.heap.size) (e6:J < lo) (a7:B < lo)
 (cb:w.cell? ⟨J,0,none⟩ = some (.slice (some ⟨B,0,none⟩) 2 2)) (c0:w.cell? ⟨B,0,none⟩ = some (.int .i64 64)) (I:w.cell? ⟨B,1,none⟩ = some (.int .i64 128)) :
 Calls prog 45 #[v,.func (Fn.func 47) #[] #[.pointer (some ⟨J,0,none⟩)]] w fun e w'=>(∃ v',e = .returned v' /\ w'.ownsRow lo 29 2 v' (CU Q).length (EA (CU Q))) /\ Below lo w w':=by
 obtain ⟨a,m,rfl⟩:=BK row;have a1:=AA (VA Q hQ a m w (ZO row) J B cb c0 I);have U:=AA (And.intro cb (And.intro c0 I));have e1:=AA b3;have t:=row.2;obtain ⟨n,hn⟩:=uX (Q.length);have M:=AA hn;rw [<- hn] at a1 hQ row t ⊢;clear hn cb c0 I b3;go_enter func45,ntmps45;go_wp2_with fail;refine a1.out.mono ?_;rintro e w1 ⟨⟨r,rfl,e5⟩,b1⟩;rcases e5 with ⟨rfl,a3⟩ | ⟨C,V,rfl,h1,h2⟩
 ·have c5:=AA a3;clear a3 t;go_wp2_with fail;go_ret;exact ⟨⟨_,rfl,by rw [Oi Q c5.out,<- M.out];exact Am row b1⟩,b1.mono o⟩
 ·have Y:=AA (DI.start V h1 h2);have f3:C < n:=by rw [M.out];exact V
  rcases t with ⟨-,hz⟩ | ⟨g,c,d3,O,y,-,g5,e4,-⟩
  ·omega
  simp only [Value.slice.injEq] at O;obtain ⟨rfl,-,rfl⟩:=O;have a0:=Am row b1;have b9:=b1.mono o;have b8:¬ (C:Int) = -1:=by omega
  have e7:((C:Int) == -1) = false:=by rw [QP];exact b8
  have e8:IntKind.i64.wrap ((C:Int) + 1) = ((C + 1:Nat):Int):=by rw [QH];omega
  clear h1 h2 V row b1 a1;go_wp2_with fail
  go_loopw [5,6] (fun iv jv wr=>∃ (i j:Nat) (R:List Value),j <= n /\ iv = .int .i64 (i:Int) /\ jv = .int .i64 (j:Int) /\ wr.ownsRow lo 29 2 (.slice (some ⟨g,0,none⟩) n m) n R /\ Hid (DI Q i j R) /\ Below lo w wr) (fun _ jv _=>n - (intOf jv).toNat)
  case atStart=>exact ⟨C,C + 1,_,by omega,rfl,by go_num,a0,Y,b9⟩
  case round =>
   clear a0 b9 Y b8 e7 e8;obtain ⟨i,j,R,hj,rfl,rfl,row,k,f⟩:=hrel;have s:R.length = n * 2:=row.1;have d5:=k.out.lt
   by_cases hlt:j < n
   ·have c9:(j:Int) < (n:Int):=by omega
    have F:j < Q.length:=by rw [<- M.out];exact hlt
    obtain ⟨p1,p2⟩:=k.out.back j (QE _) F;obtain ⟨L,l,H,hx⟩:=e1.out j F;have I:=(row.cellAt (j * 2) (by omega)).trans p1;have c2:=(row.cellAt (j * 2 + 1) (by omega)).trans p2;rw [hx] at c2;have G:=AA (fun h=>k.out.drop F h);have A:=AA (fun h=>k.out.keep F (by rw [<- M.out];exact s) h);rw [hx] at A;obtain ⟨no,b5⟩:=uX ((Q.getD j (0,undef)).1);rw [<- b5] at I G A;obtain ⟨X,hX⟩:=uX (wr.alloc (Obj.cells #[.int .i64 no,.slice L l H] 29));obtain ⟨gV,D⟩:=uX (wr.heap.size);have Z:=uK hX D;have bX:=uB hX;have e3:lo <= wr.heap.size:=QG o f.size;have b:=f.trans (bX.mono e3);have x:=Am row bX;have E:=AA (Kk no (.slice L l H) J B X ((b.cell (p:=⟨J,0,none⟩) e6).trans U.out.1) ((b.cell (p:=⟨B,0,none⟩) a7).trans U.out.2.1) ((b.cell (p:=⟨B,1,none⟩) a7).trans U.out.2.2));have c4:=(row.lt g rfl).2;rw [<- D] at c4;have HX:=AA hX;have a4:=AA D;have b6:=AA s;have f7:=AA hx;clear hX D b5 hx p1 p2 s row f bX k;go_upto_region 8 with fail;rw [<- show X = _ from HX,<- show gV = _ from a4];clear HX a4 I c2;have d0:=Z.c 0;have d1:=Z.c 1;obtain ⟨pb,a2⟩:=uX (Bz no);rw [<- a2] at E;have a8:=AA a2;clear a2;cases pb
    ·have d4:=AA (A.out a8.out.symm);clear A G;go_upto_region 9 with (go_at_call 47;refine E.out.mono ?_;rintro e w2 ⟨rfl,z⟩)
     have d:=Am x z;have k2:=Z.below z Z.lt;have N:lo <= X.heap.size:=QG o b.size;have u:=b.trans (z.mono N);clear x Z b E z d0 d1;have d0:=k2.c 0;have d1:=k2.c 1;have f4:w2.frozen? ⟨g,i * 2,none⟩ = false:=d.frozenAt _;have f6:w2.frozen? ⟨g,i * 2 + 1,none⟩ = false:=d.frozenAt _;obtain ⟨u1,f5⟩:=Ma d (by omega:i * 2 < n * 2);obtain ⟨u2,f9⟩:=Ma d (by omega:i * 2 + 1 < n * 2);have a5:=(d.stored (i * 2) (.int .i64 no)).1;have b7:=(a5.stored (i * 2 + 1) (.slice L l H)).1;have d2:=AA b7;have c8:=(u.setCell (p:=⟨g,i * 2,none⟩) y (.int .i64 no)).setCell (p:=⟨g,i * 2 + 1,none⟩) y (.slice L l H);have g0:(i:Int) < (n:Int):=by omega
     clear a5 b7 d u;go_wp2_with fail;go_roundw
     case rel=>exact ⟨i + 1,j + 1,_,by omega,by go_num,by go_num,d2.out,d4,c8⟩
     case measure=>simp [intOf];omega
    ·have e2:=AA (G.out a8.out.symm);clear A G;have N:lo <= X.heap.size:=QG o b.size;go_wp2_with (go_at_call 47;refine E.out.mono ?_;rintro e w2 ⟨rfl,z⟩;have d:=Am x z;have u:=b.trans (z.mono N);clear x z b)
     go_roundw
     case rel=>exact ⟨i,j + 1,_,by omega,rfl,by go_num,d,e2,u⟩
     case measure=>simp [intOf];omega
   ·have c9:¬ (j:Int) < (n:Int):=by omega
    obtain rfl:j = n:=by omega
    have e0:=AA k.out;have d6:=row.2;rcases d6 with ⟨-,hz⟩ | ⟨g2,c2,d3,O,-,hh,f2,-,b4,a9⟩
    ·omega
    simp only [Value.slice.injEq,Option.some.injEq,Addr.mk.injEq,and_true,true_and] at O;obtain ⟨rfl,rfl⟩:=O;obtain ⟨w5,c7,f1,b0,W,T,a6⟩:=Ue (c:=m - i) hh d5 (by omega);have f8:¬ m = i:=by omega
    have e9:(i:Int) <= (m:Int):=by omega
    have f0:(i:Int) <= (j:Int):=by omega
    have c6:=f.grown a6 (QG o f.size) (fun q hq=>by cases hq;exact y);have c3:Hid (w5.ownsRow lo 29 2 (.slice (some ⟨g,0,none⟩) i m) i (R.take (i * 2))):=by
     refine ⟨by rw [QI,s];omega,.inr ⟨g,m,c7,rfl,y,b0,by omega,e4,by rw [W];exact b4,?_⟩⟩;rw [T,<- a9,List.take_take]
     congr 1
     omega
    have b6:=AA s;clear hh b4 a9 b0 W T a6 row s k f;go_wp2_with fail;go_ret;refine ⟨⟨_,rfl,?_⟩,c6⟩;have h:=c3.out;have hd:=e0.out;rw [show j = Q.length from M.out] at hd;rw [hd.done (by rw [<- M.out];exact b6.out)] at h;have hl:=hd.len;rw [qt] at hl;rw [hl];exact h
def Rws (w:World) (L:List (Int × LU)) (vs:List Value):Prop:=∀ i,i < L.length -> ∃ a b,vs.getD i undef = .slice a (L.getD i (0,[])).2.length b /\ RowAt w a (L.getD i (0,[])).2
theorem Rws.below {w w':World} {L:List (Int × LU)} {vs:List Value} (h:Rws w L vs) (d:Bl w w'):Rws w' L vs:=fun i a=>by
 obtain ⟨b,c,e,r⟩:=h i a;exact ⟨b,c,e,r.below d⟩
structure Fv (w:World) (v:Value) (L:List (Int × LU)) (vs:List Value):Prop where
 len:vs.length = L.length
 sh:∃ ao cap,v = .slice ao L.length cap
 at_:∀ i,i < L.length -> ∃ g o cap,v = .slice (some ⟨g,o,none⟩) L.length cap /\ w.cell? ⟨g,o + i * 2,none⟩ = some (.int .i64 (L.getD i (0,[])).1) /\ w.cell? ⟨g,o + i * 2 + 1,none⟩ = some (vs.getD i undef)
theorem Fv.below {w w':World} {v:Value} {L:List (Int × LU)} {vs:List Value} (h:Fv w v L vs) (a:Bl w w'):Fv w' v L vs :=
 ⟨h.len,h.sh,fun i j=>by
  obtain ⟨g,o,b,e,c,f⟩:=h.at_ i j;have d:=QF w _ c;exact ⟨g,o,b,e,(a.cell (p:=⟨g,o + i * 2,none⟩) d).trans c,(a.cell (p:=⟨g,o + i * 2 + 1,none⟩) d).trans f⟩⟩
theorem Fr.vals {w:World} {v:Value} {L:List (Int × LU)} (h:Fr w v L):∃ vs,Fv w v L vs /\ Rws w L vs:=by
 have d:∀ i,i < L.length -> ∃ x:Value,(∃ c j,x = .slice c (L.getD i (0,[])).2.length j /\ RowAt w c (L.getD i (0,[])).2) /\ ∃ g o b,v = .slice (some ⟨g,o,none⟩) L.length b /\ w.cell? ⟨g,o + i * 2,none⟩ = some (.int .i64 (L.getD i (0,[])).1) /\ w.cell? ⟨g,o + i * 2 + 1,none⟩ = some x:=by
  intro i a;obtain ⟨g,o,b,c,j,e,n,m,r⟩:=h.at_ i a;exact ⟨_,⟨c,j,rfl,r⟩,g,o,b,e,n,m⟩
 obtain ⟨f,l⟩:=Go.Deep.choose_lt d;have k:∀ i,i < L.length -> ((List.range L.length).map f).getD i undef = f i:=fun i a=>by simp [List.getD_eq_getElem?_getD,a]
 refine ⟨(List.range L.length).map f,⟨by simp,h.sh,fun i a=>?_⟩,fun i a=>?_⟩
 ·rw [k i a];exact (l i a).2
 ·rw [k i a];exact (l i a).1
def Bk (L:List (Int × LU)) (vs:List Value):List (Int × Value):=(List.zip L vs).map (fun (p:(Int × LU) × Value)=>(p.1.1,p.2))
theorem Kh (L:List (Int × LU)) (vs:List Value):EA (Bk L vs) = Z.fldCells L vs:=by
 unfold EA Bk Z.fldCells;rw [List.flatMap_map]
theorem CE (L:List (Int × LU)) (vs:List Value) (h:vs.length = L.length):(Bk L vs).length = L.length:=by
 unfold Bk;simp;omega
theorem LX (L:List (Int × LU)):∀ (vs:List Value),vs.length = L.length -> ∀ i,i < L.length -> ((Bk L vs).getD i (0,undef)).2 = vs.getD i undef:=by
 induction L with
 | nil=>intro vs _ i h;simp at h
 | cons p r ih =>
   intro vs h i a
   cases vs with
   | nil=>simp at h
   | cons x t =>
     cases i with
     | zero=>rfl
     | succ i=>exact ih t (by simpa using h) i (by simpa using a)
def Ax (L:List (Int × LU)):List (Int × LU):=L.filter (fun p=>!Bz p.1)
theorem Yi (w:World) (L:List (Int × LU)):∀ (vs:List Value),vs.length = L.length -> Rws w L vs -> ∃ a,a.length = (Ax L).length /\ EA (CU (Bk L vs)) = Z.fldCells (Ax L) a /\ (CU (Bk L vs)).length = (Ax L).length /\ Rws w (Ax L) a:=by
 induction L with
 | nil=>intro vs h _;exact ⟨[],rfl,by cases vs <;> rfl,by cases vs <;> rfl,fun i b=>absurd b (Qj i)⟩
 | cons p r ih =>
   intro vs h f
   cases vs with
   | nil=>simp at h
   | cons x t =>
     obtain ⟨a,g,d,c,j⟩:=ih t (by simpa using h) (fun i b=>f (i + 1) (by simpa using b));have l:CU (Bk (p :: r) (x :: t)) = if Bz p.1 = true then CU (Bk r t) else (p.1,x) :: CU (Bk r t):=by
      show List.filter _ ((p.1,x) :: Bk r t) = _;rw [List.filter_cons];cases Bz p.1 <;> rfl
     have k:Ax (p :: r) = if Bz p.1 = true then Ax r else p :: Ax r:=by
      show List.filter _ (p :: r) = _;rw [List.filter_cons];cases Bz p.1 <;> rfl
     rw [l,k]
     by_cases hm:Bz p.1 = true
     ·rw [if_pos hm,if_pos hm];exact ⟨a,g,d,c,j⟩
     ·rw [if_neg hm,if_neg hm];refine ⟨x :: a,by simp [g],?_,by simp [c],fun i b=>?_⟩
      ·rw [Li,d];rfl
      ·cases i with
       | zero=>exact f 0 (by simp)
       | succ i=>exact j i (by simpa using b)
theorem Fv.news {w:World} {v:Value} {L:List (Int × LU)} {vs:List Value} (h:Fv w v L vs) (a:Addr) (i:Nat) (p:v = .slice (some a) L.length i):∀ j u,(Z.fldCells L vs)[j]? = some u -> w.cell? (a.add j) = some u:=by
 intro j u d;have q:=Z.fldCells_length L vs h.len;have r:j < L.length * 2:=by rw [<- q];exact (List.getElem?_eq_some_iff.1 d).1
 have f:j / 2 < L.length:=by omega
 obtain ⟨g,o,c,e,n,k⟩:=h.at_ (j / 2) f;rw [p] at e;simp only [Value.slice.injEq,Option.some.injEq] at e;obtain ⟨rfl,-,-⟩:=e;obtain ⟨m,l⟩:=Z.fldCells_at L vs h.len (j / 2) f;rw [qZ]
 by_cases hm:j % 2 = 0
 ·have b:j = j / 2 * 2:=by omega
  rw [b,m] at d;rw [b,n];exact d
 ·have b:j = j / 2 * 2 + 1:=by omega
  rw [b,l] at d;rw [b,show o + (j / 2 * 2 + 1) = o + j / 2 * 2 + 1 from by omega,k];exact d
theorem Z6 {w:World} {L:List (Int × LU)} {vs:List Value} (g:vs.length = L.length) (i:Rws w L vs):∀ u ∈ Z.fldCells L vs,u.oneCell' = true:=by
 intro u l;obtain ⟨j,d,rfl⟩:=qi l;have k:=Z.fldCells_length L vs g;have a:j / 2 < L.length:=by omega
 obtain ⟨f,c⟩:=Z.fldCells_at L vs g (j / 2) a
 by_cases hm:j % 2 = 0
 ·have b:j / 2 * 2 = j:=by omega
  rw [b,List.getElem?_eq_getElem d] at f;rw [Option.some.inj f];rfl
 ·have b:j / 2 * 2 + 1 = j:=by omega
  rw [b,List.getElem?_eq_getElem d] at c;obtain ⟨n,m,e,-⟩:=i (j / 2) a;rw [Option.some.inj c,e];rfl
theorem U8 (L:List (Int × LU)) (I:L.length <= 1048576) (v:Value) (vs:List Value) (w:World) (F:Fv w v L vs) (s:Rws w L vs) :
 Calls prog 46 #[v] w fun e w'=>(∃ G,e = .returned G /\ w'.ownsRow w.heap.size 29 2 G L.length (Z.fldCells L vs)) /\ Bl w w':=by
 obtain ⟨T,H,A,B,z⟩:=Qg Tryz.infoFz;have U:∀ (w:World) (a:Option Addr) (n c t r:Nat),(binOp .eql 30 (.slice a n c) (.slice none t r)).run prog w = .ok (.bool a.isNone) w:=fun w a n c t r=>Lib.run_eql_slice_nil w _ _ a n c t r underlying30;obtain ⟨M,i,rfl⟩:=F.sh
 cases M with
 | none =>
   have E:L.length = 0:=by
    by_cases h:L.length = 0
    ·exact h
    ·obtain ⟨g,o,c,e,-⟩:=F.at_ 0 (by omega);simp at e
   obtain rfl:L = []:=List.length_eq_zero_iff.1 E;have y:=F.len;obtain rfl:vs = []:=List.length_eq_zero_iff.1 y;clear F s E y;go_enter func46,ntmps46;go_wp2_with fail;go_ret;exact ⟨⟨_,rfl,Qa _ _ _ _⟩,Below.refl _ _⟩
 | some a =>
   have f:=AA (fun (N:World) (h:Fv N (.slice (some a) L.length i) L vs)=>h.news a i rfl);have m:=AA (Z6 F.len s);have b:=AA (Z.fldCells_length L vs F.len);obtain ⟨n,u⟩:=uX (L.length);rw [<- u] at I F f b ⊢;obtain ⟨J,l⟩:=uX (Z.fldCells L vs);rw [<- l] at f m b ⊢;obtain ⟨W,j⟩:=uX (w.alloc (Obj.cells #[] 29));have k:=uB j;have x:=F.below k;have D:=AA x;have p:W.ownsRow w.heap.size 29 2 (.slice (some ⟨w.heap.size,0,none⟩) 0 0) 0 []:=by
    refine ⟨rfl,.inr ⟨w.heap.size,0,#[],rfl,QE _,?_,QE _,QU _,rfl,rfl⟩⟩;rw [j];exact heap_alloc_new w _
   have O:=AA j;clear F x s l j u;go_enter func46,ntmps46;go_wp2_with (at_builtin;(rw [<- show W = _ from O];refine Qq _ rfl _ _ 30 rfl w.heap.size 29 T (.agg #[.int .i64 0,.slice none 0 0]) 2 32 underlying30 H A B z rfl (by decide) _ _ _ rfl p a n i J rfl b.out (f.out _ D.out) m.out (by unfold maxLen;omega) (by omega) k.size ?_;intro X V d C _ _))
   go_ret;rw [QZ,qQ] at d;exact ⟨⟨_,rfl,d⟩,k.grown C k.size (fun q R=>by cases R;exact QE _)⟩
theorem Zh {L:List (Int × LU)} {vs:List Value} {w:World} (d:vs.length = L.length) (f:Rws w L vs):∀ j,j < (Bk L vs).length -> ∃ c l a,((Bk L vs).getD j (0,undef)).2 = .slice c l a:=by
 intro j b;rw [CE L vs d] at b;obtain ⟨c,a,e,-⟩:=f j b;exact ⟨c,_,a,(LX L vs d j b).trans e⟩
theorem TG (L:List (Int × LU)) (E:L.length <= 1048576) (v:Value) (a:Nat) (w:World) (F:Fr w v L) (y:w.cell? ⟨a,0,none⟩ = some (.int .i64 64)) (H:w.cell? ⟨a,1,none⟩ = some (.int .i64 128)) :
 Calls prog 18 #[v,.slice (some ⟨a,0,none⟩) 2 2] w fun e w'=>(∃ X b,e = .returned X /\ w'.ownsRow w.heap.size 29 2 X (Ax L).length (Z.fldCells (Ax L) b) /\ b.length = (Ax L).length /\ Rws w (Ax L) b) /\ Bl w w':=by
 obtain ⟨vs,g,o⟩:=F.vals;obtain ⟨b,R,V,D,T⟩:=Yi w L vs g.len o;obtain ⟨W,m⟩:=uX (w.alloc (Obj.cells #[.slice (some ⟨a,0,none⟩) 2 2] 42));have B:Blk W w.heap.size 42 [.slice (some ⟨a,0,none⟩) 2 2]:=by rw [m];exact Blk.new _ _ _
 have d:=uB m;have t:=AA (U8 L E v vs W (g.below d) (o.below d));have A:=QF w _ y;have J:W.cell? ⟨a,0,none⟩ = some (.int .i64 64):=(d.cell (p:=⟨a,0,none⟩) A).trans y;have I:W.cell? ⟨a,1,none⟩ = some (.int .i64 128):=(d.cell (p:=⟨a,1,none⟩) A).trans H;have u:=AA (CE L vs g.len);have f:=AA (fun (z:Value) (wx:World) row O M U l q n=>SO (Bk L vs) (by rw [CE L vs g.len];exact E) (Zh g.len o) z W.heap.size w.heap.size a wx row O M U l q n);rw [u.out,Kh] at f;rw [V,D] at f;have s:=AA (And.intro J I);have N:=AA m;have r:=AA (And.intro R T);have i:a < W.heap.size:=QX A d.size;have G:=B.lt;clear m y H J I R V D T F g o u;go_enter func18,ntmps18;go_upto_region 1 with fail
 rw [<- show W = _ from N];clear N;go_wp2_with fail;refine t.out.mono ?_;rintro e Y ⟨⟨z,rfl,j⟩,k⟩;have l:=(B.below k B.lt).c 0;have q:=(k.cell (p:=⟨a,0,none⟩) i).trans s.out.1;have n:=(k.cell (p:=⟨a,1,none⟩) i).trans s.out.2;have C:=AA (f.out z Y j k.size G i l q n);clear t f j l q n;go_wp2_with fail;refine C.out.mono ?_;rintro e w2 ⟨⟨v2,rfl,x⟩,b2⟩;go_wp2_with fail;go_ret;exact ⟨⟨_,b,rfl,ownR_mono x d.size,r.out.1,r.out.2⟩,d.trans ((k.trans b2).mono d.size)⟩
end Go.Proofs.YtbkokcjolanpeaaGreatDoor
