import Derived.Test.YtbkokcjolanpeaaGreatDoorMkC
import Derived.Test.YtbkokcjolanpeaaGreatDoorMkD
import Derived.Deep.AppendLies
set_option maxRecDepth 100000
set_option maxHeartbeats 20000000
namespace Go.Proofs.YtbkokcjolanpeaaGreatDoor
open Go.RowKit Go.Proofs.Tryz Act
def IL (l:LU) (n:Nat):LU:=l.drop n ++ l.take n
theorem Sc (l:LU) (n:Nat) (h:n <= l.length):(IL l n).length = l.length:=by simp [IL];omega
def As (l:LU):Nat -> LU
 | 0=>l
 | k + 1=>IL (As l k) (BO.getD k 0)
theorem DW (l:LU) (a:l.length = 28) (k:Nat) (b:k <= 16):(As l k).length = 28:=by
 induction k with
 | zero=>exact a
 | succ k ih =>
   have h:=GR k (by omega);show (IL (As l k) (BO.getD k 0)).length = 28;rw [Sc _ _ (by rw [ih (by omega)];omega),ih (by omega)]
def cdS (key:LU):LU:=Ak (Ae key) (Dr D8)
theorem E8 (key:LU):(cdS key).length = 56:=by simp [cdS,Ak,Dr];rfl
def GL (key:LU) (k:Nat):LU:=Ak (As ((cdS key).take 28) (k + 1) ++ As ((cdS key).drop 28) (k + 1)) (Dr pc2Tab)
theorem Gg (key:LU) (k:Nat):(GL key k).length = 48:=by simp [GL,Ak,Dr];rfl
theorem Jr (b a n c:Nat) (bs:LU) (w:World) (d:bs.length = n) (i:n <= 1048576) (g:0 < n) (f:RowAt w (some ⟨b,a,none⟩) bs) :
 Calls prog 37 #[.slice (some ⟨b,a,none⟩) n c] w fun e w' =>
  e = .returned (.slice (some ⟨w.heap.size,0,none⟩) n n) /\ AO w' w.heap.size (.slice (some ⟨w.heap.size,0,none⟩) n n) bs /\ Bl w w':=by
 subst d;exact EF (some ⟨b,a,none⟩) c bs w i g f
theorem RowAt.drop {w:World} {b a:Nat} {l:LU} (h:RowAt w (some ⟨b,a,none⟩) l) (n:Nat):RowAt w (some ⟨b,a + n,none⟩) (l.drop n):=by
 rcases h with rfl | ⟨g,d,e,f⟩
 ·exact .inl (by simp)
 ·simp only [Option.some.injEq,Addr.mk.injEq,and_true] at e;obtain ⟨rfl,rfl⟩:=e;refine .inr ⟨b,a + n,rfl,fun i c=>?_⟩;rw [QN] at c;rw [Nat.add_assoc,f (n + i) (by omega)];simp
theorem RowAt.take {w:World} {a:Option Addr} {l:LU} (h:RowAt w a l) (n:Nat):RowAt w a (l.take n):=by
 rcases h with rfl | ⟨b,c,rfl,d⟩
 ·exact .inl (by simp)
 ·refine .inr ⟨b,c,rfl,fun i f=>?_⟩;rw [QI] at f;rw [d i (by omega)];simp [show i < n by omega]
theorem RowAt.news {w:World} {b a:Nat} {l:LU} (h:RowAt w (some ⟨b,a,none⟩) l):∀ j u,(l.map byte)[j]? = some u -> w.cell? ((⟨b,a,none⟩:Addr).add j) = some u:=by
 intro j u d;have c:j < l.length:=by simpa using (List.getElem?_eq_some_iff.1 d).1
 obtain ⟨i,f,e,g⟩:=h.at c;simp only [Option.some.injEq,Addr.mk.injEq,and_true] at e;obtain ⟨rfl,rfl⟩:=e;rw [Go.WideShapes.add_plain,g j c,<- d];simp [c,byte]
theorem Tryz.info22:(prog.info? 22).map (fun i=>(i.zero,i.size,i.bytes)) = some (some (.slice none 0 0),1,24):=by kernel_rfl
def GN (w:World) (vs:List Value) (key:LU):Prop:=∀ i (h:i < vs.length),∃ g a,vs[i] = .slice (some ⟨g,0,none⟩) 48 a /\ RowAt w (some ⟨g,0,none⟩) (GL key i)
theorem BE {w:World} {base n:Nat} {v:Value} {l:LU} (h:AO w base v l) (f:l.length = n) (r:0 < n):∃ g a,n <= a /\ v = .slice (some ⟨g,0,none⟩) n a /\ RowAt w (some ⟨g,0,none⟩) l:=by
 subst f;obtain ⟨p,a,rfl,row,-⟩:=h.own.shape;rcases h.2 with ⟨-,b⟩ | ⟨g,d,i,c,o,j,b,k,m,q⟩
 ·omega
 ·simp only [Value.slice.injEq,true_and] at c;obtain ⟨rfl,rfl⟩:=c;exact ⟨g,a,b,rfl,row⟩
theorem By {w:World} {base n:Nat} {v:Value} {l:LU} (h:AO w base v l) (a:l.length = n):w.ownsRow base 5 1 v n (l.map byte):=by
 subst a;exact h
theorem IE {wr j b:World} {g d n m:Nat} {A B:LU} (i:Below wr.drew.heap.size wr.drew j) (a:b.ownsRow wr.drew.heap.size 5 1 (.slice (some ⟨g,0,none⟩) (n + m) d) (n + m) (A.map byte ++ B.map byte))
 (q:j.grownBy b (Value.slice (some ⟨wr.drew.heap.size,0,none⟩) n n).ownBlock):RowAt b (some ⟨g,0,none⟩) (A ++ B) /\ Bl wr b /\ wr.heap.size <= g /\ n + m <= d:=by
 have t:(A ++ B).length = n + m:=by have:=a.1;simpa using this
 rw [<- Qf] at a;rcases a.2 with ⟨f,-⟩ | ⟨g',s,u,f,o,v,l,-⟩
 ·cases f
 ·simp only [Value.slice.injEq,Option.some.injEq,Addr.mk.injEq,and_true,true_and] at f;obtain ⟨rfl,rfl⟩:=f;refine ⟨?_,(NL i).grown q i.size (fun k r=>by cases r;exact QE _),o,l⟩;have p:AO b wr.drew.heap.size (.slice (some ⟨g,0,none⟩) (A ++ B).length d) (A ++ B):=by unfold AO;rw [t];exact a
  obtain ⟨x,c,e,row,-⟩:=p.own.shape;cases e
  exact row
def To (w wr:World) (key n o:LU) (T k:Nat) (c d v:Value):Prop :=
 (∃ j l a,c = .slice (some ⟨j,l,none⟩) 28 a /\ 28 <= a /\ RowAt wr (some ⟨j,l,none⟩) (As n k) /\ v.ownBlock ≠ some j) /\
 (∃ g m f,d = .slice (some ⟨g,m,none⟩) 28 f /\ 28 <= f /\ RowAt wr (some ⟨g,m,none⟩) (As o k) /\ v.ownBlock ≠ some g) /\
 (∃ vs,vs.length = k /\ wr.ownsRow (T + 1) 22 1 v k vs /\ GN wr vs key /\ ∀ i (h:i < vs.length),∀ b,vs[i].ownBlock = some b -> v.ownBlock ≠ some b) /\
 Blk wr T 3 (BO.map num) /\ Bl w wr
theorem Ls {wr d b:World} {g c n m:Nat} {A B:LU} (a:Bl wr d) (f:b.ownsRow wr.heap.size 5 1 (.slice (some ⟨g,0,none⟩) (n + m) c) (n + m) (A.map byte ++ B.map byte))
 (i:d.grownBy b (Value.slice (some ⟨wr.heap.size,0,none⟩) n n).ownBlock):RowAt b (some ⟨g,0,none⟩) (A ++ B) /\ Bl wr b /\ wr.heap.size <= g /\ n + m <= c :=
 IE (wr:=wr) ⟨a.os,a.tape,a.output,a.size,a.block⟩ f i
theorem Zy (n:Nat) (c d:Option Addr) (b g:Nat) (l:LU) (a:List Nat) (w:World) (i:l.length = n) (o:n <= 1048576) (j:a.length <= 1048576) (f:∀ n ∈ a,1 <= n /\ n <= l.length) (k:RowAt w c l) (m:Gv w d a) :
 Calls prog 179 #[.slice c n b,.slice d a.length g] w fun e w'=>∃ v,e = .returned v /\ AO w' w.heap.size v (Ak l a) /\ Bl w w':=by
 subst i;exact IO c d b g l a w o j f k m
theorem AO.low {w:World} {base:Nat} {v:Value} {l:LU} (h:AO w base v l):∀ g,v.ownBlock = some g -> base <= g:=fun g a=>(h.lt g a).1
theorem RowAt.blk {w:World} {g:Nat} {l:LU} (h:RowAt w (some ⟨g,0,none⟩) l) (a:0 < l.length):g < w.heap.size:=by
 obtain ⟨b,d,e,c⟩:=h.at a;simp only [Option.some.injEq,Addr.mk.injEq,and_true] at e;obtain ⟨rfl,rfl⟩:=e;exact RowAt.lt c a
theorem WX {w wr c E:World} {key Z D0:LU} {T k G F d s v u m p X:Nat} {u6:Value} {vs:List Value} {o:Obj} (a9:w.heap.size <= T) (hT:Blk wr T 3 (BO.map num)) (q:Bl w wr) (W:vs.length = k) (C:wr.ownsRow (T + 1) 22 1 u6 k vs) (z:GN wr vs key) (y:∀ i (h:i < vs.length),∀ b,vs[i].ownBlock = some b -> u6.ownBlock ≠ some b)
 (D:Bl wr c) (R:28 <= v) (O:28 <= u) (I:RowAt c (some ⟨G,0,none⟩) (As Z (k + 1))) (H:RowAt c (some ⟨F,0,none⟩) (As D0 (k + 1))) (lc:0 < (As Z (k + 1)).length) (ld:0 < (As D0 (k + 1)).length) (a7:wr.heap.size <= G) (b0:wr.heap.size <= F) (B:RowAt c (some ⟨d,0,none⟩) (GL key k)) (a5:X <= d) (a6:wr.heap.size <= X)
 (N:E.ownsRow (T + 1) 22 1 (.slice (some ⟨s,0,none⟩) (k + 1) p) (k + 1) (vs ++ [.slice (some ⟨d,0,none⟩) 48 m])) (x:(c.alloc o).grownBy E u6.ownBlock) (a2:u6.ownBlock = some s \/ s = c.heap.size + 1) :
 To w E key Z D0 T (k + 1) (.slice (some ⟨G,0,none⟩) 28 v) (.slice (some ⟨F,0,none⟩) 28 u) (.slice (some ⟨s,0,none⟩) (k + 1) p):=by
 have a3:=hT.lt;have a0:=D.size;have J:∀ b,u6.ownBlock = some b -> b < wr.heap.size /\ T + 1 <= b:=fun b f=>⟨(C.lt b f).2,(C.lt b f).1⟩;have l6:=I.blk lc;have l8:=H.blk ld;have a1:=B.blk (by rw [Gg];omega);have a4:(c.alloc o).heap.size = c.heap.size + 1:=World.size_alloc ..;have r:∀ {g:Nat} {l:LU},RowAt c (some ⟨g,0,none⟩) l -> u6.ownBlock ≠ some g -> RowAt E (some ⟨g,0,none⟩) l:=by
  intro g l h A;have L:RowAt (c.alloc o) (some ⟨g,0,none⟩) l:=h.below ((Below.refl _ _).alloc (QE _) o);exact L.grown x (by rintro a ha;cases ha;exact A)
 have n:∀ b,b < c.heap.size -> u6.ownBlock ≠ some b -> (Value.slice (some ⟨s,0,none⟩) (k + 1) p).ownBlock ≠ some b:=by
  intro b f A e;simp only [Value.ownBlock,Option.some.injEq] at e;rcases a2 with h | h
  ·rw [h,e] at A;exact A rfl
  ·omega
 have n6:u6.ownBlock ≠ some G:=fun e=>by have:=(J _ e).1;omega
 have n8:u6.ownBlock ≠ some F:=fun e=>by have:=(J _ e).1;omega
 have U:u6.ownBlock ≠ some d:=fun e=>by have:=(J _ e).1;omega
 refine ⟨⟨G,0,v,rfl,R,r I n6,n G l6 n6⟩,⟨F,0,u,rfl,O,r H n8,n F l8 n8⟩,⟨vs ++ [.slice (some ⟨d,0,none⟩) 48 m],by simp [W],N,?_,?_⟩,?_,?_⟩
 ·intro i Y;simp only [QC,Qn,qH] at Y
  by_cases h:i < vs.length
  ·obtain ⟨g,V,M,t⟩:=z i h;refine ⟨g,V,by rw [List.getElem_append_left h];exact M,r (t.below D) (y i h g (by rw [M];rfl))⟩
  ·have hi':i = k:=by omega
   subst hi';refine ⟨d,m,?_,r B U⟩;rw [List.getElem_append_right (by omega)];simp [W]
 ·intro i Y b f;simp only [QC,Qn,qH] at Y
  by_cases h:i < vs.length
  ·rw [List.getElem_append_left h] at f;obtain ⟨g,V,M,t⟩:=z i h;have b1:b = g:=by rw [M] at f;simp only [Value.ownBlock,Option.some.injEq] at f;exact f.symm
   have a8:=t.blk (by rw [Gg];omega);exact n b (by omega) (y i h b f)
  ·rw [List.getElem_append_right (by omega)] at f;have hb':b = d:=by simp [Value.ownBlock] at f;exact f.symm
   rw [hb'];exact n d a1 U
 ·have L:Blk (c.alloc o) T 3 (BO.map num):=(hT.below D a3).alloc o;exact L.grown x (fun e=>by have:=(J T e.symm).2;omega)
 ·have L:Bl w (c.alloc o):=(q.trans (D.mono q.size)).alloc (QG q.size a0) o;exact L.grown x (by rw [a4];have:=q.size;omega) (fun j hj=>by have:=(J j hj).2;omega)
theorem V6 (ao:Option Addr) (ca:Nat) (key:LU) (w:World) (h8:key.length = 8) (hr:RowAt w ao key) :
 Calls prog 178 #[.slice ao key.length ca] w fun e w'=>∃ v vs,e = .returned v /\ vs.length = 16 /\ w'.ownsRow w.heap.size 22 1 v 16 vs /\ GN w' vs key /\ Bl w w':=by
 have d6:Hid ((Ae key).length = 64):=by show _ = _;rw [B4,h8]
 have j0:key.length <= 1048576:=by omega
 clear h8;go_enter func178,ntmps178;go_wp2_with fail;refine (IM _ _ key _ j0 hr).mono ?_;rintro e w1 ⟨v1,rfl,e3,L⟩;obtain ⟨a1,c1,rfl,f1,-⟩:=e3.own.shape;go_wp2_with fail;refine (Zq _).mono ?_;rintro e w2 ⟨v2,rfl,f5,I⟩;obtain ⟨a2,c2,rfl,c7⟩:=f5.shape;go_wp2_with fail;refine (IO _ _ _ _ (Ae key) (Dr D8) _ (by rw [d6.out];omega) (by decide) (by rw [d6.out];decide) (f1.below I) c7).mono ?_;rintro e U ⟨v3,rfl,f6,e5⟩;obtain ⟨gc,cc,i3,j8,e7⟩:∃ g a9,56 <= a9 /\ v3 = .slice (some ⟨g,0,none⟩) 56 a9 /\ RowAt U (some ⟨g,0,none⟩) (cdS key):=BE (l:=cdS key) f6 (E8 key) (by omega);subst j8;have bel3':Bl w U:=(L.trans (I.mono L.size)).trans (e5.mono (QG L.size I.size));clear e3 f5 f6 L I e5 f1 c7 hr d6;have j3:(56:Int) <= (cc:Int):=by omega
 go_wp2;have e4:Blk (U.alloc (.cells #[.int .i64 1,.int .i64 1,.int .i64 2,.int .i64 2,.int .i64 2,.int .i64 2,.int .i64 2,.int .i64 2,.int .i64 1,.int .i64 2,.int .i64 2,.int .i64 2,.int .i64 2,.int .i64 2,.int .i64 2,.int .i64 1] 3)) U.heap.size 3 (BO.map num):=Blk.new U _ _;have N:=e7.below ((Below.refl _ U).alloc (QE _) (.cells #[.int .i64 1,.int .i64 1,.int .i64 2,.int .i64 2,.int .i64 2,.int .i64 2,.int .i64 2,.int .i64 2,.int .i64 1,.int .i64 2,.int .i64 2,.int .i64 2,.int .i64 2,.int .i64 2,.int .i64 2,.int .i64 1] 3));have b0:Bl w (U.alloc (.cells #[.int .i64 1,.int .i64 1,.int .i64 2,.int .i64 2,.int .i64 2,.int .i64 2,.int .i64 2,.int .i64 2,.int .i64 1,.int .i64 2,.int .i64 2,.int .i64 2,.int .i64 2,.int .i64 2,.int .i64 2,.int .i64 1] 3)):=bel3'.alloc bel3'.size _;have X:((cdS key).take 28).length = 28:=by rw [QI,E8];rfl
 have Z:((cdS key).drop 28).length = 28:=by rw [QN,E8]
 obtain ⟨m,d5⟩:=uX ((cdS key).take 28);obtain ⟨j,d1⟩:=uX ((cdS key).drop 28);have rC:=N.take 28;have rD:=N.drop 28;rw [QZ] at rD;rw [<- d5] at X rC;rw [<- d1] at Z rD;have g7:Hid (m = (cdS key).take 28 /\ j = (cdS key).drop 28):=⟨d5,d1⟩;obtain ⟨T,Y⟩:=uX (U.heap.size);rw [<- Y] at e4 ⊢;have j6:w.heap.size <= T:=by have:=bel3'.size;omega
 clear e7 N d5 d1 bel3' Y;obtain ⟨i0,d2,e2,c9,c8⟩:=Qg Tryz.info5;obtain ⟨i1,j4,j7,j5,j2⟩:=Qg Tryz.info22
 go_loopw [4,5,6,8,19] (fun c d v _ i wr=>∃ k:Nat,k <= 16 /\ i = .int .i64 k /\ To w wr key m j T k c d v) (fun _ _ _ _ i _=>16 - (intOf i).toNat)
 case atStart=>exact ⟨0,QU _,rfl,⟨gc,0,cc,rfl,by omega,rC,by simp [Value.ownBlock]⟩,⟨gc,28,cc - 28,rfl,by omega,rD,by simp [Value.ownBlock]⟩,⟨[],rfl,Qa _ _ _ _,fun i h=>absurd h (by simp),fun i h=>absurd h (by simp)⟩,e4,b0⟩
 case round =>
  clear e4 b0 rC rD j3 i3;obtain ⟨k,hk,rfl,⟨bc,oc,y,rfl,l6,f2,k4⟩,⟨bd,od,G,rfl,l8,d4,l2⟩,⟨vs,h4,o,F,b7⟩,Y,W⟩:=hrel
  by_cases hlt:k < 16
  ·have ht:=GR k hlt;obtain ⟨t,c6,Ht⟩:∃ t,BO.getD k 0 = t /\ Hid (BO.getD k 0 = t):=⟨_,rfl,rfl⟩;have k5:wr.cell? ⟨T,k,none⟩ = some (.int .i64 (t:Int)):=by
    rw [Y.cell k (by simpa [BO] using hlt),<- c6];have:k < BO.length:=hlt;simp [num,this]
   rw [c6] at ht;clear c6;have lc:=DW m X k hk;have ld:=DW j Z k hk;have e0:Hid ((As m k).length = 28):=lc;have c5:Hid ((As j k).length = 28):=ld;clear lc ld;have l1:(28:Int) <= (y:Int):=by omega
   have k8:(0:Int) <= (t:Int) /\ (t:Int) <= 28:=by omega
   have k2:(t:Int) <= (y:Int):=by omega
   have k1:(t:Int) <= (G:Int):=by omega
   have l0:¬ y = t:=by omega
   have k9:¬ G = t:=by omega
   go_wp2;have D:=f2.drew1;go_region_held3 (fun _=>True) (trivial) (first
    | (go_at_call 37;refine (Jr bc (oc + t) (28 - t) (y - t) ((As m k).drop t) _ (by rw [QN,e0.out]) (by omega) (by omega) (D.drop t)).mono ?_;rintro e w5 ⟨rfl,d0,H⟩;have b1:=By d0 (by rw [QN,e0.out]))
    | (refine step_append_lies _ (by rfl) _ _ 22 (by rfl) _ 5 i0 (.int .u8 0) 1 1 underlying22 d2 e2 c9 c8 rfl (by decide) _ _ _ (by rfl) b1 ⟨bc,oc,none⟩ t y (((As m k).take t).map byte) (by rfl) (by rw [QD,QI,e0.out];omega) ((D.below H).take t).news (by intro u z;simp only [Qz] at z;obtain ⟨q,-,rfl⟩:=z;rfl) (by omega) (by unfold maxLen;omega) (by omega) H.size w5.heap.size rfl ?_;intro g6 h7 w6 d3 h0 h6 i7))
   obtain ⟨a8,f,i8,c4⟩:=IE (A:=(As m k).drop t) (B:=(As m k).take t) H d3 h0;rw [show 28 - t + t = 28 from by omega] at c4 ⊢;have a0:=d4.below f;clear d0 b1 H d3 h0 h6 i7 f2 D d4;go_wp2;have E:=a0.drew1;go_region_held3 (fun _=>True) (trivial) (first
    | (go_at_call 37;refine (Jr bd (od + t) (28 - t) (G - t) ((As j k).drop t) _ (by rw [QN,c5.out]) (by omega) (by omega) (E.drop t)).mono ?_;rintro e w7 ⟨rfl,f3,M⟩;have a4:=By f3 (by rw [QN,c5.out]))
    | (refine step_append_lies _ (by rfl) _ _ 22 (by rfl) _ 5 i0 (.int .u8 0) 1 1 underlying22 d2 e2 c9 c8 rfl (by decide) _ _ _ (by rfl) a4 ⟨bd,od,none⟩ t G (((As j k).take t).map byte) (by rfl) (by rw [QD,QI,c5.out];omega) ((E.below M).take t).news (by intro u z;simp only [Qz] at z;obtain ⟨q,-,rfl⟩:=z;rfl) (by omega) (by unfold maxLen;omega) (by omega) M.size w7.heap.size rfl ?_;intro g8 i4 w8 e1 h2 i6 h9))
   obtain ⟨x,n,i5,a5⟩:=IE (A:=(As j k).drop t) (B:=(As j k).take t) M e1 h2;rw [show 28 - t + t = 28 from by omega] at a5 ⊢;have s:=a8.below n;clear f3 a4 M e1 h2 i6 h9 a0 E a8;go_wp2_with fail;have h3:(As m k).drop t ++ (As m k).take t = As m (k + 1):=by
    show _ = IL (As m k) (BO.getD k 0);rw [Ht.out];rfl
   have g9:(As j k).drop t ++ (As j k).take t = As j (k + 1):=by
    show _ = IL (As j k) (BO.getD k 0);rw [Ht.out];rfl
   rw [h3] at s;rw [g9] at x;have b6:Hid ((As m (k + 1)).length = 28):=DW m X (k + 1) (by omega);have e8:Hid ((As j (k + 1)).length = 28):=DW j Z (k + 1) (by omega);clear h3 g9;refine (Jr g6 0 28 h7 (As m (k + 1)) _ b6.out (by omega) (by omega) s).mono ?_;rintro e w9 ⟨rfl,f0,O⟩;have a3:=By f0 b6.out;have c3:=x.below O;go_wp2_with (at_builtin;refine wpList_append_lies _ rfl _ _ 22 rfl _ 5 i0 (.int .u8 0) 1 1 underlying22 d2 e2 c9 c8 rfl (by decide) _ _ _ rfl a3 ⟨g8,0,none⟩ 28 i4 ((As j (k + 1)).map byte) rfl (by rw [QD,e8.out]) c3.news (by intro u z;simp only [Qz] at z;obtain ⟨q,-,rfl⟩:=z;rfl) (by omega) (by unfold maxLen;omega) (by omega) O.size w9.heap.size rfl ?_;intro k3 k0 l9 a6 e6 g5 f8)
   obtain ⟨a7,a,-,-⟩:=Ls (A:=As m (k + 1)) (B:=As j (k + 1)) O a6 e6;clear f0 a3 a6 e6 g5 f8;refine (aj _).mono ?_;rintro e k6 ⟨l7,rfl,b2,b⟩;obtain ⟨m0,k7,rfl,b4⟩:=b2.shape;have f4:Hid ((As m (k + 1) ++ As j (k + 1)).length = 56):=by show _ = _;rw [QC,b6.out,e8.out]
   go_wp2_with fail;refine (Zy 56 _ _ _ _ (As m (k + 1) ++ As j (k + 1)) (Dr pc2Tab) _ f4.out (by omega) (by decide) (by rw [f4.out];decide) (a7.below b) b4).mono ?_;rintro e C ⟨l5,rfl,p,J⟩;have h5:Ak (As m (k + 1) ++ As j (k + 1)) (Dr pc2Tab) = GL key k:=by unfold GL;rw [<- g7.out.1,<- g7.out.2]
   rw [h5] at p;have g0:=p.low;obtain ⟨h1,f7,-,i2,b9⟩:=BE p (Gg key k) (by omega);subst i2;have c0:Bl wr C:=(((f.trans (n.mono f.size)).trans (a.mono (QG f.size n.size))).trans (b.mono (QG f.size (QG n.size a.size)))).trans (J.mono (QG f.size (QG n.size (QG a.size b.size))));have b8:Bl w8 C:=(a.trans (b.mono a.size)).trans (J.mono (QG a.size b.size));have V:C.ownsRow (T + 1) 22 1 u6 k vs:=o.kept (grown_of_below c0 none) (by cases hv:u6.ownBlock <;> simp);have i9:T + 1 <= C.heap.size:=by have:=Y.lt;have:=c0.size;omega
   go_wp2_with (at_builtin;refine wpList_append_lies _ rfl _ _ 126 rfl (T + 1) 22 i1 (.slice none 0 0) 1 24 underlying126 j4 j7 j5 j2 rfl (by decide) _ _ _ rfl (V.alloc _) ⟨C.heap.size,0,none⟩ 1 1 [.slice (some ⟨h1,0,none⟩) 48 f7] rfl rfl (qy _ _ _) (by intro u z;simp at z;subst z;rfl) (by omega) (by unfold maxLen;omega) (by omega) (by simp;omega) (C.heap.size + 1) (by simp) ?_;intro l4 j9 l3 b3 e9 b5 f9)
   have R:=WX j6 Y W h4 o F b7 c0 c4 a5 (s.below b8) (x.below b8) (by rw [b6.out];omega) (by rw [e8.out];omega) i8 (QG f.size i5) b9 (g0 h1 rfl) (QG f.size (QG n.size (QG a.size b.size))) b3 e9 b5;clear b3 e9 b5 f9 V p b2 a7 b4 b9 s x c3 c0 b8 f n O a b J o F b7 Y W h5;go_wp2;go_roundw
   case rel=>exact ⟨k + 1,by omega,by go_num,R⟩
   case measure=>simp [intOf];omega
  ·obtain rfl:k = 16:=by omega
   go_wp2;go_ret;refine ⟨_,vs,rfl,h4,?_,F,W⟩;exact ⟨o.1,by
    rcases o.2 with h | ⟨g,a9,j1,hv,hb,r⟩
    ·exact .inl h
    ·exact .inr ⟨g,a9,j1,hv,by omega,r⟩⟩
theorem Io (l:LU) (b:UInt8):AI (l ++ [b]) = 2 * AI l + b.toNat:=by simp [AI]
theorem GO (l:LU) (h:AP l):AI l < 2 ^ l.length:=by
 have:∀ t,l.foldl (fun t b=>2 * t + b.toNat) t < (t + 1) * 2 ^ l.length:=by
  induction l with
  | nil=>intro t;simp
  | cons c l ih =>
    intro t;have f:=h c (by simp);have a:=ih (fun b d=>h b (by simp [d])) (2 * t + c.toNat);simp only [qI,Qn];refine QX a ?_;rw [Nat.pow_succ,Nat.mul_comm (2 ^ l.length) 2,<- Nat.mul_assoc];exact qU _ (by omega)
 simpa [AI] using this 0
def seg (l:LU) (i j:Nat):LU:=((l.take i).drop (8 * j)).take 8
def Gl (l:LU) (i j:Nat):UInt8:=UInt8.ofNat (AI (seg l i j))
def CR (l:LU) (i:Nat):LU:=(List.range (l.length / 8)).map (Gl l i)
def Ar (l:LU):LU:=CR l l.length
theorem Ck (l:LU) (i:Nat):(CR l i).length = l.length / 8:=by simp [CR]
theorem ZG (l:LU) (i:Nat) (h:i < l.length):seg l (i + 1) (i / 8) = seg l i (i / 8) ++ [l[i]]:=by
 unfold seg;rw [B3 l i h,Qy (by simp;omega)];have a:((l.take i).drop (8 * (i / 8))).length = i - 8 * (i / 8):=by simp;omega
 rw [List.take_append,QS (l:=(l.take i).drop (8 * (i / 8))) (by omega),a];rw [QS (l:=[l[i]]) (by simp;omega)]
theorem Wg (l:LU) (i j:Nat) (a:j ≠ i / 8):seg l (i + 1) j = seg l i j:=by
 unfold seg;apply qA;intro m;simp only [List.getElem?_take,List.getElem?_drop]
 by_cases hm:m < 8
 ·simp only [hm,if_true]
  by_cases h1:8 * j + m < i
  ·simp [h1,show 8 * j + m < i + 1 by omega]
  ·rw [if_neg h1,if_neg (by omega)]
 ·simp [hm]
theorem Xh {l:LU} (h:AP l) (i j:Nat):AP (seg l i j):=fun b a=>h b (qV (qn (qV a)))
theorem dQ {l:LU} (h:AP l) (i:Nat) (b:i < l.length):AI (seg l i (i / 8)) < 128:=by
 have d:=GO _ (Xh h i (i / 8));have a:(seg l i (i / 8)).length <= 7:=by unfold seg;simp;omega
 have c:=qo (n:=2) (by omega) a;omega
theorem Uz (l:LU) (i:Nat) (h:i < l.length) (v:UInt8) (a:v = UInt8.ofNat (2 * AI (seg l i (i / 8)) + l[i].toNat)):(CR l i).set (i / 8) v = CR l (i + 1):=by
 apply qL
 ·simp [CR]
 ·intro j c b;rw [Ck] at b;rw [List.getElem_set]
  by_cases hj:i / 8 = j
  ·rw [if_pos hj];subst hj;simp [CR,Gl,a,ZG l i h,Io]
  ·rw [if_neg hj];simp [CR,Gl,Wg l i j (fun e=>hj e.symm)]
theorem U9 (o x:Nat) (a:o < 128) (b:x <= 1):bits BinOp.or IntKind.u8 ((o:Int) * 2 % 256) (x:Int) = ((2 * o + x:Nat):Int):=by
 have e:(o:Int) * 2 % 256 = ((2 * o:Nat):Int):=by omega
 rw [e,u8_or_nat _ _ (by omega) (by omega),nat_join 1 (2 * o) x (by omega) (by omega)]
theorem Se (o x:Nat) (a:o < 128) (b:x <= 1):bits BinOp.or IntKind.u8 ((o:Int) * 2) (x:Int) = ((2 * o + x:Nat):Int):=by
 have:=U9 o x a b;rw [show (o:Int) * 2 % 256 = (o:Int) * 2 from by omega] at this;exact this
theorem Jw (F:Option Addr) (G:Nat) (l:LU) (w:World) (hn:l.length <= 1048576) (h8:l.length % 8 = 0) (A:AP l) (B:RowAt w F l) :
 Calls prog 84 #[.slice F l.length G] w fun e w'=>∃ v,e = .returned v /\ AO w' w.heap.size v (Ar l) /\ Bl w w':=by
 obtain ⟨V,M,D,E,C⟩:=Qg Tryz.info5;obtain ⟨m,T,X,n⟩:∃ m:Nat,((l.length:Int) / 8) = (m:Int) /\ m <= 131072 /\ Hid (m = l.length / 8):=⟨l.length / 8,by omega,by omega,rfl⟩;go_enter func84,ntmps84;go_wp2_with (at_make;refine Qv _ rfl _ _ 22 rfl w.heap.size 5 V (.int .u8 0) 1 underlying22 M D E .i64 .i64 _ _ m rfl rfl rfl rfl (by rw [C];omega) (by unfold maxLen;omega) (QE _) ?_;intro U g d)
 have f:U.ownsRow w.heap.size 5 1 (.slice (some ⟨w.heap.size,0,none⟩) m m) m ((CR l 0).map byte):=by
  have e:(CR l 0).map byte = List.replicate m (.int .u8 0):=by
   rw [n.out];apply qL
   ·simp [CR]
   ·intro j y H;simp [CR,Gl,seg,AI,byte]
  rw [e,<- Cl];exact g
 have s:=Ac d;clear g d T
 go_loopw [4,5,12] (fun _ _ i wr=>∃ k:Nat,k <= l.length /\ i = .int .i64 k /\ wr.ownsRow w.heap.size 5 1 (.slice (some ⟨w.heap.size,0,none⟩) m m) m ((CR l k).map byte) /\ Bl w wr) (fun _ _ i _=>l.length - (intOf i).toNat)
 case atStart=>exact ⟨0,QU _,rfl,f,s⟩
 case round =>
  obtain ⟨k,hk,rfl,a,c⟩:=hrel;clear f s
  by_cases hlt:k < l.length
  ·obtain ⟨b,z,rfl,x⟩:=B.at hlt;have Z:wr.cell? ⟨b,z + k,none⟩ = some (.int .u8 (l[k].toNat:Int)):=(c.cell (RowAt.lt x hlt)).trans ((x k hlt).trans (by simp [hlt]));obtain ⟨q,hq,J,u⟩:∃ q:Nat,((k:Int) / 8) = (q:Int) /\ q < m /\ Hid (q = k / 8):=⟨k / 8,by omega,by have:=n.out;omega,rfl⟩;have W:wr.frozen? ⟨w.heap.size,q,none⟩ = false:=a.frozenAt q;obtain ⟨o,ho,r,N⟩:∃ o:Nat,wr.cell? ⟨w.heap.size,q,none⟩ = some (.int .u8 (o:Int)) /\ o < 128 /\ Hid (o = AI (seg l k (k / 8))):=by
    have y:=dQ A k hlt;refine ⟨_,?_,y,rfl⟩;rw [a.cellAt q (by omega)];have H:q < (CR l k).length:=by rw [Ck,<- n.out];exact J
    rw [List.getElem?_map,List.getElem?_eq_getElem H];have O:(CR l k)[q] = Gl l k (k / 8):=by simp [CR,u.out]
    rw [O];simp only [Option.map_some,byte,Gl,Qb];rw [qF (Nat.lt_trans y (by decide))]
   have L:=A l[k] (Qd hlt);have R:Hid ((2 * o + l[k].toNat:Nat) = 2 * AI (seg l k (k / 8)) + l[k].toNat):=by show _ = _;rw [N.out]
   have t:=(a.stored q (byte (UInt8.ofNat (2 * o + l[k].toNat)))).1;rw [<- qP,u.out,Uz l k hlt _ (by rw [R.out]),<- u.out] at t;have I:=c.setCell (p:=⟨w.heap.size,q,none⟩) (QE _) (byte (UInt8.ofNat (2 * o + l[k].toNat)));have HE:Hid (byte (UInt8.ofNat (2 * o + l[k].toNat)) = .int .u8 ((2 * o + l[k].toNat:Nat):Int)):=by
    show _ = _;unfold byte;rw [Qb,qF (by omega)]
   have Y:(q:Int) < (m:Int):=by omega
   clear a c x B;go_wp2;go_roundw
   case rel =>
    rw [Se o l[k].toNat r L,<- HE.out];exact ⟨k + 1,by omega,by go_num,t,I⟩
   case measure=>simp [intOf];omega
  ·go_wp2;go_ret;obtain rfl:k = l.length:=by omega
   exact ⟨_,rfl,by unfold AO;show World.ownsRow _ _ _ _ _ (CR l l.length).length _;rw [Ck,<- n.out];exact a,c⟩
def BT (key:LU) (a:Bool) (i:Nat):LU:=if a then GL key (15 - i) else GL key i
def BC (a:Nat -> LU) (l r:LU):Nat -> LU × LU
 | 0=>(l,r)
 | k + 1=>((BC a l r k).2,AE (BC a l r k).1 (Db (BC a l r k).2 (a k)))
def xS (a:LU):LU:=Ak (Ae a) A7
theorem Fg (a:LU):(xS a).length = 64:=by simp [xS,Ak,Cj]
def DP (a:LU):Nat -> LU
 | 0=>List.replicate 64 0
 | i + 1=>(DP a i).set (A7.getD i 0 - 1) (a.getD i 0)
theorem DT (a:LU) (i:Nat):(DP a i).length = 64:=by
 induction i with
 | zero=>simp [DP]
 | succ i ih=>simp [DP,ih]
def desS (key a:LU) (b:Bool):LU :=
 Ar (DP ((BC (BT key b) ((xS a).take 32) ((xS a).drop 32) 16).2 ++ (BC (BT key b) ((xS a).take 32) ((xS a).drop 32) 16).1) 64)
theorem Hu (bs:LU):AP (Ae bs):=by
 intro b a;simp only [Ae,List.mem_flatMap,CG,Qz] at a;obtain ⟨x,-,j,-,rfl⟩:=a;unfold Fd;rw [Qb];omega
theorem Wp {l:LU} (h:AP l) (n:Nat):AP (IL l n):=by
 intro b a;simp only [IL,List.mem_append] at a;rcases a with a | a
 ·exact h b (qn a)
 ·exact h b (qV a)
theorem F2 {l:LU} (h:AP l) (k:Nat):AP (As l k):=by
 induction k with
 | zero=>exact h
 | succ k ih=>exact Wp ih _
theorem MR (key:LU):AP (cdS key):=El (Hu key)
theorem GJ {a b:LU} (d:AP a) (f:AP b):AP (a ++ b):=by
 intro x c;rcases List.mem_append.1 c with h | h
 ·exact d x h
 ·exact f x h
theorem V8 (key:LU) (k:Nat):AP (GL key k) :=
 El (GJ (F2 (fun b a=>MR key b (qV a)) _) (F2 (fun b a=>MR key b (qn a)) _))
theorem Ih (key:LU) (a:Bool) (i:Nat):AP (BT key a i):=by unfold BT;split <;> exact V8 _ _
theorem Gd (key:LU) (a:Bool) (i:Nat):(BT key a i).length = 48:=by unfold BT;split <;> exact Gg _ _
theorem XQ (v:Nat):AP (nib v):=by
 intro b a;simp only [nib,qx,qd,or_false] at a;rcases a with rfl | rfl | rfl | rfl <;> (rw [Qb];omega)
theorem Le (x:LU) (k:Nat):AP (CI x k):=by
 induction k with
 | zero=>intro b a;simp [CI] at a
 | succ k ih=>exact GJ ih (XQ _)
theorem LP (r key:LU):AP (Db r key):=El (Le _ _)
theorem G1 (r key:LU):(Db r key).length = 32:=by simp [Db,Ak,Dr];rfl
theorem Nb (a:LU):AP (xS a):=El (Hu a)
theorem L0 (a:Nat -> LU) (l r:LU) (m:l.length = 32) (j:r.length = 32) (d:AP l) (i:AP r) (k:Nat) :
 (BC a l r k).1.length = 32 /\ (BC a l r k).2.length = 32 /\ AP (BC a l r k).1 /\ AP (BC a l r k).2:=by
 induction k with
 | zero=>exact ⟨m,j,d,i⟩
 | succ k ih =>
   obtain ⟨b,f,c,g⟩:=ih;exact ⟨f,by show (AE _ _).length = 32;rw [AW _ _ (by rw [b,G1])];exact b,g,MU c (LP _ _)⟩
theorem K7 (a:LU) (h:AP a) (i:Nat):AP (DP a i):=by
 induction i with
 | zero=>intro b c;simp [DP] at c;rw [c];decide
 | succ i ih =>
   intro b c;rcases List.mem_or_eq_of_mem_set c with d | d
   ·exact ih b d
   ·rw [d]
    by_cases hi:i < a.length
    ·rw [QA,List.getElem?_eq_getElem hi];exact h _ (Qd hi)
    ·rw [QA,List.getElem?_eq_none (by omega)];decide
theorem Rc (n m:Nat) (a b:Option Addr) (f i:Nat) (r key:LU) (w:World) (k:r.length = n) (l:key.length = m) (d:n = 32) (c:m = 48) (g:AP r) (j:AP key) (o:RowAt w a r) (p:RowAt w b key) :
 Calls prog 181 #[.slice a n f,.slice b m i] w fun e w'=>∃ v,e = .returned v /\ AO w' w.heap.size v (Db r key) /\ Bl w w':=by
 subst k;subst l;exact VO a b f i r key w d c g j o p
theorem Vw (n m:Nat) (f d:Option Addr) (c k:Nat) (a b:LU) (w:World) (i:a.length = n) (g:b.length = m) (l:n <= 1048576) (j:n = m) (o:RowAt w f a) (p:RowAt w d b) :
 Calls prog 143 #[.slice f n c,.slice d m k] w fun e w' =>
  e = .returned (.slice (some ⟨w.heap.size,0,none⟩) n n) /\ AO w' w.heap.size (.slice (some ⟨w.heap.size,0,none⟩) n n) (AE a b) /\ Bl w w':=by
 subst i;subst g;exact H7 f d c k a b w l j o p
theorem Zm (n:Nat) (a:Option Addr) (b:Nat) (key:LU) (w:World) (c:key.length = n) (d:n = 8) (f:RowAt w a key) :
 Calls prog 178 #[.slice a n b] w fun e w'=>∃ v vs,e = .returned v /\ vs.length = 16 /\ w'.ownsRow w.heap.size 22 1 v 16 vs /\ GN w' vs key /\ Bl w w':=by
 subst c;exact V6 a b key w d f
theorem bI (n:Nat) (b:Option Addr) (a:Nat) (bs:LU) (w:World) (f:bs.length = n) (c:n <= 1048576) (d:RowAt w b bs) :
 Calls prog 148 #[.slice b n a] w fun e w'=>∃ v,e = .returned v /\ AO w' w.heap.size v (Ae bs) /\ Bl w w':=by
 subst f;exact IM b a bs w c d
theorem UE {w:World} {base:Nat} {v:Value} {vs:List Value} (h:w.ownsRow base 22 1 v 16 vs) (o:vs.length = 16) :
 ∃ g a,v = .slice (some ⟨g,0,none⟩) 16 a /\ (∀ i (h:i < vs.length),w.cell? ⟨g,i,none⟩ = some vs[i]) /\ g < w.heap.size:=by
 rcases h.2 with ⟨-,c⟩ | ⟨g,a,j,f,m,b,c,k,l,n⟩
 ·omega
 ·subst f;refine ⟨g,a,rfl,fun i d=>?_,qS b⟩;rw [h.cellAt i (by omega),List.getElem?_eq_getElem d]
theorem MQ:∀ n ∈ A7,1 <= n /\ n <= 64:=by decide +kernel
theorem Wc (n:Nat) (b:Option Addr) (a:Nat) (l:LU) (w:World) (i:l.length = n) (c:n <= 1048576) (f:n % 8 = 0) (d:AP l) (g:RowAt w b l) :
 Calls prog 84 #[.slice b n a] w fun e w'=>∃ v,e = .returned v /\ AO w' w.heap.size v (Ar l) /\ Bl w w':=by
 subst i;exact Jw b a l w c f d g
def WP (w wr:World) (key m n:LU) (b:Bool) (o:Nat) (vs:List Value) (k:Nat) (l r:Value):Prop :=
 (∃ f d c,l = .slice (some ⟨f,d,none⟩) 32 c /\ 32 <= c /\ RowAt wr (some ⟨f,d,none⟩) (BC (BT key b) m n k).1) /\
 (∃ j a g,r = .slice (some ⟨j,a,none⟩) 32 g /\ 32 <= g /\ RowAt wr (some ⟨j,a,none⟩) (BC (BT key b) m n k).2) /\
 (∀ i (h:i < vs.length),wr.cell? ⟨o,i,none⟩ = some vs[i]) /\ GN wr vs key /\ Bl w wr
theorem Pm {w wr b m:World} {key d c:LU} {a:Bool} {D k z l s:Nat} {vs:List Value} (C:(BC (BT key a) d c k).1.length = 32) (B:(Db (BC (BT key a) d c k).2 (BT key a k)).length = 32) (A:32 <= s) (x:RowAt wr (some ⟨z,l,none⟩) (BC (BT key a) d c k).2)
 (q:∀ i (h:i < vs.length),wr.cell? ⟨D,i,none⟩ = some vs[i]) (p:GN wr vs key) (j:Bl w wr) (f:Bl wr b) (y:AO m b.heap.size (.slice (some ⟨b.heap.size,0,none⟩) 32 32) (AE (BC (BT key a) d c k).1 (Db (BC (BT key a) d c k).2 (BT key a k)))) (v:Bl b m) :
 WP w m key d c a D vs (k + 1) (.slice (some ⟨z,l,none⟩) 32 s) (.slice (some ⟨b.heap.size,0,none⟩) 32 32):=by
 have o:Bl wr m:=f.trans (v.mono f.size);obtain ⟨g,r,E,u,row⟩:=BE (n:=32) y (by rw [AW _ _ (by rw [C,B]),C]) (by omega);cases u
 exact ⟨⟨z,l,s,rfl,A,x.below o⟩,⟨b.heap.size,0,32,rfl,QE _,row⟩,fun i h=>cell_later o (q i h),fun i h=>by obtain ⟨g,r,u,t⟩:=p i h;exact ⟨g,r,u,t.below o⟩,j.trans (o.mono j.size)⟩
theorem L2 (ak ab:Option Addr) (ck cb:Nat) (key a:LU) (n:Bool) (w:World) (k3:key.length = 8) (h4:a.length = 8) (rk:RowAt w ak key) (rb:RowAt w ab a) :
 Calls prog 146 #[.slice ak 8 ck,.slice ab 8 cb,.bool n] w fun e w'=>∃ v,e = .returned v /\ AO w' w.heap.size v (desS key a n) /\ Bl w w':=by
 go_enter func146,ntmps146;go_wp2_with fail;refine (Zm 8 _ _ key _ k3 rfl rk).mono ?_;rintro e w1 ⟨v1,vs,rfl,k4,d2,f,b0⟩;obtain ⟨gk,l1,rfl,W,j2⟩:=UE d2 k4;go_wp2_with fail;refine (bI 8 _ _ a _ h4 (by omega) (rb.below b0)).mono ?_;rintro e w2 ⟨v2,rfl,e5,T⟩;obtain ⟨a2,c2,rfl,c0,-⟩:=e5.own.shape;go_wp2_with fail;refine (XC _).mono ?_;rintro e w3 ⟨v3,rfl,e4,U⟩;obtain ⟨a3,c3,rfl,d3⟩:=e4.shape;have b7:Hid ((Ae a).length = 64):=by show _ = _;rw [B4,h4]
 go_wp2_with fail;refine (IO _ _ _ _ (Ae a) A7 _ (by rw [b7.out];omega) (by rw [Cj];omega) (by rw [b7.out];exact MQ) (c0.below U) d3).mono ?_;rintro e w4 ⟨v4,rfl,c9,c6⟩;obtain ⟨g4,c4,j5,j4,a1⟩:=BE (l:=xS a) c9 (Fg a) (by omega);subst j4;have b3:Bl w1 w4:=(T.trans (U.mono T.size)).trans (c6.mono (QG T.size U.size));have i3:Bl w w4:=b0.trans (b3.mono b0.size);have h7:GN w4 vs key:=fun i h=>by obtain ⟨g,j7,hv,i5⟩:=f i h;exact ⟨g,j7,hv,i5.below b3⟩
 have a0:∀ i (h:i < vs.length),w4.cell? ⟨gk,i,none⟩ = some vs[i]:=fun i h=>(b3.cell (p:=⟨gk,i,none⟩) j2).trans (W i h);have j6:(64:Int) <= (c4:Int):=by omega
 clear d2 e5 e4 c9 T U c6 c0 d3 f W rk rb;go_wp2;have e6:((xS a).take 32).length = 32:=by rw [QI,Fg];rfl
 have d6:((xS a).drop 32).length = 32:=by rw [QN,Fg]
 have c7:AP ((xS a).take 32):=fun b hb=>Nb a b (qV hb);have d4:AP ((xS a).drop 32):=fun b hb=>Nb a b (qn hb);have b9:=a1.take 32;have b5:=a1.drop 32;rw [QZ] at b5;obtain ⟨z,a5⟩:=uX ((xS a).take 32);obtain ⟨x,a6⟩:=uX ((xS a).drop 32);rw [<- a5] at e6 c7 b9;rw [<- a6] at d6 d4 b5;have f0:Hid (z = (xS a).take 32 /\ x = (xS a).drop 32):=⟨a5,a6⟩;have g6:=L0 (BT key n) z x e6 d6 c7 d4;have h5:=fun k=>(show Hid ((BC (BT key n) z x k).1.length = 32 /\ (BC (BT key n) z x k).2.length = 32 /\ AP (BC (BT key n) z x k).1 /\ AP (BC (BT key n) z x k).2) from g6 k);clear a5 a6 g6 a1 e6 d6 c7 d4 b7
 go_loopw [9,10,11,12,13,38] (fun l r _ _ _ i wr=>∃ k:Nat,k <= 16 /\ i = .int .i64 k /\ WP w wr key z x n gk vs k l r) (fun _ _ _ _ _ i _=>16 - (intOf i).toNat)
 case atStart=>exact ⟨0,QU _,rfl,⟨g4,0,c4,rfl,by omega,b9⟩,⟨g4,32,c4 - 32,rfl,by omega,b5⟩,a0,h7,i3⟩
 case round =>
  clear b9 b5 a0 h7 i3 b3 j6 j5;obtain ⟨k,hk,rfl,⟨bl,ol,cl,rfl,l6,F⟩,⟨br,k2,cr,rfl,h6,C⟩,G,f,s⟩:=hrel
  by_cases hlt:k < 16
  ·obtain ⟨ga,ca,k1,-⟩:=f k (by omega);obtain ⟨gj,cj,f7,b1⟩:=f (15 - k) (by omega);obtain ⟨gi,ci,h1,a4⟩:=f k (by omega);have h3:wr.cell? ⟨gk,k,none⟩ = some (.slice (some ⟨gi,0,none⟩) 48 ci):=by rw [G k (by omega),h1]
   obtain ⟨j,hj,k8,Hj⟩:∃ j:Nat,(15 - (k:Int)) = (j:Int) /\ j < 16 /\ Hid (j = 15 - k):=⟨15 - k,by omega,by omega,rfl⟩;have h0:wr.cell? ⟨gk,j,none⟩ = some (.slice (some ⟨gj,0,none⟩) 48 cj):=by
    have:=G (15 - k) (by omega);rw [Hj.out,this,f7]
   obtain ⟨f1,f2,f3,f4⟩:=(h5 k).out;have l5:(j:Int) < 16:=by omega
   have N:Hid ((Db (BC (BT key n) z x k).2 (BT key n k)).length = 32):=G1 _ _;have J:Hid ((BC (BT key n) z x k).1.length = 32):=f1;have M:Hid ((BC (BT key n) z x k).2.length = 32):=f2;have V:Hid (∀ i (h:i < vs.length),wr.cell? ⟨gk,i,none⟩ = some vs[i]):=G;clear f1 f2 k1 f7 h1 G;cases n
   ·go_wp2_with fail;refine (Rc 32 48 _ _ _ _ (BC (BT key false) z x k).2 (BT key false k) _ M.out (Gd _ _ _) rfl rfl f4 (Ih _ _ _) C a4).mono ?_;rintro e w5 ⟨v5,rfl,D,d⟩;obtain ⟨g5,c5,k0,e0,I⟩:=BE D N.out (by omega);subst e0;go_wp2_with fail;refine (Vw 32 32 _ _ _ _ (BC (BT key false) z x k).1 (Db (BC (BT key false) z x k).2 (BT key false k)) _ J.out N.out (by omega) rfl (F.below d) I).mono ?_;rintro e w6 ⟨rfl,E,t⟩;have R:=Pm J.out N.out h6 C V.out f s d E t;clear D E d t I F C a4 b1 f s h3 h0;go_wp2;go_roundw
    case rel=>exact ⟨k + 1,by omega,by go_num,R⟩
    case measure=>simp [intOf];omega
   ·go_wp2_with fail;refine (Rc 32 48 _ _ _ _ (BC (BT key true) z x k).2 (BT key true k) _ M.out (Gd _ _ _) rfl rfl f4 (Ih _ _ _) C b1).mono ?_;rintro e w5 ⟨v5,rfl,D,d⟩;obtain ⟨g5,c5,k0,e0,I⟩:=BE D N.out (by omega);subst e0;go_wp2_with fail;refine (Vw 32 32 _ _ _ _ (BC (BT key true) z x k).1 (Db (BC (BT key true) z x k).2 (BT key true k)) _ J.out N.out (by omega) rfl (F.below d) I).mono ?_;rintro e w6 ⟨rfl,E,t⟩;have R:=Pm J.out N.out h6 C V.out f s d E t;clear D E d t I F C a4 b1 f s h3 h0;go_wp2;go_roundw
    case rel=>exact ⟨k + 1,by omega,by go_num,R⟩
    case measure=>simp [intOf];omega
  ·obtain rfl:k = 16:=by omega
   obtain ⟨f1,f2,f3,f4⟩:=(h5 16).out;obtain ⟨L,hL,HL⟩:∃ L,L = (BC (BT key n) z x 16).1 /\ Hid (L = (BC (BT key n) z x 16).1):=⟨_,rfl,rfl⟩;obtain ⟨R,hR,HR⟩:∃ R,R = (BC (BT key n) z x 16).2 /\ Hid (R = (BC (BT key n) z x 16).2):=⟨_,rfl,rfl⟩;rw [<- hL] at F f1 f3;rw [<- hR] at C f2 f4;have J:Hid (L.length = 32):=f1;have M:Hid (R.length = 32):=f2;clear f1 f2 hL hR G f;obtain ⟨i0,f9,h2,f5,f6⟩:=Qg Tryz.info5;go_wp2_with (at_make;refine Qv _ rfl _ _ 22 rfl wr.heap.size 5 i0 (.int .u8 0) 1 underlying22 f9 h2 f5 .i64 .i64 _ _ 64 rfl rfl rfl rfl (by rw [f6];omega) (by unfold maxLen;omega) (QE _) ?_;intro w5 D g9)
   have d:=Ac g9;have X:Blk w5 wr.heap.size 5 ((DP (R ++ L) 0).map byte):=by
    have:=C8 D;rw [Cl] at this;exact this
   refine (Jr br k2 32 cr R _ M.out (by omega) (by omega) (C.below d)).mono ?_;rintro e w6 ⟨rfl,E,t⟩;have b2:=By E M.out;have b4:=(F.below d).below t;go_wp2_with (at_builtin;refine wpList_append_lies _ rfl _ _ 22 rfl _ 5 i0 (.int .u8 0) 1 1 underlying22 f9 h2 f5 f6 rfl (by decide) _ _ _ rfl b2 ⟨bl,ol,none⟩ 32 cl (L.map byte) rfl (by rw [QD,J.out]) b4.news (by intro u hu;simp only [Qz] at hu;obtain ⟨q,-,rfl⟩:=hu;rfl) (by omega) (by unfold maxLen;omega) (by omega) t.size w6.heap.size rfl ?_;intro g7 l2 w7 e3 f8 j0 i6)
   obtain ⟨d0,H,k6,-⟩:=Ls (A:=R) (B:=L) t e3 f8;refine (XC _).mono ?_;rintro e w8 ⟨v8,rfl,a7,O⟩;obtain ⟨a8,c8,rfl,b8⟩:=a7.shape;have i7:Hid (A7.length = 64):=Cj;obtain ⟨i8,o8,rfl,g8⟩:=b8.at (k:=0) (by rw [Cj];omega);have row7':=d0.below O;have k5:=(World.ownsRow.lt a7 i8 rfl).1;have b6:=(X.below H X.lt).below O (QX X.lt H.size);have e1:Bl w w8:=((s.trans (d.mono s.size)).trans (H.mono (QG s.size d.size))).trans (O.mono (QG s.size (QG d.size H.size)));have d1:Hid ((R ++ L).length = 64):=by show _ = _;rw [QC,J.out,M.out]
   have l9:i8 < w8.heap.size:=Gv.lt g8 (k:=0) (by rw [Cj];omega);obtain ⟨P,hP⟩:=uX (wr.heap.size);have lP:=X.lt;have l8:=H.size;rw [<- hP] at b6 lP;have k7:¬ g7 = P:=by omega
   have l3:¬ i8 = P:=by omega
   have j3:w.heap.size <= P:=by have:=s.size;omega
   have HB:Hid (AP (R ++ L)):=GJ f4 f3;obtain ⟨o,e2⟩:=uX (R ++ L);have j8:Hid (o = R ++ L):=e2;rw [<- e2] at b6 row7' d1 HB;clear D g9 E b2 d t H O s e3 f8 j0 i6 b4 a7 b8 d0 X F C e2 f3 f4;go_wp2;rw [<- hP];clear hP
   go_loopw [16,17,66] (fun _ _ i wq=>∃ k:Nat,k <= 64 /\ i = .int .i64 k /\ Blk wq P 5 ((DP o k).map byte) /\ w8.grownBy wq (some P)) (fun _ _ i _=>64 - (intOf i).toNat)
   case atStart=>exact ⟨0,QU _,rfl,b6,World.grownBy.refl _ _⟩
   case round =>
    clear b6;obtain ⟨k,hk,rfl,Z,Y⟩:=hrel
    by_cases hlt:k < 64
    ·have h9:k < o.length:=by have:=d1.out;omega
     have d5:k < A7.length:=by have:=i7.out;omega
     obtain ⟨b',k9,e',e9⟩:=row7'.at h9;simp only [Option.some.injEq,Addr.mk.injEq,and_true] at e';obtain ⟨rfl,rfl⟩:=e';have i1:=Y.cell (e9 k h9) (by simp;omega);have c1:=Y.cell (g8 k d5) (by simp;omega);rw [QZ] at i1;have j9:=MQ A7[k] (Qd d5);obtain ⟨m,hm,Hm,i9⟩:∃ m:Nat,A7.getD k 0 = m + 1 /\ Hid (A7.getD k 0 = m + 1) /\ m < 64:=by
      have e:A7.getD k 0 = A7[k]:=by simp [d5]
      exact ⟨A7[k] - 1,by rw [e];omega,by show _ = _;rw [e];omega,by omega⟩
     obtain ⟨y,hy,Hy⟩:∃ y,o.getD k 0 = y /\ Hid (o.getD k 0 = y):=⟨_,rfl,rfl⟩;rw [hm] at c1;rw [hy] at i1;have hct':wr.cell? ⟨i8,o8 + k,none⟩ = some (.int .i64 ((m:Int) + 1)):=by rw [c1];rfl
     have h8:=DT o k;have hf:=Z.free m;obtain ⟨u,hu⟩:∃ u,wr.cell? ⟨P,m,none⟩ = some u:=⟨_,Z.cell m (by rw [QD,h8];exact i9)⟩;have i2:=Z.set m (byte y);have j1:=grown_trans Y (b:=wr) (c:=wr.setCell ⟨P,m,none⟩ (byte y)) ⟨rfl,rfl,rfl,by simp [World.setCell],fun i _ hi=>qv wr _ i _ (fun e=>hi (by simp [e]))⟩;have g0:((DP o k).map byte).set m (byte y) = (DP o (k + 1)).map byte:=by
      rw [<- qP];show _ = ((DP o k).set (A7.getD k 0 - 1) (o.getD k 0)).map byte;rw [Hm.out,Hy.out];rfl
     rw [g0] at i2;have l4:(m:Int) < 64:=by omega
     have m0:(k:Int) < 64:=by omega
     clear hm hy c1 h8 g0 e9 j9 Y Z;go_wp2;go_roundw
     case rel=>exact ⟨k + 1,by omega,by go_num,i2,j1⟩
     case measure=>simp [intOf];omega
    ·obtain rfl:k = 64:=by omega
     have i4:RowAt wr (some ⟨P,0,none⟩) (DP o 64):=Ai Z;have a9:Bl w wr:=e1.grown Y e1.size (by intro j hj;cases hj;exact j3)
     go_wp2_with fail;refine (Wc 64 _ _ (DP o 64) _ (DT _ _) (by omega) (by omega) (K7 _ HB.out _) i4).mono ?_;rintro e m1 ⟨l7,rfl,e7,e8⟩;go_wp2;go_ret;refine ⟨_,rfl,?_,a9.trans (e8.mono a9.size)⟩;have e:desS key a n = Ar (DP o 64):=by
      unfold desS;rw [<- f0.out.1,<- f0.out.2,<- HL.out,<- HR.out,<- j8.out]
     rw [e];exact e7.mono a9.size
end Go.Proofs.YtbkokcjolanpeaaGreatDoor
