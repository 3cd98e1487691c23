import Derived.Test.YtbkokcjolanpeaaGreatDoorMkAL
set_option maxRecDepth 100000
set_option maxHeartbeats 10000000
namespace Go.Proofs.YtbkokcjolanpeaaGreatDoor
open Go.RowKit Go.Proofs.Tryz Act
theorem Si (a d:List (List Value)) (Y:a.length <= 8) (N:d.length <= 20) (room:Int) (a1:0 <= room) (a2:room <= 20) (Z:∀ i,i < a.length -> ∃ J L f,a.getD i [] = [J,L,.int .i64 f] /\ (f = 0 \/ f = 3)) (R:∀ i,i < d.length -> ∃ t l,d.getD i [] = [.string t,.int .i64 l] /\ 0 < t.size /\ t.size <= 19 /\ Bu t = true /\ 0 <= l /\ l < (a.length:Int))
 (O u C:Option Addr) (X A G:Nat) (w:World) (E:DA 3 w u a) (D:DA 2 w C d) :
 Calls prog 24 #[.agg #[.slice O 16 X,.slice u a.length A,.slice C d.length G,.int .i64 room]] w fun e w'=>e = .returned (.bool true) /\ Bl w w':=by
 obtain ⟨W,n⟩:=uX (w.alloc (Obj.cells #[.slice O 16 X,.slice u a.length A,.slice C d.length G,.int .i64 room] 26));have r:=uB n;obtain ⟨M,s⟩:=uX (w.heap.size);have b:=uK n s;have H:∀ (x:Nat) (I:Option Addr) (Q:List (List Value)) (y:World),DA x w I Q -> Bl w y -> DA x y I Q:=fun x I Q y hP v i q=>by
  obtain ⟨g,o,e,h1,V⟩:=hP i q;exact ⟨g,o,e,h1,fun j T=>(v.cell (p:=⟨g,o + i * x + j,none⟩) (QF w _ (V j T))).trans (V j T)⟩
 have HL:=AA (eL a (by omega) u A W (H _ _ _ W E r) (fun i q y v=>by
  obtain ⟨J,L,f,e,h3⟩:=Z i q;rw [e];exact af J L f h3 y))
 have U:=AA (fun (z:World) (hz:Bl W z)=>eB d (by omega) C G M z (H _ _ _ z D (r.trans (hz.mono r.size))) (fun i q y v=>by
  obtain ⟨t,l,e,t0,t1,t2,l0,l1⟩:=R i q;rw [e];exact Z9 t t0 t1 t2 l a.length l0 l1 M u A y ((b.below (hz.trans (v.mono hz.size)) b.lt).c 1)))
 obtain ⟨nl,k⟩:=uX (a.length);obtain ⟨nr,m⟩:=uX (d.length);rw [<- k] at HL Y n;rw [<- k,<- m] at b;rw [<- m] at U N n;rw [<- k,<- m];have c0:=b.c 0;have c1:=b.c 1;have c2:=b.c 2;have c3:=b.c 3;have q1:¬ (8:Int) < (nl:Int):=by omega
 have q2:¬ (20:Int) < (nr:Int):=by omega
 have q3:¬ room < 0:=by omega
 have q4:¬ (20:Int) < room:=by omega
 have F:=AA b;have HW:=AA n;have a0:=AA s;clear n s k m Z R E D H b;go_enter func24,ntmps24;go_upto_region 1 with fail
 rw [<- show W = _ from HW,<- show M = _ from a0];go_wp2_with fail;refine HL.out.mono ?_;rintro e w2 ⟨rfl,B⟩;have d2:=(F.out.below B F.out.lt).c 2;go_wp2_with fail;refine (U.out w2 B).mono ?_;rintro e w3 ⟨rfl,b3⟩;go_wp2_with fail;go_ret;exact ⟨rfl,r.trans ((B.trans (b3.mono B.size)).mono r.size)⟩
inductive Ev where
 | msg:Ev
 | tick:Int -> Ev
inductive RunR (l tl:Nat) (stan:ByteArray) (s:SS):List Ev -> SS -> Prop where
 | nil:RunR l tl stan s [] s
 | msg {es:List Ev} {t:SS} {nx:Nat} (x:Value):RunR l tl stan s es t -> t.next = (nx:Int) -> RunR l tl stan s (es ++ [.msg]) (eI t (l:Int) tl nx stan x)
 | tick {es:List Ev} {t:SS} (n:Int):RunR l tl stan s es t -> RunR l tl stan s (es ++ [.tick n]) { t with clock:=t.clock + n,W:=tkW (t.clock + n) t.W,L:=t.L ++ tkL (t.clock + n) t.W }
structure Bnd (k:Nat) (t:SS):Prop where
 next:∃ nx:Nat,t.next = (nx:Int) /\ nx <= k + 1
 c0:0 <= t.clock
 c1:t.clock <= 1000 * (k:Int)
 W:t.W.length <= k
 S:t.S.length <= k
 L:t.L.length <= k * (k + 1)
theorem Bnd.tick {k:Nat} {t:SS} (h:Bnd k t) (n:Int) (f:0 <= n) (l:n <= 1000):Bnd (k + 1) { t with clock:=t.clock + n,W:=tkW (t.clock + n) t.W,L:=t.L ++ tkL (t.clock + n) t.W }:=by
 obtain ⟨⟨a,e,c⟩,g,j,o,i,m⟩:=h;have b:(k + 1) * (k + 1 + 1) = k * (k + 1) + 2 * (k + 1):=by rw [Nat.add_mul,Nat.mul_add];omega
 refine ⟨⟨a,e,by omega⟩,by show 0 <= t.clock + n;omega,by show t.clock + n <= _;omega,?_,by show t.S.length <= _;omega,?_⟩
 ·show (tkW _ _).length <= _;unfold tkW;exact QG (List.length_filter_le _ _) (by omega)
 ·show (t.L ++ _).length <= _;have d:(tkL (t.clock + n) t.W).length <= t.W.length:=by unfold tkL;rw [QD];exact List.length_filter_le _ _
  rw [QC,b];omega
abbrev Nn:List Value:=[.int .i64 0,.slice none 0 0,.slice none 0 0,.int .i64 0,.slice none 0 0]
theorem Tryz.zeroOut:(prog.info? 44).map (fun i=>(i.zero,i.size)) = some (some (.agg Nn.toArray),5):=by kernel_rfl
def evC (l:Nat) (a:Value):Ev -> List Value
 | .msg=>[.int .i64 1,.int .i64 (l:Int),.int .i64 0,a]
 | .tick n=>[.int .i64 2,.int .i64 0,.int .i64 n,.slice none 0 0]
def evG:Ev -> Prop
 | .msg=>True
 | .tick n=>0 <= n /\ n <= 1000
theorem cC {l n:Nat} {b:Option Addr} {a c:Nat} (hnd:a <= 4096) (d:l < n) (e:Ev) (h:evG e):ZB n (evC l (.slice b a c) e):=by
 cases e with
 | msg=>exact ⟨1,_,_,_,_,_,rfl,hnd,.inl ⟨rfl,by omega,by omega⟩⟩
 | tick m=>exact ⟨2,_,_,_,_,_,rfl,by omega,.inr ⟨rfl,h.1,h.2⟩⟩
def KN (w:World) (f:Nat) (d:List LU):Prop:=∀ i,i < d.length -> ∃ a c b j g,w.cell? ⟨f,i * 2,none⟩ = some (.slice a (d.getD i []).length c) /\ w.cell? ⟨f,i * 2 + 1,none⟩ = some (.slice b j g) /\ (d.getD i []).length <= c /\ RowAt w a (d.getD i [])
def L7 (a K:LU):Value:=.int .i64 (opG a K)
theorem Y9 (s:SS) (B f:Nat) (P:Nat -> Prop) (x0 x1:Addr) (I:Option Addr) (L:Nat) (d:LU) (hm:s.mst = .slice I d.length L) (R cK:Nat) (m:List LU) (d0:m.length <= 8) (b7:s.kys = .slice (some ⟨R,0,none⟩) m.length cK) (w:World) (hs:Sents w x0 x1) (rm:RowAt w I d) (h:Ses w B f P s) (hk:KN w R m) :
 Calls prog 29 #[.pointer (some ⟨f,0,none⟩)] w fun e w'=>(∃ a c,e = .returned (.slice a m.length c) /\ w'.ownsRow w.heap.size 3 1 (.slice a m.length c) m.length (m.map (L7 d))) /\ Bl w w':=by
 obtain ⟨i0,d1,d4,c8,c7⟩:=Qg Tryz.infoIn;obtain ⟨wv,sv,lv,ps,h⟩:=h;obtain ⟨n,hn⟩:=uX (m.length);obtain ⟨nM,a1⟩:=uX (d.length);have c4:w.cell? ⟨f,4,none⟩ = some (.slice (some ⟨R,0,none⟩) n cK):=by rw [hn,<- b7];exact h.c4
 have lS:=h.blk.lt;have c0:w.cell? ⟨f,0,none⟩ = some (.slice I nM L):=by rw [a1,<- hm];exact h.c0
 have d5:=AA c0;have e2:=AA c4;have b8:=AA hk;have a6:=AA (fun (x:LU) (ab:Option Addr) (cb:Nat) (y:World) (t:Bl w y) (h1:x.length <= cb) (r:RowAt w ab x)=>NC d x I ab L cb x0 x1 y h1 (hs.below t) (rm.below t) (r.below t));rw [<- a1] at a6;rw [<- hn] at d0 ⊢;have HN:=AA hn;clear hn a1 hs rm h hk b7 hm c0;go_enter func29,ntmps29;go_upto_region 2 with (at_make;refine wpList_make_own _ rfl _ _ 42 rfl w.heap.size 3 i0 _ 1 underlying42 d1 d4 c8 .i64 .i64 _ n rfl rfl rfl (by rw [c7];omega) (by unfold maxLen;omega) (QE _) ?_;intro w3 b1 C;have b3:=Ac C;clear C)
 have c9:=(b3.cell (p:=⟨f,4,none⟩) lS).trans e2.out;go_wp2_with fail
 go_loopw [3,17] (fun v i wr=>∃ (k:Nat) (a:Option Addr) (c:Nat),k <= n /\ i = .int .i64 (k:Int) /\ v = .slice a k c /\ Hid (wr.ownsRow w.heap.size 3 1 (.slice a k c) k ((m.take k).map (L7 d))) /\ Bl w wr) (fun _ i _=>n - (intOf i).toNat)
 case atStart=>exact ⟨0,some ⟨w.heap.size,0,none⟩,n,QU _,rfl,rfl,b1,b3⟩
 case round =>
  clear b1 b3 c4 c9;obtain ⟨k,a,c,hk,rfl,rfl,a0,o⟩:=hrel
  by_cases hlt:k < n
  ·have c2:(k:Int) < (n:Int):=by omega
   have a2:k < m.length:=by rw [<- HN.out];exact hlt
   obtain ⟨E,l,bB,nB,cB,q1,q2,q3,q4⟩:=b8.out k a2;obtain ⟨x,g⟩:=uX (m.getD k []);rw [<- g] at q1 q3 q4;obtain ⟨H,Y⟩:=uX (x.length);rw [<- Y] at q1;have a5:=QF w _ q1;have c5:Hid (wr.rangeAt R (k * 2) [.slice E H l,.slice bB nB cB]):=fun j u J=>by
    cases j with
    | zero=>simp at J;subst J;exact (o.cell (p:=⟨R,k * 2,none⟩) a5).trans q1
    | succ j =>
      cases j with
      | zero=>simp at J;subst J;exact (o.cell (p:=⟨R,k * 2 + 1,none⟩) a5).trans q2
      | succ j=>simp at J
   obtain ⟨D,U⟩:=uX (wr.heap.size);obtain ⟨W,hW⟩:=uX (wr.alloc (Obj.cells #[.slice E H l,.slice bB nB cB] 140));have bW:=uB hW;have kR:=uK hW U;have e4:w.heap.size <= D:=by rw [U];exact o.size
   have HW:=AA hW;have b4:=AA U;have HQ:=AA (And.intro q3 q4);have d3:=AA Y;have d6:=AA g;clear hW U q1 q2 q3 q4 g Y a5;go_upto_region 5 with (refine Qw rfl 140 _ rfl R (k * 2) (by go_simp) [.slice E H l,.slice bB nB cB] _ c5.out underlying140 rfl (by kernel_rfl) ?_)
   rw [<- show W = _ from HW,<- show D = _ from b4];clear HW;obtain ⟨V,hV⟩:=uX (World.drew W);have a7:Bl wr V:=by rw [hV];exact bW.drew
   have kV:Blk V D 140 [.slice E H l,.slice bB nB cB]:=by rw [hV];exact kR
   have X:=AA (o.trans (a7.mono o.size));have F:w.heap.size <= V.heap.size:=X.out.size;have a4:=AA (a6.out x E l V X.out HQ.out.1 HQ.out.2);rw [<- d3.out] at a4;obtain ⟨Cd,b9⟩:=uX (Cy d x);obtain ⟨Us,b6⟩:=uX (opU d x);obtain ⟨G,hG⟩:=uX (opG d x);rw [<- b9,<- b6,<- hG] at a4;have e3:Hid ((m.take (k + 1)).map (L7 d) = (m.take k).map (L7 d) ++ [.int .i64 G]):=by
    show _ = _;rw [B3 m k a2,Qf,hG,d6.out,QA,List.getElem?_eq_getElem a2]
    rfl
   clear b9 b6 hG;have c1:=a0;have q:Hid (∀ {y},Bl V y -> y.cell? ⟨f,0,none⟩ = some (.slice I nM L) /\ y.cell? ⟨D,0,none⟩ = some (.slice E H l)):=fun t=>⟨((X.out.trans (t.mono F)).cell (p:=⟨f,0,none⟩) lS).trans d5.out,(kV.below t kV.lt).c 0⟩;have a8:Hid (∀ (y:World),Bl V y -> ∀ (z:World),y.grownBy z (Value.slice a k c).ownBlock -> (∀ j,(Value.slice a k c).ownBlock = some j -> w.heap.size <= j) -> z.cell? ⟨f,0,none⟩ = some (.slice I nM L) /\ z.cell? ⟨D,0,none⟩ = some (.slice E H l)):=fun y t z gr Z=>by
    have k1:=q.out t;refine ⟨?_,?_⟩
    ·rw [World.cell?_of_block (gr.block f (QX lS (QG F t.size)) (fun e=>by have:=Z f e.symm;omega))];exact k1.1
    ·have d2:=(kV.below t kV.lt).lt;rw [World.cell?_of_block (gr.block D d2 (fun e=>by
      have h5:=(a0.out.lt D e.symm).2;have h6:=b4.out;omega))];exact k1.2
   have c6:Bl V V:=Below.refl _ _;have HV:=AA hV;clear hV kV kR bW a6 b8;refine QJ (S:=fun y=>y.cell? ⟨f,0,none⟩ = some (.slice I nM L) /\ y.cell? ⟨D,0,none⟩ = some (.slice E H l)) (by kernel_rfl) (by rw [<- show V = _ from HV];exact q.out c6) (fun b=>?_);rw [<- show V = _ from HV] at b ⊢;clear HV;refine tA 0 (.slice a k c) b ?_;simp only [put,pS];refine tA 1 (.pointer (some ⟨f,0,none⟩)) b ?_;simp only [put,pS];refine tA 2 (.pointer (some ⟨f,0,none⟩)) b ?_;simp only [put,pS];refine tA 3 (.pointer (some ⟨f,0,none⟩)) b ?_;simp only [put,pS];refine tA 4 (.pointer (some ⟨f,0,none⟩)) b ?_;simp only [put,pS];refine tC 5 (.slice I nM L) rfl (fun w1 h=>by have hc:=h.1;go_simp) b ?_;simp only [put,pS];refine tA 6 (.pointer (some ⟨D,0,none⟩)) b ?_;simp only [put,pS];refine tC 7 (.slice E H l) rfl (fun w1 h=>by have hc:=h.2;go_simp) b ?_;simp only [put,pS];refine rdy1 8 (fun K g=>?_);go_simp;refine a4.out.mono ?_;rintro e U1 ⟨vU,rfl,a9,b0⟩;obtain ⟨aU,cU,rfl,-⟩:=a9.shape;clear a9;obtain ⟨nU,b5⟩:=uX ((BH d x).length);rw [<- b5];clear b5;go_wp2_with fail;refine g.out _ _ (q.out b0) (fun b=>?_);clear g K
   try dsimp only [put]
   refine tC 9 (.agg #[.int .i64 Us,.int .i64 G,.slice aU nU cU]) rfl (fun w1 _=>by have hc:=Yk Cd Us G aU nU cU w1;go_simp) b ?_;simp only [put,pS];refine tC 10 (.int .i64 G) rfl (fun w1 _=>by have hc:=eO Us G aU nU cU w1;go_simp) b ?_;simp only [put,pS];refine rdy1 11 (fun K g=>?_);go_simp;obtain ⟨U2,T⟩:=uX (U1.alloc (Obj.cells #[.int .i64 G] 3));have e0:Blk U2 U1.heap.size 3 [.int .i64 G]:=by rw [T];exact Blk.new _ _ _
   have A:Bl V U2:=by rw [T];exact b0.trans ((CN _ _).mono b0.size)
   rw [<- T];clear T;refine g.out _ _ (q.out A) (fun b=>?_);clear g K
   try dsimp only [put]
   refine rdy1 12 (fun K g=>?_);have O:=Bd (ts:=[]) c1.out (Sm.below (a7.trans (A.mono a7.size))) (by simp);rw [if_pos (by rfl)];refine Re _ _ rfl w.heap.size (.slice a k c) k _ rfl O ⟨U1.heap.size,0,none⟩ 1 1 [.int .i64 G] rfl rfl (FM e0) (by intro u J;simp at J;rw [J];rfl) (by unfold maxLen;omega) (by omega) (QG F A.size) ?_;intro v3 U3 N C;obtain ⟨a3,c3,rfl⟩:=EV N;have b2:=(X.out.trans (A.mono F)).grown C (QG F A.size) (fun j Z=>(O.lt j Z).1);have K3:=a8.out U2 A U3 C (fun j Z=>(O.lt j Z).1);refine g.out _ _ K3 (fun b=>?_);clear g K
   try dsimp only [put]
   refine rdy1 13 (fun K g=>?_);go_simp;refine g.out _ _ K3 (fun b=>?_);clear g K
   try dsimp only [put]
   refine QM (by kernel_rfl) ?_ _;clear b;have HF:=AA (And.intro N b2);clear N b2 C K3 q a8;go_wp2_with fail;go_roundw
   case rel=>exact ⟨k + 1,a3,c3,by omega,by go_num,rfl,by rw [e3.out];exact HF.out.1,HF.out.2⟩
   case measure=>simp [intOf];omega
  ·obtain rfl:k = n:=by omega
   have c2:¬ (k:Int) < (k:Int):=by omega
   go_wp2_with fail;have M:=a0.out;rw [HN.out,qt,<- HN.out] at M;have e1:=AA M;clear M;go_ret;exact ⟨⟨a,c,rfl,e1.out⟩,o⟩
structure KM where
 D:LU
 L:List (Int × LU)
 k:Bool
structure KA where
 now:LU
 bef:LU
 DS:List LU
 C:List (Int × Int × ByteArray)
def KM.stan (m:KM):ByteArray:=⟨(A9 11 m.L).toArray⟩
def EY (b:LU) (l:Nat) (a:KA) (m:KM):KA :=
 if m.k = true then { now:=(kyN b a.now a.bef (A9 48 m.L)).1.1,bef:=(kyN b a.now a.bef (A9 48 m.L)).1.2,DS:=a.DS ++ [Da b (F5 b a.now a.bef m.D) m.stan (kyN b a.now a.bef (A9 48 m.L)).2],C:=a.C ++ [(((kyN b a.now a.bef (A9 48 m.L)).2:Int),(l:Int),m.stan)] }
 else { a with C:=a.C ++ [((if opB b a.now m.D || opB b a.bef m.D then 12 else 63),(l:Int),m.stan)] }
def VK (b:LU) (a:KA) (m:KM):Prop :=
 if m.k = true then Md m.D ⟨#[48,56,48,48]⟩ m.L /\ Mk b a.now m.L /\ (opB b a.now m.D || opB b a.bef m.D) = true else Md m.D ⟨#[48,57,48,48]⟩ m.L
def Yn (b:Obj) (d:Nat):Prop:=∃ a c,b = Obj.map a c /\ (∃ n,Instr.findNow .string (.string ⟨#[48,56,48,48]⟩) a.toList 0 = some (some (n,hFn d 72))) /\ Instr.findNow .string (.string ⟨#[48,57,48,48]⟩) a.toList 0 = some none
def SW (y g:World) (k j:Addr) (n:Option Addr) (p:Nat) (b:LU) (d l f i cK:Nat) (o:Nat -> LU) (c:Nat) (m:Obj) (a:KA):Prop:=∃ s,Kc g k j n p b d l f i cK s /\ KW y g.heap.size d f l i o c m s a.now a.bef a.DS /\ s.L = a.C /\ s.hnd = .map (some c)
theorem SW.hl {y o:World} {b m l q:Nat} {n:Nat -> LU} {a:Nat} {f:Obj} {s:SS} {now bef:LU} {DS:List LU} (h:KW y o.heap.size b m l q n a f s now bef DS) (j:Yn f b) (d:s.hnd = .map (some a)):HL y s.hnd ⟨#[48,56,48,48]⟩ (hFn b 72) true /\ HL y s.hnd ⟨#[48,57,48,48]⟩ .nilFunc false:=by
 obtain ⟨P,u,v,t,r,-,-,-,-,g,-⟩:=h;obtain ⟨i,c,rfl,p,k⟩:=j;exact ⟨⟨a,i,c,d,g.1,.inl ⟨rfl,p⟩⟩,⟨a,i,c,d,g.1,.inr ⟨rfl,k,rfl⟩⟩⟩
theorem KW.below {y z u:World} {t d l n:Nat} {v:Nat -> LU} {g:Nat} {o:Obj} {s:SS} {now bef:LU} {DS:List LU} (h:KW y u.heap.size t d l n v g o s now bef DS) (b:Bl y z):KW z u.heap.size t d l n v g o s now bef DS:=by
 obtain ⟨P,I,F,D,B,x,J,K,G,f,H,C⟩:=h;have m:d < y.heap.size:=QF y _ K.e1;exact ⟨P,I,F,D,B,fun k E=>x k (QG b.size E),J.below b,K.below b,G.next (Kp.below b) (fun j _ _=>b.cell (p:=⟨d,j,none⟩) m) (fun _ q=>q),⟨(b.block g (Array.getElem?_eq_some_iff.1 f.1).1).trans f.1,f.2⟩,H,fun i A=>by
  obtain ⟨a,c,e,r,L,q⟩:=C i A;exact ⟨a,c,e,r.below b,L,q⟩⟩
theorem Z4 {p:World} {J T:Addr} {H:Option Addr} {V:Nat} {b:LU} {n l U I cK:Nat} {r:Nat -> LU} {q:Nat} {i:Obj} (X:Yn i n) (a:KA) (m:KM) (c:VK b a m) (f:Option Addr) (g:Nat) (u:m.D.length <= g) (N:Int) (a0:a.DS.length <= 1000) (a4:a.C.length <= 1000) (y:World) (o:Bl p y) (h:SW y p J T H V b n l U I cK r q i a) (R:RowAt y f m.D) :
 Calls prog 28 #[.pointer (some ⟨n,0,none⟩),.agg #[.int .i64 1,.int .i64 (l:Int),.int .i64 N,.slice f m.D.length g]] y fun e t=>e = .returned (.tuple #[]) /\ SW t p J T H V b n l U I cK r q i (EY b l a m) /\ Below p.heap.size y t:=by
 obtain ⟨s,C,K,A,F⟩:=h;have d:Bl y (y.alloc (Obj.cells #[.int .i64 1,.int .i64 (l:Int),.int .i64 N,.slice f m.D.length g] 38)):=CN _ _;have v:=o.trans (d.mono o.size);have E:=K.below d;obtain ⟨G,O⟩:=SW.hl E X F;have a3:s.S.length = a.DS.length:=by obtain ⟨P,a1,c1,a2,c2,-,-,-,-,-,Z,-⟩:=K;exact Z
 have z:s.L.length <= 1000000:=by rw [A];omega
 refine Xe n (l:Int) N (.slice f m.D.length g) y _ ?_ (fun e w' Y=>Y.1);unfold VK at c;unfold EY
 by_cases hk:m.k = true
 ·rw [if_pos hk] at c ⊢;refine (Xg C r q i a.now a.bef a.DS m.D m.L c.1 c.2.1 c.2.2 f g u _ v E (R.below d) G (by omega) z).mono ?_;rintro e t ⟨rfl,⟨x,j⟩,B⟩;refine ⟨rfl,⟨_,?_,j,?_,F⟩,(d.mono o.size).trans B⟩
  ·exact ⟨C.M,C.hm,C.hgK,C.hky,C.hto,C.W⟩
  ·show s.L ++ _ = a.C ++ _;rw [A]
   rfl
 ·rw [if_neg hk] at c ⊢;refine (aJ C r q i a.now a.bef a.DS m.D m.L c f g u _ v E (R.below d) O (by omega) z).mono ?_;rintro e t ⟨rfl,j,B⟩;refine ⟨rfl,⟨_,?_,j,?_,F⟩,(d.mono o.size).trans B⟩
  ·exact ⟨C.M,C.hm,C.hgK,C.hky,C.hto,C.W⟩
  ·show s.L ++ _ = a.C ++ _;rw [A]
   rfl
theorem VN {w:World} {B a e size n:Nat} {v:Value} {d:List Value} (h:w.ownsRow B e size v n d) (f:a <= B):w.ownsRow a e size v n d:=by
 refine ⟨h.1,?_⟩;rcases h.2 with hz | ⟨g,b,c,i,j,rest⟩
 ·exact .inl hz
 ·exact .inr ⟨g,b,c,i,QG f j,rest⟩
theorem Ses.lowB {w:World} {B c b:Nat} {P:Nat -> Prop} {s:SS} (h:Ses w B b P s) (a:c <= B) (l:s.W = []):Ses w c b P s:=by
 obtain ⟨g,k,f,j,h⟩:=h;exact ⟨g,k,f,j,QG a h.lo,h.blk,⟨h.ents.1,fun i d=>by rw [l] at d;exact absurd d (Qj i)⟩,VN h.wrow a,VN h.srow a,VN h.lrow a,h.pS,h.pw,h.pv,h.pl⟩
theorem Ses.noMap {w:World} {B d b:Nat} {P:Nat -> Prop} {s:SS} {u:Array MapEntry} {c:Nat} (h:Ses w B d P s) (f:w.heap[b]? = some (Obj.map u c)):Ses w B d (fun k=>P k /\ k ≠ b) s:=by
 obtain ⟨m,x,l,p,h⟩:=h;have a:∀ {e size n:Nat} {v:Value} {y:List Value},w.ownsRow B e size v n y -> ∀ g,v.ownBlock = some g -> g ≠ b:=fun r g o e=>by
  obtain ⟨cs,t,q,j,-⟩:=KG r g o;rw [e,f] at j;cases j
 exact ⟨m,x,l,p,h.lo,h.blk,h.ents,h.wrow,h.srow,h.lrow,⟨h.pS,fun e=>by have i:w.heap[d]? = some _:=h.blk;rw [e,f] at i;cases i⟩,fun g e=>⟨h.pw g e,a h.wrow g e⟩,fun g e=>⟨h.pv g e,a h.srow g e⟩,fun g e=>⟨h.pl g e,a h.lrow g e⟩⟩
def DE (a:List Lk) (i:Nat):LU:=(a.getD i ([],[],0)).2.1
def Ca (a:LU) (l:Nat) (b:LU) (c:List KM) (k:Nat):KA:=(c.take k).foldl (EY a l) ⟨b,[],[],[]⟩
theorem Dk (a:LU) (l:Nat) (c:LU) (b:List KM) (k:Nat) (d:k < b.length):Ca a l c b (k + 1) = EY a l (Ca a l c b k) b[k]:=by
 unfold Ca;rw [B3 b k d,List.foldl_append]
 rfl
theorem XN {s g t:World} {Y x1:Addr} {E:Option Addr} {T:Nat} {f:LU} (M:Mst s Y x1 E f) {m:List Lk} {d O v l cK:Nat} (G:l < m.length) (y:∀ i,i < m.length -> 0 < (DE m i).length) (J:UJ g d m) (V:s.heap.size <= d) (I:∀ j,g.frozen? ⟨d,j,none⟩ = false) (W:KRw s g d m) (R:Bl s g) (lnk rts:Value) (room:Int)
 (hS:Ses t g.heap.size O (fun k=>g.heap.size <= k) (Ut (.slice E f.length T) lnk rts (.slice (some ⟨d,0,none⟩) m.length cK) room v)) {es:Array MapEntry} {c:Nat} (F:t.heap[v]? = some (Obj.map es c)) (C:Bl g t) :
 SW t s Y x1 E T f O l d m.length cK (DE m) v (Obj.map es c) ⟨DE m l,[],[],[]⟩:=by
 obtain ⟨a,U,A,e2,lc,-⟩:=J l G;have z:d < g.heap.size:=QF g _ A;have D:∀ j,t.cell? ⟨d,j,none⟩ = g.cell? ⟨d,j,none⟩:=fun j=>C.cell (p:=⟨d,j,none⟩) z;have a1:v ≠ d:=fun e=>by
  have h:=(D (l * 2)).trans A;rw [<- e] at h;simp [World.cell?,F] at h
 have H:=R.trans (C.mono R.size);have x:∀ i,i < m.length -> ∀ a n u,g.cell? ⟨d,i * 2,none⟩ = some (.slice a n u) -> RowAt t a (DE m i) /\ ∀ p,a = some p -> ¬ (((g.heap.size <= p.block /\ p.block ≠ v) /\ s.heap.size <= p.block)) /\ p.block ≠ d:=fun i o a n u h=>by
  have r:=W i o a n u h;refine ⟨r.below H,fun p L=>?_⟩;obtain ⟨b,a2,he,hc⟩:=r.at (y i o);rw [L] at he;cases he
  have:=RowAt.lt hc (y i o);exact ⟨fun q=>by have:=q.2;simp only at this;omega,by simp only;omega⟩
 have hP:Ses t s.heap.size O (fun k=>(g.heap.size <= k /\ k ≠ v) /\ s.heap.size <= k) (Ut (.slice E f.length T) lnk rts (.slice (some ⟨d,0,none⟩) m.length cK) room v):=((hS.noMap F).lowB R.size rfl).weak (fun k h1 _ h3=>⟨h3,h1⟩);refine ⟨_,⟨M,rfl,V,rfl,G,rfl⟩,⟨_,a,U,none,0,fun k Z=>⟨⟨QG C.size Z,fun e=>by have:=(Array.getElem?_eq_some_iff.1 F).1;omega⟩,QG H.size Z⟩,hP,⟨(D _).trans A,(D _).trans e2,?_,?_,lc,QE _,(x l G a _ U A).1,.inl rfl,(x l G a _ U A).2,(fun p L=>by cases L),fun q=>by omega⟩,fun i o _=>?_,⟨F,fun q=>q.1.2 rfl,a1⟩,rfl,fun i o=>absurd o (Qj i)⟩,rfl,rfl⟩
 ·rw [World.frozen?_of_block (a:=⟨d,l * 2,none⟩) (C.block d z)];exact I _
 ·rw [World.frozen?_of_block (a:=⟨d,l * 2 + 1,none⟩) (C.block d z)];exact I _
 ·obtain ⟨N,u,B,X,a0,-⟩:=J i o;exact ⟨N,u,(D _).trans B,(D _).trans X,a0,(x i o N _ u B).1,(x i o N _ u B).2⟩
theorem PY (a:LU) (l:Nat) (c:LU) (b:List KM):∀ k,k <= b.length -> (Ca a l c b k).DS.length <= k /\ (Ca a l c b k).C.length = k
 | 0,_=>⟨QE _,rfl⟩
 | k + 1,h=>by
   obtain ⟨f,d⟩:=PY a l c b k (by omega);rw [Dk a l c b k (by omega)];unfold EY
   split
   ·exact ⟨by simp only [QC,List.length_singleton];omega,by simp only [QC,List.length_singleton,d]⟩
   ·exact ⟨Nat.le_succ_of_le f,by simp only [QC,List.length_singleton,d]⟩
def kmD (a:List KM) (i:Nat):KM:=a.getD i ⟨[],[],false⟩
def kmC (l:Nat) (b:List KM) (a:Nat -> Option Addr × Nat) (i:Nat):List Value:=evC l (.slice (a i).1 (kmD b i).D.length (a i).2) .msg
theorem Nw (l:Nat) (b:List KM) (a:Nat -> Option Addr × Nat) (i:Nat) (c:i < b.length):((List.range b.length).map (kmC l b a)).getD i [] = evC l (.slice (a i).1 (kmD b i).D.length (a i).2) .msg:=by
 rw [QA,List.getElem?_map,List.getElem?_range c];rfl
theorem Zp (a:List KM) (i:Nat) (b:i < a.length):kmD a i = a[i]:=by
 unfold kmD;rw [QA,List.getElem?_eq_getElem b];rfl
def kkN (a:List Lk) (l:Nat) (now:LU):List LU:=(List.range a.length).map (fun i=>if i = l then now else DE a i)
theorem JO (a:List Lk) (l:Nat) (now:LU):(kkN a l now).length = a.length:=by unfold kkN;simp
theorem TQ (a:List Lk) (l:Nat) (now:LU) (i:Nat) (b:i < a.length):(kkN a l now).getD i [] = if i = l then now else DE a i:=by
 unfold kkN;rw [QA,List.getElem?_map,List.getElem?_range b];rfl
def Pb (w:World) (l:Nat) (S:List (Int × Value)) (DS:List LU):Prop:=S.length = DS.length /\ ∀ i,i < DS.length -> ∃ a c,S.getD i (0,undef) = ((l:Int),.slice a (DS.getD i []).length c) /\ RowAt w a (DS.getD i []) /\ (DS.getD i []).length <= c
theorem dN {w:World} {g t:Nat} {cs:List Value} {p:Addr} {D:LU} (k:Blk w g t cs) (c:∀ v ∈ cs,∀ x,v ≠ .int .u8 x) (r:RowAt w (some p) D) (a:0 < D.length):p.block ≠ g:=by
 obtain ⟨b,m,l,j⟩:=r.at a;cases l
 intro e;have f:b = g:=e;subst f;have h:=j 0 a;have i:w.heap[b]? = some (.cells cs.toArray t (0,0)):=k;simp only [World.cell?,i] at h;have d:Value.int .u8 ((D.getD 0 0).toNat:Int) ∈ cs:=by
  simp at h;exact List.mem_of_getElem? h
 exact c _ d _ rfl
theorem XM (d:LU) (e5:d.length = 16) (u:List Lk) (j3:u.length <= 8) (m6:0 < u.length) (j9:∀ i,i < u.length -> KeysOk d (u.getD i ([],[],0))) (m1:∀ i,i < u.length -> 0 < (DE u i).length) (QL QR:List (List Value)) (f5:QL.length = u.length) (rs:List Rt) (f9:QR.length = rs.length) (o7:rs.length <= 20) (room:Int) (o0:0 <= room) (b0:room <= 20)
 (k0:∀ i,i < QL.length -> ∃ v0 v1 f,QL.getD i [] = [v0,v1,.int .i64 f] /\ (f = 0 \/ f = 3)) (i8:∀ i,i < QR.length -> ∃ t l,QR.getD i [] = [.string t,.int .i64 l] /\ 0 < t.size /\ t.size <= 19 /\ Bu t = true /\ 0 <= l /\ l < (QL.length:Int))
 (am al ar ae:Option Addr) (cm cl cR ce:Nat) (x0 x1:Addr) (l:Nat) (hl:l < u.length) (n:List KM) (J:Nat -> Option Addr × Nat) (k5:n.length <= 60) (w:World) (hs:Sents w x0 x1) (hT:∀ w',Bl w w' -> Lib.TabIs prog w' "internal/strconv.uint64pow10" .u64 Lib.pow10Tab) (rm:RowAt w am d) (j0:FQ w al u) (i9:DA 3 w al QL) (l9:DA 2 w ar QR)
 (f7:DA 4 w ae ((List.range n.length).map (kmC l n J))) (e4:∀ i,i < n.length -> RowAt w (J i).1 (kmD n i).D /\ (kmD n i).D.length <= (J i).2 /\ (kmD n i).D.length <= 4096) (e3:∀ k,k < n.length -> VK d (Ca d l (DE u l) n k) (kmD n k)) :
 Calls prog 8 #[.agg #[.slice am 16 cm,.slice al u.length cl,.slice ar rs.length cR,.int .i64 room],.slice ae n.length ce] w fun e w' =>
  (∃ (B Bg:Nat) (X N aG:Option Addr) (T U cG:Nat) (S:List (Int × Value)),e = .returned (.agg #[.int .i64 0,.slice X S.length T,.slice N (Ca d l (DE u l) n n.length).C.length U,.int .i64 0,.slice aG u.length cG]) /\ w'.ownsRow B 49 2 (.slice X S.length T) S.length (S.flatMap Jj) /\ w'.ownsRow B 47 3 (.slice N (Ca d l (DE u l) n n.length).C.length U) (Ca d l (DE u l) n n.length).C.length ((Ca d l (DE u l) n n.length).C.flatMap O9) /\ w'.ownsRow Bg 3 1 (.slice aG u.length cG) u.length ((kkN u l (Ca d l (DE u l) n n.length).now).map (L7 d)) /\ Pb w' l S (Ca d l (DE u l) n n.length).DS) /\ Bl w w':=by
 have hz:=(QO Tryz.zeroOut).1;obtain ⟨nl,a7⟩:=uX (u.length);obtain ⟨nr,c8⟩:=uX (rs.length);obtain ⟨ne,a0⟩:=uX (n.length);obtain ⟨gC,f6⟩:=uX (w.heap.size);obtain ⟨W,hW⟩:=uX (w.alloc (Obj.cells #[.slice am 16 cm,.slice al nl cl,.slice ar nr cR,.int .i64 room] 26));have bW:=uB hW;have kC:=uK hW f6;obtain ⟨E,f1⟩:=uX (w.heap.size + 1);have l2:E = W.heap.size:=by rw [f1,hW];simp
 obtain ⟨W1,d5⟩:=uX (W.alloc (Obj.cells Nn.toArray 44));have j5:=uB d5;have kO:Blk W1 E 44 Nn:=by rw [d5];exact Blk.newAt _ _ _ _ l2
 have n4:w.heap.size <= E:=by omega
 have c5:=bW.trans (j5.mono bW.size);have g7:=kC.below j5 kC.lt;have hE:∀ (sz:Nat) (ao:Option Addr) (Q:List (List Value)) (y:World),DA sz w ao Q -> Bl w y -> DA sz y ao Q:=fun sz ao Q y hP H i R=>by
  obtain ⟨g,o,e,h1,h2⟩:=hP i R;exact ⟨g,o,e,h1,fun j hj=>(H.cell (p:=⟨g,o + i * sz + j,none⟩) (QF w _ (h2 j hj))).trans (h2 j hj)⟩
 have i0:=AA (Si QL QR (by omega) (by omega) room o0 b0 k0 i8 am al ar cm cl cR W1 (hE _ _ _ W1 i9 c5) (hE _ _ _ W1 l9 c5));have g0:=AA (fun (y:World) (H:Bl w y)=>Rr u.length ((List.range n.length).map (kmC l n J)) (by rw [QD,qj];exact k5) (fun i R=>by
  rw [QD,qj] at R;rw [Nw l n J i R];exact cC (e4 i R).2.2 hl .msg trivial) ae ce y (hE _ _ _ y f7 H))
 have e9:=AA (fun (y:World) (H:Bl w y)=>Pd d u j3 m6 j9 am al cm cl x0 x1 y (hs.below H) (rm.below H) (j0.below H));rw [f5,f9,<- a7,<- c8] at i0;rw [QD,qj,<- a7,<- a0] at g0;rw [e5,<- a7] at e9;have e6:=AA a7;have o8:=AA c8;have o5:=AA a0;have n7:=AA f7;have n9:=AA e4;have n2:=AA e3;have b8:=AA (And.intro hs (And.intro hT rm));rw [<- a7,<- c8,<- a0];rw [<- a0] at k5;have HW:=AA hW;have l0:=AA d5;have j4:=AA f6;have l7:=AA f1;clear l2 hW d5 f6 f1 a7 c8 a0 f7 e4 e3 hs hT rm j0 i9 l9 k0 i8 j9 hE f5 f9 kC;go_enter func8,ntmps8;go_upto_region 1 with fail
 rw [<- show E = _ from l7,<- show W = _ from HW,<- show gC = _ from j4,<- show W1 = _ from l0];clear HW l0 j4 l7;have c7:=AA (fun (y:World) (H:Bl W1 y)=>g7.below H g7.lt);have j7:=AA (fun (y:World) (H:Bl W1 y)=>kO.below H kO.lt);go_wp2_with (refine AL rfl 26 _ rfl gC rfl g7 underlying26 rfl (by kernel_rfl) ?_)
 refine i0.out.mono ?_;rintro e X1 ⟨rfl,b1⟩;have c0:=c5.trans (b1.mono c5.size);have y1:=(c7.out X1 b1).c 1;go_wp2_with fail;refine (g0.out X1 c0).mono ?_;rintro e X2 ⟨rfl,b2⟩;have a4:=b1.trans (b2.mono b1.size);have G:=c0.trans (b2.mono c0.size);have z0:=(c7.out X2 a4).c 0;have z1:=(c7.out X2 a4).c 1;go_wp2_with fail;refine (e9.out X2 G).mono ?_;rintro e X3 ⟨⟨gK,cK,rfl,l4,l8,k7,k6⟩,b3⟩;have o2:=a4.trans (b3.mono a4.size);have k4:=c7.out X3 o2;have b7:=AA (And.intro l4 (And.intro l8 (And.intro k7 k6)));have m9:Hid (Mst X2 x0 x1 am d):=⟨b8.out.1.below G,b8.out.2.2.below G,fun w' hb=>b8.out.2.1 w' (G.trans (hb.mono G.size))⟩;clear l4 l8 k7 k6 z0 z1 y1 i0 g0 e9;go_wp2_with (refine AL rfl 26 _ rfl gC rfl k4 underlying26 rfl (by kernel_rfl) ?_)
 refine (Nt am al ar (some ⟨gK,0,none⟩) 16 cm nl cl nr cR nl cK room X3).mono ?_;rintro e X4 ⟨z,gM,rfl,g9,-,⟨⟨p1,es,c,n8,hh,c3,l6⟩,p0,c',d4,i7⟩,b4⟩;cases hh
 rw [c3] at d4;cases d4
 have o1:Hid (Yn (Obj.map es c) z):=⟨es,c,rfl,⟨n8,l6⟩,i7⟩;rw [show (16:Nat) = d.length from e5.symm,e6.out] at g9;have a8:=AA (XN (cK:=cK) m9.out hl m1 b7.out.1 b7.out.2.1 b7.out.2.2.1 b7.out.2.2.2 b3 _ _ room g9 c3 b4);have k3:=b3.trans (b4.mono b3.size);clear g9 c3 l6 i7 k4 b7 b4;go_wp2_with fail
 go_loopw [38] (fun i wr=>∃ k:Nat,k <= ne /\ i = .int .i64 (k:Int) /\ Hid (SW wr X2 x0 x1 am cm d z l gK u.length cK (DE u) gM (Obj.map es c) (Ca d l (DE u l) n k)) /\ Bl X2 wr) (fun i _=>ne - (intOf i).toNat)
 case atStart=>exact ⟨0,QU _,rfl,a8.out,k3⟩
 case round =>
  clear a8 k3;obtain ⟨k,hk,rfl,a8,O⟩:=hrel
  by_cases hlt:k < ne
  ·have m4:(k:Int) < (ne:Int):=by omega
   have a6:k < n.length:=by rw [<- o5.out];exact hlt
   obtain ⟨g,o,rfl,m2,hc⟩:=n7.out k (by rw [QD,qj];exact a6);rw [Nw l n J k a6] at hc;have e7:=G.trans (O.mono G.size);have I:∀ j,j < 4 -> wr.cell? ⟨g,o + k * 4 + j,none⟩ = some ((evC l (.slice (J k).1 (kmD n k).D.length (J k).2) .msg).getD j undef):=fun j hj=>(e7.cell (p:=⟨g,o + k * 4 + j,none⟩) (QF w _ (hc j hj))).trans (hc j hj);obtain ⟨b0,h7,-⟩:=n9.out k a6;obtain ⟨ad,g5⟩:=uX ((J k).1);obtain ⟨cd,h5⟩:=uX ((J k).2);rw [<- g5,<- h5] at I;rw [<- g5] at b0;rw [<- h5] at h7;have d0:wr.cell? ⟨g,o + k * 4,none⟩ = some (.int .i64 1):=I 0 (by omega);have d1:wr.cell? ⟨g,o + k * 4 + 1,none⟩ = some (.int .i64 (l:Int)):=I 1 (by omega);have d2:wr.cell? ⟨g,o + k * 4 + 2,none⟩ = some (.int .i64 0):=I 2 (by omega);have d3:wr.cell? ⟨g,o + k * 4 + 3,none⟩ = some (.slice ad (kmD n k).D.length cd):=I 3 (by omega);obtain ⟨nD,i2⟩:=uX ((kmD n k).D.length);rw [<- i2] at d3;obtain ⟨gE,g8⟩:=uX (wr.heap.size);obtain ⟨W5,c6⟩:=uX (wr.alloc (Obj.cells #[.int .i64 1,.int .i64 (l:Int),.int .i64 0,.slice ad nD cd] 38));have b5:=uB c6;have kE:=uK c6 g8;have m7:=PY d l (DE u l) n k (by omega);have f0:=AA (Z4 o1.out (Ca d l (DE u l) n k) (kmD n k) (n2.out k a6) ad cd h7 0 (by omega) (by omega) W5 (O.trans (b5.mono O.size)) (by
    obtain ⟨s,C,K,h1,h2⟩:=a8.out;exact ⟨s,C,K.below b5,h1,h2⟩) (b0.below (e7.trans (b5.mono e7.size))))
   rw [<- i2,show EY d l (Ca d l (DE u l) n k) (kmD n k) = Ca d l (DE u l) n (k + 1) from by rw [Dk d l (DE u l) n k a6,Zp n k a6]] at f0;have k2:=AA c6;have k1:=AA g8;clear c6 g8 I i2 g5 h5 hc m2 b0 h7 m7;go_upto_region 10 with fail
   rw [<- show W5 = _ from k2,<- show gE = _ from k1];clear k2 k1 d0 d1 d2 d3;go_wp2_with (refine AL rfl 38 _ rfl gE rfl kE underlying38 rfl (by kernel_rfl) ?_)
   refine f0.out.mono ?_;rintro e Y ⟨rfl,m0,bY⟩;have HY:=AA m0;clear m0 f0;go_wp2_with fail;go_roundw
   case rel=>exact ⟨k + 1,by omega,by go_num,HY.out,O.trans ((b5.mono O.size).trans bY)⟩
   case measure=>simp [intOf];omega
  ·obtain rfl:k = ne:=by omega
   have m4:¬ (k:Int) < (k:Int):=by omega
   obtain ⟨A,hA⟩:=uX (Ca d l (DE u l) n k);have d6:Hid (Ca d l (DE u l) n k = A):=hA.symm;have l3:=a8.out;rw [<- hA] at l3;obtain ⟨t,C,n0,hC,-⟩:=l3;obtain ⟨P,a1,c1,a2,c2,-,hS,a9,k9,-,i5,hD⟩:=n0;have l5:Hid (KN wr gK (kkN u l A.now)):=fun i R=>by
    rw [JO] at R;rw [TQ u l A.now i R]
    by_cases e:i = l
    ·rw [if_pos e,e];exact ⟨a1,c1,a2,A.bef.length,c2,a9.e1,a9.e2,a9.l1,a9.r1⟩
    ·rw [if_neg e];obtain ⟨a,c,h1,h2,h3,h4,-⟩:=k9 i R e;exact ⟨a,c,none,0,0,h1,h2,h3,h4⟩
   have j1:Hid (Pb wr l t.S A.DS):=⟨i5,fun i R=>by obtain ⟨a,c,e,r,lc,-⟩:=hD i R;exact ⟨a,c,e,r,lc⟩⟩;have e8:=AA C;obtain ⟨wv,sv,lv,ps,a5⟩:=hS;obtain ⟨aW,cW,rfl⟩:=EV a5.wrow;obtain ⟨X,T,rfl⟩:=EV a5.srow;obtain ⟨N,U,rfl⟩:=EV a5.lrow;obtain ⟨nW,i3⟩:=uX (t.W.length);obtain ⟨Z,f3⟩:=uX (t.S.length);obtain ⟨nL,f8⟩:=uX (t.L.length);rw [<- i3,<- f3,<- f8] at a5;have o4:=AA a5;have M:=AA (And.intro i3 (And.intro f3 f8));have j8:=AA hC;clear a5 i3 f3 f8 hA a9 k9 hD i5 C hC a8;go_upto_region 12 with fail
   obtain ⟨V,hV⟩:=uX (World.drew wr);have a3:Bl wr V:=by rw [hV];exact (Below.refl _ _).drew
   have h6:Bl X2 V:=O.trans (a3.mono O.size);have e0:=AA (G.trans (h6.mono G.size));have n1:w.heap.size <= V.heap.size:=e0.out.size;have KO:=AA (j7.out V (a4.trans (h6.mono a4.size)));have b6:=o4.out.sm (Sm.below a3);have o3:=(j7.out X2 a4).lt;have o9:E < z:=QX o3 b6.lo;have i6:=AA (Y9 t X2.heap.size z P x0 x1 am cm d e8.out.hm gK cK (kkN u l A.now) (by rw [JO];exact j3) (by rw [JO];exact e8.out.hky) V (b8.out.1.below e0.out) (b8.out.2.2.below e0.out) ⟨_,_,_,_,by
    have h8:=b6;rw [M.out.1,M.out.2.1,M.out.2.2] at h8;exact h8⟩ (fun i R=>by
    obtain ⟨a,c,b,nb,cb,h1,h2,h3,h4⟩:=l5.out i R;have k8:=QF wr _ h1;exact ⟨a,c,b,nb,cb,(a3.cell (p:=⟨gK,i * 2,none⟩) k8).trans h1,(a3.cell (p:=⟨gK,i * 2 + 1,none⟩) k8).trans h2,h3,h4.below a3⟩))
   obtain ⟨nG,f4⟩:=uX ((kkN u l A.now).length);obtain ⟨gx,g6⟩:=uX ((kkN u l A.now).map (L7 d));rw [<- f4,<- g6] at i6;have j2:Hid (nG = u.length):=by rw [f4,JO];rfl
   have n6:=AA g6;have c4:Hid (∀ {y},Bl V y -> y.cell? ⟨z,10,none⟩ = some (.slice X Z T) /\ y.cell? ⟨z,11,none⟩ = some (.slice N nL U) /\ y.cell? ⟨z,9,none⟩ = some (.slice aW nW cW)):=fun H=>by
    have h9:=b6.sm (Sm.below H);exact ⟨h9.c10,h9.blk.cell 11 (by simp [Fl]),h9.c9⟩
   have m3:Hid (∀ (y:World),Bl V y -> ∀ F:Array Value,(y.setRow E F).cell? ⟨z,10,none⟩ = some (.slice X Z T) /\ (y.setRow E F).cell? ⟨z,11,none⟩ = some (.slice N nL U) /\ (y.setRow E F).cell? ⟨z,9,none⟩ = some (.slice aW nW cW)):=fun y H F=>by
    have h9:=c4.out H;have hb:(y.setRow E F).heap[z]? = y.heap[z]?:=setRow_other y E z F (by omega);exact ⟨(World.cell?_of_block (a:=⟨z,10,none⟩) hb).trans h9.1,(World.cell?_of_block (a:=⟨z,11,none⟩) hb).trans h9.2.1,(World.cell?_of_block (a:=⟨z,9,none⟩) hb).trans h9.2.2⟩
   have i4:Hid (∀ (y:World),Bl V y -> ∀ F:Array Value,(y.setRow E F).ownsRow X2.heap.size 49 2 (.slice X Z T) Z (t.S.flatMap Jj) /\ (y.setRow E F).ownsRow X2.heap.size 47 3 (.slice N nL U) nL (t.L.flatMap O9) /\ Pb (y.setRow E F) l t.S A.DS):=fun y H F=>by
    have h9:=b6.sm (Sm.below H);have i1:Kp (fun q=>q = E) y (y.setRow E F):=fun i _ hp=>setRow_other y E i F hp;have r1:=IZ h9.srow i1 (fun g hg e=>by have:=(h9.srow.lt g hg).1;omega);have r2:=IZ h9.lrow i1 (fun g hg e=>by have:=(h9.lrow.lt g hg).1;omega);rw [<- M.out.2.1] at r1;rw [<- M.out.2.2] at r2;have n5:=KO.out.below H KO.out.lt;refine ⟨r1,r2,j1.out.1,fun i R=>?_⟩;obtain ⟨a,c,e,r,lc⟩:=j1.out.2 i R;have ry:=(r.below a3).below H;refine ⟨a,c,e,?_,lc⟩
    by_cases h0:0 < (A.DS.getD i []).length
    ·exact ry.kp i1 (fun p hp e=>by
      rw [hp] at ry;exact dN n5 (by intro v hv x e;subst e;simp at hv) ry h0 e)
    ·exact .inl (List.length_eq_zero_iff.1 (by omega))
   have m8:Bl V V:=Below.refl _ _;have HV:=AA hV;clear hV b6 f4 g6 a3 h6 l5;refine QJ (S:=fun y=>y.cell? ⟨z,10,none⟩ = some (.slice X Z T) /\ y.cell? ⟨z,11,none⟩ = some (.slice N nL U) /\ y.cell? ⟨z,9,none⟩ = some (.slice aW nW cW)) (by kernel_rfl) (by rw [<- show V = _ from HV];exact c4.out m8) (fun m=>?_);rw [<- show V = _ from HV] at m ⊢;clear HV;refine tA 0 (.pointer (some ⟨z,0,none⟩)) m ?_;simp only [put,pS];refine tA 1 (.pointer (some ⟨z,0,none⟩)) m ?_;simp only [put,pS];refine tA 2 (.pointer (some ⟨z,10,none⟩)) m ?_;simp only [put,pS];refine tC 3 (.slice X Z T) rfl (fun w1 h=>by have hc:=h.1;go_simp) m ?_;simp only [put,pS];refine tA 4 (.pointer (some ⟨z,0,none⟩)) m ?_;simp only [put,pS];refine tA 5 (.pointer (some ⟨z,0,none⟩)) m ?_;simp only [put,pS];refine tA 6 (.pointer (some ⟨z,11,none⟩)) m ?_;simp only [put,pS];refine tC 7 (.slice N nL U) rfl (fun w1 h=>by have hc:=h.2.1;go_simp) m ?_;simp only [put,pS];refine tA 8 (.pointer (some ⟨z,0,none⟩)) m ?_;simp only [put,pS];refine tA 9 (.pointer (some ⟨z,0,none⟩)) m ?_;simp only [put,pS];refine tA 10 (.pointer (some ⟨z,9,none⟩)) m ?_;simp only [put,pS];refine tC 11 (.slice aW nW cW) rfl (fun w1 h=>by have hc:=h.2.2;go_simp) m ?_;simp only [put,pS];refine tA 12 (.int .i64 (nW:Int)) m ?_;simp only [put,pS];refine tA 13 (.pointer (some ⟨z,0,none⟩)) m ?_;simp only [put,pS];refine rdy1 14 (fun K hK=>?_);go_simp;refine i6.out.mono ?_;rintro e U1 ⟨⟨aG,cG,rfl,rG⟩,b9⟩;go_wp2_with fail;refine hK.out _ _ (c4.out b9) (fun m=>?_);clear hK K
   try dsimp only [put]
   refine tA 15 (.agg #[.int .i64 0,.slice X Z T,.slice N nL U,.int .i64 (nW:Int),.slice aG nG cG]) m ?_;simp only [put,pS];refine rdy1 16 (fun K hK=>?_);rw [if_pos (by rfl)];have j6:=KO.out.below b9 KO.out.lt;refine AR rfl 44 _ _ rfl E rfl rfl j6 (by kernel_rfl) rfl (by simp [Value.oneCell']) ?_;have n3:=Blk.setRow j6 [.int .i64 0,.slice X Z T,.slice N nL U,.int .i64 (nW:Int),.slice aG nG cG];have o6:=AN (g:=E) (e0.out.trans (b9.mono n1)) n4 ([.int .i64 0,.slice X Z T,.slice N nL U,.int .i64 (nW:Int),.slice aG nG cG]:List Value).toArray;have K3:=m3.out U1 b9 ([.int .i64 0,.slice X Z T,.slice N nL U,.int .i64 (nW:Int),.slice aG nG cG]:List Value).toArray;refine hK.out _ _ K3 (fun m=>?_);clear hK K
   try dsimp only [put]
   refine QM (by kernel_rfl) ?_ _;clear m;have f2:=i4.out U1 b9 #[.int .i64 0,.slice X Z T,.slice N nL U,.int .i64 (nW:Int),.slice aG nG cG];have m5:(World.setRow U1 E #[.int .i64 0,.slice X Z T,.slice N nL U,.int .i64 (nW:Int),.slice aG nG cG]).ownsRow V.heap.size 3 1 (.slice aG nG cG) nG gx:=IZ rG (fun i _ hp=>setRow_other U1 E i _ hp) (fun g hg e=>by have:=(rG.lt g hg).1;have:=KO.out.lt;omega);go_wp2_with fail;refine Qc (AG results8 _ _ rfl n3 underlying44 rfl (by kernel_rfl)) rfl ⟨⟨X2.heap.size,V.heap.size,X,N,aG,T,U,cG,t.S,?_,?_,?_,?_,?_⟩,o6⟩
   ·rw [d6.out,<- j8.out,<- M.out.2.1,<- M.out.2.2,e6.out,<- j2.out,M.out.1,e8.out.W];rfl
   ·rw [<- M.out.2.1];exact f2.1
   ·rw [d6.out,<- j8.out,<- M.out.2.2];exact f2.2.1
   ·rw [d6.out,e6.out,<- j2.out,<- n6.out];exact m5
   ·rw [d6.out];exact f2.2.2
end Go.Proofs.YtbkokcjolanpeaaGreatDoor
