import Derived.Test.YtbkokcjolanpeaaGreatDoorMkU
set_option maxRecDepth 100000
set_option maxHeartbeats 20000000
namespace Go.Proofs.YtbkokcjolanpeaaGreatDoor
open Go.RowKit Go.Proofs.Tryz Act
abbrev Ea (U G:Int):Value:=.agg #[.int .i64 U,.int .i64 G]
theorem NG (b:Bool) (U G:Int) (w:World):(Instr.checkKey b 10000 124 (Ea U G)).run prog w = .ok () w:=by cases b <;> kernel_rfl
theorem Wl (U G:Int) (w:World):(Instr.findKey 124 (Ea U G) []).run prog w = .ok none w:=by kernel_rfl
abbrev FZ (U G:Int) (v:Value):Obj:=.map #[{ key:=Ea U G,val:=v,born:=0 }] 1
theorem I9 {r clock:Nat} {a:Array MapEntry} {w:World} (b:w.heap[r]? = some (.map a clock)):(getObj r).run prog w = .ok (.map a clock) w:=by simp [getObj,Sem.run,b]
theorem Ze (r:Nat) (U G:Int) (v:Value) (w:World) (a:w.heap[r]? = some (.map #[] 0)) :
 (Instr.mapUpdate 122 (.map (some r)) (Ea U G) v).run prog w = .ok () { w with heap:=w.heap.setIfInBounds r (FZ U G v) }:=by
 unfold Instr.mapUpdate;rw [Qe,qW underlying122 w];simp only [Result.andThen];rw [Qe,I9 a];simp only [Result.andThen];rw [Qe,NG];simp only [Result.andThen];rw [Qe,Wl];simp only [Result.andThen];simp [setObj,Sem.run,a]
theorem YF (U G:Int) (v:Value) (n:Nat) (w:World):(Instr.findKey 124 (Ea U G) [{ key:=Ea U G,val:=v,born:=n }]).run prog w = .ok (some (0,v)) w:=by
 have b:(Op.equal 124 (Ea U G) (Ea U G)).run prog w = .ok true w:=by
  refine (show (Op.equal 124 (Ea U G) (Ea U G)).run prog w = _ from run_equalIn_struct (P:=prog) w 9999 124 #[.int .i64 U,.int .i64 G] #[.int .i64 U,.int .i64 G] (by kernel_rfl) (by kernel_rfl)).trans ?_;have d:(Go.part 3 #[.int .i64 U,.int .i64 G] 0).run prog w = .ok (.int .i64 U) w:=by kernel_rfl
  have a:(Go.part 3 #[.int .i64 U,.int .i64 G] 1).run prog w = .ok (.int .i64 G) w:=by kernel_rfl
  have f:=run_equalIn_int (P:=prog) w 9998 3 .i64 .i64 U U underlying3;have c:=run_equalIn_int (P:=prog) w 9998 3 .i64 .i64 G G underlying3;simp [Program.fieldsOf,underlying124,Op.eqFields,d,a,f,c]
 unfold Instr.findKey;rw [Qe,qW underlying124 w];simp only [Result.andThen,Instr.findNow,Instr.sameNow,Instr.findAsking];rw [Qe,b]
 rfl
theorem Y6 (r:Nat) (U G:Int) (v:Value) (w:World) (a:w.heap[r]? = some (FZ U G v)) :
 (Instr.lookup 122 (.map (some r)) (Ea U G) false).run prog w = .ok v w:=by
 unfold Instr.lookup;rw [Qe,qW underlying122 w];simp only [Result.andThen];rw [Qe,I9 a];simp only [Result.andThen];rw [Qe,ql];simp only [Result.andThen];rw [Qe,NG];simp only [Result.andThen];rw [Qe,YF]
 rfl
theorem Vp {w V a:World} {r:Option Nat} {g:Nat} (h:w.grownBy V r) (k:V.grownBy a (some g)) (d:w.heap.size <= g):w.grownBy a r :=
 ⟨k.os.trans h.os,k.tape.trans h.tape,k.output.trans h.output,QG h.size k.size,fun i b c=>(k.block i (QX b h.size) (by intro e;cases e;omega)).trans (h.block i b c)⟩
abbrev I4:List Value:=[.int .i64 0,.int .i64 0]
theorem Tryz.zeroSl:(prog.info? 124).map (fun i=>(i.zero,i.size)) = some (some (.agg I4.toArray),2):=by kernel_rfl
theorem aw (b d:LU) (q t:Option Addr) (O s r:Nat) (u z:Addr) (w:World) (o:d.length <= s) (M:Sents w u z) (N:RowAt w q b) (J:RowAt w t d) (f:okO b d = false) :
 Calls prog 56 #[.map (some r),.slice q b.length O,.slice t d.length s] w fun e w'=>e = .returned (Ea 0 0) /\ Bl w w':=by
 have hz:=(QO Tryz.zeroSl).1;have a0:=(QO Tryz.zeroKI).1;obtain ⟨W,j⟩:=uX (w.alloc (.cells I4.toArray 124));have B:Blk W w.heap.size 124 I4:=by rw [j];exact Blk.new w _ _
 have g:=uB j;have V:=B.lt;have y:=Aa (Jc b d q t O s u z W o (M.below g) (N.below g) (J.below g));have l:∃ T x,FC u z b d = .iface T x:=by
  unfold okO at f;unfold FC;cases hf:Bb b d with
  | false=>exact ⟨_,_,rfl⟩
  | true =>
    rw [hf,Qp] at f;rw [f];exact ⟨_,_,rfl⟩
 obtain ⟨tE,xE,l⟩:=l;have H:opU b d = 0:=by unfold opU;rw [f];rfl
 have I:opG b d = 0:=by unfold opG;rw [f];rfl
 rw [l,H,I] at y;obtain ⟨n,C⟩:=uX (b.length);obtain ⟨m,L⟩:=uX (d.length);rw [<- C,<- L] at y ⊢;clear C L M N J o f l H I;have Y:prog.isIface 75 = true:=by kernel_rfl
 go_enter func56,ntmps56;go_wp2_with fail;rw [<- j];clear j;refine y.out.mono ?_;rintro e D ⟨v,rfl,p,i⟩;obtain ⟨a,c,rfl,-,-⟩:=p.shape;have R:=B.below i V;have A:Bl w D:=g.trans (i.mono g.size);have X:=R.alloc (.cells #[.int .i64 0,.int .i64 0,.slice a (BH b d).length c] 55);have G:Bl w (D.alloc (.cells #[.int .i64 0,.int .i64 0,.slice a (BH b d).length c] 55)):=A.alloc A.size _;clear p i B g R A;go_wp2_with (refine store_blk rfl 124 _ _ rfl w.heap.size rfl rfl X (by kernel_rfl) rfl (by kernel_rfl) ?_;intro w7 E F Z)
 exact ⟨rfl,_,AG results56 _ _ rfl E underlying124 rfl (by kernel_rfl),⟨rfl,G.grown F G.size (by intro k U;cases U;exact QE _)⟩⟩
theorem XV (a b:LU) (am ab:Option Addr) (cm Y r:Nat) (Z x1:Addr) (w:World) (L:b.length <= Y) (hs:Sents w Z x1) (rm:RowAt w am a) (rb:RowAt w ab b) (q:okO a b = true) (hr:w.heap[r]? = some (.map #[] 0)) :
 Calls prog 56 #[.map (some r),.slice am a.length cm,.slice ab b.length Y] w fun e w'=>e = .returned (Ea (opU a b) (opG a b)) /\ w'.heap[r]? = some (FZ (opU a b) (opG a b) (.agg ((Ao a b).map byte).toArray)) /\ w.grownBy w' (some r):=by
 have hz:=(QO Tryz.zeroSl).1;have b4:=(QO Tryz.zeroKI).1;obtain ⟨W,I⟩:=uX (w.alloc (.cells I4.toArray 124));have kW:Blk W w.heap.size 124 I4:=by rw [I];exact Blk.new w _ _
 have A:=uB I;have lW:=kW.lt;have lr:r < w.heap.size:=qS hr;have C:=Aa (Jc a b am ab cm Y Z x1 W L (hs.below A) (rm.below A) (rb.below A));have hE:FC Z x1 a b = .nilIface:=by
  have h:=Bool.and_eq_true_iff.1 q;unfold FC;rw [h.1,h.2]
  rfl
 rw [hE,(Je q).1] at C;have E:=(Je q).2;obtain ⟨n,hn⟩:=uX (a.length);obtain ⟨m,hm⟩:=uX (b.length);rw [<- hn,<- hm] at C ⊢;obtain ⟨U,hU⟩:=uX (opU a b);obtain ⟨G,hG⟩:=uX (opG a b);obtain ⟨K,B⟩:=uX (Ao a b);rw [<- hU,<- hG,<- B] at C ⊢;rw [<- B] at E;have a7:(K.map byte).length = 16:=by rw [QD,E]
 clear hn hm hs rm rb L q hE hU hG B;go_enter func56,ntmps56;go_wp2_with fail;rw [<- I];clear I;refine C.out.mono ?_;rintro e g ⟨v,rfl,X,s⟩;obtain ⟨f,c,hc,rfl,rk,b0,a2⟩:=X.at' E (by omega);have J:=kW.below s lW;have b1:Bl w g:=A.trans (s.mono A.size);have l1:=s.size;obtain ⟨F,o⟩:=uX ((g.alloc (.cells #[.int .i64 U,.int .i64 G,.slice (some ⟨f,0,none⟩) 16 c] 55)).alloc (.cells #[.int .i64 U,.int .i64 G] 124));have kI:Blk F g.heap.size 55 [.int .i64 U,.int .i64 G,.slice (some ⟨f,0,none⟩) 16 c]:=by rw [o];exact (Blk.new g _ _).alloc _
 have kS:Blk F (g.heap.size + 1) 124 [.int .i64 U,.int .i64 G]:=by rw [o];exact Blk.new2 g _ _ _
 have z:Bl g F:=by rw [o];exact ((Below.refl _ _).alloc (QE _) _).alloc (by simp) _
 have T:=Aa o;clear X s kW A C o;go_upto_region 5 with fail
 rw [<- show F = _ from T];clear T;obtain ⟨V,l⟩:=uX (World.drew F);have bV:Bl w V:=by rw [l];exact (b1.trans (z.mono b1.size)).drew
 have R:Blk V w.heap.size 124 I4:=by rw [l];exact (J.below z J.lt).drew1
 have p:Blk V g.heap.size 55 [.int .i64 U,.int .i64 G,.slice (some ⟨f,0,none⟩) 16 c]:=by rw [l];exact kI.drew1
 have t:Blk V (g.heap.size + 1) 124 [.int .i64 U,.int .i64 G]:=by rw [l];exact kS.drew1
 have O:V.rangeAt f 0 (K.map byte):=by rw [l];exact AU rk z.drew
 have mV:V.heap[r]? = some (.map #[] 0):=by rw [bV.block r lr];exact hr
 have a1:=Ze r U G (.agg (K.map byte).toArray) V mV;have a8:=qS mV;have a9:=a2;obtain ⟨D,y⟩:∃ x:World,x = { V with heap:=V.heap.setIfInBounds r (FZ U G (.agg (K.map byte).toArray)) }:=⟨_,rfl⟩;have g2:V.grownBy D (some r):=by rw [y];exact ⟨rfl,rfl,rfl,by simp,fun k _ hk=>by simp only [Array.getElem?_setIfInBounds];rw [if_neg (by intro e;exact hk (by rw [e]))]⟩
 have m2:D.heap[r]? = some (FZ U G (.agg (K.map byte).toArray)):=by rw [y];simp [a8]
 rw [<- y] at a1;obtain ⟨i,H⟩:=uX (g.heap.size);have lI:w.heap.size < i:=by rw [H];exact J.lt
 rw [<- H] at p t ⊢;have a4:f ≠ r:=by omega
 have sV:V.rangeAt (i + 1) 0 [.int .i64 U,.int .i64 G] /\ V.cell? ⟨i,2,none⟩ = some (.slice (some ⟨f,0,none⟩) 16 c) /\ V.rangeAt f 0 (K.map byte):=⟨Ad t,p.c 2,O⟩;have a5:=R.grown g2 (by intro e;cases e;omega)
 have N:=t.grown g2 (by intro e;cases e;omega)
 have s2:D.rangeAt (i + 1) 0 [.int .i64 U,.int .i64 G] /\ D.cell? ⟨i,2,none⟩ = some (.slice (some ⟨f,0,none⟩) 16 c) /\ D.rangeAt f 0 (K.map byte):=⟨Ad N,(p.grown g2 (by intro e;cases e;omega)).c 2,fun j u hj=>g2.cell (O j u hj) (by intro e;cases e;exact a4 rfl)⟩
 have a0:Hid (∀ {P:Prop},P -> P):=fun h=>h;have b3:=fun (wx:World)=>run_arrayAt (P:=prog) (w:=wx) 88 5 16 (some ⟨f,0,none⟩) 16 c underlying88 (QE _);refine QJ (S:=fun x=>x.rangeAt (i + 1) 0 [.int .i64 U,.int .i64 G] /\ x.cell? ⟨i,2,none⟩ = some (.slice (some ⟨f,0,none⟩) 16 c) /\ x.rangeAt f 0 (K.map byte)) (by kernel_rfl) (by rw [<- l];exact sV) (fun d=>?_);rw [<- l] at d ⊢;clear l y R t p kI kS J rk z b1 H;refine tA 0 (.map (some r)) d ?_;simp only [put,pS];refine tB 1 (.agg ([.int .i64 U,.int .i64 G]:List Value).toArray) rfl (QY (by rfl) 124 _ rfl (i + 1) 0 rfl [.int .i64 U,.int .i64 G] _ (fun _ h=>h.1) underlying124 rfl (by kernel_rfl)) d ?_;simp only [put,pS];refine tA 2 (.pointer (some ⟨i,2,none⟩)) d ?_;simp only [put,pS];refine tC 3 (.slice (some ⟨f,0,none⟩) 16 c) rfl (fun g h=>by have hc:=h.2.1;go_simp) d ?_;simp only [put,pS];refine tA 4 (.pointer (some ⟨f,0,none⟩)) d ?_;simp only [put,pS];refine tB 5 (.agg (K.map byte).toArray) rfl (QY (by rfl) 88 _ rfl f 0 rfl (K.map byte) _ (fun _ h=>h.2.2) underlying88 rfl (by rw [a7];kernel_rfl)) d ?_;simp only [put,pS];refine rdy1 6 (fun K B=>?_);go_simp
 skip
 refine B.out _ _ (a0.out s2) (fun d=>?_);clear B K
 try dsimp only [put]
 refine QM (by kernel_rfl) ?_ _;go_wp2_with (first
  | (refine AL rfl 124 _ rfl (i + 1) rfl N underlying124 rfl (by kernel_rfl) ?_)
  | (refine store_blk rfl 124 _ _ rfl w.heap.size rfl rfl a5 (by kernel_rfl) rfl (by kernel_rfl) ?_;intro w7 a3 M b2))
 have a6:=Vp (grown_trans (grown_of_below bV (some r)) g2) M (QE _);exact ⟨rfl,_,AG results56 _ _ rfl a3 underlying124 rfl (by kernel_rfl),⟨rfl,by rw [M.block r (qS m2) (by intro e;cases e;omega)];exact m2,a6⟩⟩
theorem Y8 (a b:LU) (c f:Option Addr) (k d r:Nat) (j i:Addr) (w:World) (g:b.length <= d) (m:Sents w j i) (o:RowAt w c a) (l:RowAt w f b) (s:w.heap[r]? = some (.map #[] 0)) :
 Calls prog 56 #[.map (some r),.slice c a.length k,.slice f b.length d] w fun e w'=>e = .returned (Ea (opU a b) (opG a b)) /\ (okO a b = true -> w'.heap[r]? = some (FZ (opU a b) (opG a b) (.agg ((Ao a b).map byte).toArray))) /\ w.grownBy w' (some r):=by
 cases hok:okO a b with
 | false =>
   refine (aw a b c f k d r j i w g m o l hok).mono ?_;rintro e w' ⟨rfl,n⟩;refine ⟨?_,(fun h=>by cases h),grown_of_below n _⟩;unfold opU opG;rw [hok]
   rfl
 | true =>
   refine (XV a b c f k d r j i w g m o l hok s).mono ?_;rintro e w' ⟨rfl,p,q⟩;exact ⟨rfl,fun _=>p,q⟩
theorem TX (a key data:LU):(macL a key data).length <= 8:=by
 unfold macL
 split
 ·split
  ·unfold DB
   split
   ·rw [JL];omega
   ·simp
  ·simp
 ·simp
theorem LY (a key data:LU) (am ak X:Option Addr) (cm ck cd:Nat) (x0 x1:Addr) (w:World) (a2:key.length <= ck) (b6:data.length <= cd) (hn:data.length <= 1048576) (hs:Sents w x0 x1) (rm:RowAt w am a) (rk:RowAt w ak key) (rd:RowAt w X data) :
 Calls prog 22 #[.slice am a.length cm,.slice ak key.length ck,.slice X data.length cd] w fun e w'=>∃ v,e = .returned (.agg #[.int .i64 (Dp a key data),v]) /\ Own w' w.heap.size v (macL a key data) /\ Bl w w':=by
 have hz:=(QO Tryz.zeroMc).1;have b7:=(QO Tryz.z16).1;have b9:=@run_makeMap prog;obtain ⟨W,T⟩:=uX ((w.alloc (.cells Fw.toArray 68)).alloc (.map #[] 0));have kW:Blk W w.heap.size 68 Fw:=by rw [T];exact (Blk.new w _ _).alloc _
 have mW:W.heap[w.heap.size + 1]? = some (.map #[] 0):=by
  have h0:(w.alloc (.cells Fw.toArray 68)).heap.size = w.heap.size + 1:=by simp
  rw [T,<- h0];show ((w.alloc (.cells Fw.toArray 68)).heap.push _)[(w.alloc (.cells Fw.toArray 68)).heap.size]? = _;exact Array.getElem?_push_size
 have F:Bl w W:=by rw [T];exact ((Below.refl _ w).alloc (QE _) _).alloc (by simp) _
 have J:=Aa (Y8 a key am ak cm ck (w.heap.size + 1) x0 x1 W a2 (hs.below F) (rm.below F) (rk.below F) mW);have c:okO a key = true -> (Ao a key).length = 16:=fun h=>(Je h).2;have q:=Aa (fun (h:okO a key = true) (g:Nat) (wx:World) (h1:RowAt wx (some ⟨g,0,none⟩) (Ao a key)) (h2:RowAt wx X data)=>Ty (Ao a key) data (some ⟨g,0,none⟩) X 16 cd wx (by rw [c h];omega) hn (by rw [c h];exact QE _) b6 h1 h2);obtain ⟨r,N⟩:=uX (w.heap.size + 1);have c0:=Aa N;rw [<- N] at J;have p:Hid (Dp a key data = (if okO a key && decide (opU a key = 2) then (if data.length <= 4096 then 0 else 6) else 1)):=rfl;have HL:Hid (macL a key data = (if okO a key && decide (opU a key = 2) then (if data.length <= 4096 then DB (Ao a key) data else []) else [])):=rfl;have t:okO a key = false -> opU a key = 0:=fun h=>by unfold opU;rw [h];rfl
 obtain ⟨n,a3⟩:=uX (a.length);obtain ⟨m,a0⟩:=uX (key.length);rw [<- a3,<- a0] at J ⊢;obtain ⟨U,hU⟩:=uX (opU a key);obtain ⟨G,hG⟩:=uX (opG a key);obtain ⟨K,Z⟩:=uX (Ao a key);obtain ⟨M,A⟩:=uX (okO a key);rw [<- hU,<- hG,<- Z,<- A] at J;rw [<- Z,<- A] at q c;rw [<- hU,<- A] at p HL t;rw [<- Z] at HL;clear a3 a0 hU hG Z A rm rk hs a2;go_enter func22,ntmps22;go_wp2_with fail;rw [<- T,<- N];clear T;refine J.out.mono ?_;rintro e R ⟨rfl,I,g1⟩;have b8:w.heap.size < r:=by rw [N];omega
 have b1:Bl w R:=F.grown g1 F.size (by intro k i;cases i;omega)
 have k1:Blk R w.heap.size 68 Fw:=kW.grown g1 (by intro e;cases e;omega)
 have a8:=rd.below b1;obtain ⟨u,b⟩:=uX (R.alloc (.cells #[.int .i64 U,.int .i64 G] 124));have H:Blk u R.heap.size 124 [.int .i64 U,.int .i64 G]:=by rw [b];exact Blk.new _ _ _
 have x:=uB b;have z:=k1.below x k1.lt;have o:Bl w u:=b1.trans (x.mono b1.size);have B:=a8.below x;have j:M = true -> u.heap[r]? = some (FZ U G (.agg (K.map byte).toArray)):=fun h=>by have h1:=I h;rw [x.block r (qS h1)];exact h1
 clear N k1 b1 a8 x I g1 J kW mW F rd
 by_cases hU2:U = 2
 ·have E:M = true:=by
   cases hq:M with
   | true=>rfl
   | false=>have:=t hq;omega
  subst hU2;rw [E] at p HL
  by_cases hd:data.length <= 4096
  ·have hd':¬ ((4096:Int) < (data.length:Int)):=by omega
   simp only [decide_true,Bool.and_self,if_true,if_pos hd] at p HL;have L:=Y6 r 2 G (.agg (K.map byte).toArray) u (j E);have c:=c E;have a6:(K.map byte).length = 16:=by rw [QD,c]
   have q:=Aa (q.out E);rw [c] at q;obtain ⟨W2,C⟩:=uX (u.alloc (.cells (AC 16 .u8).toArray 88));have kA:Blk W2 u.heap.size 88 (AC 16 .u8):=by rw [C];exact Blk.new _ _ _
   have V:=uB C;have b0:=Aa C;rw [b] at L H;go_upto_region 7 with fail
   rw [<- b] at L H ⊢;clear b C j t E;go_wp2_with (first
    | (refine AL rfl 124 _ rfl R.heap.size rfl H underlying124 rfl (by kernel_rfl) ?_)
    | (rw [<- show W2 = _ from b0];refine store_blk (cs:=K.map byte) rfl 88 _ _ rfl u.heap.size rfl rfl kA (by rw [a6];kernel_rfl) (by rw [a6];exact AD _ _) (AF _) ?_;intro w3 b2 g3 b4))
   have Y:Bl u w3:=V.grown g3 V.size (by intro k i;cases i;exact QE _)
   have D:=z.below Y z.lt;have O:=o.trans (Y.mono o.size);have a9:=B.below Y;clear z o B Y g3 b4 kA V b0 L H;refine (q.out _ w3 (Ai b2) a9).mono ?_;rintro e w4 ⟨v4,rfl,f,y⟩;have b5:=D.below y D.lt;have a7:=O.trans (y.mono O.size);obtain ⟨a4,c4,rfl,-,-⟩:=f.shape;obtain ⟨l,hl⟩:=uX ((DB K data).length);rw [<- hl] at f ⊢;have a5:=D.lt;clear D O a9 y hl b2 q;go_wp2_with (refine store_blk rfl 68 _ _ rfl w.heap.size rfl rfl b5 (by kernel_rfl) rfl (by kernel_rfl) ?_;intro w7 s d a1)
   exact ⟨rfl,_,AG results22 _ _ rfl s underlying68 rfl (by kernel_rfl),⟨_,by rw [p.out],by rw [HL.out];exact MZ (f.grown d (LD f a5)) (qz a5),a7.grown d a7.size (by intro k i;cases i;exact QE _)⟩⟩
  ·have hd':(4096:Int) < (data.length:Int):=by omega
   simp only [decide_true,Bool.and_self,if_true,if_neg hd] at p HL;rw [b] at z o;clear b j t E H B q;go_wp2_with (refine store_blk rfl 68 _ _ rfl w.heap.size rfl rfl z (by kernel_rfl) rfl (by kernel_rfl) ?_;intro w7 s d a1)
   exact ⟨rfl,_,AG results22 _ _ rfl s underlying68 rfl (by kernel_rfl),⟨_,by rw [p.out],by rw [HL.out];exact ET _ _,o.grown d o.size (by intro k i;cases i;exact QE _)⟩⟩
 ·have c1:(U != 2) = true:=by rw [qm];exact hU2
  rw [QT hU2,Bool.and_false] at p HL;simp only [Bool.false_eq_true,if_false] at p HL;rw [b] at z o;clear b j t H B q hU2;go_wp2_with (refine store_blk rfl 68 _ _ rfl w.heap.size rfl rfl z (by kernel_rfl) rfl (by kernel_rfl) ?_;intro w7 s d a1)
  exact ⟨rfl,_,AG results22 _ _ rfl s underlying68 rfl (by kernel_rfl),⟨_,by rw [p.out],by rw [HL.out];exact ET _ _,o.grown d o.size (by intro k i;cases i;exact QE _)⟩⟩
theorem Sents.grown {w w':World} {d c:Addr} {row:Option Nat} (h:Sents w d c) (a:w.grownBy w' row) {B:Nat} (l:∀ k,row = some k -> B <= k) (b:0 < B /\ 1 < B /\ d.block < B /\ c.block < B):Sents w' d c:=by
 obtain ⟨n,g1,j,⟨m,i,g⟩,⟨o,p,f⟩⟩:=h;have ne':∀ k,k < B -> some k ≠ row:=by intro k q e;have:=l k e.symm;omega
 exact ⟨a.cell n (ne' 0 b.1),a.cell g1 (ne' 1 b.2.1),j,⟨m,i,by rw [a.block _ (qS g) (ne' _ b.2.2.1)];exact g⟩,⟨o,p,by rw [a.block _ (qS f) (ne' _ b.2.2.2)];exact f⟩⟩
theorem Sents.lt {w:World} {b a:Addr} (h:Sents w b a):0 < w.heap.size /\ 1 < w.heap.size /\ b.block < w.heap.size /\ a.block < w.heap.size:=by
 obtain ⟨f,g1,i,⟨j,g,d⟩,⟨k,l,c⟩⟩:=h;exact ⟨QF w _ f,QF w _ g1,qS d,qS c⟩
end Go.Proofs.YtbkokcjolanpeaaGreatDoor
