import Derived.Test.YtbkokcjolanpeaaGreatDoorMkRb
set_option maxRecDepth 100000
set_option maxHeartbeats 20000000
namespace Go.Proofs.YtbkokcjolanpeaaGreatDoor
open Go.RowKit Go.Proofs.Tryz Act
open Go.RowKit Go.Extern.Stop Go.Stop Go.Extern
theorem Rb (v:Value) (w:World):(Extern.ReflectliteType.typeOf #[.iface 376 v]).run prog w = .ok (.iface 332 (.agg #[.pointer (some ⟨10,376,none⟩)])) w:=by kernel_rfl
theorem K6 (w:World):(callFunc 299 #[.agg #[.pointer (some ⟨10,376,none⟩)]]).run prog w = .ok (.value (.bool true)) w:=by
 rw [@run_callFunc_extern prog 299 _ (Extern.ReflectliteType.method fun t=>do Go.Extern.Rtype.noPackHeld "Comparable" t;pure (.bool (<- typeInfo t).comparable)) func299 (by kernel_rfl) (by kernel_rfl) (by kernel_rfl) (by kernel_rfl)]
 kernel_rfl
theorem Gp (v:Value) (w:World):(Go.method 509 332 v "Comparable").run prog w = .ok (299,v) w:=by kernel_rfl
theorem WR:(prog.info? 376).map (·.comparable) = some true:=by kernel_rfl
theorem WE:(prog.info? 378).map (·.size) = some 1:=by kernel_rfl
theorem du (v:Value) (a:TypeId) (w:World):(Instr.typeAssert (.iface 376 v) a 334 true).run prog w = .ok (.tuple #[.nilIface,.bool false]) w:=run_typeAssert_lacksB underlying334 (by kernel_rfl) (by kernel_rfl) v a w
theorem WJ (v:Value) (a:TypeId) (w:World):(Instr.typeAssert (.iface 376 v) a 337 true).run prog w = .ok (.tuple #[.nilIface,.bool false]) w:=run_typeAssert_lacksB underlying337 (by kernel_rfl) (by kernel_rfl) v a w
theorem Uw (v:Value) (a:TypeId) (w:World):(Instr.typeAssert (.iface 376 v) a 339 true).run prog w = .ok (.tuple #[.nilIface,.bool false]) w:=run_typeAssert_lacksB underlying339 (by kernel_rfl) (by kernel_rfl) v a w
theorem Ti (a:Addr) (w:World) :
 Calls prog 164 #[.iface 376 (.pointer (some a)),.iface 376 (.pointer (some a))] w fun e w'=>e = .returned (.bool true) /\ w' = w:=by
 obtain ⟨i,c,b⟩:=Option.map_eq_some_iff.1 WR;obtain ⟨j,d,f⟩:=Option.map_eq_some_iff.1 WE;have l:=@run_callFunc_extern prog 201 _ Extern.ReflectliteType.typeOf func201 (by kernel_rfl) (by kernel_rfl) (by kernel_rfl) (by kernel_rfl);have n:=Rb;have k:=K6;have m:=Gp;have g:=run_eql_iface_ptr_same (P:=prog) w a underlying75 underlying376 c b d;go_enter func164,ntmps164;go_wp2;refine wp_loop_rounds 1 ?_;rw [rounds_succ];go_wp2;go_ret;exact ⟨rfl,rfl⟩
theorem bj (b:Addr) (w:World) :
 Calls prog 164 #[.nilIface,.iface 376 (.pointer (some b))] w fun e w'=>e = .returned (.bool false) /\ w' = w:=by
 have a:=run_eql_iface_nil_left (P:=prog) w 376 (.pointer (some b)) underlying75;go_enter func164,ntmps164;go_wp2;go_ret;exact ⟨rfl,rfl⟩
theorem YY (a b:Addr) (p m:Array Value) (o q:TypeId) (w:World) (d:a ≠ b) (n:w.heap[a.block]? = some (.cells p o (0,0))) (g:w.heap[b.block]? = some (.cells m q (0,0))) :
 Calls prog 164 #[.iface 376 (.pointer (some a)),.iface 376 (.pointer (some b))] w fun e w'=>e = .returned (.bool false) /\ w' = w:=by
 obtain ⟨i,k,c⟩:=Option.map_eq_some_iff.1 WR;obtain ⟨j,l,f⟩:=Option.map_eq_some_iff.1 WE;have y:=@run_callFunc_extern prog 201 _ Extern.ReflectliteType.typeOf func201 (by kernel_rfl) (by kernel_rfl) (by kernel_rfl) (by kernel_rfl);have x:=Rb;have v:=K6;have t:=Gp;have u:=du;have z:=WJ;have s:=Uw;have r:=run_eql_iface_ptr_other (P:=prog) w underlying75 underlying376 k c l (by rw [f];decide) d n g;go_enter func164,ntmps164;go_wp2;refine wp_loop_rounds 1 ?_;rw [rounds_succ];go_wp2;go_ret;exact ⟨rfl,rfl⟩
theorem Uk {w:World} {base g:Nat} {v:Value} {l:LU} (h:Own w base v l) (a:g < base) (cs:Array Value):Own (w.setRow g cs) base v l :=
 h.grown (row:=some g) ⟨rfl,rfl,rfl,by simp,fun k _ b=>setRow_other w g k _ (fun e=>b (by simp [e]))⟩ (LD h a)
theorem Yc (c b:Addr) (w:World) (a:Sents w c b):Calls prog 131 #[.nilIface] w fun e w'=>e = .returned (.int .i64 0) /\ w' = w:=by
 have d:=a.g0;have f:=a.g1;clear a;go_enter func131,ntmps131;go_wp2_with (go_at_call 164;refine (bj _ _).mono ?_;rintro e w' ⟨rfl,rfl⟩)
 go_ret;exact ⟨rfl,rfl⟩
theorem Wk (a c:Addr) (w:World) (b:Sents w a c):Calls prog 131 #[.iface 376 (.pointer (some a))] w fun e w'=>e = .returned (.int .i64 1) /\ w' = w:=by
 have d:=b.g0;clear b;go_enter func131,ntmps131;go_wp2_with (go_at_call 164;refine (Ti _ _).mono ?_;rintro e w' ⟨rfl,rfl⟩)
 go_ret;exact ⟨rfl,rfl⟩
theorem Yg (c b:Addr) (w:World) (a:Sents w c b):Calls prog 131 #[.iface 376 (.pointer (some b))] w fun e w'=>e = .returned (.int .i64 2) /\ w' = w:=by
 have n:=a.g0;have o:=a.g1;obtain ⟨j,g,f⟩:=a.b0;obtain ⟨i,m,d⟩:=a.b1;have l:=Aa (YY b c i j m g w (Ne.symm a.ne) d f);clear a f d;go_enter func131,ntmps131;go_wp2_with fail;refine l.out.mono ?_;rintro e w' ⟨rfl,k⟩;subst w';go_wp2_with fail;refine (Ti _ _).mono ?_;rintro e w' ⟨rfl,k⟩;subst w';go_wp2_with fail;go_ret;exact ⟨rfl,rfl⟩
theorem YZ (d c:Addr) (a b:LU) (w:World) (f:Sents w d c):Calls prog 131 #[FC d c a b] w fun e w'=>e = .returned (.int .i64 (Cy a b)) /\ w' = w:=by
 unfold FC Cy
 split
 ·split
  ·exact Yc d c w f
  ·exact Yg d c w f
 ·exact Wk d c w f
theorem NC (b d:LU) (J L:Option Addr) (cm Y:Nat) (r t:Addr) (w:World) (O:d.length <= Y) (hs:Sents w r t) (rm:RowAt w J b) (rb:RowAt w L d) :
 Calls prog 75 #[.slice J b.length cm,.slice L d.length Y] w fun e w'=>∃ v,e = .returned (.agg #[.int .i64 (Cy b d),.int .i64 (opU b d),.int .i64 (opG b d),v]) /\ Own w' w.heap.size v (BH b d) /\ Bl w w':=by
 have HO:=Aa (fun (u:World) (h:Sents u r t) (h1:RowAt u J b) (h2:RowAt u L d)=>Jc b d J L cm Y r t u O h h1 h2);have HC:=Aa (fun (u:World) (h:Sents u r t)=>YZ r t b d u h);obtain ⟨n,hn⟩:=uX (b.length);obtain ⟨m,hm⟩:=uX (d.length);rw [<- hn,<- hm] at HO ⊢;obtain ⟨C,X⟩:=uX (Cy b d);obtain ⟨U,hU⟩:=uX (opU b d);obtain ⟨G,hG⟩:=uX (opG b d);obtain ⟨E,Z⟩:=uX (FC r t b d);obtain ⟨K,i⟩:=uX (BH b d);rw [<- X,<- Z] at HC;rw [<- hU,<- hG,<- Z,<- i] at HO;rw [<- X,<- hU,<- hG,<- i];have hz:=(QO Tryz.zeroOp).1;have a5:=(QO Tryz.zeroKI).1;obtain ⟨W,M⟩:=uX (w.alloc (.cells IV.toArray 145));have kW:Blk W w.heap.size 145 IV:=by rw [M];exact Blk.new w _ _
 have D:=uB M;have lW:=kW.lt;have rm':=rm.below D;have rb':=rb.below D;have hs':=hs.below D;clear hn hm X hU hG Z i rm rb hs O;go_enter func75,ntmps75;go_wp2_with fail;rw [<- M];clear M;refine (HO.out W hs' rm' rb').mono ?_;rintro e B ⟨v,rfl,A,y⟩;obtain ⟨a,c,rfl,-,-⟩:=A.shape;obtain ⟨k,hk⟩:=uX (K.length);rw [<- hk] at A ⊢;clear hk rm' rb';have T:=hs'.below y;have N:=kW.below y lW;have b1:Bl w B:=D.trans (y.mono D.size);obtain ⟨W1,z⟩:=uX (B.alloc (.cells BB.toArray 55));have bn:=uB z;have kn:Blk W1 B.heap.size 55 BB:=by rw [z];exact Blk.new _ _ _
 go_wp2_with (rw [<- z];refine store_blk rfl 55 _ _ rfl B.heap.size rfl rfl kn (by kernel_rfl) rfl (by kernel_rfl) ?_;intro w2 F R a2)
 clear z;have j:Bl B w2:=bn.grown R (qz kn.lt) (by intro q hq;cases hq;exact QE _)
 have l:=T.below j;have k2:=N.below j N.lt;have H:=A.below j;have b2:Bl w w2:=b1.trans (j.mono b1.size);obtain ⟨p,I⟩:=uX (B.heap.size);have a4:w.heap.size < p:=by rw [I];exact N.lt
 rw [<- I] at F ⊢;clear hs' T N kW b1 y D A R a2 bn kn j I;obtain ⟨V,o⟩:=uX (World.drew w2);have kV:Blk V w.heap.size 145 IV:=by rw [o];exact k2.drew1
 have nV:Blk V p 55 [.int .i64 U,.int .i64 G,.slice a k c]:=by rw [o];exact F.drew1
 have bV:Bl w V:=by rw [o];exact b2.drew
 have oV:Own V W.heap.size (.slice a k c) K:=by rw [o];exact H
 have sV:Sents V r t:=by rw [o];exact ⟨l.g0,l.g1,l.ne,l.b0,l.b1⟩
 have s:Hid (∀ {x:World},x.rangeAt p 0 [.int .i64 U,.int .i64 G,.slice a k c] -> x.rangeAt p 0 [.int .i64 U,.int .i64 G,.slice a k c]):=fun h=>h;have rV:V.rangeAt p 0 [.int .i64 U,.int .i64 G,.slice a k c]:=Ad nV;have a0:(V.setRow w.heap.size [.int .i64 C,.int .i64 U,.int .i64 G,.slice a k c].toArray).rangeAt p 0 [.int .i64 U,.int .i64 G,.slice a k c]:=Ad (nV.setRow_other (by omega));refine QJ (S:=fun x=>x.rangeAt p 0 [.int .i64 U,.int .i64 G,.slice a k c]) (by kernel_rfl) (by rw [<- o];exact rV) (fun f=>?_);rw [<- o] at f ⊢;clear o k2 F b2 H l;refine tA 0 (E) f ?_;simp only [put,pS];refine tB 2 (.agg ([.int .i64 U,.int .i64 G,.slice a k c]:List Value).toArray) rfl (QY (by rfl) 55 _ rfl p 0 rfl [.int .i64 U,.int .i64 G,.slice a k c] _ (fun _ h=>h) underlying55 rfl (by kernel_rfl)) f ?_;simp only [put,pS];refine rdy1 1 (fun K i=>?_);go_simp;refine (HC.out V sV).mono ?_;rintro e a1 ⟨rfl,a3⟩;subst a1;go_wp2_with fail;refine i.out _ _ (s.out rV) (fun f=>?_);clear i K
 try dsimp only [put]
 refine rdy1 3 (fun K i=>?_);go_simp;refine i.out _ _ (s.out rV) (fun f=>?_);clear i K
 try dsimp only [put]
 refine rdy1 4 (fun K i=>?_);rw [if_pos (by rfl)];refine AR (cs:=[.int .i64 C,.int .i64 U,.int .i64 G,.slice a k c]) rfl 145 _ _ rfl w.heap.size rfl rfl kV (by kernel_rfl) rfl (by kernel_rfl) ?_
 skip
 refine i.out _ _ (s.out a0) (fun f=>?_);clear i K
 try dsimp only [put]
 refine QM (by kernel_rfl) ?_ _;go_wp2_with fail;exact ⟨rfl,_,AG results75 _ _ rfl (Blk.setRow kV [.int .i64 C,.int .i64 U,.int .i64 G,.slice a k c]) underlying145 rfl (by kernel_rfl),⟨_,rfl,MZ (Uk oV lW _) (qz lW),AN (g:=w.heap.size) bV (QE _) _⟩⟩
end Go.Proofs.YtbkokcjolanpeaaGreatDoor
