import Derived.Test.YtbkokcjolanpeaaGreatDoorMkP
import Derived.Lib.SlBytesConst
import Derived.Laws.BytesString
import Derived.Laws.BytesArg
set_option maxRecDepth 100000
set_option maxHeartbeats 20000000
namespace Go.Proofs.YtbkokcjolanpeaaGreatDoor
open Go.RowKit Go.Proofs.Tryz Act
theorem DQ (w:World) (l:LU) (t:Nat) (fr:Nat × Nat):RowAt (w.alloc (.cells (l.map byte).toArray t fr)) (some ⟨w.heap.size,0,none⟩) l :=
 Ai (t:=t) (fr:=fr) (by show (w.heap.push _)[w.heap.size]? = _;simp)
theorem Yd (b d key:LU) (L:Option Addr) (cm F G ch yb yo cy:Nat) (w:World) (hm:b.length = 16) (I:d.length = 4) (hy:key.length = 16) (rm:RowAt w L b) (rh:RowAt w (some ⟨F,G,none⟩) d) (ry:RowAt w (some ⟨yb,yo,none⟩) key) :
 Calls prog 152 #[.slice L 16 cm,.slice (some ⟨F,G,none⟩) 4 ch,.slice (some ⟨yb,yo,none⟩) 16 cy] w fun e w'=>∃ v,e = .returned v /\ AO w' w.heap.size v (Bf (Bf b [77]) (d ++ key)) /\ Bl w w':=by
 obtain ⟨i0,hi,a7,a4,a3⟩:=Qg Tryz.info5;have O:=AK (fun (c:Nat) (g:Nat) (j:World) (h1:RowAt j L b) (Z:RowAt j (some ⟨g,0,none⟩) [77])=>Ik b [77] L (some ⟨g,0,none⟩) cm c j hm (by simp) h1 Z);have l:=Aw b [77] hm;obtain ⟨H,V⟩:=uX (Bf b [77]);rw [<- V] at O l ⊢;obtain ⟨t,o⟩:=uX (d ++ key);have A:t.length = 20:=by rw [o,QC,I,hy]
 have a2:=AK o;rw [<- o];have r:=AK (fun (g1 c1 g2 c2:Nat) (j:World) (h1:RowAt j (some ⟨g1,0,none⟩) H) (Z:RowAt j (some ⟨g2,0,none⟩) t)=>Ik H t (some ⟨g1,0,none⟩) (some ⟨g2,0,none⟩) c1 c2 j l (by omega) h1 Z);rw [A] at r;obtain ⟨T,hT⟩:=uX (Bf H t);rw [<- hT] at r ⊢;have R:=AK (fun (j:World) (h:RowAt j (some ⟨F,G,none⟩) d)=>Ew d (some ⟨F,G,none⟩) ch j (by omega) h);rw [I] at R;clear V o hT;obtain ⟨w0,q⟩:=uX (w.alloc (.cells #[.int .u8 77] 5 (1,2)));have b0:=uB q;have U:RowAt w0 (some ⟨w.heap.size,0,none⟩) [77]:=by rw [q];exact DQ w [77] _ _
 have kc:=fun (w:World) (C:Array Value) (n c:Nat)=>Lib.run_convert_bytes_const (P:=prog) w 22 5 C n c underlying22 underlying5;go_enter func152,ntmps152;go_wp2_with fail;rw [<- q];clear q;refine (O.out _ _ w0 (rm.below b0) U).mono ?_;rintro e y ⟨v1,rfl,z,a1⟩;have b1:=AB b0 a1;obtain ⟨g1,c1,-,rfl,B⟩:=BE z l (by omega);clear z U;go_wp2_with fail;refine (R.out y (rh.below b1)).mono ?_;rintro e w2 ⟨v2,rfl,D,m⟩;have Y:=AB b1 m;have X:=B.below m;have a6:=ry.below Y;have a9:=b1.size;have a5:=m.size;have f:w2.ownsRow y.heap.size 5 1 v2 4 (d.map byte):=By D I;have a8:g1 < y.heap.size:=B.blk (by omega);clear D;go_wp2_with (at_builtin;refine Qi _ rfl _ _ 22 rfl y.heap.size 5 i0 (.int .u8 0) 1 1 underlying22 hi a7 a4 a3 rfl (by decide) _ _ _ rfl f ⟨yb,yo,none⟩ 16 cy (key.map byte) rfl (by rw [QD,hy]) a6.news (by intro u hu;obtain ⟨x,-,rfl⟩:=List.mem_map.1 hu;rfl) (by unfold maxLen;omega) (by omega) a5 ?_;intro v3 J p i N)
 have E:AO J y.heap.size v3 t:=by rw [a2.out];exact Ir I hy p
 have a0:RowAt J (some ⟨g1,0,none⟩) H:=RowAt.grown X i (by intro a ha hc;cases ha;have:=(f.lt g1 hc).1;omega)
 have b3:Bl w J:=Y.grown i Y.size (fun k hk=>by have:=(f.lt k hk).1;omega);obtain ⟨g3,c3,-,rfl,M⟩:=BE E A (by omega);clear E p i N f;go_wp2_with fail;refine (r.out _ _ _ _ J a0 M).mono ?_;rintro e w4 ⟨v4,rfl,s,W⟩;have b4:=AB b3 W;have o4:=s.mono b3.size;clear s;go_wp2_with fail;go_ret;exact ⟨_,rfl,o4,b4⟩
theorem Sx {w:World} {g base n:Nat} {bs:LU} (h:Blk w g 5 (bs.map byte)) (c:base <= g) (a:bs.length = n) (b:n <= maxLen):AO w base (.slice (some ⟨g,0,none⟩) n n) bs:=by
 subst a;exact ⟨by simp,.inr ⟨g,bs.length,(bs.map byte).toArray,rfl,c,h,QE _,b,by simp,by rw [QS (by simp)]⟩⟩
theorem NK (b key:LU) (u d cm o p t:Nat) (I:Option Addr) (w:World) (hm:b.length = 16) (hy:key.length = 16) (f7:1 <= u) (g8:u <= 3) (hg:d <= 255) (rm:RowAt w I b) (ry:RowAt w (some ⟨o,p,none⟩) key) :
 Calls prog 97 #[.slice I 16 cm,.agg #[.int .i64 (u:Int),.int .i64 (d:Int),.slice (some ⟨o,p,none⟩) 16 t]] w fun e w' =>
  ∃ v,e = .returned v /\ Own w' w.heap.size v (AY b key u d) /\ Bl w w':=by
 obtain ⟨i0,hi,d4,c5,c4⟩:=Qg Tryz.info5;have f5:IntKind.u8.wrap (u:Int) = (u:Int):=by rw [JE];omega
 have f8:IntKind.u8.wrap (d:Int) = (d:Int):=by rw [JE];omega
 have g6:¬ ((d:Int) < 0):=by omega
 have h6:¬ ((255:Int) < (d:Int)):=by omega
 have h5:¬ ((u:Int) < 1):=by omega
 have h4:¬ ((3:Int) < (u:Int)):=by omega
 have F:(headL u d).length = 4:=rfl;have b4:[Value.int .u8 75,Value.int .u8 (u:Int),Value.int .u8 (d:Int),Value.int .u8 16] = (headL u d).map byte:=by
  simp only [headL,qD,qN,byte,Qb];rw [qF (show u < 2 ^ 8 by omega),qF (show d < 2 ^ 8 by omega)]
  rfl
 have O:=AK (fun (g c:Nat) (m:World) (R:RowAt m I b) (J:RowAt m (some ⟨g,0,none⟩) (headL u d)) (h3:RowAt m (some ⟨o,p,none⟩) key)=>Yd b (headL u d) key I cm g 0 c o p t m hm rfl hy R J h3);have c9:=AK (fun (c:Nat) (g:Nat) (m:World) (R:RowAt m I b) (J:RowAt m (some ⟨g,0,none⟩) [69])=>Ik b [69] I (some ⟨g,0,none⟩) cm c m hm (by simp) R J);have a5:(Bw b).length = 16:=Aw b [69] hm;show Calls prog 97 _ w fun e w'=>∃ v,e = .returned v /\ Own w' w.heap.size v (headL u d ++ (Bf (Bf b [77]) (headL u d ++ key) ++ Do (Bw b) (AE key (Bf (Bf b [77]) (headL u d ++ key))) false)) /\ Bl w w';have r:(Bf (Bf b [77]) (headL u d ++ key)).length = 16:=Aw _ _ (Aw b [77] hm);obtain ⟨E,hE⟩:=uX (Bw b);have d1:Bf b [69] = E:=hE.symm;rw [d1] at c9;rw [<- hE] at a5 ⊢;obtain ⟨H,hH⟩:=uX (headL u d);rw [<- hH] at b4 F O r ⊢;obtain ⟨T,hT⟩:=uX (Bf (Bf b [77]) (H ++ key));rw [<- hT] at O r ⊢;have HX:=AK (fun (c:Nat) (G cT:Nat) (m:World) (R:RowAt m (some ⟨o,p,none⟩) key) (J:RowAt m (some ⟨G,0,none⟩) T)=>Fo key T o p c G 0 cT m hy r R J);have d3:(AE key T).length = 16:=by rw [AW _ _ (by omega),hy]
 obtain ⟨X,hX⟩:=uX (AE key T);rw [<- hX] at HX d3 ⊢;have HE:=AK (fun (g c g2 c2:Nat) (m:World) (R:RowAt m (some ⟨g,0,none⟩) E) (J:RowAt m (some ⟨g2,0,none⟩) X)=>OC E X (some ⟨g,0,none⟩) g2 0 c c2 m a5 d3 R J);have a6:=Ds E X false a5;have d2:CW (AQ E) X = Do E X false:=rfl;rw [d2] at HE;obtain ⟨C,hC⟩:=uX (Do E X false);rw [<- hC] at HE a6 ⊢;clear hE d1 hH hT hX hC d2;obtain ⟨W,hW⟩:=uX ((w.alloc (.cells #[.int .i64 (u:Int),.int .i64 (d:Int),.slice (some ⟨o,p,none⟩) 16 t] 55)).alloc (.cells #[Value.int .u8 75,Value.int .u8 (u:Int),Value.int .u8 (d:Int),Value.int .u8 16] 5));have A:Blk W w.heap.size 55 [.int .i64 (u:Int),.int .i64 (d:Int),.slice (some ⟨o,p,none⟩) 16 t]:=by rw [hW];exact (Blk.new w _ _).alloc _
 have q:Blk W (w.heap.size + 1) 5 (H.map byte):=by rw [hW,<- b4];exact Blk.new2 w _ _ _
 have bW:Bl w W:=by rw [hW];exact ((Below.refl _ _).alloc (QE _) _).alloc (by simp) _
 have cB:W.cell? ⟨w.heap.size,2,none⟩ = some (.slice (some ⟨o,p,none⟩) 16 t):=A.c 2;have gW:=AK hW;clear hW b4;have kc:=fun (w:World) (C:Array Value) (n c:Nat)=>Lib.run_convert_bytes_const (P:=prog) w 22 5 C n c underlying22 underlying5;go_enter func97,ntmps97;go_upto_region 4 with fail
 rw [<- show W = _ from gW];clear gW;go_wp2_with fail;refine (O.out _ _ W (rm.below bW) (Ai q) (ry.below bW)).mono ?_;rintro e w1 ⟨v1,rfl,N,B⟩;have b1:=AB bW B;obtain ⟨G,cT,-,rfl,rT⟩:=BE N r (by omega);have f4:=N.low G rfl;have g0:=q.lt
 replace A:=A.below B A.lt
 replace q:=q.below B q.lt
 clear N B bW cB;go_wp2_with fail;obtain ⟨V,L⟩:=uX (w1.drew)
 replace A:Blk V w.heap.size 55 [.int .i64 (u:Int),.int .i64 (d:Int),.slice (some ⟨o,p,none⟩) 16 t]:=by rw [L];exact A.drew1
 replace q:Blk V (w.heap.size + 1) 5 (H.map byte):=by rw [L];exact q.drew1
 replace rT:RowAt V (some ⟨G,0,none⟩) T:=by rw [L];exact rT.drew1
 have bV:Bl w V:=by rw [L];exact b1.drew
 have e4:=bV.size;have lV:=q.lt;clear b1;have c3:Bl V V:=Below.refl _ _;have a1:Hid (∀ {x},Bl V x -> Blk x (w.heap.size + 1) 5 (H.map byte)):=fun h=>q.below h q.lt;have d5:Hid (∀ {x},Bl V x -> RowAt x I b):=fun h=>(rm.below bV).below h;have c6:Hid (∀ {x},Bl V x -> RowAt x (some ⟨o,p,none⟩) key):=fun h=>(ry.below bV).below h;have b0:Hid (∀ {x},Bl V x -> RowAt x (some ⟨G,0,none⟩) T):=fun h=>rT.below h;have l:Hid (∀ {x},Bl V x -> x.cell? ⟨w.heap.size,2,none⟩ = some (.slice (some ⟨o,p,none⟩) 16 t)):=fun h=>(A.below h A.lt).c 2;refine QJ (S:=fun x=>x.cell? ⟨w.heap.size,2,none⟩ = some (.slice (some ⟨o,p,none⟩) 16 t)) (by kernel_rfl) (by rw [<- L];exact l.out c3) (fun f=>?_);rw [<- L] at f ⊢;clear L A q rT;refine tA 0 (.slice I 16 cm) f ?_;simp only [put,pS];refine tA 4 (.pointer (some ⟨w.heap.size,2,none⟩)) f ?_;simp only [put,pS];refine tC 5 (Value.slice (some ⟨o,p,none⟩) 16 t) rfl (fun w1 h=>by have hc:=h;go_simp) f ?_;simp only [put,pS];refine tA 6 (.slice (some ⟨G,0,none⟩) 16 cT) f ?_;simp only [put,pS];refine rdy1 1 (fun K j=>?_);go_simp;have e3:Bl V (World.alloc V (.cells #[.int .u8 69] 5)):=At _ _;refine j.out _ _ (l.out e3) (fun f=>?_);clear j K
 try dsimp only [put]
 refine rdy1 2 (fun K j=>?_);go_simp;obtain ⟨e9,D⟩:=uX (World.alloc V (.cells #[.int .u8 69] 5 (1,2)));have e6:RowAt e9 (some ⟨V.heap.size,0,none⟩) [69]:=by rw [D];exact DQ V [69] _ _
 have b8:=uB D;rw [<- D];clear D;have a9:=AB c3 b8;refine j.out _ _ (l.out a9) (fun f=>?_);clear j K
 try dsimp only [put]
 refine rdy1 3 (fun K j=>?_);go_simp;refine (c9.out 1 _ _ (d5.out a9) e6).mono ?_;rintro e f6 ⟨f9,rfl,a4,b7⟩;have a0:=AB a9 b7;obtain ⟨f2,f3,-,rfl,d0⟩:=BE a4 a5 (by omega);clear a4;go_wp2_with fail;refine j.out _ _ (l.out a0) (fun f=>?_);clear j K
 try dsimp only [put]
 refine rdy1 7 (fun K j=>?_);go_simp;refine (HX.out _ _ _ _ (c6.out a0) (b0.out a0)).mono ?_;rintro e g5 ⟨rfl,Z,a2⟩;have a7:=d0.below a2;have b3:=AB a0 a2;go_wp2_with fail;refine j.out _ _ (l.out b3) (fun f=>?_);clear j K
 try dsimp only [put]
 refine rdy1 8 (fun K j=>?_);go_simp;refine (HE.out _ _ _ _ _ a7 (Ai Z)).mono ?_;rintro e c8 ⟨g9,rfl,y,z⟩;have e5:=a7.below z;have e7:=Z.below z Z.lt;have s:=AB b3 z;obtain ⟨Y,e0,-,rfl,e1⟩:=BE y a6 (by omega);have g7:=y.low Y rfl;clear y;go_wp2_with fail;refine j.out _ _ (l.out s) (fun f=>?_);clear j K
 try dsimp only [put]
 refine rdy1 9 (fun K j=>?_);go_simp;refine j.out _ _ (l.out s) (fun f=>?_);clear j K
 try dsimp only [put]
 refine QM (by kernel_rfl) ?_ _;have lC:=s.size;have l4:=b3.size;have c7:=a1.out s;have e8:=b0.out s;have h0:w.heap.size + 1 < Y:=by omega
 have oH:AO c8 w.heap.size (Value.slice (some ⟨w.heap.size + 1,0,none⟩) 4 4) H:=Sx c7 (by omega) F (by unfold maxLen;omega);have c0:=By oH F;have c1:Bl w c8:=bV.trans (s.mono e4);have d6:=c1.size;clear oH f l d5 c6 b0 a1 c7 e5 e7 a7 Z d0 kc;go_wp2_with (first
  | (at_builtin;refine Qi _ rfl _ _ 22 rfl w.heap.size 5 i0 (.int .u8 0) 1 1 underlying22 hi d4 c5 c4 rfl (by decide) _ _ _ rfl c0 ⟨G,0,none⟩ 16 cT (T.map byte) rfl (by rw [QD,r]) e8.news (by intro u hu;obtain ⟨x,-,rfl⟩:=List.mem_map.1 hu;rfl) (by unfold maxLen;omega) (by omega) d6 ?_;intro v6 w6 a3 i b5;replace i:World.grownBy _ w6 (some (w.heap.size + 1)):=i;have M:AO w6 w.heap.size v6 (H ++ T):=(Ir F r a3);have e2:=RowAt.grown e1 i (by intro a ha hc;cases ha;simp only [Option.some.injEq] at hc;omega);have b6:=c1.grown i d6 (by intro k hk;cases hk;omega);have l6:=b6.size;have U:(H ++ T).length = 20:=(by rw [QC,F,r]);obtain ⟨HT,a8⟩:=uX (H ++ T);have f0:=AK a8;rw [<- a8] at M U;have hown6':=By M U;clear a3 i b5 M a8)
  | (at_builtin;refine Qi _ rfl _ _ 22 rfl w.heap.size 5 i0 (.int .u8 0) 1 1 underlying22 hi d4 c5 c4 rfl (by decide) _ _ _ rfl hown6' ⟨Y,0,none⟩ 16 e0 (C.map byte) rfl (by rw [QD,a6]) e2.news (by intro u hu;obtain ⟨x,-,rfl⟩:=List.mem_map.1 hu;rfl) (by unfold maxLen;omega) (by omega) l6 ?_;intro v7 w7 b9 b2 f1))
 go_ret;refine ⟨_,rfl,?_,b6.grown b2 l6 (fun k hk=>(hown6'.lt k hk).1)⟩;rw [<- QV,<- f0.out];exact (Ir U a6 b9).own
def okW (a key:LU) (u b:Int):Prop:=a.length = 16 /\ key.length = 16 /\ 1 <= u /\ u <= 3 /\ 0 <= b /\ b <= 255
instance (master key:LU) (u gen:Int):Decidable (okW master key u gen):=by unfold okW;infer_instance
def Mr (a key:LU) (u b:Int):LU:=if okW a key u b then AY a key u.toNat b.toNat else []
theorem Bp (a key:LU) (u b:Nat) (c:a.length = 16):(AY a key u b).length = 36:=by
 unfold AY;rw [QC,QC,show (PZ a key u b).length = 16 from Aw _ _ (Aw a [77] c),Ds _ _ _ (show (Bw a).length = 16 from Aw a [69] c)]
 rfl
theorem TK (n m:Nat) (u a:Int) (j g:Option Addr) (k f:Nat) (w:World) (o:n <= 1048576) (p:m <= 1048576) (h:¬ (n = 16 /\ m = 16 /\ 1 <= u /\ u <= 3 /\ 0 <= a /\ a <= 255)) :
 Calls prog 97 #[.slice j n k,.agg #[.int .i64 u,.int .i64 a,.slice g m f]] w fun e w'=>e = .returned (.slice none 0 0) /\ Bl w w':=by
 have b:Bl w (w.alloc (.cells #[.int .i64 u,.int .i64 a,.slice g m f] 55)):=At _ _
 by_cases h1:n = 16
 ·subst h1
  by_cases h2:m = 16
  ·subst h2
   by_cases c:1 <= u
   ·by_cases h3':u <= 3
    ·have d:¬ (u < 1):=by omega
     have l:¬ (3 < u):=by omega
     by_cases i:a < 0
     ·clear h;go_enter func97,ntmps97;go_wp2;go_ret;exact ⟨rfl,b⟩
     ·have q:255 < a:=by omega
      clear h;go_enter func97,ntmps97;go_wp2;go_ret;exact ⟨rfl,b⟩
    ·have d:¬ (u < 1):=by omega
     have l:3 < u:=by omega
     clear h;go_enter func97,ntmps97;go_wp2;go_ret;exact ⟨rfl,b⟩
   ·have d:u < 1:=by omega
    clear h;go_enter func97,ntmps97;go_wp2;go_ret;exact ⟨rfl,b⟩
  ·have c:((m:Int) != 16) = true:=by rw [qm];omega
   have i:¬ ((m:Int) = 16):=by omega
   clear h;go_enter func97,ntmps97;go_wp2;go_ret;exact ⟨rfl,b⟩
 ·have c:((n:Int) != 16) = true:=by rw [qm];omega
  have i:¬ ((n:Int) = 16):=by omega
  clear h;go_enter func97,ntmps97;go_wp2;go_ret;exact ⟨rfl,b⟩
theorem Vc (a key:LU) (u b:Int) (c d:Option Addr) (i f:Nat) (w:World) (l:a.length <= 1048576) (n:key.length <= 1048576) (p:RowAt w c a) (k:RowAt w d key) :
 Calls prog 97 #[.slice c a.length i,.agg #[.int .i64 u,.int .i64 b,.slice d key.length f]] w fun e w'=>∃ v,e = .returned v /\ Own w' w.heap.size v (Mr a key u b) /\ Bl w w':=by
 unfold Mr
 by_cases h:okW a key u b
 ·rw [if_pos h,h.1,h.2.1];obtain ⟨r,o,s,t,x,y⟩:=h;obtain ⟨m,q,rfl,-⟩:=k.range (by omega);obtain ⟨g,rfl⟩:∃ g:Nat,u = g:=⟨u.toNat,by omega⟩;obtain ⟨g',rfl⟩:∃ g':Nat,b = g':=⟨b.toNat,by omega⟩;exact NK a key g g' i m q f c w r o (by omega) (by omega) (by omega) p k
 ·rw [if_neg h];refine (TK _ _ u b c d i f w l n h).mono ?_;rintro e w' ⟨rfl,j⟩;exact ⟨_,rfl,⟨5,Qa _ _ _ _⟩,j⟩
def uOf (a:LU):Nat:=(a.getD 1 0).toNat
def gOf (a:LU):Nat:=(a.getD 2 0).toNat
def Ao (b a:LU):LU:=AE (Do (Bw b) (a.drop 20) true) ((a.drop 4).take 16)
def DH (a:LU):Bool:=decide ((a.getD 0 0).toNat = 75) && decide ((a.getD 3 0).toNat = 16) && (decide (1 <= uOf a) && decide (uOf a <= 3))
def Bb (b a:LU):Bool:=decide (b.length = 16) && decide (a.length = 36) && DH a
def BZ (b a:LU):Bool:=decide (AY b (Ao b a) (uOf a) (gOf a) = a)
abbrev BB:List Value:=[.int .i64 0,.int .i64 0,.slice none 0 0]
theorem CK {P:Program} {c:Func} {p q b:Nat} (h:c.results = #[.cell p b,.tmp q]) (a:Array Value) (w:World) {g t:Nat} {cs:List Value} {d:TypeDesc} (f:a.getD p undef = .pointer (some ⟨g,0,none⟩)) (i:Blk w g t cs)
 (l:P.underlying b = some d) (k:(match d with | .struct _ | .array _ _=>true | _=>false) = true) (j:(P.info? b).map (·.size) = some cs.length):(results c a).run P w = .ok (.tuple #[.agg cs.toArray,a.getD q undef]) w:=by
 have hp':a[p]?.getD undef = .pointer (some ⟨g,0,none⟩):=by simpa using f
 simp [results,h,hp',asAddr,run_loadVar_row w g t b cs.toArray (0,0) d i l k (by simpa using j)]
theorem OP (n c:Nat) (w:World) (h:n = 0):(convert 22 9 (.slice none n c)).run prog w = .ok (.string ByteArray.empty) w:=by
 subst h;exact run_convert_bytes_nil w 22 5 underlying22 underlying5 0 c _ underlying9
def ZP (A:LU):ByteArray:=(A.map fun b=>(b.toNat:Int)).foldl (fun r n=>r.push (UInt8.ofNat n.toNat)) ByteArray.empty
theorem Ra (A:LU):ZP A = ⟨A.toArray⟩:=by
 have h:∀ (l:LU) (r:ByteArray),((l.map fun b=>(b.toNat:Int)).foldl (fun r n=>r.push (UInt8.ofNat n.toNat)) r).data.toList = r.data.toList ++ l:=by
  intro l
  induction l with
  | nil=>intro r;simp
  | cons a l ih =>
    intro r;rw [qD,qI,ih];simp [ByteArray.push]
 apply ByteArray.ext;have:=h A ByteArray.empty;unfold ZP;rw [<- Array.toList_inj,this];simp [ByteArray.empty,ByteArray.emptyWithCapacity]
 try rfl
theorem DC (A:LU) (f:Option Addr) (n c:Nat) (w:World) (g:A.length = n) (h:RowAt w f A):(convert 22 9 (.slice f n c)).run prog w = .ok (.string ⟨A.toArray⟩) w:=by
 by_cases h0:A = []
 ·subst h0;subst g
  cases f with
  | none=>exact OP 0 c w rfl
  | some x =>
    rw [run_convert_bytes_string w 22 9 5 _ _ _ underlying22 underlying5 underlying9];exact run_bytesToString w x 0 c [] (by have a:=run_loadCells_list (P:=prog) w x [] (by intro j u h;simp at h);exact a)
 ·rw [<- Ra];obtain ⟨b,d,rfl,i⟩:=h.range (by have:=List.length_pos_iff.2 h0;omega);rw [run_convert_bytes_string w 22 9 5 _ _ _ underlying22 underlying5 underlying9];refine run_bytesToString w ⟨b,d,none⟩ n c (A.map fun b=>(b.toNat:Int)) ?_;have a:=run_loadCells_list (P:=prog) w ⟨b,d,none⟩ (A.map byte) (by intro j u k;rw [qZ];exact i j u k);rw [QD,g] at a;rw [a,JA]
  rfl
theorem MP (a b:LU):((⟨a.toArray⟩:ByteArray).toList == (⟨b.toArray⟩:ByteArray).toList) = decide (a = b):=by
 rw [ByteArray.toList_mk,ByteArray.toList_mk,Bool.eq_iff_iff,Qh,beq_iff_eq]
theorem GF (A B:LU) (c b:Option Addr) (n m j d:Nat) (w:World) (l:A.length = n) (p:B.length = m) (g:RowAt w c A) (i:RowAt w b B) :
 Calls prog 96 #[.slice c n j,.slice b m d] w fun e w'=>e = .returned (.bool (decide (A = B))) /\ w' = w:=by
 have r:=DC A c n j w l g;have q:=DC B b m d w p i;have a:=MP A B;obtain ⟨x,k⟩:∃ x:ByteArray,x = ⟨A.toArray⟩:=⟨_,rfl⟩;obtain ⟨y,f⟩:∃ x:ByteArray,x = ⟨B.toArray⟩:=⟨_,rfl⟩;rw [<- k] at r a;rw [<- f] at q a;have o:=Aa a;clear k f g i a;go_enter func96,ntmps96;go_wp2;go_ret;exact ⟨by rw [<- o.out];rfl,rfl⟩
theorem Tryz.zeroKI:(prog.info? 55).map (fun i=>(i.zero,i.size)) = some (some (.agg BB.toArray),3):=by kernel_rfl
theorem XD (m b:LU) (am Z:Option Addr) (cm cb:Nat) (l:Nat) (i:Value) (w:World) (Y:w.cell? ⟨0,0,none⟩ = some (.iface l i)) (L:RowAt w Z b) (A:Bb m b = false) :
 Calls prog 104 #[.slice am m.length cm,.slice Z b.length cb] w fun e w'=>e = .returned (.tuple #[.agg BB.toArray,.iface l i]) /\ Bl w w':=by
 have X:=QF w _ Y;have hz:=(QO Tryz.zeroKI).1;obtain ⟨W,M⟩:=uX (w.alloc (.cells BB.toArray 55));have kW:Blk W w.heap.size 55 BB:=by rw [M];exact Blk.new w _ _
 have bW:=uB M;have s:=Aa M;have v:W.cell? ⟨0,0,none⟩ = some (.iface l i):=(bW.cell (p:=⟨0,0,none⟩) X).trans Y;have O:=L.below bW;clear M;have a5:prog.built 55 [] = some BB.toArray:=by kernel_rfl
 obtain ⟨V,z⟩:=uX (World.drew W);have q:Blk V w.heap.size 55 BB:=by rw [z];exact kW.drew1
 have H:Bl w V:=by rw [z];exact bW.drew
 have C:=Aa z;have gV:V.cell? ⟨0,0,none⟩ = some (.iface l i):=by rw [z];exact v
 clear z;have a6:¬ (0 = w.heap.size):=by omega
 have f:Hid (∀ {x},Bl w x -> x.cell? ⟨0,0,none⟩ = some (.iface l i)):=fun h=>(h.cell (p:=⟨0,0,none⟩) X).trans Y
 by_cases h1:m.length = 16
 ·by_cases h2:b.length = 36
  ·have hh:DH b = false:=by unfold Bb at A;simpa [h1,h2] using A
   have o:∀ j,j < 36 -> ∃ E D,Z = some ⟨E,D,none⟩ /\ W.cell? ⟨E,D + j,none⟩ = some (.int .u8 ((b.getD j 0).toNat:Int)):=by
    intro j hj;obtain ⟨E,D,e,y⟩:=O.at (k:=j) (by omega);exact ⟨E,D,e,y j (by omega)⟩
   obtain ⟨E,D,rfl,B⟩:=o 0 (by omega);obtain ⟨_,_,e,N⟩:=o 1 (by omega);cases e
   obtain ⟨_,_,e,R⟩:=o 3 (by omega);cases e
   rw [qq] at B;have u:=Aa (fun (wx:World)=>Kf (((b.getD 1 0).toNat:Nat):Int) wx);have t:Hid (DH b = (decide ((b.getD 0 0).toNat = 75) && decide ((b.getD 3 0).toNat = 16) && (decide (1 <= (b.getD 1 0).toNat) && decide ((b.getD 1 0).toNat <= 3)))):=rfl;rw [hh] at t;obtain ⟨T,I⟩:=uX ((b.getD 0 0).toNat);obtain ⟨J,F⟩:=uX ((b.getD 1 0).toNat);obtain ⟨U,G⟩:=uX ((b.getD 3 0).toNat);have l0:T < 256:=by rw [I];exact QW _
   have l1:J < 256:=by rw [F];exact QW _
   have l3:U < 256:=by rw [G];exact QW _
   rw [<- I] at B t;rw [<- F] at N u t;rw [<- G] at R t;rw [h1,h2];clear o I F G A h1 h2 hh L O
   by_cases q0:T = 75
   ·have a1:((T:Int) != 75) = false:=by rw [qs];omega
    by_cases q3:U = 16
    ·have a0:((U:Int) != 16) = false:=by rw [qs];omega
     have hu:(decide (1 <= (J:Int)) && decide ((J:Int) <= 3)) = false:=by
      have:=t.out;rw [QK q0,QK q3] at this;have h3:¬ (1 <= J /\ J <= 3):=by intro ⟨ha,hb⟩;rw [QK ha,QK hb] at this;cases this
      rw [<- Bool.decide_and,decide_eq_false_iff_not];omega
     rw [hu] at u;clear hu q0 q3 t;rw [show W = _ from s] at B N R;go_enter func104,ntmps104;go_wp2_with (go_at_call 30;rw [<- show W = _ from s];refine (u.out _).mono ?_;rintro e wu ⟨rfl,a4⟩;subst wu)
     refine QJ (S:=fun x=>x.cell? ⟨0,0,none⟩ = some (.iface l i)) (by kernel_rfl) (by exact v) (fun a=>?_);rw [<- show V = _ from C] at a ⊢;refine tC 0 (.agg BB.toArray) rfl (fun r h=>by go_simp) a ?_;simp only [put,pS];refine tC 1 (.iface l i) rfl (fun r h=>by have y:=h;go_simp) a ?_;simp only [put,pS];refine rdy1 2 (fun K c=>?_);rw [if_pos (by rfl)];refine AR rfl 55 _ _ rfl w.heap.size rfl rfl q (by kernel_rfl) rfl (by kernel_rfl) ?_;have n:=Blk.setRow q BB;have d:=AN (g:=w.heap.size) H (QE _) BB.toArray
     skip
     skip
     refine c.out _ _ (f.out d) (fun a=>?_);clear c K
     try dsimp only [put]
     refine rdy1 3 (fun K c=>?_);go_simp;refine c.out _ _ (f.out d) (fun a=>?_);clear c K
     try dsimp only [put]
     refine QM (by kernel_rfl) ?_ _;go_wp2_with fail;exact ⟨rfl,_,CK results104 _ _ rfl n underlying55 rfl (by kernel_rfl),rfl,d⟩
    ·have a0:((U:Int) != 16) = true:=by rw [qm];omega
     clear q3 t q0;rw [show W = _ from s] at B N R;go_enter func104,ntmps104;go_wp2_with fail;rw [<- show W = _ from s];refine QJ (S:=fun x=>x.cell? ⟨0,0,none⟩ = some (.iface l i)) (by kernel_rfl) (by exact v) (fun a=>?_);rw [<- show V = _ from C] at a ⊢;refine tC 0 (.agg BB.toArray) rfl (fun r h=>by go_simp) a ?_;simp only [put,pS];refine tC 1 (.iface l i) rfl (fun r h=>by have y:=h;go_simp) a ?_;simp only [put,pS];refine rdy1 2 (fun K c=>?_);rw [if_pos (by rfl)];refine AR rfl 55 _ _ rfl w.heap.size rfl rfl q (by kernel_rfl) rfl (by kernel_rfl) ?_;have n:=Blk.setRow q BB;have d:=AN (g:=w.heap.size) H (QE _) BB.toArray
     skip
     skip
     refine c.out _ _ (f.out d) (fun a=>?_);clear c K
     try dsimp only [put]
     refine rdy1 3 (fun K c=>?_);go_simp;refine c.out _ _ (f.out d) (fun a=>?_);clear c K
     try dsimp only [put]
     refine QM (by kernel_rfl) ?_ _;go_wp2_with fail;exact ⟨rfl,_,CK results104 _ _ rfl n underlying55 rfl (by kernel_rfl),rfl,d⟩
   ·have a1:((T:Int) != 75) = true:=by rw [qm];omega
    clear q0 t;rw [show W = _ from s] at B N R;go_enter func104,ntmps104;go_wp2_with fail;rw [<- show W = _ from s];refine QJ (S:=fun x=>x.cell? ⟨0,0,none⟩ = some (.iface l i)) (by kernel_rfl) (by exact v) (fun a=>?_);rw [<- show V = _ from C] at a ⊢;refine tC 0 (.agg BB.toArray) rfl (fun r h=>by go_simp) a ?_;simp only [put,pS];refine tC 1 (.iface l i) rfl (fun r h=>by have y:=h;go_simp) a ?_;simp only [put,pS];refine rdy1 2 (fun K c=>?_);rw [if_pos (by rfl)];refine AR rfl 55 _ _ rfl w.heap.size rfl rfl q (by kernel_rfl) rfl (by kernel_rfl) ?_;have n:=Blk.setRow q BB;have d:=AN (g:=w.heap.size) H (QE _) BB.toArray
    skip
    skip
    refine c.out _ _ (f.out d) (fun a=>?_);clear c K
    try dsimp only [put]
    refine rdy1 3 (fun K c=>?_);go_simp;refine c.out _ _ (f.out d) (fun a=>?_);clear c K
    try dsimp only [put]
    refine QM (by kernel_rfl) ?_ _;go_wp2_with fail;exact ⟨rfl,_,CK results104 _ _ rfl n underlying55 rfl (by kernel_rfl),rfl,d⟩
  ·have a3:((b.length:Int) != 36) = true:=by rw [qm];omega
   rw [h1];clear A h2 O L;go_enter func104,ntmps104;go_wp2_with fail;rw [<- show W = _ from s];refine QJ (S:=fun x=>x.cell? ⟨0,0,none⟩ = some (.iface l i)) (by kernel_rfl) (by exact v) (fun a=>?_);rw [<- show V = _ from C] at a ⊢;refine tC 0 (.agg BB.toArray) rfl (fun r h=>by go_simp) a ?_;simp only [put,pS];refine tC 1 (.iface l i) rfl (fun r h=>by have y:=h;go_simp) a ?_;simp only [put,pS];refine rdy1 2 (fun K c=>?_);rw [if_pos (by rfl)];refine AR rfl 55 _ _ rfl w.heap.size rfl rfl q (by kernel_rfl) rfl (by kernel_rfl) ?_;have n:=Blk.setRow q BB;have d:=AN (g:=w.heap.size) H (QE _) BB.toArray
   skip
   skip
   refine c.out _ _ (f.out d) (fun a=>?_);clear c K
   try dsimp only [put]
   refine rdy1 3 (fun K c=>?_);go_simp;refine c.out _ _ (f.out d) (fun a=>?_);clear c K
   try dsimp only [put]
   refine QM (by kernel_rfl) ?_ _;go_wp2_with fail;exact ⟨rfl,_,CK results104 _ _ rfl n underlying55 rfl (by kernel_rfl),rfl,d⟩
 ·have a2:((m.length:Int) != 16) = true:=by rw [qm];omega
  clear A h1 O L;go_enter func104,ntmps104;go_wp2_with fail;rw [<- show W = _ from s];refine QJ (S:=fun x=>x.cell? ⟨0,0,none⟩ = some (.iface l i)) (by kernel_rfl) (by exact v) (fun a=>?_);rw [<- show V = _ from C] at a ⊢;refine tC 0 (.agg BB.toArray) rfl (fun r h=>by go_simp) a ?_;simp only [put,pS];refine tC 1 (.iface l i) rfl (fun r h=>by have y:=h;go_simp) a ?_;simp only [put,pS];refine rdy1 2 (fun K c=>?_);rw [if_pos (by rfl)];refine AR rfl 55 _ _ rfl w.heap.size rfl rfl q (by kernel_rfl) rfl (by kernel_rfl) ?_;have n:=Blk.setRow q BB;have d:=AN (g:=w.heap.size) H (QE _) BB.toArray
  skip
  skip
  refine c.out _ _ (f.out d) (fun a=>?_);clear c K
  try dsimp only [put]
  refine rdy1 3 (fun K c=>?_);go_simp;refine c.out _ _ (f.out d) (fun a=>?_);clear c K
  try dsimp only [put]
  refine QM (by kernel_rfl) ?_ _;go_wp2_with fail;exact ⟨rfl,_,CK results104 _ _ rfl n underlying55 rfl (by kernel_rfl),rfl,d⟩
end Go.Proofs.YtbkokcjolanpeaaGreatDoor
