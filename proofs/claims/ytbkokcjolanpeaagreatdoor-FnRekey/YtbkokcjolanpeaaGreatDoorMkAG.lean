import Derived.Test.YtbkokcjolanpeaaGreatDoorMkAB
import Derived.Test.YtbkokcjolanpeaaGreatDoorMkAD
import Derived.Test.YtbkokcjolanpeaaGreatDoorMkAF
set_option maxRecDepth 100000
set_option maxHeartbeats 40000000
namespace Go.Proofs.YtbkokcjolanpeaaGreatDoor
open Go.RowKit Go.Proofs.Tryz Act
theorem Gm {w:World} {o:Oper} {a:Act} {K:Act -> World -> Prop} {Q:Exit -> Act -> World -> Prop} (s x:Operand)
 (G:o.op = .call { callee:=.builtin .append,args:=#[s,x],argTypes:=#[30,30] }) (base:Nat) (v:Value) (n:Nat) (k:List Value) (D:a.eval s = v) (p:w.ownsRow base 29 2 v n k)
 (l:Addr) (m c:Nat) (b:List Value) (B:a.eval x = .slice (some l) m c) (F:b.length = m * 2) (f:∀ j u,b[j]? = some u -> w.cell? (l.add j) = some u) (I:∀ u ∈ b,u.oneCell' = true)
 (q:n + m <= maxLen) (d:(n + m) * 32 <= 140737488355328) (g:base <= w.heap.size)
 (h:∀ i w',w'.ownsRow base 29 2 i (n + m) (k ++ b) -> w.grownBy w' v.ownBlock -> K (a.put o.dst i) w'):o.wp prog a w K Q:=by
 obtain ⟨H,A,t,y,r⟩:=Qg Tryz.infoFz;obtain ⟨i,w',z,E,C,-,-⟩:=run_append_own_at (P:=prog) w base 30 o.type 29 H (.agg #[.int .i64 0,.slice none 0 0]) 2 32 underlying30 A t y r rfl (by decide) v n k p l m c b F f I q d g;unfold Oper.wp execOp;simp only [G,resolve,invoke,builtin,Qe,ql,qB,qR,qD,qN,D,B,z];exact h i w' E C
theorem Kq (L:List (Int × LU)) (vs:List Value) (h:vs.length = L.length) (p:Int × LU) (v:Value):Z.fldCells (L ++ [p]) (vs ++ [v]) = Z.fldCells L vs ++ [.int .i64 p.1,v]:=by
 unfold Z.fldCells;rw [List.zip_append h.symm];simp
theorem Fr.ofRow {w:World} {lo:Nat} {v:Value} {L:List (Int × LU)} {vs:List Value} (row:w.ownsRow lo 29 2 v L.length (Z.fldCells L vs)) (m:vs.length = L.length) (f:Rws w L vs):Fr w v L:=by
 refine ⟨BK row,fun i a=>?_⟩;obtain ⟨k,d⟩:=Z.fldCells_at L vs m i a;obtain ⟨l,j,e,r⟩:=f i a;rcases row.2 with ⟨b,hz⟩ | ⟨g,c,n,b,-⟩
 ·omega
 ·subst b;refine ⟨g,0,c,l,j,rfl,?_,?_,r⟩
  ·rw [QZ,row.cellAt (i * 2) (by omega),k]
  ·rw [QZ,row.cellAt (i * 2 + 1) (by omega),d,e]
theorem Rws.snoc {w:World} {L:List (Int × LU)} {vs:List Value} (h:Rws w L vs) (j:vs.length = L.length) (g:Int) (d:LU) (a:Option Addr) (c:Nat) (r:RowAt w a d):Rws w (L ++ [(g,d)]) (vs ++ [.slice a d.length c]):=by
 intro i b;rw [QC] at b
 by_cases hc:i < L.length
 ·rw [Az _ _ _ _ hc,Az _ _ _ _ (by omega)];exact h i hc
 ·have f:i = L.length:=by simp at b;omega
  rw [BG _ _ _ _ f,BG _ _ _ _ (by omega)];exact ⟨a,c,rfl,r⟩
def CT:LU:=List.replicate 8 0
def Cq (L:List (Int × LU)):Int:=if (Ax L).any (fun p=>CF p.1) = true then 128 else 64
def sealF (L:List (Int × LU)):List (Int × LU):=Ax L ++ [(Cq L,CT)]
def Ch (s:ByteArray) (L:List (Int × LU)):LU:=(BA s (sealF L)).take ((BA s (sealF L)).length - 8)
def Ah (a key:LU) (s:ByteArray) (L:List (Int × LU)):LU:=if BA s (sealF L) = [] then [] else if Dp a key (Ch s L) = 0 then Ch s L ++ macL a key (Ch s L) else []
theorem GH (L:List (Int × LU)):(Ax L).length <= L.length:=List.length_filter_le _ _
theorem VY {L:List (Int × LU)} {p:Int × LU} (h:p ∈ Ax L):p ∈ L:=(List.mem_filter.1 h).1
theorem Rj {L:List (Int × LU)} (b:∀ p ∈ L,p.2.length <= 1048576):∀ p ∈ sealF L,p.2.length <= 1048576:=by
 intro p a;unfold sealF at a;rcases List.mem_append.1 a with h | h
 ·exact b p (VY h)
 ·simp at h;subst h;show CT.length <= _
  decide
theorem KI (L:List (Int × LU)):(sealF L).length = (Ax L).length + 1:=by unfold sealF;simp
theorem LT (s:ByteArray) (L:List (Int × LU)):(BA s L).length <= 4096 /\ (BA s L = [] \/ 12 <= (BA s L).length):=by
 unfold BA
 by_cases h:okE s L = true
 ·rw [if_pos h];unfold okE at h;rw [Qm,Qm,Qm,Qh,Qh] at h;obtain ⟨⟨f,-⟩,-,a⟩:=h;have b:=JP a;have k:=GY L L.length (fun j d=>by
   unfold okL at a;rw [Qt] at a;exact a j (List.mem_range.2 d))
  have g:(Ar (bitsE L L.length)).length = nbE L / 8:=by rw [Df,Dy]
  have i:nbE L = 64 \/ nbE L = 128:=by unfold nbE;split <;> omega
  have c:s.data.toList.length = 4:=by rw [Ql];exact f
  rw [QC,QC,c,g];have:=qU 203 b;exact ⟨by omega,.inr (by omega)⟩
 ·rw [if_neg h];exact ⟨by simp,.inl rfl⟩
theorem JH {w:World} {base c:Nat} {a:Option Addr} {l:LU} (h:Own w base (.slice a l.length c) l):l.length <= c:=by
 obtain ⟨t,-,h⟩:=h;rcases h with ⟨b,d⟩ | ⟨g,i,f,b,-,-,d,-⟩
 ·omega
 ·simp only [Value.slice.injEq] at b;omega
theorem Vl (L:List (Int × LU)):∀ (vs:List Value),vs.length = L.length -> ∀ r,IxR CF (Bk L vs) r -> decide (0 <= r) = L.any (fun p=>CF p.1):=by
 intro vs f r h;have b:∀ i,i < L.length -> ((Bk L vs).getD i (0,undef)).1 = (L.getD i (0,[])).1:=by
  intro i c;have hz:i < (List.zip L vs).length:=by simp;omega
  unfold Bk;rw [QA,List.getElem?_map,List.getElem?_eq_getElem hz,QA,List.getElem?_eq_getElem c];simp
 have g:=CE L vs f;rcases h with ⟨rfl,h⟩ | ⟨k,j,rfl,-,h⟩
 ·rw [QT (by omega)]
  symm
  rw [List.any_eq_false];intro p d;obtain ⟨i,c,rfl⟩:=qi d;have:=h i (by omega);rw [b i c,QA,List.getElem?_eq_getElem c] at this
  simpa using this
 ·rw [QK (by omega)]
  symm
  rw [List.any_eq_true];have a:k < L.length:=by omega
  rw [b k a,QA,List.getElem?_eq_getElem a] at h;exact ⟨L[k],Qd a,h⟩
theorem Oy (L:List (Int × LU)) (vs:List Value) (k:vs.length = L.length) (o:L.length <= 1048576) (a:Option Addr) (d lo:Nat) (w:World) (row:w.ownsRow lo 29 2 (.slice a L.length d) L.length (Z.fldCells L vs)) :
 Calls prog 19 #[.slice a L.length d,.func (Fn.func 20) #[] #[]] w fun e w'=>e = .returned (.bool (L.any (fun p=>CF p.1))) /\ Bl w w':=by
 have b:=CE L vs k;rw [<- Kh,<- b] at row;have f:=AA (VF (Bk L vs) (by rw [b];exact o) a d w (ZO row));rw [b] at f;have c:=AA (Vl L vs k);obtain ⟨q,j⟩:=uX (L.any (fun p=>CF p.1));rw [<- j] at c ⊢;obtain ⟨n,g⟩:=uX (L.length);rw [<- g] at f ⊢;clear j g row b;go_enter func19,ntmps19;go_wp2_with fail;refine f.out.mono ?_;rintro e w2 ⟨⟨r,rfl,i⟩,m⟩;have l:=AA (c.out r i);clear i c f;go_wp2_with fail;go_ret;exact ⟨by rw [<- l.out];rfl,m⟩
theorem Yz (d key:LU) (s:ByteArray) (L:List (Int × LU)) (k8:∀ p ∈ L,p.2.length <= 1048576) (hL:L.length <= 1048576) (am ak:Option Addr) (cm ck:Nat) (v:Value) (x0 l3:Addr) (w:World) (m5:key.length <= ck) (hs:Sents w x0 l3) (rm:RowAt w am d) (rk:RowAt w ak key) (F:Fr w v L) (hT:∀ w',Bl w w' -> Lib.TabIs prog w' "internal/strconv.uint64pow10" .u64 Lib.pow10Tab) :
 Calls prog 6 #[.slice am d.length cm,.slice ak key.length ck,.agg #[.string s,v]] w fun e w'=>∃ v',e = .returned v' /\ Own w' w.heap.size v' (Ah d key s L) /\ Bl w w':=by
 obtain ⟨i0,hi,p2,o5,o4⟩:=Qg Tryz.infoB8;obtain ⟨x1,c1,rfl⟩:=F.sh;have c3:=AA (fun (gN:Nat) (j:World) (h:Fr j (.slice x1 L.length c1) L) e0 e1=>TG L hL _ gN j h e0 e1);have b6:=AA (fun (vs:List Value) hl (a:Option Addr) (o9 lo:Nat) (j:World) row=>Oy (Ax L) vs hl (QG (GH L) hL) a o9 lo j row);have i4:=AA (fun (v:Value) (j:World) (h:Fr j v (sealF L)) (hb:Bl w j)=>Sk s (sealF L) (Rj k8) (by rw [KI];have:=GH L;omega) v j h (fun w' H=>hT w' (hb.trans (H.mono hb.size))));have b0:=AA (fun (ad:Option Addr) (cd:Nat) (j:World) p9 f2 (hb:Bl w j) rd=>LY d key (Ch s L) am ak ad cm ck cd x0 l3 j m5 p9 f2 (hs.below hb) (rm.below hb) (rk.below hb) rd);have h0:=AA (TX d key (Ch s L));have i5:=AA (LT s (sealF L));have c4:Hid (Ch s L = (BA s (sealF L)).take ((BA s (sealF L)).length - 8)):=rfl;have o:Hid (Ah d key s L = if BA s (sealF L) = [] then [] else if Dp d key (Ch s L) = 0 then Ch s L ++ macL d key (Ch s L) else []):=rfl;have O:Hid (Cq L = if (Ax L).any (fun p=>CF p.1) = true then 128 else 64):=rfl;have j1:Hid (sealF L = Ax L ++ [(Cq L,CT)]):=rfl;have h9:=GH L;obtain ⟨E,hE⟩:=uX (BA s (sealF L));obtain ⟨AH,l4⟩:=uX (Ch s L);rw [<- l4] at b0 h0 c4 o;rw [<- hE] at i4 i5 c4 o;obtain ⟨K,B⟩:=uX (Ax L);rw [<- B] at c3 b6 O j1 h9;obtain ⟨T,k9⟩:=uX (Cq L);rw [<- k9] at O j1;obtain ⟨M,k1⟩:=uX (K.length);have f4:=AA k1;rw [<- k1] at c3 b6 h9;obtain ⟨qa,m7⟩:=uX (K.any (fun p=>CF p.1));rw [<- m7] at b6 O;obtain ⟨MC,n3⟩:=uX (Dp d key AH);obtain ⟨ML,j0⟩:=uX (macL d key AH);rw [<- n3,<- j0] at b0 o;rw [<- j0] at h0;obtain ⟨n1,n0⟩:=uX (d.length);obtain ⟨n2,f2⟩:=uX (key.length);rw [<- n0,<- f2] at b0 ⊢;obtain ⟨n,hn⟩:=uX (L.length);rw [<- hn] at c3 F hL h9 ⊢;obtain ⟨W,hW⟩:=uX (w.alloc (Obj.cells #[.string s,.slice x1 n c1] 32));obtain ⟨g0,i6⟩:=uX (w.heap.size);have kM:=uK hW i6;have bW:=uB hW;obtain ⟨R,f8⟩:=uX (W.alloc (Obj.cells #[.int .i64 64,.int .i64 128] 3));have kN:Blk R W.heap.size 3 [.int .i64 64,.int .i64 128]:=by rw [f8];exact Blk.new _ _ _
 have h8:=uB f8;have b1:=bW.trans (h8.mono bW.size);have a2:=kM.below h8 kM.lt;have l9:=AA (F.below b1);have l6:=AA (c3.out W.heap.size R l9.out (kN.c 0) (kN.c 1));have m1:=kM.c 1;have HW:=AA hW;have m0:=AA i6;have m3:=AA f8;clear hW i6 f8 hE l4 B k9 k1 m7 n3 j0 n0 f2 hn F hs hT rm rk m5 k8 c3 l9 kN bW h8;go_enter func6,ntmps6;go_upto_region 1 with fail
 rw [<- show W = _ from HW,<- show g0 = _ from m0];clear HW m0;go_wp2_with fail;rw [<- show R = _ from m3];clear m3 m1 kM;refine l6.out.mono ?_;rintro e w7 ⟨⟨v7,f7,rfl,J,n7,n6⟩,G⟩;obtain ⟨a7,c7,rfl⟩:=BK J;obtain ⟨z,D⟩:=uX (R.heap.size);rw [<- D] at J;have G:=(show Below (R.heap.size) R w7 from G);rw [<- D] at G;have m:=AA D;have d5:w.heap.size <= z:=by rw [D];exact b1.size
 have q2:g0 < z:=by rw [D];exact a2.lt
 clear D l6;have l2:=AA n7;have a3:=fun q hq=>(J.lt q hq).2;go_upto_region 3 with (at_make;refine Qv _ rfl _ _ 22 rfl w7.heap.size 5 i0 (.int .u8 0) 1 underlying22 hi p2 o5 .i64 .i64 _ _ 8 rfl rfl rfl rfl (by rw [o4];omega) (by unfold maxLen;omega) (QE _) ?_;intro w3 e4 l8)
 have b3:=Ac l8;rw [Cl] at e4;have U:=C8 e4;have e8:List.replicate 8 (Value.int .u8 0) = CT.map byte:=by rfl
 rw [e8] at U;obtain ⟨g,c6⟩:=uX (w7.heap.size);have r0:z <= g:=by rw [c6,m.out];exact G.size
 rw [<- c6] at U a3 ⊢;obtain ⟨X3,g7⟩:=uX (w3.alloc (Obj.cells #[.int .i64 64,.slice (some ⟨g,0,none⟩) 8 8] 29));obtain ⟨l,e5⟩:=uX (w3.heap.size);rw [<- g7,<- e5];have i3:=uK g7 e5;have h5:=uB g7;have q9:g < l:=by rw [e5];exact U.lt
 have k0:=U.below h5 U.lt;have f3:=b3.trans (h5.mono b3.size);have a6:=Am J f3;have f9:=(a2.below (G.mono (by rw [m.out];exact QE _)) a2.lt).below f3 (QX a2.lt (by rw [<- m.out];exact QG (QE _) (QG (by rw [m.out];exact QE _) G.size)));have j4:Below z R X3:=G.trans (f3.mono (by rw [m.out];exact G.size));have g9:z <= X3.heap.size:=by rw [m.out];exact j4.size
 have a0:Hid ((Value.slice a7 M c7).ownBlock ≠ some l):=fun e=>by have:=a3 _ e;omega
 have c2:Hid ((Value.slice a7 M c7).ownBlock ≠ some g):=fun e=>by have:=a3 _ e;omega
 have q4:g0 < l:=by
  have h1:=f9.lt;have H:=a2.lt;have h3:=G.size;rw [<- m.out] at H;have h4:z <= g:=by rw [c6,m.out];exact G.size
  omega
 have q5:g0 < g:=by rw [c6];have h3:=G.size;rw [<- m.out] at h3;omega
 obtain ⟨XS,j8⟩:=uX (Z.fldCells K f7);have m6:=AA (b6.out f7 l2.out a7 c7 z X3 a6);have l1:Hid (∀ (v5:Value) (w5:World),w5.ownsRow z 29 2 v5 (M + 1) (XS ++ [.int .i64 T,.slice (some ⟨g,0,none⟩) 8 8]) -> Below z R w5 -> Blk w5 g 5 (CT.map byte) -> Fr w5 v5 (sealF L)):=by
  intro v5 w5 row b k;have hl:=l2.out;rw [j1.out];have o8:=(n6.below (show Below R.heap.size R w5 from by rw [<- m.out];exact b)).snoc (by rw [hl,f4.out]) T CT (some ⟨g,0,none⟩) 8 (Iy k);refine Fr.ofRow (lo:=z) (vs:=f7 ++ [.slice (some ⟨g,0,none⟩) CT.length 8]) ?_ (by rw [QC,QC,hl,f4.out];rfl) o8;rw [Kq K f7 (by rw [hl,f4.out]),QC,<- j8];have e:K.length + [((T,CT):Int × LU)].length = M + 1:=by rw [f4.out];rfl
  rw [e];exact row
 rw [<- j8] at a6;clear e4 l8 e8 c6 g7 e5 h5 b3 U f3 J a2 G a3 j8 n6 b6 n7;go_wp2_with fail;refine m6.out.mono ?_;rintro e w4 ⟨rfl,b4⟩;have b2:=i3.below b4 i3.lt;have g8:=k0.below b4 k0.lt;have g5:=f9.below b4 f9.lt;have r:=Am a6 b4;have f6:=j4.trans (b4.mono g9);have i7:=QG g9 b4.size;clear i3 k0 f9 a6 j4 g9 m6 b4;go_upto_if 19 with fail
 go_cut [8] (fun t j=>t = .pointer (some ⟨l,0,none⟩) /\ Blk j l 29 [.int .i64 T,.slice (some ⟨g,0,none⟩) 8 8] /\ Blk j g0 32 [.string s,.slice x1 n c1] /\ Blk j g 5 (CT.map byte) /\ j.ownsRow z 29 2 (.slice a7 M c7) M XS /\ Below z R j /\ z <= j.heap.size)
 case first =>
  have k6:z <= l:=by omega
  cases qa
  ·rw [if_neg (by decide)] at O;go_wp2_with fail;go_meet
   case rel=>exact ⟨rfl,by rw [O.out];exact b2,g5,g8,r,f6,i7⟩
  ·rw [if_pos rfl] at O;have f0:=b2.free 0;have u0:=b2.c 0;have A:=b2.set 0 (.int .i64 128);have o2:Hid (Blk (w4.setCell ⟨l,0,none⟩ (.int .i64 128)) l 29 [.int .i64 128,.slice (some ⟨g,0,none⟩) 8 8]):=A;have p1:=AA (g5.other ⟨l,0,none⟩ (.int .i64 128) (fun e=>by have e2:g0 = l:=e;omega));have n9:=AA (g8.other ⟨l,0,none⟩ (.int .i64 128) (fun e=>by have e2:g = l:=e;omega));have p5:=AA (ownsRow_setCell_other r (a:=⟨l,0,none⟩) (fun e=>a0.out e) (.int .i64 128));have p6:=AA (f6.setCell (p:=⟨l,0,none⟩) k6 (.int .i64 128));clear A g5 g8 r f6;go_wp2_with fail;go_meet
   case rel=>exact ⟨rfl,by rw [O.out];exact o2.out,p1.out,n9.out,p5.out,p6.out,by simpa using i7⟩
 case rest =>
  obtain ⟨rfl,j9,j5,j3,j7,m9,d2⟩:=hcut;clear b2 g8 g5 r f6 i7;have i2:=a0;have i1:=c2;clear a0 c2;go_upto_region 5 with fail;obtain ⟨V,hV⟩:=uX (World.drew wc);have o3:Bl V V:=Below.refl _ _;have bV:Bl wc V:=by rw [hV];exact (Below.refl _ _).drew
  have a1:=j5.below bV j5.lt;have X:=j9.below bV j9.lt;have h6:=j3.below bV j3.lt;have a4:=Am j7 bV;have e7:=QG d2 bV.size;have k7:=m9.trans (bV.mono d2);have a0:Hid ((Value.slice a7 M c7).ownBlock ≠ some l):=i2;have c2:Hid ((Value.slice a7 M c7).ownBlock ≠ some g):=i1;have j6:Hid (∀ {y},Bl V y -> Blk y g0 32 [.string s,.slice x1 n c1] /\ Blk y l 29 [.int .i64 T,.slice (some ⟨g,0,none⟩) 8 8]):=fun h=>⟨a1.below h a1.lt,X.below h X.lt⟩;refine QJ (S:=fun y=>Blk y g0 32 [.string s,.slice x1 n c1] /\ Blk y l 29 [.int .i64 T,.slice (some ⟨g,0,none⟩) 8 8]) (by kernel_rfl) (by rw [<- hV];exact ⟨a1,X⟩) (fun f=>?_);rw [<- hV] at f ⊢;clear hV bV j5 j9 j3 j7 d2 m9 i2 i1;refine tA 0 (.pointer (some ⟨g0,0,none⟩)) f ?_;simp only [put,pS];refine tC 1 (.string s) rfl (fun w1 h=>by have p3:=h.1.c 0;go_simp) f ?_;simp only [put,pS];refine tA 2 (.slice a7 M c7) f ?_;simp only [put,pS];refine tC 3 (.agg #[.int .i64 T,.slice (some ⟨g,0,none⟩) 8 8]) rfl (fun w1 h=>by have p3:=h.2.c 0;have r5:=h.2.c 1;go_simp) f ?_;simp only [put,pS];refine rdy1 4 (fun K B=>?_);go_simp;obtain ⟨U4,g6⟩:=uX (V.alloc (Obj.cells #[.int .i64 T,.slice (some ⟨g,0,none⟩) 8 8] 29));have k4:Blk U4 V.heap.size 29 [.int .i64 T,.slice (some ⟨g,0,none⟩) 8 8]:=by rw [g6];exact Blk.new _ _ _
  have C:=uB g6;rw [<- g6];clear g6;have r:=Am a4 C;refine B.out _ _ (j6.out C) (fun f=>?_);clear B K
  try dsimp only [put]
  refine rdy1 5 (fun K B=>?_);rw [if_pos (by rfl)];refine Gm _ _ rfl z _ M XS rfl r ⟨V.heap.size,0,none⟩ 1 1 [.int .i64 T,.slice (some ⟨g,0,none⟩) 8 8] rfl rfl (Be k4) (by intro u hu;simp at hu;rcases hu with rfl | rfl <;> rfl) (by unfold maxLen;omega) (by omega) (QG e7 C.size) ?_;intro v5 w5 d3 b5;have m2:=(C.mono e7).grown b5 (QG e7 C.size) (fun q hq=>(a4.lt q hq).1);obtain ⟨a5,c5,rfl⟩:=BK d3;have Y:=(a1.below C a1.lt).grown b5 (fun e=>by have:=(a4.lt _ e.symm).1;omega);have A:=(X.below C X.lt).grown b5 (fun e=>a0.out e.symm);have n5:=(h6.below C h6.lt).grown b5 (fun e=>c2.out e.symm);have N:=k7.trans m2;have l7:=AA (l1.out _ _ d3 N n5);refine B.out _ _ ⟨Y,A⟩ (fun f=>?_);clear B K
  try dsimp only [put]
  refine tA 6 (.agg #[.string s,.slice a5 (M + 1) c5]) f ?_;simp only [put,pS];refine rdy1 7 (fun K B=>?_);go_simp;refine (i4.out _ _ l7.out (b1.trans (N.mono d5))).mono ?_;rintro e w8 ⟨v8,rfl,d4,b8⟩;obtain ⟨a8,c8,rfl,r8,k5,r1⟩:=d4.shape;go_wp2_with fail;refine B.out _ _ ⟨Y.below b8 Y.lt,A.below b8 A.lt⟩ (fun f=>?_);clear B K
  try dsimp only [put]
  refine rdy1 8 (fun K B=>?_);go_simp;refine B.out _ _ ⟨Y.below b8 Y.lt,A.below b8 A.lt⟩ (fun f=>?_);clear B K
  try dsimp only [put]
  refine QM (by kernel_rfl) ?_ _;clear f;have I:=(b1.trans (N.mono d5)).trans (b8.mono (b1.trans (N.mono d5)).size);have n8:=JH d4;obtain ⟨eE,i8⟩:=uX (E.length);rw [<- i8] at n8 ⊢;have d0:=AA i8;clear d4 d3 r Y A n5 b5 m2 N l7 a1 X h6 a4 e7 k7 a0 c2 j6 k4 l1 i4 b8 C o3 i8 k5
  by_cases hE0:E = []
  ·obtain rfl:eE = 0:=by rw [d0.out,hE0];rfl
   rw [if_pos hE0] at o;go_wp2_with fail;go_ret;exact ⟨_,rfl,by rw [o.out];exact BJ _ _,I⟩
  ·rw [if_neg hE0] at o;have o6:12 <= eE /\ eE <= 4096:=by
    obtain ⟨h1,H⟩:=i5.out;rw [<- d0.out] at h1 H;rcases H with H | H
    ·exact absurd H hE0
    ·exact ⟨H,h1⟩
   obtain ⟨bE,oE,rfl,-⟩:=r8.at (k:=0) (by rw [<- d0.out];omega);obtain ⟨m8,p4⟩:=uX (eE - 8);have p7:IntKind.i64.wrap ((eE:Int) - 8) = (m8:Int):=by rw [QH];omega
   have c0:AH.length = m8:=by rw [c4.out,QI,<- d0.out];omega
   have rA:RowAt w8 (some ⟨bE,oE,none⟩) AH:=by rw [c4.out,<- d0.out];exact RowAt.take r8 _
   have k2:=AA (b0.out (some ⟨bE,oE,none⟩) c8 w8 (by rw [c0];omega) (by rw [c0];omega) I rA);rw [c0] at k2;have r2:((eE:Int) == 0) = false:=by rw [QP];omega
   have q8:¬ (eE:Int) = 0:=by omega
   have q7:(m8:Int) <= (c8:Int):=by omega
   have q6:¬ (m8:Int) < 0:=by omega
   have l0:=AA c0;have q3:m8 <= 4096:=by omega
   clear r8 p4 hE0 b0 c4 i5 o6 c0;go_wp2_with fail;refine k2.out.mono ?_;rintro e w9 ⟨v9,rfl,j2,b9⟩;obtain ⟨a9,c9,rfl,r9,-⟩:=j2.shape;have m4:=rA.below b9;have e3:=I.trans (b9.mono I.size);obtain ⟨lM,i9⟩:=uX (ML.length);rw [<- i9];have p8:=AA i9;obtain ⟨X9,e6⟩:=uX (w9.alloc (Obj.cells #[.int .i64 MC,.slice a9 lM c9] 68));obtain ⟨gO,h7⟩:=uX (w9.heap.size);have kO:=uK e6 h7;have f1:=uB e6;have o7:=m4.below f1;have q1:=r9.below f1;have d1:=e3.trans (f1.mono e3.size);have l5:=AA e6;have n4:=AA h7;clear e6 h7 j2 r9 rA m4 b9 f1 e3 I k2 i9 p7;go_upto_region 10 with fail
   rw [<- show X9 = _ from l5,<- show gO = _ from n4];clear l5 n4;have o0:=kO.c 0;have o1:=kO.c 1
   by_cases hC:MC = 0
   ·subst hC;rw [if_pos rfl] at o;go_wp2_with fail;obtain ⟨Wb,f5⟩:=uX (X9.alloc (Obj.cells #[.slice (some ⟨bE,oE,none⟩) m8 c8,.slice a9 lM c9] 22));rw [<- f5];have bB:=uB f5;have kB:Blk Wb X9.heap.size 22 [.slice (some ⟨bE,oE,none⟩) m8 c8,.slice a9 lM c9]:=by rw [f5];exact Blk.new _ _ _
    have d6:=d1.trans (bB.mono d1.size);clear f5;refine (Iu [.slice (some ⟨bE,oE,none⟩) m8 c8,.slice a9 lM c9] [AH,ML] X9.heap.size 0 2 2 Wb rfl rfl (by omega) (by simp only [List.flatten_cons,List.flatten_nil,QC,qH];have h1:=l0.out;have H:=h0.out;omega) (fun i x hx=>by
     obtain ⟨p0,rfl⟩:=List.getElem?_eq_some_iff.1 hx;have h:=kB.cell i p0;rw [QZ];exact h) (fun i hi=>by
     match i,hi with
     | 0,_=>exact ⟨some ⟨bE,oE,none⟩,c8,(by show Value.slice _ m8 _ = Value.slice _ AH.length _;rw [l0.out]),o7.below bB⟩
     | 1,_=>exact ⟨a9,c9,(by show Value.slice _ lM _ = Value.slice _ ML.length _;rw [p8.out]),q1.below bB⟩)).mono ?_
    rintro e r6 ⟨r3,rfl,k3,q0⟩;go_wp2_with fail;go_ret;exact ⟨_,rfl,(by
     have e9:[AH,ML].flatten = Ah d key s L:=by rw [o.out];simp
     rw [<- e9];exact k3.own.monoI d6.size),d6.trans (q0.mono d6.size)⟩
   ·rw [if_neg hC] at o;have r4:(MC == 0) = false:=by rw [QP];exact hC
    go_wp2_with fail;go_ret;exact ⟨_,rfl,by rw [o.out];exact BJ _ _,d1⟩
theorem IN {w:World} {o:Oper} {a:Act} {K:Act -> World -> Prop} {Q:Exit -> Act -> World -> Prop} (s x:Operand)
 (H:o.op = .call { callee:=.builtin .append,args:=#[s,x],argTypes:=#[40,40] }) (base:Nat) (v:Value) (n:Nat) (k:List Value) (E:a.eval s = v) (p:w.ownsRow base 49 2 v n k)
 (l:Addr) (m c:Nat) (b:List Value) (B:a.eval x = .slice (some l) m c) (G:b.length = m * 2) (g:∀ j u,b[j]? = some u -> w.cell? (l.add j) = some u) (J:∀ u ∈ b,u.oneCell' = true)
 (q:n + m <= maxLen) (f:(n + m) * 32 <= 140737488355328) (i:base <= w.heap.size)
 (h:∀ d w',w'.ownsRow base 49 2 d (n + m) (k ++ b) -> w.grownBy w' v.ownBlock -> (d.ownBlock = v.ownBlock \/ d.ownBlock = some w.heap.size) -> K (a.put o.dst d) w'):o.wp prog a w K Q:=by
 obtain ⟨I,A,t,y,r⟩:=Qg Tryz.infoSn;obtain ⟨d,w',z,F,C,-,D⟩:=run_append_own_at (P:=prog) w base 40 o.type 49 I (.agg #[.int .i64 0,.slice none 0 0]) 2 32 underlying40 A t y r rfl (by decide) v n k p l m c b G g J q f i;unfold Oper.wp execOp;simp only [H,resolve,invoke,builtin,Qe,ql,qB,qR,qD,qN,E,B,z];exact h d w' F C D
theorem Mi {w:World} {g t:Nat} {cs:List Value} (h:Blk w g t cs):w.rangeAt g 0 cs:=by
 intro j v c;obtain ⟨a,b⟩:=List.getElem?_eq_some_iff.1 c;rw [QZ,h.cell j a,b]
theorem Bm.c0 {w:World} {B a:Nat} {P:Nat -> Prop} {s:SS} {c f b:Value} {d:List Nat} (h:Bm w B a P s c f b d):w.cell? ⟨a,0,none⟩ = some s.mst:=h.blk.cell 0 (by simp [Fl])
theorem Bm.c10 {w:World} {B a:Nat} {P:Nat -> Prop} {s:SS} {d b c:Value} {f:List Nat} (h:Bm w B a P s d b c f):w.cell? ⟨a,10,none⟩ = some b:=h.blk.cell 10 (by simp [Fl])
theorem Uc (n a:Int) (x:Value) (b:Nat) (w:World) (f:w.cell? ⟨b,0,none⟩ = some (.int .i64 n)) :
 Calls prog 197 #[.agg #[.int .i64 a,x],.pointer (some ⟨b,0,none⟩)] w fun e w'=>e = .returned (.bool (a == n)) /\ Bl w w':=by
 obtain ⟨W,d⟩:=uX (w.alloc (Obj.cells #[.int .i64 a,x] 29));have g:=uB d;have j:=QF w _ f;have l:W.cell? ⟨b,0,none⟩ = some (.int .i64 n):=(g.cell (p:=⟨b,0,none⟩) j).trans f;have i:Blk W w.heap.size 29 [.int .i64 a,x]:=by rw [d];exact Blk.new _ _ _
 have m:=i.c 0;have k:=AA d;clear d f i;go_enter func197,ntmps197;go_upto_region 1 with fail
 rw [<- show W = _ from k];go_wp2_with fail;go_ret;exact ⟨rfl,g⟩
theorem Tu (d:Int) (Q:List (Int × Value)) (O:Q.length <= 1048576) (a:Option Addr) (J:Nat) (w:World) (G:Pg w a Q) (v:Nat) (D:w.cell? ⟨v,0,none⟩ = some (.int .i64 d)) :
 Calls prog 49 #[.slice a Q.length J,.func (Fn.func 197) #[] #[.pointer (some ⟨v,0,none⟩)]] w fun e w'=>(∃ r,e = .returned (.int .i64 r) /\ IxR (fun u=>u == d) Q r) /\ Bl w w':=by
 obtain ⟨n,C⟩:=uX (Q.length);have M:=AA C;rw [<- C] at O ⊢;have T:=AA G;have L:=AA D;have V:=QF w _ D;clear D;clear C G;go_enter func49,ntmps49;go_wp2_with fail
 go_loopw [8] (fun i wr=>∃ k:Nat,k <= n /\ i = .int .i64 (k:Int) /\ Hid (∀ j,j < k -> ((Q.getD j (0,undef)).1 == d) = false) /\ Bl w wr) (fun i _=>n - (intOf i).toNat)
 case atStart=>exact ⟨0,QU _,rfl,fun j h=>absurd h (Qj j),Below.refl _ _⟩
 case round =>
  obtain ⟨k,W,rfl,F,b⟩:=hrel
  by_cases hlt:k < n
  ·have E:(k:Int) < (n:Int):=by omega
   have B:k < Q.length:=by rw [<- M.out];exact hlt
   obtain ⟨g,o,rfl,c,z⟩:=T.out k B;have f:=QF w _ c;have R:=(b.cell (p:=⟨g,o + k * 2,none⟩) f).trans c;have N:=(b.cell (p:=⟨g,o + k * 2 + 1,none⟩) f).trans z;obtain ⟨u,t⟩:=uX ((Q.getD k (0,undef)).1);obtain ⟨x,I⟩:=uX ((Q.getD k (0,undef)).2);rw [<- t] at R;rw [<- I] at N;have A:=AA t;have q:=AA (Uc d u x v wr ((b.cell (p:=⟨v,0,none⟩) V).trans L.out));obtain ⟨U,l⟩:=uX ((u == d));rw [<- l] at q;have y:=AA l;clear t I l c z f;cases U
   ·go_wp2_with (go_at_call 197;refine q.out.mono ?_;rintro e w2 ⟨rfl,m⟩;have s:=b.trans (m.mono b.size);clear m)
    go_roundw
    case rel=>exact ⟨k + 1,by omega,by go_num,fun j H=>by
     by_cases hjk:j = k
     ·rw [hjk,<- A.out,<- y.out]
     ·exact F.out j (by omega),s⟩
    case measure=>simp [intOf];omega
   ·go_wp2_with (go_at_call 197;refine q.out.mono ?_;rintro e w2 ⟨rfl,m⟩;have s:=b.trans (m.mono b.size);clear m)
    go_ret;exact ⟨⟨_,rfl,.inr ⟨k,B,rfl,F.out,by rw [<- A.out];exact y.out.symm⟩⟩,s⟩
  ·have E:¬ (k:Int) < (n:Int):=by omega
   go_wp2_with fail;go_ret;exact ⟨⟨_,rfl,.inl ⟨rfl,fun j H=>F.out j (by rw [<- M.out] at H;omega)⟩⟩,b⟩
theorem Gc (L:List (Int × LU)):∀ (vs:List Value),vs.length = L.length -> ∀ i,i < L.length -> ((Bk L vs).getD i (0,undef)).1 = (L.getD i (0,[])).1:=by
 induction L with
 | nil=>intro vs _ i a;exact absurd a (Qj i)
 | cons p r ih =>
   intro vs b i a
   cases vs with
   | nil=>simp at b
   | cons x xs =>
     cases i with
     | zero=>rfl
     | succ i=>exact ih xs (by simpa using b) i (by simpa using a)
def Yr (n:Int) (L:List (Int × LU)) (r:Int):Prop:=(r = -1 /\ ∀ j,j < L.length -> ((L.getD j (0,[])).1 == n) = false) \/ ∃ k:Nat,k < L.length /\ r = (k:Int) /\ (∀ j,j < k -> ((L.getD j (0,[])).1 == n) = false) /\ ((L.getD k (0,[])).1 == n) = true
theorem dO {n:Int} {L:List (Int × LU)} {vs:List Value} (b:vs.length = L.length) {r:Int} (h:IxR (fun g=>g == n) (Bk L vs) r):Yr n L r:=by
 rcases h with ⟨a,d⟩ | ⟨k,a,d,f,i⟩
 ·refine .inl ⟨a,fun j c=>?_⟩;rw [<- Gc L vs b j c];exact d j (by rw [CE L vs b];exact c)
 ·rw [CE L vs b] at a;refine .inr ⟨k,a,d,fun j c=>?_,?_⟩
  ·rw [<- Gc L vs b j (by omega)];exact f j c
  ·rw [<- Gc L vs b k a];exact i
def FY (n:Int) (L:List (Int × LU)):Bool:=L.any (fun p=>p.1 == n)
def A9 (n:Int) (L:List (Int × LU)):LU:=((L.find? (fun p=>p.1 == n)).map (·.2)).getD []
theorem Th {n:Int} {L:List (Int × LU)} {r:Int} (h:Yr n L r):FY n L = decide (0 <= r):=by
 rcases h with ⟨a,b⟩ | ⟨k,a,b,i,c⟩
 ·rw [a];unfold FY;rw [show decide (0 <= (-1:Int)) = false from rfl,List.any_eq_false];intro p f;obtain ⟨j,d,g⟩:=qi f;have:=b j d;rw [QA,List.getElem?_eq_getElem d,qG,g] at this;rw [this];decide
 ·rw [b,show decide (0 <= (k:Int)) = true from QK (by omega)];unfold FY;rw [List.any_eq_true];rw [QA,List.getElem?_eq_getElem a,qG] at c;exact ⟨L[k],Qd a,c⟩
theorem Tb {n:Int} {L:List (Int × LU)} {k:Nat} (a:k < L.length) (d:∀ j,j < k -> ((L.getD j (0,[])).1 == n) = false) (b:((L.getD k (0,[])).1 == n) = true):A9 n L = (L.getD k (0,[])).2:=by
 unfold A9;have e:L.find? (fun p=>p.1 == n) = some L[k]:=by
  rw [List.find?_eq_some_iff_getElem];rw [QA,List.getElem?_eq_getElem a,qG] at b;refine ⟨b,k,a,rfl,fun j c=>?_⟩;have:=d j c;rw [QA,List.getElem?_eq_getElem (by omega),qG] at this;rw [this];rfl
 rw [e,QA,List.getElem?_eq_getElem a]
 rfl
theorem Ym {n:Int} {L:List (Int × LU)} (h:∀ j,j < L.length -> ((L.getD j (0,[])).1 == n) = false):A9 n L = []:=by
 unfold A9;have e:L.find? (fun p=>p.1 == n) = none:=by
  rw [List.find?_eq_none];intro p b;obtain ⟨j,a,c⟩:=qi b;have:=h j a;rw [QA,List.getElem?_eq_getElem a,qG,c] at this;rw [this];decide
 rw [e];rfl
theorem Ke (n:Int) (k:ByteArray) (L:List (Int × LU)) (B:L.length <= 1048576) (v:Value) (w:World) (F:Fr w v L) :
 Calls prog 161 #[.agg #[.string k,v],.int .i64 n] w fun e w'=>(∃ r,e = .returned (.int .i64 r) /\ Yr n L r) /\ Bl w w':=by
 obtain ⟨vs,a,E⟩:=F.vals;obtain ⟨f,l,rfl⟩:=F.sh;obtain ⟨W,b⟩:=uX ((w.alloc (Obj.cells #[.string k,.slice f L.length l] 32)).alloc (Obj.cells #[.int .i64 n] 3));have p:Bl w W:=by rw [b];exact (CN _ _).alloc (by simp) _
 have hz:(w.alloc (Obj.cells #[.string k,.slice f L.length l] 32)).heap.size = w.heap.size + 1:=by simp
 have y:Blk W w.heap.size 32 [.string k,.slice f L.length l]:=by rw [b];exact (Blk.new _ _ _).alloc _
 have t:Blk W (w.heap.size + 1) 3 [.int .i64 n]:=by rw [b];exact Blk.new2 _ _ _ _
 have I:=y.c 1;have G:=t.c 0;have m:Pg W f (Bk L vs):=fun i j=>by
  rw [CE L vs a.len] at j;obtain ⟨g,o,H,e,D,A⟩:=(a.below p).at_ i j;cases e
  exact ⟨g,o,rfl,by rw [Gc L vs a.len i j];exact D,by rw [LX L vs a.len i j];exact A⟩
 have d:=CE L vs a.len;have z:=AA (Tu n (Bk L vs) (by rw [d];exact B) f l W m (w.heap.size + 1) G);rw [d] at z;have q:=AA a.len;have x:=AA b;clear b F a E m d hz y t;go_enter func161,ntmps161;go_upto_region 1 with fail
 rw [<- show W = _ from x];clear x;go_wp2_with (go_at_call 49;refine z.out.mono ?_;rintro e w2 ⟨⟨r,rfl,s⟩,C⟩;have u:=AA (dO q.out s);clear s)
 go_ret;exact ⟨⟨_,rfl,u.out⟩,p.trans (C.mono p.size)⟩
theorem OX (n:Int) (s:ByteArray) (L:List (Int × LU)) (M:L.length <= 1048576) (v:Value) (w:World) (F:Fr w v L) :
 Calls prog 120 #[.agg #[.string s,v],.int .i64 n] w fun e w'=>(∃ a c,e = .returned (.slice a (A9 n L).length c) /\ RowAt w' a (A9 n L)) /\ Bl w w':=by
 obtain ⟨V,U,rfl⟩:=F.sh;obtain ⟨W,b⟩:=uX (w.alloc (Obj.cells #[.string s,.slice V L.length U] 32));have x:=uB b;obtain ⟨z,d⟩:=uX (w.heap.size);have i:=uK b d;have l:=AA (Ke n s L M _ W (F.below x));have HF:=AA (fun (y:World) (q:Bl w y)=>F.below q);have G:=AA (fun (y:World) (q:Bl W y)=>i.below q i.lt);obtain ⟨I,f⟩:=uX (L.length);have D:=AA f;rw [<- f] at l G i b ⊢;have E:=AA b;have p:=AA d;clear b F d f;go_enter func120,ntmps120;go_upto_region 1 with fail;rw [<- show W = _ from E,<- show z = _ from p];clear E p;go_wp2_with (refine AL rfl 32 _ rfl z rfl i underlying32 rfl (by kernel_rfl) ?_)
 refine l.out.mono ?_;rintro e w2 ⟨⟨r,rfl,J⟩,t⟩;have u:=x.trans (t.mono x.size);rcases J with ⟨rfl,m⟩ | ⟨k,B,rfl,A,C⟩
 ·have HE:=AA (Ym m);clear m;go_wp2_with fail;go_ret;exact ⟨⟨none,0,by rw [HE.out];rfl,.inl HE.out⟩,u⟩
 ·obtain ⟨g,o,X,T,R,e,O,H,r⟩:=(HF.out w2 u).at_ k B;cases e
  have j:=Tb B A C;rw [<- j] at H r;have c1:=(G.out _ t).c 1;have Y:(k:Int) < (I:Int):=by have:=D.out;omega
  have Z:¬ (k:Int) < 0:=by omega
  have N:=AA r;clear j A C r O t;go_wp2_with fail;go_ret;exact ⟨⟨T,R,rfl,N.out⟩,u⟩
theorem Zf {a:List Int} {f:Int -> Bool} (h:∀ j,j < a.length -> f (a.getD j 0) = true):a.all f = true:=by
 rw [Qt];intro x d;obtain ⟨j,b,c⟩:=qi d;have:=h j b
 rwa [QA,List.getElem?_eq_getElem b,qG,c] at this
theorem cY {a:List Int} {f:Int -> Bool} {k:Nat} (b:k < a.length) (h:f (a.getD k 0) = false):a.all f = false:=by
 rw [List.all_eq_false];rw [QA,List.getElem?_eq_getElem b,qG] at h;exact ⟨a[k],Qd b,by rw [h];decide⟩
theorem TS (b:List Int) (U:b.length <= 2) (D:Nat) (E:ByteArray) (L:List (Int × LU)) (hL:L.length <= 1048576) (v:Value) (w:World) (F:Fr w v L) (J:∀ i,i < b.length -> w.cell? ⟨D,i,none⟩ = some (.int .i64 (b.getD i 0))) :
 Calls prog 117 #[.agg #[.string E,v],.slice (some ⟨D,0,none⟩) b.length b.length] w fun e w'=>e = .returned (.bool (b.all fun n=>FY n L)) /\ Bl w w':=by
 obtain ⟨av,cv,rfl⟩:=F.sh;obtain ⟨W,l⟩:=uX (w.alloc (Obj.cells #[.string E,.slice av L.length cv] 32));have d:=uB l;obtain ⟨N,o⟩:=uX (w.heap.size);have I:=uK l o;have A:=AA (fun (n:Int) (y:World) (g:Bl W y)=>Ke n E L hL _ y (F.below (d.trans (g.mono d.size))));have T:=AA (fun (y:World) (g:Bl W y)=>I.below g I.lt);have Y:=AA (fun (y:World) (g:Bl w y) (i:Nat) (O:i < b.length)=>(g.cell (p:=⟨D,i,none⟩) (QF w _ (J i O))).trans (J i O));obtain ⟨nL,B⟩:=uX (L.length);obtain ⟨t,m⟩:=uX (b.length);rw [<- B] at A T I l ⊢;rw [<- m] at Y U ⊢;have u:=AA m;have V:=AA l;have C:=AA o;clear l F o B m J;go_enter func117,ntmps117;go_upto_region 1 with fail;rw [<- show W = _ from V,<- show N = _ from C];clear V C;go_wp2_with fail
 go_loopw [9] (fun i wr=>∃ k:Nat,k <= t /\ i = .int .i64 (k:Int) /\ Hid (∀ j,j < k -> FY (b.getD j 0) L = true) /\ Bl W wr) (fun i _=>t - (intOf i).toNat)
 case atStart=>exact ⟨0,QU _,rfl,fun j h=>absurd h (Qj j),Below.refl _ _⟩
 case round =>
  obtain ⟨k,hk,rfl,X,a⟩:=hrel
  by_cases hlt:k < t
  ·have G:(k:Int) < (t:Int):=by omega
   have ck:=Y.out wr (d.trans (a.mono d.size)) k hlt;obtain ⟨Z,c⟩:=uX (b.getD k 0);rw [<- c] at ck;have x:=AA c;have kr:=T.out wr a;have HP:=AA (A.out Z wr a);clear c;go_wp2_with (refine AL rfl 32 _ rfl N rfl kr underlying32 rfl (by kernel_rfl) ?_)
   refine HP.out.mono ?_;rintro e w2 ⟨⟨r,rfl,M⟩,H⟩;have z:=a.trans (H.mono a.size);have s:=Th M;rcases M with ⟨rfl,c⟩ | ⟨q,hq,rfl,h3,h4⟩
   ·have HF:=AA (cY (f:=fun n=>FY n L) (by rw [<- u.out];exact hlt) (by rw [<- x.out];exact s));clear c s H;go_wp2_with fail;go_ret;exact ⟨by rw [HF.out];rfl,d.trans (z.mono d.size)⟩
   ·have a0:¬ (q:Int) < 0:=by omega
    rw [show decide (0 <= (q:Int)) = true from QK (by omega)] at s;have HF:=AA s;clear s h3 h4 hq H;go_wp2_with fail;go_roundw
    case rel=>exact ⟨k + 1,by omega,by go_num,fun j R=>by
     by_cases hjk:j = k
     ·rw [hjk,<- x.out];exact HF.out
     ·exact X.out j (by omega),z⟩
    case measure=>simp [intOf];omega
  ·have G:¬ (k:Int) < (t:Int):=by omega
   have HF:=AA (Zf (f:=fun n=>FY n L) (fun j R=>X.out j (by rw [<- u.out] at R;omega)));go_wp2_with fail;go_ret;exact ⟨by rw [HF.out];rfl,d.trans (a.mono d.size)⟩
def Q8 (n:Int) (d:LU) (L:List (Int × LU)):List (Int × LU):=L.map fun p=>if (p.1 == n) = true then (p.1,d) else p
theorem Ll (n:Int) (d:LU) (L:List (Int × LU)):(Q8 n d L).length = L.length:=by unfold Q8;simp
theorem Zn (n:Int) (d:LU) (L:List (Int × LU)) (i:Nat) (a:i < L.length):(Q8 n d L).getD i (0,[]) = if ((L.getD i (0,[])).1 == n) = true then ((L.getD i (0,[])).1,d) else L.getD i (0,[]):=by
 unfold Q8;rw [QA,List.getElem?_map,QA,List.getElem?_eq_getElem a]
 rfl
structure RI (n:Int) (dv:Value) (L:List (Int × LU)) (vs:List Value) (k:Nat) (xs:List Value):Prop where
 len:xs.length = L.length * 2
 no:∀ i,i < L.length -> xs[i * 2]? = some (.int .i64 (L.getD i (0,[])).1)
 yes:∀ i,i < L.length -> i < k -> ((L.getD i (0,[])).1 == n) = true -> xs[i * 2 + 1]? = some dv
 old:∀ i,i < L.length -> (k <= i \/ ((L.getD i (0,[])).1 == n) = false) -> xs[i * 2 + 1]? = some (vs.getD i undef)
theorem RI.start (n:Int) (c:Value) (L:List (Int × LU)) (vs:List Value) (b:vs.length = L.length):RI n c L vs 0 (Z.fldCells L vs) :=
 ⟨Z.fldCells_length L vs b,fun i a=>(Z.fldCells_at L vs b i a).1,fun _ _ h=>absurd h (Qj _),fun i a _=>(Z.fldCells_at L vs b i a).2⟩
theorem RI.put {n:Int} {c:Value} {L:List (Int × LU)} {vs:List Value} {k:Nat} {d:List Value} (h:RI n c L vs k d) (m:k < L.length) (g:((L.getD k (0,[])).1 == n) = true):RI n c L vs (k + 1) (d.set (k * 2 + 1) c):=by
 have j:=h.len;refine ⟨by rw [QQ];exact j,fun i b=>?_,fun i b l f=>?_,fun i b a=>?_⟩
 ·rw [List.getElem?_set_ne (by omega)];exact h.no i b
 ·by_cases e:i = k
  ·subst e;rw [List.getElem?_set_self (by omega)]
  ·rw [List.getElem?_set_ne (by omega)];exact h.yes i b (by omega) f
 ·have e:i ≠ k:=fun e=>by
   subst e;rcases a with a | a
   ·omega
   ·rw [g] at a;cases a
  rw [List.getElem?_set_ne (by omega)];exact h.old i b (by
   rcases a with a | a
   ·exact .inl (by omega)
   ·exact .inr a)
theorem RI.fr {n:Int} {d:LU} {f:Option Addr} {j:Nat} {L:List (Int × LU)} {vs:List Value} {m:List Value} {w:World} {lo:Nat} {v:Value} (h:RI n (.slice f d.length j) L vs L.length m) (row:w.ownsRow lo 29 2 v L.length m) (o:Rws w L vs) (q:RowAt w f d):Fr w v (Q8 n d L):=by
 refine ⟨by rw [Ll];exact EV row,fun i a=>?_⟩;rw [Ll] at a ⊢;rw [Zn n d L i a];rcases row.2 with ⟨l,hz⟩ | ⟨g,c,t,l,-⟩
 ·omega
 ·subst l;have k:=(row.cellAt (i * 2) (by omega)).trans (h.no i a);have b:=row.cellAt (i * 2 + 1) (by omega);cases hb:((L.getD i (0,[])).1 == n)
  ·rw [h.old i a (.inr hb)] at b;obtain ⟨s,p,e,r⟩:=o i a;rw [e] at b;exact ⟨g,0,c,s,p,rfl,by rw [QZ,if_neg (by decide)];exact k,by rw [QZ,if_neg (by decide)];exact b,by rw [if_neg (by decide)];exact r⟩
  ·rw [h.yes i a a hb] at b;exact ⟨g,0,c,f,j,rfl,by rw [QZ,if_pos rfl];exact k,by rw [QZ,if_pos rfl];exact b,by rw [if_pos rfl];exact q⟩
theorem ZS (s:ByteArray) (w:World):∃ c w',(convert 9 22 (.string s)).run prog w = .ok (.slice (some ⟨w.heap.size,0,none⟩) s.size c) w' /\ RowAt w' (some ⟨w.heap.size,0,none⟩) s.data.toList /\ Bl w w':=by
 refine ⟨_,_,Lib.run_convert_string_bytes w 9 22 5 s underlying9 underlying22 underlying5,.inr ⟨_,_,rfl,fun i b=>?_⟩,?_⟩
 ·rw [QZ];have a:i < s.size:=by have h:=b;rw [Ql] at h;exact h
  exact Lib.bytesWorld_cell w 5 s i a
 ·exact ⟨rfl,rfl,rfl,by rw [Lib.bytesWorld_size];omega,fun k d=>Lib.bytesWorld_at_old w _ s k d⟩
structure Mst (w0:World) (x0 x1:Addr) (am:Option Addr) (master:LU):Prop where
 sents:Sents w0 x0 x1
 row:RowAt w0 am master
 tab:∀ w',Bl w0 w' -> Lib.TabIs prog w' "internal/strconv.uint64pow10" .u64 Lib.pow10Tab
theorem Bm.drew {w:World} {B a:Nat} {P:Nat -> Prop} {s:SS} {c f b:Value} {d:List Nat} (h:Bm w B a P s c f b d):Bm w.drew B a P s c f b d:=⟨h.lo,h.blk,h.ents,h.wrow,h.srow,h.lrow,h.pS,h.pw,h.pv,h.pl⟩
theorem Bm.c4 {w:World} {B a:Nat} {P:Nat -> Prop} {s:SS} {c f b:Value} {d:List Nat} (h:Bm w B a P s c f b d):w.cell? ⟨a,4,none⟩ = some s.kys:=h.blk.cell 4 (by simp [Fl])
theorem Bm.c6 {w:World} {B a:Nat} {P:Nat -> Prop} {s:SS} {c f b:Value} {d:List Nat} (h:Bm w B a P s c f b d):w.cell? ⟨a,6,none⟩ = some (.int .i64 s.clock):=h.blk.cell 6 (by simp [Fl])
theorem Bm.c8 {w:World} {B a:Nat} {P:Nat -> Prop} {s:SS} {c f b:Value} {d:List Nat} (h:Bm w B a P s c f b d):w.cell? ⟨a,8,none⟩ = some (.int .i64 s.next):=h.blk.cell 8 (by simp [Fl])
theorem Bm.c9 {w:World} {B a:Nat} {P:Nat -> Prop} {s:SS} {b f c:Value} {d:List Nat} (h:Bm w B a P s b f c d):w.cell? ⟨a,9,none⟩ = some b:=h.blk.cell 9 (by simp [Fl])
theorem Bm.next {w:World} {B a:Nat} {P:Nat -> Prop} {s:SS} {d g c:Value} {f:List Nat} (h:Bm w B a P s d g c f) (k:Int):Bm (w.setCell ⟨a,8,none⟩ (.int .i64 k)) B a P { s with next:=k } d g c f /\ Below B w (w.setCell ⟨a,8,none⟩ (.int .i64 k)) /\ Sm KT w (w.setCell ⟨a,8,none⟩ (.int .i64 k)) /\ Kp P w (w.setCell ⟨a,8,none⟩ (.int .i64 k)):=by
 have b:=Sm.setCell (ts:=[84]) h.blk (by simp) 8 (.int .i64 k);exact ⟨⟨h.lo,h.blk.set 8 _,h.ents.sm b (by decide),Bd h.wrow b (by decide),Bd h.srow b (by decide),Bd h.lrow b (by decide),h.pS,h.pw,h.pv,h.pl⟩,(Below.refl _ _).setCell h.lo _,b.mono (by decide),Kp.setCell w h.pS 8 _⟩
theorem IJ.snoc {w:World} {B b:Nat} {d:List Nat} {W:List Ent} {e:Ent} (h:IJ w B d W) (f:B <= b) (k:Blk w b 231 (de e)):IJ w B (d ++ [b]) (W ++ [e]):=by
 refine ⟨by rw [QC,QC,h.1];rfl,fun i c=>?_⟩;rw [QC] at c
 by_cases hc:i < W.length
 ·rw [Az _ _ _ _ hc,Az _ _ _ _ (by rw [h.1];exact hc)];exact h.2 i hc
 ·have a:i = W.length:=by simp at c;omega
  rw [BG _ _ _ _ a,BG _ _ _ _ (by rw [h.1];exact a)];exact ⟨f,k⟩
def eV (a:Nat):ByteArray:=⟨(An 6 a).toArray⟩
abbrev Rt:=ByteArray × Int
def EW (w:World) (c:Option Addr) (rs:List Rt):Prop :=
 rs = [] \/ ∃ b a,c = some ⟨b,a,none⟩ /\ ∀ i r,rs[i]? = some r -> w.cell? ⟨b,a + i * 2,none⟩ = some (.string r.1) /\ w.cell? ⟨b,a + i * 2 + 1,none⟩ = some (.int .i64 r.2)
theorem EW.at {w:World} {c:Option Addr} {rs:List Rt} (h:EW w c rs) {k:Nat} (d:k < rs.length) :
 ∃ b a,c = some ⟨b,a,none⟩ /\ ∀ i r,rs[i]? = some r -> w.cell? ⟨b,a + i * 2,none⟩ = some (.string r.1) /\ w.cell? ⟨b,a + i * 2 + 1,none⟩ = some (.int .i64 r.2):=by
 rcases h with rfl | h
 ·simp at d
 ·exact h
theorem EW.below {w w':World} {f:Option Addr} {rs:List Rt} (h:EW w f rs) (d:Bl w w'):EW w' f rs:=by
 rcases h with rfl | ⟨b,a,rfl,k⟩
 ·exact .inl rfl
 ·refine .inr ⟨b,a,rfl,fun i r j=>?_⟩;obtain ⟨g,c⟩:=k i r j;exact ⟨by rw [d.cell (p:=⟨b,a + i * 2,none⟩) (QF w _ g)];exact g,by rw [d.cell (p:=⟨b,a + i * 2 + 1,none⟩) (QF w _ c)];exact c⟩
theorem EW.take {w:World} {c:Option Addr} {rs:List Rt} (h:EW w c rs) (n:Nat):EW w c (rs.take n):=by
 rcases h with rfl | ⟨b,d,rfl,f⟩
 ·exact .inl (by simp)
 ·refine .inr ⟨b,d,rfl,fun i r a=>f i r ?_⟩;rw [List.getElem?_take] at a
  split at a
  ·exact a
  ·cases a
def N5 (p s:ByteArray):Bool:=decide (p.size <= s.size) && (s.extract 0 p.size).toList == p.toList
def Gy (L:List Rt) (a:ByteArray) (k:Nat) (b c:Int):Prop :=
 (b = -1 /\ c = -1 /\ ∀ j r,j < k -> L[j]? = some r -> N5 r.1 a = false) \/
 ∃ i r,i < k /\ L[i]? = some r /\ N5 r.1 a = true /\ b = r.2 /\ c = (r.1.size:Int) /\ (∀ j q,j < k -> L[j]? = some q -> N5 q.1 a = true -> q.1.size <= r.1.size) /\ (∀ j q,j < i -> L[j]? = some q -> N5 q.1 a = true -> q.1.size < r.1.size)
theorem Gy.zero (L:List Rt) (a:ByteArray):Gy L a 0 (-1) (-1):=.inl ⟨rfl,rfl,fun j _ h=>absurd h (Qj j)⟩
theorem Gy.skip {L:List Rt} {b:ByteArray} {k:Nat} {d a:Int} {r:Rt} (h:Gy L b k d a) (p:L[k]? = some r) (g:¬ (a < (r.1.size:Int) /\ N5 r.1 b = true)):Gy L b (k + 1) d a:=by
 rcases h with ⟨n,m,l⟩ | ⟨i,q,y,c,s,n,m,l,t⟩
 ·refine .inl ⟨n,m,fun j q u c=>?_⟩
  by_cases hjk:j = k
  ·subst hjk;rw [p] at c;cases c
   have:a < (r.1.size:Int):=by omega
   simpa [this] using g
  ·exact l j q (by omega) c
 ·refine .inr ⟨i,q,by omega,c,s,n,m,fun j x u o f=>?_,t⟩
  by_cases hjk:j = k
  ·subst hjk;rw [p] at o;cases o
   have:¬ a < (r.1.size:Int):=fun v=>g ⟨v,f⟩;omega
  ·exact l j x (by omega) o f
theorem Gy.take {L:List Rt} {d:ByteArray} {k:Nat} {l f:Int} {r:Rt} (h:Gy L d k l f) (n:L[k]? = some r) (y:f < (r.1.size:Int)) (o:N5 r.1 d = true):Gy L d (k + 1) r.2 r.1.size:=by
 refine .inr ⟨k,r,by omega,n,o,rfl,rfl,fun j q g c a=>?_,fun j q g c a=>?_⟩
 ·by_cases hjk:j = k
  ·subst hjk;rw [n] at c;cases c;exact QE _
  ·rcases h with ⟨-,-,b⟩ | ⟨i,x,u,v,m,t,p,b,s⟩
   ·rw [b j q (by omega) c] at a;cases a
   ·have:=b j q (by omega) c a;omega
 ·rcases h with ⟨-,-,b⟩ | ⟨i,x,u,v,m,t,p,b,s⟩
  ·rw [b j q g c] at a;cases a
  ·have:=b j q g c a;omega
theorem Gy.one {L:List Rt} {n:ByteArray} {a b c d:Int} (h:Gy L n L.length a b) (g:Gy L n L.length c d):a = c:=by
 rcases h with ⟨r,-,o⟩ | ⟨i,x,p,m,f,r,t,o,s⟩ <;> rcases g with ⟨g1,-,g3⟩ | ⟨j,y,q,l,k,g1,g2,g3,g4⟩
 ·omega
 ·rw [o j y q l] at k;cases k
 ·rw [g3 i x p m] at f;cases f
 ·have v:=o j y q l k;have u:=g3 i x p m f
  by_cases hij:i = j
  ·subst hij;rw [m] at l;cases l;omega
  ·by_cases hlt:i < j
   ·have:=g4 i x hlt m f;omega
   ·have:=s j y (by omega) l k;omega
def RF (L:List Rt) (c:ByteArray) (a:Int):Prop:=∃ b,Gy L c L.length a b
theorem RF.one {L:List Rt} {b:ByteArray} {a c:Int} (h:RF L b a) (g:RF L b c):a = c:=by
 obtain ⟨_,h⟩:=h;obtain ⟨_,g⟩:=g;exact h.one g
theorem Fv.fr {w:World} {v:Value} {L:List (Int × LU)} {vs:List Value} (h:Fv w v L vs) (d:Rws w L vs):Fr w v L:=by
 refine ⟨h.sh,fun i a=>?_⟩;obtain ⟨g,o,b,e,l,c⟩:=h.at_ i a;obtain ⟨k,j,f,r⟩:=d i a;exact ⟨g,o,b,k,j,e,l,by rw [c,f],r⟩
def eI (s:SS) (a:Int) (c d:Nat) (b:ByteArray) (x:Value):SS :=
 if s.room <= (s.W.length:Int) then { s with S:=s.S ++ [(a,x)],L:=s.L ++ [(91,a,b)] }
 else { s with next:=((d + 1:Nat):Int),W:=s.W ++ [((c:Int),eV d,a,b,s.clock + 30)],S:=s.S ++ [((c:Int),x)],L:=s.L ++ [(0,a,b)] }
end Go.Proofs.YtbkokcjolanpeaaGreatDoor
