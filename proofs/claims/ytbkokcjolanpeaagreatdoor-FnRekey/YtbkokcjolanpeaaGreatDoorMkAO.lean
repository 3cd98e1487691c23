import Derived.Test.YtbkokcjolanpeaaGreatDoorMkAB
import Derived.Test.YtbkokcjolanpeaaGreatDoorMkAN
set_option maxRecDepth 100000
set_option maxHeartbeats 40000000
namespace Go.Proofs.YtbkokcjolanpeaaGreatDoor
open Go.RowKit Go.Proofs.Tryz Act
def FB:LU:=[48,48,48,48,48,57]
def keyL (a:LU):List (Int × LU):=[(11,FB),(48,a),(70,[49,48,49])]
def s9:ByteArray:=⟨FB.toArray⟩
theorem Pz {w:World} {o:Oper} {a:Act} {K:Act -> World -> Prop} {Q:Exit -> Act -> World -> Prop} (l c:Operand) (j:o.op = Op.makeSlice 22 l c) (s:a.eval l = .int .i64 8) (q:a.eval c = .int .i64 8)
 (h:∀ w',Blk w' w.heap.size 5 (CT.map byte) -> Bl w w' -> K (a.put o.dst (.slice (some ⟨w.heap.size,0,none⟩) 8 8)) w'):o.wp prog a w K Q:=by
 obtain ⟨p,n,f,g,d⟩:=Qg Tryz.infoB8;obtain ⟨w',b,i,m⟩:=run_make_full (P:=prog) w w.heap.size 22 5 p (.int .u8 0) 1 underlying22 n f g .i64 .i64 8 (by rw [d];omega) (by unfold maxLen;omega) (QE _);have r:((8:Nat):Int) = 8:=rfl;rw [r] at b;unfold Oper.wp;simp [execOp,j,s,q,b,Result.andThen];rw [Cl] at i;have k:=C8 i;exact h w' k (Ac m)
theorem R0 {w:World} {o:Oper} {a:Act} {K:Act -> World -> Prop} {Q:Exit -> Act -> World -> Prop} (s x:Operand)
 (m:o.op = .call { callee:=.builtin .append,args:=#[s,x],argTypes:=#[22,22] }) (base:Nat) (v:Value) (l d:LU) (p:a.eval s = v) (j:AO w base v l) (i:Option Addr) (c:Nat) (t:a.eval x = .slice i d.length c) (r:RowAt w i d) (k:l.length + d.length <= 1073741824) (b:base <= w.heap.size)
 (h:∀ f w',AO w' base f (l ++ d) -> w.grownBy w' v.ownBlock -> K (a.put o.dst f) w'):o.wp prog a w K Q:=by
 obtain ⟨f,w',g,q,n⟩:=IR base o.type v l d j i c r k b;unfold Oper.wp execOp;simp only [m,resolve,invoke,builtin,Qe,ql,qB,qR,qD,qN,p,t,g];exact h f w' q n
theorem Ug (A:List (Int × LU)) (p:Int × LU):Ax (A ++ [p]) = if Bz p.1 = true then Ax A else Ax A ++ [p]:=by
 unfold Ax;rw [List.filter_append]
 by_cases h:Bz p.1 = true
 ·rw [if_pos h];simp [h]
 ·rw [if_neg h];simp [h]
def MW (L:List (Int × LU)):Int:=if L.any (fun p=>CF p.1) = true then 128 else 64
theorem WC (A:List (Int × LU)) (p:Int × LU):MW (A ++ [p]) = if CF p.1 = true then 128 else MW A:=by
 unfold MW;rw [List.any_append]
 by_cases h:CF p.1 = true
 ·rw [if_pos h,if_pos];simp [h]
 ·rw [if_neg h];have:(A.any (fun p=>CF p.1) || [p].any (fun p=>CF p.1)) = A.any (fun p=>CF p.1):=by simp [h]
  rw [this]
theorem N9 (m key:LU) (s:ByteArray) (L:List (Int × LU)) (hz:s.size <= maxLen) (o2:∀ p ∈ L,p.2.length <= 1048576) (hL:L.length <= 1048576) (am ak:Option Addr) (cm ck:Nat) (v:Value) (w:World) (hm:m.length <= 1048576) (s7:key.length <= ck) (rm:RowAt w am m) (rk:RowAt w ak key) (k6:Fr w v L) :
 Calls prog 13 #[.slice am m.length cm,.slice ak key.length ck,.agg #[.string s,v]] w fun e w'=>∃ ao c,e = .returned (.slice ao (Ah m key s L).length c) /\ RowAt w' ao (Ah m key s L) /\ Bl w w' /\ (Ah m key s L).length <= c:=by
 obtain ⟨i0,hi,z7,z2,w2⟩:=Qg Tryz.infoFz;obtain ⟨x1,c1,rfl⟩:=k6.sh;obtain ⟨E3,m4,o4⟩:=k6.vals;have j9:=AA (fun (v:Value) (R:World) (h:Fr R v (sealF L))=>Sv s (sealF L) hz (Rj o2) (by rw [KI];have:=GH L;omega) v R h);have f0:=AA (fun (ad:Option Addr) (cd:Nat) (R:World) y9 i2 (hb:Bl w R) rd=>KP m key (Ch s L) am ak ad cm ck cd R hm s7 y9 i2 (rm.below hb) (rk.below hb) rd);have n3:=AA (TX m key (Ch s L));have l2:=AA (LT s (sealF L));have f2:Hid (Ch s L = (BA s (sealF L)).take ((BA s (sealF L)).length - 8)):=rfl;have D:Hid (Ah m key s L = if BA s (sealF L) = [] then [] else if Dp m key (Ch s L) = 0 then Ch s L ++ macL m key (Ch s L) else []):=rfl;have n6:Hid (sealF L = Ax L ++ [(MW (Ax L),CT)]):=rfl;have j4:=AA (fun (a:Option Addr) (c:Nat) (bs:LU) (R:World) T J (hr:RowAt R a bs)=>EF a c bs R T J hr);obtain ⟨E,hE⟩:=uX (BA s (sealF L));obtain ⟨AH,s1⟩:=uX (Ch s L);rw [<- s1] at f0 n3 f2 D;rw [<- hE] at j9 l2 f2 D;obtain ⟨MC,r0⟩:=uX (Dp m key AH);obtain ⟨ML,n5⟩:=uX (macL m key AH);rw [<- r0,<- n5] at f0 D;rw [<- n5] at n3;obtain ⟨n1,s8⟩:=uX (m.length);obtain ⟨n2,i2⟩:=uX (key.length);rw [<- s8,<- i2] at f0 ⊢;obtain ⟨n,hn⟩:=uX (L.length);have HN:=AA hn;rw [<- hn] at m4 hL ⊢;have q5:=AA m4;have r1:=AA o4;obtain ⟨W,hW⟩:=uX (w.alloc (Obj.cells #[.string s,.slice x1 n c1] 32));obtain ⟨g0,l4⟩:=uX (w.heap.size);have kM:=uK hW l4;have bW:=uB hW;obtain ⟨W1,i5⟩:=uX (W.alloc (Obj.cells #[.string s,.slice none 0 0] 32));obtain ⟨x,f1⟩:=uX (W.heap.size);have N:=uK i5 f1;have k9:=uB i5;have p3:=bW.trans (k9.mono bW.size);have m5:=kM.below k9 kM.lt;have B9:g0 < x:=by rw [f1];exact kM.lt
 have e5:w.heap.size <= x:=by rw [f1];exact bW.size
 obtain ⟨B,hB⟩:=uX (W1.heap.size);have M:x < B:=by rw [hB];exact N.lt
 have o3:B <= W1.heap.size:=by rw [hB];exact QE _
 have n4:w.heap.size <= B:=by omega
 have m0:=kM.c 0;have HW:=AA hW;have q8:=AA l4;have q9:=AA i5;have r2:=AA f1;clear hW l4 i5 f1 hE s1 r0 n5 s8 i2 hn k6 m4 o4 rm rk s7 o2 bW k9 hB hz hm;go_enter func13,ntmps13;go_upto_region 1 with fail
 rw [<- show W = _ from HW,<- show g0 = _ from q8];clear HW q8;go_upto_region 3 with fail
 rw [<- show W1 = _ from q9,<- show x = _ from r2];clear q9 r2 m0 kM;have m1:=m5.c 1;go_wp2_with fail
 go_loopw [8,19] (fun nv i wr=>∃ (k:Nat) (r:Value) (vs:List Value),k <= n /\ i = .int .i64 (k:Int) /\ nv = .int .i64 (MW (Ax (L.take k))) /\ Blk wr x 32 [.string s,r] /\ wr.ownsRow B 29 2 r (Ax (L.take k)).length (Z.fldCells (Ax (L.take k)) vs) /\ vs.length = (Ax (L.take k)).length /\ Hid (Rws w (Ax (L.take k)) vs) /\ Blk wr g0 32 [.string s,.slice x1 n c1] /\ Bl w wr /\ B <= wr.heap.size) (fun _ i _=>n - (intOf i).toNat)
 case atStart=>exact ⟨0,_,[],QU _,rfl,rfl,N,Qa _ _ _ _,rfl,fun i h=>absurd h (Qj i),m5,p3,o3⟩
 case round =>
  clear N m5 p3 o3 m1;obtain ⟨k,r,vs,hk,rfl,rfl,N,row,I,HR,kM,a1,d4⟩:=hrel;obtain ⟨ar,cr,rfl⟩:=BK row
  by_cases hlt:k < n
  ·have t9:(k:Int) < (n:Int):=by omega
   have j8:k < L.length:=by rw [<- HN.out];exact hlt
   obtain ⟨g,o,cc,ev,k0,o9⟩:=q5.out.at_ k j8;simp only [Value.slice.injEq] at ev;obtain ⟨rfl,-,rfl⟩:=ev;have l7:=QF w _ k0;have p1:=(a1.cell (p:=⟨g,o + k * 2,none⟩) l7).trans k0;have p2:=(a1.cell (p:=⟨g,o + k * 2 + 1,none⟩) l7).trans o9;obtain ⟨ai,ci,ex,rr⟩:=r1.out k j8;rw [ex] at p2;have A:Hid (Ax (L.take (k + 1)) = if Bz (L.getD k (0,[])).1 = true then Ax (L.take k) else Ax (L.take k) ++ [L.getD k (0,[])]):=by show _ = _;rw [H0 L k (0,[]) j8,Ug]
   have c3:(Ax (L.take k)).length <= k:=by have T:=GH (L.take k);rw [QI] at T;omega
   obtain ⟨p,hp⟩:=uX (L.getD k (0,[]));rw [<- hp] at p1 p2 rr A;obtain ⟨K,j⟩:=uX (Ax (L.take k));rw [<- j] at N row I HR A c3 ⊢;obtain ⟨C,d⟩:=p;have c6:=AA (WC K (C,d));have k4:=AA (HR.out.snoc I C d ai ci rr);have w0:=HR;have s5:=AA (Kq K vs I (C,d) (.slice ai d.length ci));obtain ⟨l,hl⟩:=uX (d.length);have p1':wr.cell? ⟨g,o + k * 2,none⟩ = some (.int .i64 C):=p1;have p2':wr.cell? ⟨g,o + k * 2 + 1,none⟩ = some (.slice ai l ci):=by rw [hl];exact p2
   obtain ⟨X,hX⟩:=uX (wr.alloc (Obj.cells #[.int .i64 C,.slice ai l ci] 29));obtain ⟨gV,f5⟩:=uX (wr.heap.size);have kV:=uK hX f5;have bX:=uB hX;have d3:=N.below bX N.lt;have e9:=kM.below bX kM.lt;have a3:=Am row bX;have F:=a1.trans (bX.mono a1.size);have i7:=QG d4 bX.size;have n8:=AA I;have n0:=fun q hq=>(row.lt q hq).2;rw [<- f5] at n0;have D2:B <= gV:=by rw [f5];exact d4
   have HX:=AA hX;have p4:=AA f5;have y3:=AA hl;obtain ⟨z,c4⟩:=uX (K.length);have r5:=AA c4;obtain ⟨XS,c0⟩:=uX (Z.fldCells K vs);have p0:=AA c0;rw [<- c4] at a3 c3 d3 n0;rw [<- c0] at a3;obtain ⟨D3,g9⟩:=uX (MW K);rw [<- g9] at c6 ⊢;have o6:=AA g9;clear hX f5 hl c4 c0 g9 hp j ex rr p1 p2 k0 o9 l7 row N kM a1 d4 bX HR I;go_upto_region 6 with fail
   rw [<- show X = _ from HX,<- show gV = _ from p4];clear HX p4 p1' p2';have d0:=kV.c 0;have d1:=kV.c 1;cases hmn:Bz C
   ·rw [if_neg (by rw [show (C,d).1 = C from rfl,hmn];decide)] at A;have z5:¬ C = 64:=by intro h;rw [h] at hmn;exact absurd hmn (by decide)
    have t5:¬ C = 128:=by intro h;rw [h] at hmn;exact absurd hmn (by decide)
    have y8:(C == 64) = false:=by rw [QP];exact z5
    have t2:(C == 128) = false:=by rw [QP];exact t5
    have D1:(C != 64) = true:=by unfold bne;rw [y8];rfl
    have C5:(C != 128) = true:=by unfold bne;rw [t2];rfl
    have o1:=d3.c 1;obtain ⟨U,hU⟩:=uX (X.alloc (Obj.cells #[.int .i64 C,.slice ai l ci] 29));have kU:Blk U X.heap.size 29 [.int .i64 C,.slice ai l ci]:=by rw [hU];exact Blk.new _ _ _
    have bU:=uB hU;have q2:=d3.below bU d3.lt;have o5:=e9.below bU e9.lt;have s3:=kV.below bU kV.lt;have b7:=Am a3 bU;have h3:=F.trans (bU.mono F.size);have m3:=QG i7 bU.size;have HU:=AA hU;clear hU e9 a3 F i7 bU hmn;go_upto_region 8 with (at_builtin;(rw [<- show U = _ from HU];refine Qq _ rfl _ _ 30 rfl B 29 i0 (.agg #[.int .i64 0,.slice none 0 0]) 2 32 underlying30 hi z7 z2 w2 rfl (by decide) _ _ _ rfl b7 ⟨X.heap.size,0,none⟩ 1 1 [.int .i64 C,.slice ai l ci] rfl rfl (Be kU) (by intro u hu;simp at hu;rcases hu with rfl | rfl <;> rfl) (by unfold maxLen;omega) (by omega) m3 ?_;intro v5 w5 b5 d2 _ _;obtain ⟨a5,c5,rfl⟩:=BK b5;have h9:=q2.grown d2 (fun e=>by have:=(b7.lt _ e.symm).1;omega);have z1:=h9.free 1;have y2:=h9.c 1))
    have q4:=o5.grown d2 (fun e=>by have:=(b7.lt _ e.symm).1;omega);have o7:=s3.grown d2 (fun e=>by have:=n0 _ e.symm;omega);have l5:=h3.grown d2 h3.size (fun q hq=>by have:=(b7.lt q hq).1;omega);have r6:=QG m3 d2.size;obtain ⟨w6,a4⟩:=uX (w5.setCell ⟨x,1,none⟩ (.slice a5 (z + 1) c5));have r3:Blk w6 x 32 [.string s,.slice a5 (z + 1) c5]:=by rw [a4];exact h9.set 1 _
    have r7:Blk w6 g0 32 [.string s,.slice (some ⟨g,o,none⟩) n c1]:=by rw [a4];exact q4.other _ _ (fun e=>by have e2:g0 = x:=e;omega)
    have x7:gV ≠ x:=by omega
    have x3:Blk w6 gV 29 [.int .i64 C,.slice ai l ci]:=by rw [a4];exact o7.other _ _ (fun e=>x7 e)
    have l1:w6.ownsRow B 29 2 (.slice a5 (z + 1) c5) (z + 1) (XS ++ [.int .i64 C,.slice ai l ci]):=by rw [a4];exact qY b5 (a:=⟨x,1,none⟩) M _
    have j2:Bl w w6:=by rw [a4];exact l5.setCell (p:=⟨x,1,none⟩) e5 _
    have p9:B <= w6.heap.size:=by rw [a4];simpa using r6
    rw [<- a4];have b4:Hid (w6.ownsRow B 29 2 (.slice a5 (z + 1) c5) (K ++ [(C,d)]).length (Z.fldCells (K ++ [(C,d)]) (vs ++ [.slice ai d.length ci]))):=by
     show w6.ownsRow _ _ _ _ _ _;rw [s5.out,QC,show K.length = z from r5.out.symm,show Z.fldCells K vs = XS from p0.out.symm,show d.length = l from y3.out.symm];exact l1
    have q7:Hid ((vs ++ [Value.slice ai d.length ci]).length = (K ++ [(C,d)]).length):=by show _ = _;rw [QC,QC,n8.out];rfl
    clear a4 h9 q4 o7 b5 l5 r6 d2 q2 o5 s3 b7 h3 m3 kU HU o1 z1 y2 d0 d1 l1 kV;have d6:=x3.c 0
    by_cases h64b:64 < C
    ·rw [if_pos (show CF C = true from QK h64b)] at c6;have hI:(64:Int) < C:=h64b;go_wp2_with fail;go_roundw
     case rel=>exact ⟨k + 1,_,vs ++ [.slice ai d.length ci],by omega,by go_num,by rw [A.out,c6.out],r3,by rw [A.out];exact b4.out,by rw [A.out];exact q7.out,by rw [A.out];exact k4.out,r7,j2,p9⟩
     case measure=>simp [intOf];omega
    ·rw [if_neg (by rw [show CF (C,d).1 = false from QT h64b];decide)] at c6;have hI:¬ (64:Int) < C:=h64b;go_wp2_with fail;go_roundw
     case rel=>exact ⟨k + 1,_,vs ++ [.slice ai d.length ci],by omega,by go_num,by rw [A.out,c6.out],r3,by rw [A.out];exact b4.out,by rw [A.out];exact q7.out,by rw [A.out];exact k4.out,r7,j2,p9⟩
     case measure=>simp [intOf];omega
   ·rw [if_pos (show Bz (C,d).1 = true from hmn)] at A;have x2:C = 64 \/ C = 128:=by
     unfold Bz at hmn;rw [Bool.or_eq_true,Qh,Qh] at hmn;exact hmn
    have b4:Hid (X.ownsRow B 29 2 (.slice ar z cr) K.length (Z.fldCells K vs)):=by
     show X.ownsRow _ _ _ _ _ _;rw [show K.length = z from r5.out.symm,show Z.fldCells K vs = XS from p0.out.symm];exact a3
    have j0:Hid (Rws w K vs):=w0;clear hmn a3 c6 k4 s5;rcases x2 with rfl | rfl
    ·go_wp2_with fail;go_roundw
     case rel=>exact ⟨k + 1,_,vs,by omega,by go_num,by rw [A.out,<- o6.out],d3,by rw [A.out];exact b4.out,by rw [A.out];exact n8.out,by rw [A.out];exact j0.out,e9,F,i7⟩
     case measure=>simp [intOf];omega
    ·go_wp2_with fail;go_roundw
     case rel=>exact ⟨k + 1,_,vs,by omega,by go_num,by rw [A.out,<- o6.out],d3,by rw [A.out];exact b4.out,by rw [A.out];exact n8.out,by rw [A.out];exact j0.out,e9,F,i7⟩
     case measure=>simp [intOf];omega
  ·have t9:¬ (k:Int) < (n:Int):=by omega
   obtain rfl:k = n:=by omega
   rw [QS (by rw [<- HN.out];exact QE _)] at N row I HR ⊢;have c3:=GH L;obtain ⟨K,j⟩:=uX (Ax L);rw [<- j] at N row I HR n6 c3 ⊢;obtain ⟨O,q1⟩:=uX (MW K);rw [<- q1] at n6 ⊢;obtain ⟨z,c4⟩:=uX (K.length);obtain ⟨XS,c0⟩:=uX (Z.fldCells K vs);have h7:Hid (∀ (v5:Value) (w5:World) (gz:Nat),w5.ownsRow B 29 2 v5 (z + 1) (XS ++ [.int .i64 O,.slice (some ⟨gz,0,none⟩) 8 8]) -> Bl w w5 -> Blk w5 gz 5 (CT.map byte) -> Fr w5 v5 (sealF L)):=by
    intro v5 w5 gz b5 b kz;rw [n6.out];have y1:=(HR.out.below b).snoc I O CT (some ⟨gz,0,none⟩) 8 (Iy kz);refine Fr.ofRow (lo:=B) (vs:=vs ++ [.slice (some ⟨gz,0,none⟩) CT.length 8]) ?_ (by rw [QC,QC,I];rfl) y1;rw [Kq K vs I,QC,<- c0];have e:K.length + [((O,CT):Int × LU)].length = z + 1:=by rw [<- c4];rfl
    rw [e];exact b5
   rw [<- c4] at N row c3;rw [<- c0] at row;have C2:z <= 1048576:=by rw [<- HN.out] at c3;omega
   clear j q1 c4 c0 I HR c3 hlt kM q5 r1;go_upto_region 11 with fail
   go_cut [7] (fun t R=>t = .pointer (some ⟨x,0,none⟩) /\ ∃ (vN:Value),Blk R x 32 [.string s,vN] /\ Fr R vN (sealF L) /\ Bl w R)
   case first =>
    obtain ⟨V,hV⟩:=uX (World.drew wr);have b3:Bl V V:=Below.refl _ _;have bV:Bl wr V:=by rw [hV];exact (Below.refl _ _).drew
    have a2:=a1.trans (bV.mono a1.size);have a7:=N.below bV N.lt;have b6:=Am row bV;have a0:=QG d4 bV.size;refine QJ (S:=fun _=>True) (by kernel_rfl) trivial (fun f=>?_);rw [<- hV];clear hV bV N row a1 d4;refine tA 0 (.pointer (some ⟨x,1,none⟩)) f ?_;simp only [put,pS];refine tA 2 (.int .i64 O) f ?_;simp only [put,pS];refine Qr (rs:=[1,3]) (by kernel_rfl) (by simp) ?_;refine AllReadyH.cons rfl (fun K j=>?_) (AllReadyH.cons rfl (fun K j=>?_) (AllReadyH.nil))
    ·have B5:=a7.c 1;go_simp;refine j.out _ _ trivial (fun f=>?_);clear j K
     try dsimp only [put]
     refine rdy1 3 (fun K j=>?_);rw [if_pos (by rfl)];refine Pz _ _ rfl rfl rfl ?_;intro l9 j7 e1;have p5:=a7.below e1 a7.lt;have z9:=Am b6 e1;have l3:V.heap.size <= V.heap.size:=b3.size;have p7:=b3.trans (e1.mono b3.size);refine j.out _ _ trivial (fun f=>?_);clear j K
     try dsimp only [put]
     refine tA 4 (.agg #[.int .i64 O,.slice (some ⟨V.heap.size,0,none⟩) 8 8]) f ?_;simp only [put,pS];refine rdy1 5 (fun K j=>?_);go_simp;obtain ⟨x8,e6⟩:=uX (l9.alloc (Obj.cells #[.int .i64 O,.slice (some ⟨V.heap.size,0,none⟩) 8 8] 29));have v1:Blk x8 l9.heap.size 29 [.int .i64 O,.slice (some ⟨V.heap.size,0,none⟩) 8 8]:=by rw [e6];exact Blk.new _ _ _
     have b0:=uB e6;rw [<- e6];clear e6;have x6:=p5.below b0 p5.lt;have m9:=Am z9 b0;have y4:=j7.below b0 j7.lt;have j1:=p7.trans (b0.mono p7.size);refine j.out _ _ trivial (fun f=>?_);clear j K
     try dsimp only [put]
     refine rdy1 6 (fun K j=>?_);rw [if_pos (by rfl)];refine Gm _ _ rfl B _ z XS rfl m9 ⟨l9.heap.size,0,none⟩ 1 1 [.int .i64 O,.slice (some ⟨V.heap.size,0,none⟩) 8 8] rfl rfl (Be v1) (by intro u hu;simp at hu;rcases hu with rfl | rfl <;> rfl) (by unfold maxLen;omega) (by omega) (QG a0 j1.size) ?_;intro F0 q3 s4 f7;obtain ⟨G,H,rfl⟩:=BK s4;have k5:=x6.grown f7 (fun e=>by have:=(m9.lt _ e.symm).1;omega);have z4:=y4.grown f7 (fun e=>by have T:=(b6.lt _ e.symm).2;have J:=l3;omega);have l8:=((j1.mono a0).grown f7 (QG a0 j1.size) (fun q hq=>(m9.lt q hq).1));have D0:=k5.free 1;have G3:=k5.c 1;refine j.out _ _ trivial (fun f=>?_);clear j K
     try dsimp only [put]
     refine tA 7 (.pointer (some ⟨x,1,none⟩)) f ?_;simp only [put,pS];refine rdy1 8 (fun K j=>?_);have y5:Blk (q3.setCell ⟨x,1,none⟩ (.slice G (z + 1) H)) x 32 [.string s,.slice G (z + 1) H]:=k5.set 1 _;have x5:=qY s4 (a:=⟨x,1,none⟩) M (.slice G (z + 1) H);have z6:=z4.other ⟨x,1,none⟩ (.slice G (z + 1) H) (fun e=>by have e2:_ = x:=e;have T:=l3;have J:=a7.lt;omega);have k7:=(a2.trans (l8.mono n4)).setCell (p:=⟨x,1,none⟩) e5 (.slice G (z + 1) H);have C1:Below x V (q3.setCell ⟨x,1,none⟩ (.slice G (z + 1) H)):=(l8.mono (qz M)).setCell (p:=⟨x,1,none⟩) (QE _) _;go_simp;refine j.out _ _ trivial (fun f=>?_);clear j K
     try dsimp only [put]
     refine QM (by kernel_rfl) ?_ _;clear f;go_wp2_with fail;go_meet
     case rel=>exact ⟨rfl,_,y5,h7.out _ _ _ x5 (k7) z6,k7⟩
    ·rw [if_pos (by rfl)];refine Pz _ _ rfl rfl rfl ?_;intro c7 e4 e8;have f3:=a7.below e8 a7.lt;have t0:=Am b6 e8;have e0:V.heap.size <= V.heap.size:=b3.size;have i3:=b3.trans (e8.mono b3.size);refine j.out _ _ trivial (fun f=>?_);clear j K
     try dsimp only [put]
     refine tA 4 (.agg #[.int .i64 O,.slice (some ⟨V.heap.size,0,none⟩) 8 8]) f ?_;simp only [put,pS];refine Qr (rs:=[1,5]) (by kernel_rfl) (by simp) ?_;refine AllReadyH.cons rfl (fun K j=>?_) (AllReadyH.cons rfl (fun K j=>?_) (AllReadyH.nil))
     ·have B7:=f3.c 1;go_simp;refine j.out _ _ trivial (fun f=>?_);clear j K
      try dsimp only [put]
      refine rdy1 5 (fun K j=>?_);go_simp;obtain ⟨y0,e3⟩:=uX (c7.alloc (Obj.cells #[.int .i64 O,.slice (some ⟨V.heap.size,0,none⟩) 8 8] 29));have t6:Blk y0 c7.heap.size 29 [.int .i64 O,.slice (some ⟨V.heap.size,0,none⟩) 8 8]:=by rw [e3];exact Blk.new _ _ _
      have b2:=uB e3;rw [<- e3];clear e3;have y6:=f3.below b2 f3.lt;have n7:=Am t0 b2;have w4:=e4.below b2 e4.lt;have j6:=i3.trans (b2.mono i3.size);refine j.out _ _ trivial (fun f=>?_);clear j K
      try dsimp only [put]
      refine rdy1 6 (fun K j=>?_);rw [if_pos (by rfl)];refine Gm _ _ rfl B _ z XS rfl n7 ⟨c7.heap.size,0,none⟩ 1 1 [.int .i64 O,.slice (some ⟨V.heap.size,0,none⟩) 8 8] rfl rfl (Be t6) (by intro u hu;simp at hu;rcases hu with rfl | rfl <;> rfl) (by unfold maxLen;omega) (by omega) (QG a0 j6.size) ?_;intro E1 r4 q6 g5;obtain ⟨G,H,rfl⟩:=BK q6;have m6:=y6.grown g5 (fun e=>by have:=(n7.lt _ e.symm).1;omega);have z0:=w4.grown g5 (fun e=>by have T:=(b6.lt _ e.symm).2;have J:=e0;omega);have m2:=((j6.mono a0).grown g5 (QG a0 j6.size) (fun q hq=>(n7.lt q hq).1));have D6:=m6.free 1;have D4:=m6.c 1;refine j.out _ _ trivial (fun f=>?_);clear j K
      try dsimp only [put]
      refine tA 7 (.pointer (some ⟨x,1,none⟩)) f ?_;simp only [put,pS];refine rdy1 8 (fun K j=>?_);have v0:Blk (r4.setCell ⟨x,1,none⟩ (.slice G (z + 1) H)) x 32 [.string s,.slice G (z + 1) H]:=m6.set 1 _;have t8:=qY q6 (a:=⟨x,1,none⟩) M (.slice G (z + 1) H);have t3:=z0.other ⟨x,1,none⟩ (.slice G (z + 1) H) (fun e=>by have e2:_ = x:=e;have T:=e0;have J:=a7.lt;omega);have i4:=(a2.trans (m2.mono n4)).setCell (p:=⟨x,1,none⟩) e5 (.slice G (z + 1) H);have A0:Below x V (r4.setCell ⟨x,1,none⟩ (.slice G (z + 1) H)):=(m2.mono (qz M)).setCell (p:=⟨x,1,none⟩) (QE _) _;go_simp;refine j.out _ _ trivial (fun f=>?_);clear j K
      try dsimp only [put]
      refine QM (by kernel_rfl) ?_ _;clear f;go_wp2_with fail;go_meet
      case rel=>exact ⟨rfl,_,v0,h7.out _ _ _ t8 (i4) t3,i4⟩
     ·go_simp;obtain ⟨v4,b1⟩:=uX (c7.alloc (Obj.cells #[.int .i64 O,.slice (some ⟨V.heap.size,0,none⟩) 8 8] 29));have n9:Blk v4 c7.heap.size 29 [.int .i64 O,.slice (some ⟨V.heap.size,0,none⟩) 8 8]:=by rw [b1];exact Blk.new _ _ _
      have Y:=uB b1;rw [<- b1];clear b1;have i8:=f3.below Y f3.lt;have f6:=Am t0 Y;have v7:=e4.below Y e4.lt;have f9:=i3.trans (Y.mono i3.size);refine j.out _ _ trivial (fun f=>?_);clear j K
      try dsimp only [put]
      refine rdy1 1 (fun K j=>?_);have A2:=i8.c 1;go_simp;refine j.out _ _ trivial (fun f=>?_);clear j K
      try dsimp only [put]
      refine rdy1 6 (fun K j=>?_);rw [if_pos (by rfl)];refine Gm _ _ rfl B _ z XS rfl f6 ⟨c7.heap.size,0,none⟩ 1 1 [.int .i64 O,.slice (some ⟨V.heap.size,0,none⟩) 8 8] rfl rfl (Be n9) (by intro u hu;simp at hu;rcases hu with rfl | rfl <;> rfl) (by unfold maxLen;omega) (by omega) (QG a0 f9.size) ?_;intro B1 j3 j5 e7;obtain ⟨G,H,rfl⟩:=BK j5;have h0:=i8.grown e7 (fun e=>by have:=(f6.lt _ e.symm).1;omega);have t1:=v7.grown e7 (fun e=>by have T:=(b6.lt _ e.symm).2;have J:=e0;omega);have h8:=((f9.mono a0).grown e7 (QG a0 f9.size) (fun q hq=>(f6.lt q hq).1));have B0:=h0.free 1;have C0:=h0.c 1;refine j.out _ _ trivial (fun f=>?_);clear j K
      try dsimp only [put]
      refine tA 7 (.pointer (some ⟨x,1,none⟩)) f ?_;simp only [put,pS];refine rdy1 8 (fun K j=>?_);have v3:Blk (j3.setCell ⟨x,1,none⟩ (.slice G (z + 1) H)) x 32 [.string s,.slice G (z + 1) H]:=h0.set 1 _;have t7:=qY j5 (a:=⟨x,1,none⟩) M (.slice G (z + 1) H);have t4:=t1.other ⟨x,1,none⟩ (.slice G (z + 1) H) (fun e=>by have e2:_ = x:=e;have T:=e0;have J:=a7.lt;omega);have h4:=(a2.trans (h8.mono n4)).setCell (p:=⟨x,1,none⟩) e5 (.slice G (z + 1) H);have A1:Below x V (j3.setCell ⟨x,1,none⟩ (.slice G (z + 1) H)):=(h8.mono (qz M)).setCell (p:=⟨x,1,none⟩) (QE _) _;go_simp;refine j.out _ _ trivial (fun f=>?_);clear j K
      try dsimp only [put]
      refine QM (by kernel_rfl) ?_ _;clear f;go_wp2_with fail;go_meet
      case rel=>exact ⟨rfl,_,v3,h7.out _ _ _ t7 (h4) t4,h4⟩
   case rest =>
    obtain ⟨rfl,vN,kN,l0,g8⟩:=hcut;have s6:=AA l0;clear l0 N row a1 d4 h7;go_wp2_with (refine AL rfl 32 _ rfl x rfl kN underlying32 rfl (by kernel_rfl) ?_)
    refine (j9.out _ _ s6.out).mono ?_;rintro e w8 ⟨a8,c8,rfl,r8,b8,v2⟩;have c2:=g8.trans (b8.mono g8.size);obtain ⟨eE,k1⟩:=uX (E.length);rw [<- k1] at v2 ⊢;have f4:=AA k1;clear j9 s6 kN g8 b8 k1
    by_cases hE0:E = []
    ·obtain rfl:eE = 0:=by rw [f4.out,hE0];rfl
     rw [if_pos hE0] at D;go_wp2_with fail;go_ret;exact ⟨none,0,by rw [D.out];rfl,.inl D.out,c2,by rw [D.out];exact QE _⟩
    ·rw [if_neg hE0] at D;have x9:12 <= eE /\ eE <= 4096:=by
      obtain ⟨T,J⟩:=l2.out;rw [<- f4.out] at T J;rcases J with J | J
      ·exact absurd J hE0
      ·exact ⟨J,T⟩
     obtain ⟨bE,oE,rfl,-⟩:=r8.at (k:=0) (by rw [<- f4.out];omega);obtain ⟨m8,x0⟩:=uX (eE - 8);have E2:IntKind.i64.wrap ((eE:Int) - 8) = (m8:Int):=by rw [QH];omega
     have a6:AH.length = m8:=by rw [f2.out,QI,<- f4.out];omega
     have rA:RowAt w8 (some ⟨bE,oE,none⟩) AH:=by rw [f2.out,<- f4.out];exact RowAt.take r8 _
     have m7:=AA (f0.out (some ⟨bE,oE,none⟩) c8 w8 (by rw [a6];omega) (by rw [a6];omega) c2 rA);rw [a6] at m7;have p8:=AA (fun (R:World) (h:RowAt R (some ⟨bE,oE,none⟩) AH)=>j4.out (some ⟨bE,oE,none⟩) c8 AH R (by rw [a6];omega) (by rw [a6];omega) h);rw [a6] at p8;have E5:((eE:Int) == 0) = false:=by rw [QP];omega
     have E4:¬ (eE:Int) = 0:=by omega
     have C3:(m8:Int) <= (c8:Int):=by omega
     have B2:¬ (m8:Int) < 0:=by omega
     have z3:=AA a6;have A3:m8 <= 4096:=by omega
     clear r8 x0 hE0 f0 f2 l2 x9 a6 j4;go_wp2_with fail;refine m7.out.mono ?_;rintro e w9 ⟨v9,rfl,k3,b9⟩;obtain ⟨a9,c9,rfl,r9,-⟩:=k3.shape;have o8:=rA.below b9;have f8:=c2.trans (b9.mono c2.size);obtain ⟨lM,k2⟩:=uX (ML.length);rw [<- k2];have z8:=AA k2;obtain ⟨X9,i1⟩:=uX (w9.alloc (Obj.cells #[.int .i64 MC,.slice a9 lM c9] 68));obtain ⟨h6,g6⟩:=uX (w9.heap.size);have i6:=uK i1 g6;have h5:=uB i1;have w3:=o8.below h5;have x4:=r9.below h5;have F:=f8.trans (h5.mono f8.size);have s2:=AA i1;have i9:=AA g6;clear i1 g6 k3 r9 rA o8 b9 h5 f8 c2 m7 k2;go_upto_region 16 with fail
     rw [<- show X9 = _ from s2,<- show h6 = _ from i9];clear s2 i9;have o0:=i6.c 0
     by_cases hC:MC = 0
     ·subst hC;rw [if_pos rfl] at D;go_upto_region 18 with fail
      obtain ⟨V,hV⟩:=uX (World.drew X9);have b3:Bl V V:=Below.refl _ _;have bV:Bl X9 V:=by rw [hV];exact (Below.refl _ _).drew
      have a2:=F.trans (bV.mono F.size);have kV:=i6.below bV i6.lt;have v6:Hid (∀ {y},Bl V y -> Blk y h6 68 [.int .i64 0,.slice a9 lM c9]):=fun h=>kV.below h kV.lt;refine QJ (S:=fun y=>Blk y h6 68 [.int .i64 0,.slice a9 lM c9]) (by kernel_rfl) (by rw [<- hV];exact kV) (fun f=>?_);rw [<- hV] at f ⊢;clear hV i6 F o0;refine tA 0 (.slice (some ⟨bE,oE,none⟩) eE c8) f ?_;simp only [put,pS];refine tA 1 (.slice (some ⟨bE,oE,none⟩) eE c8) f ?_;simp only [put,pS];refine tA 2 (.int .i64 (eE:Int)) f ?_;simp only [put,pS];refine tA 3 (.int .i64 (m8:Int)) f ?_;simp only [put,pS];refine tA 4 (.slice (some ⟨bE,oE,none⟩) m8 c8) f ?_;simp only [put,pS];refine tA 6 (.pointer (some ⟨h6,1,none⟩)) f ?_;simp only [put,pS];refine tC 7 (.slice a9 lM c9) rfl (fun w1 h=>by have hc:=h.c 1;go_simp) f ?_;simp only [put,pS];refine rdy1 5 (fun K j=>?_);go_simp;refine (p8.out _ (w3.below bV)).mono ?_;rintro e w5 ⟨rfl,g7,d5⟩;have w7:=(x4.below bV).below d5;go_wp2_with fail;refine j.out _ _ (v6.out d5) (fun f=>?_);clear j K
      try dsimp only [put]
      refine rdy1 8 (fun K j=>?_);rw [if_pos (by rfl)];refine R0 _ _ rfl V.heap.size _ AH ML rfl g7 a9 c9 (by rw [<- z8.out];rfl) w7 (by have T:=z3.out;have J:=n3.out;omega) d5.size ?_;intro v8 w8 l6 p6;have y7:=d5.grown p6 d5.size (fun q hq=>(World.ownsRow.lt g7 q hq).1);have k8:=(kV.below d5 kV.lt).grown p6 (fun e=>by have T:=(World.ownsRow.lt g7 _ e.symm).1;have J:=kV.lt;omega);refine j.out _ _ k8 (fun f=>?_);clear j K
      try dsimp only [put]
      refine rdy1 9 (fun K j=>?_);go_simp;refine j.out _ _ k8 (fun f=>?_);clear j K
      try dsimp only [put]
      refine QM (by kernel_rfl) ?_ _;clear f;go_wp2_with fail;go_ret;obtain ⟨aR,cR,rfl,rR,-⟩:=l6.own.shape;have eR:AH ++ ML = Ah m key s L:=by rw [D.out]
      have q0:=PJ l6.own;rw [eR] at rR q0 ⊢;exact ⟨aR,cR,rfl,rR,a2.trans (y7.mono a2.size),q0⟩
     ·rw [if_neg hC] at D;have E0:(MC == 0) = false:=by rw [QP];exact hC
      go_wp2_with fail;go_ret;exact ⟨none,0,by rw [D.out];rfl,.inl D.out,F,by rw [D.out];exact QE _⟩
end Go.Proofs.YtbkokcjolanpeaaGreatDoor
