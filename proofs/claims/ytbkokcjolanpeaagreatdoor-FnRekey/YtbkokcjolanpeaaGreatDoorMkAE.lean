import Derived.Test.YtbkokcjolanpeaaGreatDoorMkAC
set_option maxRecDepth 100000
set_option maxHeartbeats 200000000
namespace Go.Proofs.YtbkokcjolanpeaaGreatDoor
open Go.RowKit Go.Proofs.Tryz Act
def okE (s:ByteArray) (L:List (Int × LU)):Bool:=decide (s.size = 4) && Bu s && (decide (L.length <= 20) && okL L)
def nbE (L:List (Int × LU)):Nat:=if 64 < bef L L.length then 128 else 64
def bitsE (L:List (Int × LU)):Nat -> LU
 | 0=>if 64 < bef L L.length then (List.replicate 128 0).set 0 1 else List.replicate 64 0
 | i + 1=>(bitsE L i).set ((L.getD i (0,[])).1.toNat - 1) 1
def Aj (L:List (Int × LU)):Nat -> LU
 | 0=>[]
 | i + 1=>Aj L i ++ (An (kpD (L.getD i (0,[])).1.toNat) (L.getD i (0,[])).2.length ++ (L.getD i (0,[])).2)
def BA (s:ByteArray) (L:List (Int × LU)):LU:=if okE s L = true then s.data.toList ++ Ar (bitsE L L.length) ++ Aj L L.length else []
theorem Dy (L:List (Int × LU)):∀ i,(bitsE L i).length = nbE L
 | 0=>by unfold bitsE nbE;split <;> simp
 | i + 1=>by show ((bitsE L i).set _ _).length = _;rw [QQ,Dy L i]
theorem Eh {L:List (Int × LU)} (h:okL L = true) (i:Nat) (b:i < L.length):bef L i < (L.getD i (0,[])).1 /\ 0 <= (L.getD i (0,[])).1 /\ (L.getD i (0,[])).1.toNat ∈ tabNos /\ Ag (kpL (L.getD i (0,[])).1.toNat) (kpM (L.getD i (0,[])).1.toNat) (Dc (L.getD i (0,[])).1.toNat) (L.getD i (0,[])).2 = true:=by
 unfold okL at h;rw [Qt] at h;have a:=h i (List.mem_range.2 b);unfold okF JQ inZ at a;rw [Qm,Qm,Qm,Qh,Qh,Qh] at a;exact ⟨a.1,a.2.1.1,a.2.1.2,a.2.2⟩
theorem Mw (n:Nat) (h:n ∈ tabNos):2 <= n /\ n <= 128:=by
 simp only [tabNos,qx,qd,or_false] at h;omega
theorem RW {L:List (Int × LU)} (h:okL L = true):∀ k i,i < L.length -> L.length = i + 1 + k -> (L.getD i (0,[])).1 <= bef L L.length
 | 0,i,hi,e=>by rw [e];exact Int.le_refl _
 | k + 1,i,hi,e=>by
   have a:=(Eh h (i + 1) (by omega)).1;have c:=RW h k (i + 1) (by omega) (by omega);show (L.getD i (0,[])).1 <= _;have b:bef L (i + 1) = (L.getD i (0,[])).1:=rfl;omega
theorem PC {L:List (Int × LU)} (h:okL L = true) (i:Nat) (a:i < L.length):(L.getD i (0,[])).1.toNat - 1 < nbE L:=by
 obtain ⟨g,d,b,-⟩:=Eh h i a;have f:=Mw _ b;have c:=RW h (L.length - i - 1) i a (by omega);unfold nbE
 split <;> omega
theorem EU.low {w:World} {base:Nat} {v:Value} {l:LU} (h:EU w base v l):∀ j,v.ownBlock = some j -> base <= j /\ j < w.heap.size:=by
 obtain ⟨g,d,f,i,rfl,b,c,-⟩:=h;intro j a;simp only [Value.ownBlock,Option.some.injEq] at a;subst a;exact ⟨b,qS c⟩
theorem EU.mono {w:World} {B base:Nat} {v:Value} {l:LU} (h:EU w base v l) (i:B <= base):EU w B v l:=by
 obtain ⟨g,a,b,d,rfl,f,c⟩:=h;exact ⟨g,a,b,d,rfl,by omega,c⟩
theorem EU.cap {w:World} {base n c:Nat} {a:Option Addr} {l:LU} (h:EU w base (.slice a n c) l):l.length <= c:=by
 obtain ⟨g,d,b,f,e,-,-,-,i,-⟩:=h;simp only [Value.slice.injEq] at e;omega
theorem Iy {w:World} {g:Nat} {l:LU} (h:Blk w g 5 (l.map byte)):RowAt w (some ⟨g,0,none⟩) l:=by
 refine .inr ⟨g,0,rfl,fun i a=>?_⟩;rw [QZ,h.cell i (by simpa using a)];simp [byte,a]
theorem XW:∀ n ∈ tabNos,(n = 2 /\ Bh (n:Int) = (4,2) /\ kpD n = 2) \/ (n = 48 /\ Bh (n:Int) = (5,3) /\ kpD n = 3) \/ ((Bh (n:Int)).1 ≠ 4 /\ (Bh (n:Int)).1 ≠ 5 /\ kpD n = 0):=by decide
theorem Rf (n:Nat):kpD n <= 3:=by
 unfold kpD
 split
 ·omega
 ·split <;> omega
theorem Nk {L:List (Int × LU)} (a:∀ p ∈ L,p.2.length <= 1048576) (i:Nat):(L.getD i (0,[])).2.length <= 1048576:=by
 by_cases h:i < L.length
 ·rw [QA,List.getElem?_eq_getElem h];exact a _ (Qd h)
 ·rw [QA,List.getElem?_eq_none (by omega)];exact QU _
theorem Pn {L:List (Int × LU)} (a:∀ p ∈ L,p.2.length <= 1048576):∀ i,(Aj L i).length <= i * 1048579
 | 0=>QE _
 | i + 1=>by
   show (Aj L i ++ (An _ _ ++ _)).length <= _;rw [QC,QC,CX];have b:=Pn a i;have d:=Nk a i;have c:=Rf (L.getD i (0,[])).1.toNat;omega
theorem G8 (L:List (Int × LU)):∀ i,AP (bitsE L i)
 | 0=>by
   unfold bitsE
   split
   ·intro b a;rcases List.mem_or_eq_of_mem_set a with h | rfl
    ·rw [List.eq_of_mem_replicate h];decide
    ·decide
   ·intro b a;rw [List.eq_of_mem_replicate a];decide
 | i + 1=>by
   intro b a;rcases List.mem_or_eq_of_mem_set a with h | rfl
   ·exact G8 L i b h
   ·decide
theorem Sv (s:ByteArray) (L:List (Int × LU)) (hs:s.size <= maxLen) (i2:∀ p ∈ L,p.2.length <= 1048576) (hL:L.length <= 2097152) (v:Value) (w:World) (F:Fr w v L) :
 Calls prog 35 #[.agg #[.string s,v]] w fun e w'=>∃ ao c,e = .returned (.slice ao (BA s L).length c) /\ RowAt w' ao (BA s L) /\ Bl w w' /\ (BA s L).length <= c:=by
 obtain ⟨i0,hi,p6,n9,n7⟩:=Qg Tryz.infoB8;obtain ⟨x1,c1,rfl⟩:=F.sh;obtain ⟨n,hn⟩:=uX (L.length);have HN:=AA hn;have HG:=AA (fun (J:World) (h:Fr J (.slice x1 L.length c1) L)=>UP s L hs i2 hL (.slice x1 L.length c1) J h);have F':=F;rw [<- hn] at HG F' ⊢;have HF:=AA F';obtain ⟨W,hW⟩:=uX (w.alloc (Obj.cells #[.string s,.slice x1 n c1] 32));have kM:Blk W w.heap.size 32 [.string s,.slice x1 n c1]:=by rw [hW];exact Blk.new _ _ _
 have bW:=uB hW;have FW:=F'.below bW;have HW:=AA hW;have j4:Hid (okE s L = (decide (s.size = 4) && Bu s && (decide (n <= 20) && okL L))):=by rw [hn];exact (rfl:okE s L = okE s L)
 cases M:okE s L
 ·have HE:Hid (BA s L = []):=by show _ = _;unfold BA;rw [M];rfl
  rw [<- show okE s L = _ from j4,M] at HG;clear hn hW F F' M j4;go_enter func35,ntmps35;go_upto_region 1 with fail
  rw [<- show W = _ from HW];go_wp2_with (refine AL rfl 32 _ rfl w.heap.size rfl kM underlying32 rfl (by kernel_rfl) ?_)
  refine (HG.out _ FW).mono ?_;rintro e w2 ⟨rfl,b2⟩;go_wp2_with fail;go_ret;exact ⟨none,0,by rw [HE.out];rfl,.inl HE.out,bW.trans (b2.mono bW.size),by rw [HE.out];exact QU _⟩
 ·have HE:Hid (BA s L = s.data.toList ++ Ar (bitsE L n) ++ Aj L n):=by show _ = _;unfold BA;rw [if_pos M,hn]
  have e7:=M;rw [show okE s L = _ from j4] at e7;rw [e7] at HG;rw [Qm,Qm,Qm,Qh,Qh] at e7;obtain ⟨⟨o5,-⟩,z2,h7⟩:=e7;have t7:=AA h7;have m6:nbE L = 64 \/ nbE L = 128:=by unfold nbE;split <;> omega
  have q0:=AA (PC h7);have f6:Hid (bitsE L 0 = if 64 < bef L n then (List.replicate 128 0).set 0 1 else List.replicate 64 0):=by rw [hn];exact (rfl:bitsE L 0 = bitsE L 0)
  have g8:Hid (nbE L = if 64 < bef L n then 128 else 64):=by rw [hn];exact (rfl:nbE L = nbE L)
  have q4:Hid (0 < n -> bef L n = (L.getD (n - 1) (0,[])).1):=by
   intro h;have:n = n - 1 + 1:=by omega
   rw [this]
   rfl
  clear hn hW F F' M j4 h7;go_enter func35,ntmps35;go_upto_region 1 with fail
  rw [<- show W = _ from HW];go_wp2_with (refine AL rfl 32 _ rfl w.heap.size rfl kM underlying32 rfl (by kernel_rfl) ?_)
  refine (HG.out _ FW).mono ?_;rintro e w2 ⟨rfl,b2⟩;have q6:=FW.below b2;have d5:=kM.below b2 kM.lt;have k1:=bW.trans (b2.mono bW.size);clear HW FW kM b2 HG;have m0:=d5.c 0;have m1:=d5.c 1;go_upto_region 4 with (at_make;refine Qv _ rfl _ _ 22 rfl w2.heap.size 5 i0 (.int .u8 0) 1 underlying22 hi p6 n9 .i64 .i64 _ _ 64 rfl rfl rfl rfl (by rw [n7];omega) (by unfold maxLen;omega) (QE _) ?_;intro w3 h8 p3)
  have b3:=Ac p3;rw [Cl] at h8;have i9:=C8 h8;have q3:List.replicate 64 (Value.int .u8 0) = (List.replicate 64 (0:UInt8)).map byte:=by rw [List.map_replicate];rfl
  rw [q3] at i9;have e0:=d5.below b3 d5.lt;have q9:=q6.below b3;have n3:=k1.trans (b3.mono k1.size);obtain ⟨g3,j7⟩:=uX (w2.heap.size);rw [<- j7] at i9 ⊢;have p4:w.heap.size < g3:=by rw [j7];exact d5.lt
  have t9:=AA j7;clear h8 p3 q3 d5 q6 k1 b3 m0 m1 j7;have m0:=e0.c 0;have m1:=e0.c 1;go_cut [28] (fun t J=>t = .bool (decide (64 < bef L n)) /\ J = w3)
  case first =>
   by_cases hn0:0 < n
   ·have r3:(0:Int) < (n:Int):=by omega
    obtain ⟨g,o,cc,ai,ci,ev,p1,-,-⟩:=q9.at_ (n - 1) (by rw [<- HN.out];omega);simp only [Value.slice.injEq] at ev;obtain ⟨rfl,-,rfl⟩:=ev;have p5:=q4.out hn0;rw [<- p5] at p1;have v4:IntKind.i64.wrap ((n:Int) - 1) = ((n - 1:Nat):Int):=by rw [QH];omega
    obtain ⟨la,h0⟩:=uX (bef L n);have q2:=AA h0;rw [<- h0] at p1;obtain ⟨n1,q1⟩:=uX (n - 1);rw [<- q1] at p1 v4;have w6:(n1:Int) < (n:Int):=by omega
    clear p5 h0 q1
    by_cases a6:64 < la
    ·have s1:(64:Int) < la:=a6;go_wp2_with fail;go_meet
     case rel=>exact ⟨by rw [<- q2.out,QK a6],rfl⟩
    ·have s1:¬ (64:Int) < la:=a6;go_wp2_with fail;go_meet
     case rel=>exact ⟨by rw [<- q2.out,QT (by omega)],rfl⟩
   ·have r3:¬ (0:Int) < (n:Int):=by omega
    obtain rfl:n = 0:=by omega
    go_wp2_with fail;go_meet
    case rel=>exact ⟨rfl,rfl⟩
  case rest =>
   obtain ⟨rfl,o1⟩:=hcut;have s7:=o1.symm;subst s7;clear o1;obtain ⟨lb,m7⟩:=uX (decide (64 < bef L n));rw [<- m7];have n0:=AA m7;clear m7;go_upto_if 28 with fail;go_cut [3] (fun bv J=>∃ I,bv = .slice (some ⟨I,0,none⟩) (nbE L) (nbE L) /\ w.heap.size < I /\ Blk J I 5 ((bitsE L 0).map byte) /\ Bl w3 J)
   case first =>
    cases lb
    ·have a6:¬ 64 < bef L n:=of_decide_eq_false n0.out.symm;rw [if_neg a6] at f6 g8;go_wp2_with fail;go_meet
     case rel=>exact ⟨g3,by rw [g8.out],p4,by rw [f6.out];exact i9,Below.refl _ _⟩
    ·have a6:64 < bef L n:=JD n0.out.symm;rw [if_pos a6] at f6 g8;clear a6;go_upto_region 6 with (at_make;refine Qv _ rfl _ _ 22 rfl w3.heap.size 5 i0 (.int .u8 0) 1 underlying22 hi p6 n9 .i64 .i64 _ _ 128 rfl rfl rfl rfl (by rw [n7];omega) (by unfold maxLen;omega) (QE _) ?_;intro w4 h6 r1)
     have b4:=Ac r1;rw [Cl] at h6;have d2:=C8 h6;have k6:List.replicate 128 (Value.int .u8 0) = (List.replicate 128 (0:UInt8)).map byte:=by rw [List.map_replicate];rfl
     rw [k6] at d2;have o0:Hid (∃ g,g = w3.heap.size):=⟨_,rfl⟩;obtain ⟨g4,j3⟩:=o0.out;rw [<- j3] at d2 ⊢;have r8:w.heap.size < g4:=by rw [j3];exact e0.lt
     obtain ⟨u0,r2⟩:∃ u,w4.cell? ⟨g4,0,none⟩ = some u:=⟨_,d2.c 0⟩;have f0:=d2.free 0;have p8:=d2.set 0 (byte 1);have b5:=b4.setCell (p:=⟨g4,0,none⟩) (by rw [j3];exact QE _) (byte 1);have t8:Hid (Blk (w4.setCell ⟨g4,0,none⟩ (byte 1)) g4 5 (((List.replicate 128 (0:UInt8)).set 0 1).map byte)):=by rw [qP];exact p8
     clear h6 r1 k6 j3 d2 p8 o0;go_wp2_with fail;go_meet
     case rel=>exact ⟨g4,by rw [g8.out],r8,by rw [f6.out];exact t8.out,b5⟩
   case rest =>
    obtain ⟨I,rfl,x5,kB,b5⟩:=hcut;have j1:=e0.below b5 e0.lt;have n6:=n3.trans (b5.mono n3.size);have l2:=kB.lt;have p9:=AA (Pn i2);have t5:=AA (Nk i2);have m4:=q0;have s8:=AA (fun i hi=>Eh t7.out i hi);have v6:=AA (G8 L);obtain ⟨B,hB⟩:=uX (wc.heap.size);have x7:w.heap.size < B:=by rw [hB];exact j1.lt
    have y9:I < B:=by rw [hB];exact l2
    have o4:B <= wc.heap.size:=by rw [hB];exact QE _
    obtain ⟨NB,e4⟩:=uX (nbE L);rw [<- e4] at m4 ⊢;have w0:=AA e4;have k5:=AA (Dy L);rw [<- e4] at k5 m6;have k8:=AA o5;clear o5 hB l2 e0 n3 b5 g8 f6 q4 n0 i9 p4 t9 m0 m1 q9 e4 q0 i2 hs;have m1:=j1.c 1;go_wp2_with fail
    go_loopw [4,35] (fun rv i wr=>∃ (k:Nat) (r:Value),k <= n /\ i = .int .i64 (k:Int) /\ rv = r /\ AO wr B r (Aj L k) /\ Blk wr I 5 ((bitsE L k).map byte) /\ Blk wr w.heap.size 32 [.string s,.slice x1 n c1] /\ Bl w wr /\ B <= wr.heap.size) (fun _ i _=>n - (intOf i).toNat)
    case atStart=>exact ⟨0,_,QU _,rfl,rfl,Qa _ _ _ _,kB,j1,n6,o4⟩
    case round =>
     clear kB j1 n6 o4 m1;obtain ⟨k,r,hk,rfl,o3,d0,d1,d6,c9,l8⟩:=hrel;have r5:=o3.symm;subst r5;clear o3
     by_cases hlt:k < n
     ·have s5:(k:Int) < (n:Int):=by omega
      have k9:k < L.length:=by rw [<- HN.out];exact hlt
      obtain ⟨g,o,cc,ai,ci,ev,l4,q5,r0⟩:=HF.out.at_ k k9;simp only [Value.slice.injEq] at ev;obtain ⟨rfl,-,rfl⟩:=ev;have l6:=QF w _ l4;have p1:=(c9.cell (p:=⟨g,o + k * 2,none⟩) l6).trans l4;have p2:=(c9.cell (p:=⟨g,o + k * 2 + 1,none⟩) l6).trans q5;have l5:=t5.out k;have M:=s8.out k k9;have j9:=m4.out k k9;have d3:Hid (bitsE L (k + 1) = (bitsE L k).set ((L.getD k (0,[])).1.toNat - 1) 1):=rfl;have a3:Hid (Aj L (k + 1) = Aj L k ++ (An (kpD (L.getD k (0,[])).1.toNat) (L.getD k (0,[])).2.length ++ (L.getD k (0,[])).2)):=rfl;have h9:=p9.out k;have a0:=k5.out k;clear l4 q5;obtain ⟨no,l9⟩:∃ m:Nat,m = (L.getD k (0,[])).1.toNat:=⟨_,rfl⟩;have l7:(L.getD k (0,[])).1 = (no:Int):=by rw [l9];omega
      rw [<- l9] at M j9 d3 a3;rw [l7] at p1;obtain ⟨d,hd⟩:=uX ((L.getD k (0,[])).2);rw [<- hd] at p2 r0 l5 a3;obtain ⟨R,hR⟩:=uX (Aj L k);rw [<- hR] at d0 a3 h9;obtain ⟨X,hX⟩:=uX (bitsE L k);rw [<- hX] at d1 d3 a0;have l0:=M.2.2.1;have v8:=Mw no l0;obtain ⟨q,hq⟩:=uX (no - 1);rw [<- hq] at j9 d3;have t6:IntKind.i64.wrap ((no:Int) - 1) = (q:Int):=by rw [QH];omega
      have v0:(q:Int) < (NB:Int):=by omega
      have t2:(0:Int) <= (q:Int):=by omega
      have HK:=AA (fun (J:World)=>Dl (no:Int) J);have v3:=XW no l0;clear l9 l7 hd hR hX M hq l0 v8 l6;obtain ⟨Y,hY⟩:=uX (wr.alloc (Obj.cells #[.int .i64 (no:Int),.slice ai d.length ci] 29));have kF:Blk Y wr.heap.size 29 [.int .i64 (no:Int),.slice ai d.length ci]:=by rw [hY];exact Blk.new _ _ _
      have bY:=uB hY;have i8:=d1.below bY d1.lt;have n8:=d6.below bY d6.lt;have m3:=d0.below bY;have l1:=c9.trans (bY.mono c9.size);have o7:=QG l8 bY.size;have d4:=fun j E=>World.ownsRow.lt d0 j E;obtain ⟨gF,i1⟩:=uX (wr.heap.size);rw [<- i1] at kF d4;have o8:=AA i1;have w5:B <= gF:=by rw [i1];exact l8
      have HY:=AA hY;have k2:=AA d4;clear hY i1 d0 d1 d6 c9 l8 bY d4;go_upto_region 11 with fail
      rw [<- show Y = _ from HY,<- show gF = _ from o8];clear HY o8 p1 p2;have f0:=kF.c 0;obtain ⟨u0,r2⟩:∃ u,Y.cell? ⟨I,q,none⟩ = some u:=⟨_,i8.cell q (by rw [QD,a0];exact j9)⟩;have fB:=i8.free q;obtain ⟨Z,hZ⟩:=uX (Y.setCell ⟨I,q,none⟩ (.int .u8 1));have b6:Blk Z I 5 ((X.set q 1).map byte):=by rw [hZ,qP];exact i8.set q _
      have a9:Blk Z w.heap.size 32 [.string s,.slice (some ⟨g,o,none⟩) n c1]:=by rw [hZ];exact n8.other _ _ (fun e=>by have e2:w.heap.size = I:=e;omega)
      have N:Blk Z gF 29 [.int .i64 (no:Int),.slice ai d.length ci]:=by rw [hZ];exact kF.other _ _ (fun e=>by have e2:gF = I:=e;omega)
      have G:AO Z B r R:=by
       rw [hZ];exact World.ownsRow.kept m3 (Ap Y ⟨I,q,none⟩ (.int .u8 1)) (by
        cases hv:r.ownBlock
        ·exact .inl rfl
        ·refine .inr (fun e=>?_);have h1:=(k2.out _ hv).1;have h2:=Option.some.inj e;have h3:_ = I:=h2;omega)
      have A:Bl w Z:=by rw [hZ];exact l1.setCell (p:=⟨I,q,none⟩) (by show w.heap.size <= I;omega) _
      have c0:B <= Z.heap.size:=by rw [hZ];simpa using o7
      have HZ:=AA hZ;clear hZ i8 n8 m3 l1 o7 a0;go_upto_region 12 with fail
      rw [<- show Z = _ from HZ];have f0:=N.c 0;have f1:=N.c 1;have d4:=k2.out;clear HZ kF r2 fB t6 v0 t2 k2 j9;rcases v3 with ⟨-,f4,a8⟩ | ⟨-,f4,a8⟩ | ⟨h4,h5,a8⟩
      ·skip
       have HD:=AA (fun (J:World)=>OA d.length 2 J l5 (by omega));obtain ⟨PL,a1⟩:=uX (An 2 d.length);have e9:PL.length = 2:=by rw [a1,CX]
       rw [<- a1] at HD;have b0:Hid (Aj L (k + 1) = (R ++ PL) ++ d):=by show _ = _;rw [a3.out,a8,a1,QV]
       have f8:=AA e9;clear a1 e9;rw [f4] at HK;clear f4 a8 a3;go_wp2_with (go_at_call 82;refine (HK.out _).mono ?_;rintro e wk ⟨rfl,a5⟩;have c6:=a5.symm;subst c6;clear a5)
       refine (HD.out _).mono ?_;rintro e w8 ⟨rfl,O⟩;have y:=G.below O;have g9:=b6.below O b6.lt;have f3:=a9.below O a9.lt;have f2:=N.below O N.lt;have T:=A.trans (O.mono A.size);have c4:=QG c0 O.size;clear O b6 a9 N A G c0 f1 HK HD;go_upto_region 15 with (at_builtin;refine Gq rfl _ _ rfl B _ _ PL rfl y rfl (by rw [f8.out];omega) c4 ?_;intro v9 w9 z D)
       have e8:=g9.grown D (fun e=>by have:=(World.ownsRow.lt y _ e.symm).1;omega);have f9:=f3.grown D (fun e=>by have:=(World.ownsRow.lt y _ e.symm).1;omega);have f5:=f2.grown D (fun e=>by have:=(d4 _ e.symm).2;omega);have H:=T.grown D T.size (fun j E=>by have:=(World.ownsRow.lt y _ E).1;omega);have c8:=QG c4 D.size;have a4:(R ++ PL).length + d.length <= 1073741824:=by rw [QC,f8.out];omega
       clear D g9 f3 f2 T c4 y;have f7:=f5.c 1;have a7:=r0.below H;have b1:=a4;have g0:Hid (Aj L (k + 1) = (R ++ PL) ++ d):=b0;clear b0 r0 f5;go_wp2_with (at_builtin;refine Cp rfl _ _ rfl B _ _ d rfl z ai ci rfl a7 b1 c8 ?_;intro p0 q7 a2 f)
       have c5:=e8.grown f (fun e=>by have:=(World.ownsRow.lt z _ e.symm).1;omega);have c2:=f9.grown f (fun e=>by have:=(World.ownsRow.lt z _ e.symm).1;omega);have g6:=H.grown f H.size (fun j E=>by have:=(World.ownsRow.lt z _ E).1;omega);have c3:=QG c8 f.size;clear f f7 a7 b1 z e8 f9 H c8;go_wp2_with fail;go_roundw
       case rel=>exact ⟨k + 1,_,by omega,by go_num,rfl,by rw [g0.out];exact a2,by rw [d3.out];exact c5,c2,g6,c3⟩
       case measure=>simp [intOf];omega
      ·skip
       have HD:=AA (fun (J:World)=>OA d.length 3 J l5 (by omega));obtain ⟨PL,a1⟩:=uX (An 3 d.length);have e9:PL.length = 3:=by rw [a1,CX]
       rw [<- a1] at HD;have b0:Hid (Aj L (k + 1) = (R ++ PL) ++ d):=by show _ = _;rw [a3.out,a8,a1,QV]
       have f8:=AA e9;clear a1 e9;rw [f4] at HK;clear f4 a8 a3;go_wp2_with (go_at_call 82;refine (HK.out _).mono ?_;rintro e wk ⟨rfl,a5⟩;have c6:=a5.symm;subst c6;clear a5)
       refine (HD.out _).mono ?_;rintro e w8 ⟨rfl,O⟩;have y:=G.below O;have g9:=b6.below O b6.lt;have f3:=a9.below O a9.lt;have f2:=N.below O N.lt;have T:=A.trans (O.mono A.size);have c4:=QG c0 O.size;clear O b6 a9 N A G c0 f1 HK HD;go_upto_region 15 with (at_builtin;refine Gq rfl _ _ rfl B _ _ PL rfl y rfl (by rw [f8.out];omega) c4 ?_;intro v9 w9 z D)
       have e8:=g9.grown D (fun e=>by have:=(World.ownsRow.lt y _ e.symm).1;omega);have f9:=f3.grown D (fun e=>by have:=(World.ownsRow.lt y _ e.symm).1;omega);have f5:=f2.grown D (fun e=>by have:=(d4 _ e.symm).2;omega);have H:=T.grown D T.size (fun j E=>by have:=(World.ownsRow.lt y _ E).1;omega);have c8:=QG c4 D.size;have a4:(R ++ PL).length + d.length <= 1073741824:=by rw [QC,f8.out];omega
       clear D g9 f3 f2 T c4 y;have f7:=f5.c 1;have a7:=r0.below H;have b1:=a4;have g0:Hid (Aj L (k + 1) = (R ++ PL) ++ d):=b0;clear b0 r0 f5;go_wp2_with (at_builtin;refine Cp rfl _ _ rfl B _ _ d rfl z ai ci rfl a7 b1 c8 ?_;intro p0 q7 a2 f)
       have c5:=e8.grown f (fun e=>by have:=(World.ownsRow.lt z _ e.symm).1;omega);have c2:=f9.grown f (fun e=>by have:=(World.ownsRow.lt z _ e.symm).1;omega);have g6:=H.grown f H.size (fun j E=>by have:=(World.ownsRow.lt z _ E).1;omega);have c3:=QG c8 f.size;clear f f7 a7 b1 z e8 f9 H c8;go_wp2_with fail;go_roundw
       case rel=>exact ⟨k + 1,_,by omega,by go_num,rfl,by rw [g0.out];exact a2,by rw [d3.out];exact c5,c2,g6,c3⟩
       case measure=>simp [intOf];omega
      ·skip
       have b0:Hid (Aj L (k + 1) = R ++ d):=by show _ = _;rw [a3.out,a8];rfl
       obtain ⟨ka,p7⟩:=uX ((Bh (no:Int)).1);rw [<- p7] at h4 h5 HK;have x4:(ka == 4) = false:=by rw [QP];exact h4
       have y6:(ka == 5) = false:=by rw [QP];exact h5
       have a4:R.length + d.length <= 1073741824:=by omega
       clear a8 a3 p7 h4 h5;go_upto_region 15 with (go_at_call 82;refine (HK.out _).mono ?_;rintro e wk ⟨rfl,a5⟩;have c6:=a5.symm;subst c6;clear a5)
       clear f1 HK;have f7:=N.c 1;have a7:=r0.below A;have b1:=a4;have g0:Hid (Aj L (k + 1) = R ++ d):=b0;clear b0 r0 N;go_wp2_with (at_builtin;refine Cp rfl _ _ rfl B _ _ d rfl G ai ci rfl a7 b1 c0 ?_;intro p0 q7 a2 f)
       have c5:=b6.grown f (fun e=>by have:=(World.ownsRow.lt G _ e.symm).1;omega);have c2:=a9.grown f (fun e=>by have:=(World.ownsRow.lt G _ e.symm).1;omega);have g6:=A.grown f A.size (fun j E=>by have:=(World.ownsRow.lt G _ E).1;omega);have c3:=QG c0 f.size;clear f f7 a7 b1 G b6 a9 A c0;go_wp2_with fail;go_roundw
       case rel=>exact ⟨k + 1,_,by omega,by go_num,rfl,by rw [g0.out];exact a2,by rw [d3.out];exact c5,c2,g6,c3⟩
       case measure=>simp [intOf];omega
     ·have s5:¬ (k:Int) < (n:Int):=by omega
      obtain rfl:k = n:=by omega
      have h9:=p9.out k;have a0:=k5.out k;have HU:=AA (fun (J:World) (h:RowAt J (some ⟨I,0,none⟩) (bitsE L k))=>Jw (some ⟨I,0,none⟩) NB (bitsE L k) J (by rw [a0];omega) (by rw [a0];omega) (v6.out k) h);obtain ⟨R,hR⟩:=uX (Aj L k);obtain ⟨X,hX⟩:=uX (bitsE L k);rw [<- hR] at d0 h9 HE;rw [<- hX] at d1 HE HU a0;rw [<- a0] at HU m6 ⊢;have q8:(Ar X).length <= 16:=by unfold Ar;rw [Ck];omega
      obtain ⟨U,hU⟩:=uX (Ar X);rw [<- hU] at HU HE q8;have t3:s.data.toList.length = 4:=by rw [Ql];exact k8.out
      have o6:s.data.toList.length + U.length <= 1073741824:=by omega
      have a4:(s.data.toList ++ U).length + R.length <= 1073741824:=by rw [QC];omega
      have o9:=Iy d1;clear hR hX hU h9 a0 m6 t3 q8;go_upto_region 17 with fail
      obtain ⟨V,hV⟩:=uX (World.drew wr);have k3:Bl V V:=Below.refl _ _;have bV:Bl wr V:=by rw [hV];exact (Below.refl _ _).drew
      have e3:=c9.trans (bV.mono c9.size);have l3:=d6.below bV d6.lt;have rX:=o9.below bV;have m9:=d0.below bV;obtain ⟨ar,cr,rfl,rR,i6,-⟩:=m9.own.shape;have C:Hid (∀ {x},Bl V x -> Blk x w.heap.size 32 [.string s,.slice x1 k c1]):=fun h=>l3.below h l3.lt;refine QJ (S:=fun x=>Blk x w.heap.size 32 [.string s,.slice x1 k c1]) (by kernel_rfl) (by rw [<- hV];exact l3) (fun b=>?_);rw [<- hV] at b ⊢;clear hV bV d6 d0 o9 m9;refine tA 0 (.pointer (some ⟨w.heap.size,0,none⟩)) b ?_;simp only [put,pS];refine tC 1 (.string s) rfl (fun w1 h=>by have hc:w1.cell? ⟨w.heap.size,0,none⟩ = some (.string s):=h.c 0;go_simp) b ?_;simp only [put,pS];refine tA 3 (.slice (some ⟨I,0,none⟩) X.length X.length) b ?_;simp only [put,pS];refine tA 6 (.slice ar R.length cr) b ?_;simp only [put,pS];refine Qr (rs:=[2,4]) (by kernel_rfl) (by simp) ?_;refine AllReadyH.cons rfl (fun K l=>?_) (AllReadyH.cons rfl (fun K l=>?_) (AllReadyH.nil))
      ·obtain ⟨y7,z1,s4,g7,e1⟩:=Mm V s (by rw [k8.out];omega);have n4:=g7.mono k3.size;go_simp;clear s4 g7;have n5:=rX.below e1;have v5:=rR.below e1;have o2:=AB k3 e1;refine l.out _ _ (C.out o2) (fun b=>?_);clear l K
       try dsimp only [put]
       refine rdy1 4 (fun K l=>?_);go_simp;refine (HU.out _ n5).mono ?_;rintro e y3 ⟨y2,rfl,j5,b7⟩;obtain ⟨au,cu,rfl,s2,-⟩:=j5.own.shape;clear j5;have c7:=n4.kept b7;have y8:=n5.below b7;have v2:=v5.below b7;have j2:=AB o2 b7;go_wp2_with fail;refine l.out _ _ (C.out j2) (fun b=>?_);clear l K
       try dsimp only [put]
       refine rdy1 5 (fun K l=>?_);rw [if_pos (by rfl)];refine Ge _ _ rfl V.heap.size _ (s.data.toList) (U) rfl c7 au cu rfl s2 o6 j2.size ?_;intro x3 w7 j6 m2;have j0:=j2.grown m2 j2.size (fun j E=>(c7.low j E).1);have r4:=v2.grown m2 (fun a ha e=>by have h1:=(c7.low _ e).1;obtain ⟨gg,rfl,-,h2⟩:=i6 a ha;have h3:V.heap.size <= gg:=h1;omega);refine l.out _ _ (C.out j0) (fun b=>?_);clear l K
       try dsimp only [put]
       refine rdy1 7 (fun K l=>?_);rw [if_pos (by rfl)];refine Ge _ _ rfl V.heap.size _ (s.data.toList ++ U) (R) rfl j6 ar cr rfl r4 a4 j0.size ?_;intro x8 x6 k0 s6;have m8:=j0.grown s6 j0.size (fun j E=>(j6.low j E).1);refine l.out _ _ (C.out m8) (fun b=>?_);clear l K
       try dsimp only [put]
       refine rdy1 8 (fun K l=>?_);go_simp;refine l.out _ _ (C.out m8) (fun b=>?_);clear l K
       try dsimp only [put]
       refine QM (by kernel_rfl) ?_ _;go_wp2_with fail;go_ret;have n2:=k0;obtain ⟨gz,cz,rfl,-,-,rz⟩:=k0.row;exact ⟨some ⟨gz,0,none⟩,cz,by rw [HE.out];rfl,by rw [HE.out];exact rz,e3.trans (m8.mono e3.size),by rw [HE.out];exact n2.cap⟩
      ·go_simp;refine (HU.out _ rX).mono ?_;rintro e v1 ⟨x9,rfl,i7,e6⟩;obtain ⟨au,cu,rfl,r7,-⟩:=i7.own.shape;clear i7;have v7:=rX.below e6;have t0:=rR.below e6;have k4:=AB k3 e6;go_wp2_with fail;refine l.out _ _ (C.out k4) (fun b=>?_);clear l K
       try dsimp only [put]
       refine rdy1 2 (fun K l=>?_);obtain ⟨y1,y4,r6,g5,b9⟩:=Mm v1 s (by rw [k8.out];omega);have e5:=g5.mono k4.size;go_simp;clear r6 g5;have x0:=v7.below b9;have t4:=t0.below b9;have t1:=r7.below b9;have i4:=AB k4 b9;refine l.out _ _ (C.out i4) (fun b=>?_);clear l K
       try dsimp only [put]
       refine rdy1 5 (fun K l=>?_);rw [if_pos (by rfl)];refine Ge _ _ rfl V.heap.size _ (s.data.toList) (U) rfl e5 au cu rfl t1 o6 i4.size ?_;intro y0 x2 i5 k7;have i3:=i4.grown k7 i4.size (fun j E=>(e5.low j E).1);have s3:=t4.grown k7 (fun a ha e=>by have h1:=(e5.low _ e).1;obtain ⟨gg,rfl,-,h2⟩:=i6 a ha;have h3:V.heap.size <= gg:=h1;omega);refine l.out _ _ (C.out i3) (fun b=>?_);clear l K
       try dsimp only [put]
       refine rdy1 7 (fun K l=>?_);rw [if_pos (by rfl)];refine Ge _ _ rfl V.heap.size _ (s.data.toList ++ U) (R) rfl i5 ar cr rfl s3 a4 i3.size ?_;intro y5 z0 j8 r9;have m5:=i3.grown r9 i3.size (fun j E=>(i5.low j E).1);refine l.out _ _ (C.out m5) (fun b=>?_);clear l K
       try dsimp only [put]
       refine rdy1 8 (fun K l=>?_);go_simp;refine l.out _ _ (C.out m5) (fun b=>?_);clear l K
       try dsimp only [put]
       refine QM (by kernel_rfl) ?_ _;go_wp2_with fail;go_ret;have n2:=j8;obtain ⟨gz,cz,rfl,-,-,rz⟩:=j8.row;exact ⟨some ⟨gz,0,none⟩,cz,by rw [HE.out];rfl,by rw [HE.out];exact rz,e3.trans (m5.mono e3.size),by rw [HE.out];exact n2.cap⟩
def RV (w:World) (v:Value) (bs:LU):Prop:=∃ a c,v = .slice a bs.length c /\ RowAt w a bs
theorem RV.below {w w':World} {v:Value} {bs:LU} (h:RV w v bs) (d:Bl w w'):RV w' v bs:=by
 obtain ⟨b,c,rfl,a⟩:=h;exact ⟨b,c,rfl,a.below d⟩
theorem Iu (vs:List Value) (a:List LU) (g o V m:Nat) (w:World) (hm:vs.length = m) (a4:a.length = m) (a5:m <= 1048576) (Z:a.flatten.length <= 1048576) (J:w.rangeAt g o vs) (G:∀ k,k < m -> RV w (vs.getD k undef) (a.getD k [])) :
 Calls prog 23 #[.slice (some ⟨g,o,none⟩) m V] w fun e w'=>∃ v,e = .returned v /\ AO w' w.heap.size v a.flatten /\ Bl w w':=by
 obtain ⟨i0,hi,a2,a3,a1⟩:=Qg Tryz.info5;have f:∀ k,k < m -> w.cell? ⟨g,o + k,none⟩ = some (vs.getD k undef):=fun k hk=>J k _ (by simp [show k < vs.length from by omega]);go_enter func23,ntmps23;go_wp2;go_loop [3,5,11] (fun s _ i=>∃ k:Nat,k <= m /\ i = .int .i64 k /\ s = .int .i64 ((a.take k).flatten.length:Nat)) (fun _ _ i=>m - (intOf i).toNat)
 case atStart=>exact ⟨0,QU _,rfl,by simp⟩
 case round =>
  obtain ⟨k,hk,rfl,rfl⟩:=hrel
  by_cases hlt:k < m
  ·obtain ⟨U,c,x,n⟩:=G k hlt;have t:=f k hlt;rw [x] at t;have HF:Hid ((a.take (k + 1)).flatten.length = (a.take k).flatten.length + (a.getD k []).length):=by show _ = _;rw [EG a k (by omega),QC]
   have r:=LJ a (k + 1);rw [HF.out] at r;obtain ⟨s,B⟩:=uX ((a.take k).flatten.length);obtain ⟨l,z⟩:=uX ((a.getD k []).length);rw [<- B,<- z] at r;rw [<- B];rw [<- z] at t;have a0:(k:Int) < (m:Int):=by omega
   have a6:¬ ((s:Int) + (l:Int) < 0):=by omega
   have C:Hid ((a.take (k + 1)).flatten.length = s + l):=by show _ = _;rw [HF.out,B,z]
   clear G f J HF B z x n;go_wp2;go_round
   case rel=>exact ⟨k + 1,by omega,by go_num,by rw [C.out];go_num⟩
   case measure=>simp [intOf];omega
  ·rw [show (a.take k).flatten = a.flatten from by rw [QS (by omega)]];obtain ⟨N,R⟩:=uX (a.flatten.length);rw [<- R] at Z ⊢;have W:Hid (∀ k,k < m -> w.cell? ⟨g,o + k,none⟩ = some (vs.getD k undef)):=f;have HV:Hid (∀ k,k < m -> RV w (vs.getD k undef) (a.getD k [])):=G;have HN:Hid (N = a.flatten.length):=R;have a7:¬ ((k:Int) < (m:Int)):=by omega
   clear f G J R;go_wp2_with fail;refine (PU N _ Z).mono ?_;rintro e T ⟨Y,rfl,D,E⟩;go_wp2_with fail
   go_loopw [6,8,27] (fun v _ i wr=>∃ k:Nat,k <= m /\ i = .int .i64 k /\ AO wr w.heap.size v (a.take k).flatten /\ Bl w wr) (fun _ _ i _=>m - (intOf i).toNat)
   case atStart=>exact ⟨0,QU _,rfl,by simpa using D,E⟩
   case round =>
    clear D E;obtain ⟨q,hq,rfl,d,b⟩:=hrel
    by_cases hql:q < m
    ·obtain ⟨U,c,x,A⟩:=HV.out q hql;have t:wr.cell? ⟨g,o + q,none⟩ = some (vs.getD q undef):=(b.cell (p:=⟨g,o + q,none⟩) (QF w _ (W.out q hql))).trans (W.out q hql);rw [x] at t;have HF:Hid ((a.take (q + 1)).flatten = (a.take q).flatten ++ a.getD q []):=EG a q (by omega);have r:=LJ a (q + 1);rw [HF.out,QC,<- HN.out] at r;have n:=A.below b;obtain ⟨L,M⟩:=uX ((a.take q).flatten);obtain ⟨X,O⟩:=uX (a.getD q []);have C:Hid ((a.take (q + 1)).flatten = L ++ X):=by show _ = _;rw [HF.out,M,O]
     rw [<- M] at d r;rw [<- O] at t n r;have a8:(q:Int) < (m:Int):=by omega
     have I:=b.size;clear x A M O HF;go_wp2_with (at_builtin;refine Cp rfl _ _ rfl w.heap.size _ _ X rfl d U c rfl n (by omega) I ?_;intro Y T y u)
     have H:AO T w.heap.size Y (a.take (q + 1)).flatten:=by
      rw [C.out];exact y
     have F:=b.grown u I (fun j hj=>(d.lt j hj).1);clear y d b u t n;go_wp2;go_roundw
     case rel=>exact ⟨q + 1,by omega,by go_num,H,F⟩
     case measure=>simp [intOf];omega
    ·rw [show (a.take q).flatten = a.flatten from by rw [QS (by omega)]] at d;go_wp2;go_ret;exact ⟨_,rfl,d,b⟩
theorem YO:∀ (i f j k a c g d:Fin 2) (r:Fin 8),AI (([i,f,j,k,a,c,g,d].map (fun b=>UInt8.ofNat b.val)).set r.val 1) = AI ([i,f,j,k,a,c,g,d].map (fun b=>UInt8.ofNat b.val)) ||| 2 ^ (7 - r.val):=by decide +kernel
theorem Fh (b:UInt8) (h:b.toNat <= 1):∃ f:Fin 2,b = UInt8.ofNat f.val:=by
 refine ⟨⟨b.toNat,by omega⟩,?_⟩;simp
theorem Zj (S:LU) (a:AP S) (m:S.length = 8) (r:Nat) (d:r < 8):AI (S.set r 1) = AI S ||| 2 ^ (7 - r):=by
 match S,m with
 | [a0,a1,a2,a3,a4,a5,a6,a7],_ =>
   obtain ⟨l,rfl⟩:=Fh a0 (a a0 (by simp));obtain ⟨i,rfl⟩:=Fh a1 (a a1 (by simp));obtain ⟨f,rfl⟩:=Fh a2 (a a2 (by simp));obtain ⟨b,rfl⟩:=Fh a3 (a a3 (by simp));obtain ⟨g,rfl⟩:=Fh a4 (a a4 (by simp));obtain ⟨c,rfl⟩:=Fh a5 (a a5 (by simp));obtain ⟨j,rfl⟩:=Fh a6 (a a6 (by simp));obtain ⟨k,rfl⟩:=Fh a7 (a a7 (by simp));exact YO l i f b g c j k ⟨r,d⟩
theorem aA (l:LU) (j:Nat):seg l l.length j = (l.drop (8 * j)).take 8:=by unfold seg;rw [qt]
theorem JY (l:LU) (j:Nat) (a:j < l.length / 8):(Ar l)[j]'(by unfold Ar;rw [Ck];exact a) = UInt8.ofNat (AI ((l.drop (8 * j)).take 8)):=by
 unfold Ar CR Gl;simp [aA]
theorem Df (l:LU):(Ar l).length = l.length / 8:=by unfold Ar;rw [Ck]
theorem VQ (l:LU) (k j:Nat) (h:j < l.length):(BX l k)[j]'(by rw [Ei];exact h) = if k / 8 = j then UInt8.ofNat ((l.getD (k / 8) 0).toNat ||| 2 ^ (7 - k % 8)) else l[j]:=by
 simp only [BX,List.getElem_set]
theorem Mc (X:LU) (i:AP X) (p:X.length % 8 = 0) (k:Nat) (q:k < X.length):Ar (X.set k 1) = BX (Ar X) k:=by
 have a:AP (X.set k 1):=by
  intro b a;rcases List.mem_or_eq_of_mem_set a with h | rfl
  ·exact i b h
  ·decide
 have g:k / 8 < X.length / 8:=by omega
 apply qL
 ·rw [Df,Ei,Df,QQ]
 ·intro j c o;rw [Df,QQ] at c;rw [JY _ _ (by rw [QQ];exact c)];rw [VQ _ _ _ (by rw [Df];exact c)]
  by_cases hj:k / 8 = j
  ·rw [if_pos hj];subst hj;have n:((X.set k 1).drop (8 * (k / 8))).take 8 = ((X.drop (8 * (k / 8))).take 8).set (k % 8) 1:=by
    rw [List.drop_set,if_neg (by omega),List.take_set]
    congr 1
    omega
   have l:AP ((X.drop (8 * (k / 8))).take 8):=fun b a=>i b (qn (qV a));have d:((X.drop (8 * (k / 8))).take 8).length = 8:=by rw [QI,QN];omega
   rw [n,Zj _ l d _ (Nat.mod_lt _ (by omega))];have f:=GO _ l;rw [d] at f;have m:((Ar X).getD (k / 8) 0).toNat = AI ((X.drop (8 * (k / 8))).take 8):=by
    rw [QA,List.getElem?_eq_getElem (by rw [Df];exact g),qG,JY _ _ g,Qb];exact qF f
   rw [m]
  ·rw [if_neg hj,JY _ _ c]
   congr 2
   rw [List.drop_set]
   split
   ·rfl
   ·rw [List.take_set_of_le (by omega)]
def bmE (L:List (Int × LU)):Nat -> LU
 | 0=>List.replicate 16 0
 | i + 1=>BX (bmE L i) ((L.getD i (0,[])).1.toNat - 1)
theorem DO (L:List (Int × LU)):∀ i,(bmE L i).length = 16
 | 0=>rfl
 | i + 1=>by show (BX _ _).length = 16;rw [Ei,DO L i]
def Aq (L:List (Int × LU)):LU:=if 64 < bef L L.length then BX (bmE L L.length) 0 else (bmE L L.length).take 8
theorem WQ (l:LU) (k:Nat) (a:k < 64):BX (l.take 8) k = (BX l k).take 8:=by
 unfold BX;rw [List.take_set]
 congr 4
 rw [QA,QA,List.getElem?_take,if_pos (by omega)]
theorem dr (x:UInt8) (a b:Nat) (d:a < 256) (g:b < 256):UInt8.ofNat ((UInt8.ofNat (x.toNat ||| a)).toNat ||| b) = UInt8.ofNat ((UInt8.ofNat (x.toNat ||| b)).toNat ||| a):=by
 have c:=QW x;have i:x.toNat ||| a < 2 ^ 8:=qO c d;have f:x.toNat ||| b < 2 ^ 8:=qO c g;rw [Qb,Qb,qF i,qF f,Nat.or_assoc,Nat.or_assoc,Nat.or_comm a b]
theorem XI (k:Nat):2 ^ (7 - k % 8) < 256:=by
 have h:7 - k % 8 <= 7:=by omega
 exact Nat.lt_of_le_of_lt (qo (by omega) h) (by decide)
theorem XE (l:LU) (j k:Nat) (a:k / 8 < l.length):BX (BX l j) k = BX (BX l k) j:=by
 by_cases h:j / 8 = k / 8
 ·unfold BX;rw [h,List.set_set,List.set_set]
  congr 1
  rw [QA,QA (l:=l.set _ _),List.getElem?_set_self a,List.getElem?_set_self a,qG,qG];exact dr _ _ _ (XI j) (XI k)
 ·unfold BX;rw [List.set_comm _ _ h]
  congr 1
  ·congr 1
   rw [QA,QA,List.getElem?_set_ne h,QA]
  ·rw [QA,QA,List.getElem?_set_ne (fun e=>h e.symm)]
theorem Wd (L:List (Int × LU)) (i:Nat):(bitsE L i).length % 8 = 0:=by rw [Dy];unfold nbE;split <;> rfl
theorem Q9 (L:List (Int × LU)) (h:okL L = true) (a:¬ 64 < bef L L.length):∀ i,i <= L.length -> Ar (bitsE L i) = (bmE L i).take 8
 | 0,_=>by unfold bitsE bmE;rw [if_neg a];decide +kernel
 | i + 1,hi=>by
   have b:=PC h i (by omega);have c:nbE L = 64:=by unfold nbE;rw [if_neg a]
   show Ar ((bitsE L i).set _ 1) = (BX (bmE L i) _).take 8;rw [Mc _ (G8 L i) (Wd L i) _ (by rw [Dy];exact b),Q9 L h a i (by omega),WQ _ _ (by omega)]
theorem OU (L:List (Int × LU)) (h:okL L = true) (a:64 < bef L L.length):∀ i,i <= L.length -> Ar (bitsE L i) = BX (bmE L i) 0
 | 0,_=>by unfold bitsE bmE;rw [if_pos a];decide +kernel
 | i + 1,hi=>by
   have b:=PC h i (by omega);have c:nbE L = 128:=by unfold nbE;rw [if_pos a]
   show Ar ((bitsE L i).set _ 1) = BX (BX (bmE L i) _) 0;rw [Mc _ (G8 L i) (Wd L i) _ (by rw [Dy];exact b),OU L h a i (by omega),XE _ _ _ (by rw [DO];omega)]
theorem bH (L:List (Int × LU)) (h:okL L = true):Ar (bitsE L L.length) = Aq L:=by
 unfold Aq
 split
 ·rename_i h64;exact OU L h h64 _ (QE _)
 ·rename_i h64;exact Q9 L h h64 _ (QE _)
theorem Yx:∀ a ∈ tabNos,∀ b ∈ tabNos,a < b -> tabNos.idxOf a < tabNos.idxOf b:=by decide
theorem TL {L:List (Int × LU)} (h:okL L = true):∀ i,i < L.length -> i <= tabNos.idxOf (L.getD i (0,[])).1.toNat
 | 0,_=>QU _
 | i + 1,hi=>by
   have a:=Eh h (i + 1) hi;have b:=Eh h i (by omega);have c:(L.getD i (0,[])).1 < (L.getD (i + 1) (0,[])).1:=a.1;have f:=Yx _ b.2.2.1 _ a.2.2.1 (by omega);have d:=TL h i (by omega);omega
theorem JP {L:List (Int × LU)} (h:okL L = true):L.length <= 14:=by
 by_cases h0:L.length = 0
 ·omega
 ·have a:=TL h (L.length - 1) (by omega);have b:=(Kz _ (Eh h (L.length - 1) (by omega)).2.2.1).1;omega
theorem dF:∀ n ∈ tabNos,kpM n <= 200:=by decide
theorem Pr {l m:Nat} {a:UInt8 -> Bool} {d:LU} (h:Ag l m a d = true):d.length <= m:=by
 unfold Ag at h;simp at h;omega
theorem ZZ {b:Int} {p:Int × LU} (h:okF b p = true):p.2.length <= 200:=by
 unfold okF JQ inZ at h;rw [Qm,Qm,Qm,Qh,Qh,Qh] at h;exact QG (Pr h.2.2) (dF _ h.2.1.2)
theorem GY (L:List (Int × LU)):∀ k,(∀ j,j < k -> okF (bef L j) (L.getD j (0,[])) = true) -> (Aj L k).length <= k * 203
 | 0,_=>QE _
 | i + 1,h=>by
   show (Aj L i ++ (An _ _ ++ _)).length <= _;rw [QC,QC,CX];have d:=GY L i (fun j a=>h j (by omega));have c:=ZZ (h i (by omega));have b:=Rf (L.getD i (0,[])).1.toNat;omega
theorem Yu (s:ByteArray) (L:List (Int × LU)) (h:(decide (s.size = 4) && Bu s) = false \/ okL L = false):BA s L = []:=by
 unfold BA okE;rw [if_neg];rcases h with h | h
 ·rw [h];simp
 ·rw [h];simp
theorem LA (s:ByteArray) (L:List (Int × LU)) (b:(decide (s.size = 4) && Bu s) = true) (a:okL L = true):BA s L = s.data.toList ++ Aq L ++ Aj L L.length:=by
 unfold BA okE;have:=JP a;rw [if_pos (by rw [b,a,QK (by omega)];rfl),bH L a]
end Go.Proofs.YtbkokcjolanpeaaGreatDoor
