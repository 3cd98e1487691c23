import Derived.Test.YtbkokcjolanpeaaGreatDoorMkAA
set_option maxRecDepth 100000
set_option maxHeartbeats 20000000
namespace Go.Proofs.YtbkokcjolanpeaaGreatDoor
open Go.RowKit Go.Proofs.Tryz Act
theorem Fs.keep {w w':World} {lo g:Nat} {v:Value} {L:List (Nat × LU)} {vs:List Value} (h:Fs w lo v L vs) (b:w.grownBy w' (some g)) (c:g < lo):Fs w' lo v L vs:=by
 refine ⟨h.len,World.ownsRow.kept h.row b ?_,fun i a=>(h.own i a).grown b ?_,h.sep,h.ap⟩
 ·cases hb:v.ownBlock with
  | none=>exact .inl rfl
  | some k=>exact .inr (fun e=>by cases e;have:=(h.row.lt _ hb).1;omega)
 ·cases hb:(vs.getD i undef).ownBlock with
  | none=>exact .inl rfl
  | some k=>exact .inr (fun e=>by cases e;have:=(Fp (h.own i a) _ hb).1;omega)
theorem Fs.snoc2 {w2 r:World} {lo m:Nat} {v l x:Value} {L:List (Nat × LU)} {vs:List Value} {p:Nat × LU} (h:Fs w2 lo v L vs) (o:∀ i,i < L.length -> ∀ g,(vs.getD i undef).ownBlock = some g -> g < m) (y:∀ g,v.ownBlock = some g -> g < m)
 (k:Own w2 m x p.2) (D:lo <= m) (C:m <= w2.heap.size) (b:w2.grownBy r v.ownBlock) (s:r.ownsRow lo 29 2 l (L.length + 1) (fldCells L vs ++ [.int .i64 (p.1:Int),x]))
 (q:l.ownBlock = v.ownBlock \/ ∃ g,l.ownBlock = some g /\ w2.heap.size <= g):Fs r lo l (L ++ [p]) (vs ++ [x]):=by
 have t:=Fp k;have f:=h.len;refine ⟨by simp [f],?_,?_,?_,?_⟩
 ·rw [QC,J8 _ _ f];exact s
 ·intro i d;rw [QC] at d
  by_cases hc:i < L.length
  ·rw [Az _ _ _ _ hc,Az _ _ _ _ (by omega)];refine (h.own i hc).grown b ?_;cases hb:(vs.getD i undef).ownBlock with
   | none=>exact .inl rfl
   | some g=>exact .inr (fun e=>h.ap i hc g hb e.symm)
  ·have n:i = L.length:=by simp at d;omega
   rw [BG _ _ _ _ n,BG _ _ _ _ (by omega)];refine (k.monoI (by omega)).grown b ?_
   cases hb:x.ownBlock with
   | none=>exact .inl rfl
   | some g=>exact .inr (fun e=>by have:=y g e.symm;have:=(t g hb).1;omega)
 ·intro i j A u g a;rw [QC] at u
  by_cases hc:j < L.length
  ·rw [Az _ _ _ _ (by omega)] at a;rw [Az _ _ _ _ (by omega)];exact h.sep i j A hc g a
  ·have B:j = L.length:=by simp at u;omega
   rw [Az _ _ _ _ (by omega)] at a;rw [BG _ _ _ _ (by omega)];intro e;have:=o i (by omega) g a;have:=(t g e).1;omega
 ·intro i d g a;rw [QC] at d
  by_cases hc:i < L.length
  ·rw [Az _ _ _ _ (by omega)] at a;rcases q with e | ⟨g',e,z⟩
   ·rw [e];exact h.ap i hc g a
   ·rw [e];intro c;cases c
    have:=o i hc g a;omega
  ·have n:i = L.length:=by simp at d;omega
   rw [BG _ _ _ _ (by omega)] at a;have E:=t g a;rcases q with e | ⟨g',e,z⟩
   ·rw [e];intro c;have:=y g c;omega
   ·rw [e];intro c;cases c;omega
theorem TC (data:LU) (ao:Option Addr) (G:Nat) (w:World) (hn:data.length <= 1048576) (r0:data.length <= G) (hr:RowAt w ao data) :
 Calls prog 38 #[.slice ao data.length G] w fun e w'=>∃ v,e = .returned (.agg #[.int .i64 (dC data:Nat),.int .i64 (dP data:Nat),.string (dM data),v,.int .i64 (dA data:Nat)]) /\ FsX w' w.heap.size v (dL data) /\ Bl w w':=by
 have hz:=(QO Tryz.zeroDc).1;obtain ⟨i0,hi,j1,i4,i2⟩:=Qg Tryz.infoFd;obtain ⟨N,hN⟩:=uX (data.length);obtain ⟨W,hW⟩:=uX (w.alloc (.cells JG.toArray 97));have kR:Blk W w.heap.size 97 JG:=by rw [hW];exact Blk.new _ _ _
 have bW:Bl w W:=by rw [hW];exact (Below.refl _ _).alloc (QE _) _
 have q2:W.heap.size = w.heap.size + 1:=by rw [hW];simp
 have HW:=AA hW;clear hW;have a1:Hid (∀ (Z H:World) (c p:Nat),dC data = c -> c ≠ 0 -> dP data = p -> Bl w Z -> Z.grownBy H (some w.heap.size) -> H.heap.size = Z.heap.size -> ∃ v,Ending.returned (.agg #[.int .i64 (c:Int),.int .i64 (p:Int),.string ByteArray.empty,.slice none 0 0,.int .i64 0]) = .returned (.agg #[.int .i64 (dC data:Nat),.int .i64 (dP data:Nat),.string (dM data),v,.int .i64 (dA data:Nat)]) /\ FsX H w.heap.size v (dL data) /\ Bl w H):=by
  intro Z H c p h1 h2 h3 h4 h5 h6;obtain ⟨e1,T,e3⟩:=Tr (by rw [h1];exact h2);refine ⟨.slice none 0 0,?_,?_,h4.grown h5 h4.size (fun k hk=>by cases hk;omega)⟩
  ·rw [h1,h3,e1,e3];rfl
  ·rw [T];exact ⟨[],Fs.nil _ _⟩
 have d0:=AA (fun (c p:Int) (Z:World)=>VU c p Z)
 by_cases hbig:4096 < N
 ·have e1:dC data = 5:=by unfold dC;rw [if_pos (by omega)]
  have T:dP data = 4096:=by unfold dP;rw [if_pos (by omega)]
  have hI:(4096:Int) < (N:Int):=by omega
  rw [<- hN];clear hr hN;go_enter func38,ntmps38;go_upto_region 1 with fail
  rw [<- show W = _ from HW];clear HW;go_wp2_with fail;refine (d0.out _ _ _).mono ?_;rintro e w2 ⟨rfl,M⟩;have J:=kR.below M kR.lt;go_wp2_with (refine store_blk rfl 97 _ _ rfl w.heap.size rfl rfl J (by kernel_rfl) rfl (by kernel_rfl) ?_;intro H F C I)
  exact Qc (v:=.agg [.int .i64 5,.int .i64 4096,.string ByteArray.empty,.slice none 0 0,.int .i64 0].toArray) (AG results38 _ _ rfl F underlying97 rfl (by kernel_rfl)) rfl (a1.out w2 H 5 4096 e1 (by decide) T (bW.trans (M.mono bW.size)) C I)
 have hI:¬ (4096:Int) < (N:Int):=by omega
 have m0:N <= 4096:=by omega
 have rW:=hr.below bW;obtain ⟨X,hX⟩:=uX (W.alloc (.cells #[.slice ao N G,.int .i64 0] 159));obtain ⟨t,j0⟩:=uX (W.heap.size);have kP:=uK hX j0;have j5:=uB hX;have e4:=kR.below j5 kR.lt;have rX:=rW.below j5;have bX:=bW.trans (j5.mono bW.size);have HX:=AA hX;have f8:=AA j0;have s3:w.heap.size < t:=by omega
 have q1:=kP.lt;clear q2
 by_cases h4:N < 4
 ·have a4:tyC data = 1:=by unfold tyC;rw [if_pos (by omega)]
  have e1:dC data = 1:=by unfold dC;rw [if_neg (by omega),a4,if_pos (by decide)]
  have T:dP data = 0:=by unfold dP;rw [if_neg (by omega),a4,if_pos (by decide)]
  have HT:=AA (GQ N 0 4 t G _ X (by omega) (by omega) (by omega) kP);rw [<- hN];clear hr hN hX j0 kR;go_enter func38,ntmps38;go_upto_region 1 with fail
  rw [<- show W = _ from HW];clear HW;go_upto_region 4 with fail
  rw [<- show X = _ from HX,<- show t = _ from f8];go_wp2_with fail;refine HT.out.mono ?_;rintro e w1 ⟨rfl,m6⟩;have b1:Bl X w1:=by rw [m6];exact (Below.refl _ _).drew
  clear m6;go_wp2_with fail;refine (d0.out _ _ _).mono ?_;rintro e w2 ⟨rfl,M⟩;have o4:=b1.trans (M.mono b1.size);have J:=e4.below o4 e4.lt;go_wp2_with (refine store_blk rfl 97 _ _ rfl w.heap.size rfl rfl J (by kernel_rfl) rfl (by kernel_rfl) ?_;intro H F C I)
  exact Qc (v:=.agg [.int .i64 1,.int .i64 0,.string ByteArray.empty,.slice none 0 0,.int .i64 0].toArray) (AG results38 _ _ rfl F underlying97 rfl (by kernel_rfl)) rfl (a1.out w2 H 1 0 e1 (by decide) T (bX.trans (o4.mono bX.size)) C I)
 obtain ⟨b,o,rfl,o2⟩:=hr.at (k:=0) (by omega);have r7:b < w.heap.size:=RowAt.lt o2 (k:=0) (by omega);have a6:b ≠ t:=by omega
 have l6:N <= G:=by omega
 have HT:=AA (GT N 0 4 t b o o G X m0 (by omega) l6 (.inr ⟨by omega,rfl⟩) kP);have m1:(data.take 4).length = 4:=by rw [QI];omega
 have c7:=AA (fun (Z:World) (h:RowAt Z (some ⟨b,o,none⟩) data)=>Er (data.take 4) (some ⟨b,o,none⟩) 4 G Z m1 (RowAt.take h 4));have l2:(⟨(data.take 4).toArray⟩:ByteArray).size = 4:=by rw [show (⟨(data.take 4).toArray⟩:ByteArray).size = (data.take 4).length from by simp [ByteArray.size]];exact m1
 have c2:=AA (fun (Z:World)=>F6 ⟨(data.take 4).toArray⟩ 4 4 Z (by rw [l2];unfold maxLen;omega) (by omega) (by omega));rw [l2,I7] at c2;obtain ⟨S4,l8⟩:∃ s:ByteArray,s = ⟨(data.take 4).toArray⟩:=⟨_,rfl⟩;have p8:=AA l8;rw [<- l8] at c2 c7;have n2:G - 0 = G:=Nat.sub_zero _;rw [n2,show 0 + 4 = 4 from rfl] at HT;have a4:tyC data = if (data.take 4).all dig = true then 0 else 2:=by unfold tyC;rw [if_neg (by omega)]
 obtain ⟨dg,n1⟩:=uX ((data.take 4).all dig);rw [<- n1] at c2 a4;clear l8 l2 m1 n2 n1 hX j0 kR o2;cases dg
 ·have e1:dC data = 2:=by unfold dC;rw [if_neg (by omega),a4,if_pos (by decide)];rfl
  have T:dP data = 0:=by unfold dP;rw [if_neg (by omega),a4,if_pos (by decide)]
  rw [<- hN];clear hr hN;go_enter func38,ntmps38;go_upto_region 1 with fail
  rw [<- show W = _ from HW];clear HW;go_upto_region 4 with fail
  rw [<- show X = _ from HX,<- show t = _ from f8];go_wp2_with fail;refine HT.out.mono ?_;rintro e w1 ⟨rfl,f6,g1⟩;have l5:=c7.out w1 (RowAt.grown rX g1 (by intro x hx e;cases hx;cases e;exact a6 rfl))
  have b4:=e4.grown g1 (by intro e;cases e;omega)
  have b1:=bX.grown g1 bX.size (fun k hk=>by cases hk;omega);go_wp2_with fail;refine (c2.out _).mono ?_;rintro e w3 ⟨rfl,f2⟩;have g7:=f2.symm;subst g7;go_wp2_with fail;refine (d0.out _ _ _).mono ?_;rintro e w2 ⟨rfl,M⟩;have J:=b4.below M b4.lt;go_wp2_with (refine store_blk rfl 97 _ _ rfl w.heap.size rfl rfl J (by kernel_rfl) rfl (by kernel_rfl) ?_;intro H F C I)
  exact Qc (v:=.agg [.int .i64 2,.int .i64 0,.string ByteArray.empty,.slice none 0 0,.int .i64 0].toArray) (AG results38 _ _ rfl F underlying97 rfl (by kernel_rfl)) rfl (a1.out w2 H 2 0 e1 (by decide) T (b1.trans (M.mono b1.size)) C I)
 have o7:tyC data = 0:=a4;have c8:=AA (fun (Z:World) (h1:Blk Z t 159 [.slice (some ⟨b,o,none⟩) N G,.int .i64 ((4:Nat):Int)]) (h2:RowAt Z (some ⟨b,o,none⟩) data)=>Vy data t b o G N Z hN m0 l6 (by omega) a6 h1 h2);clear a4
 by_cases a5:mapC data ≠ 0
 ·have e1:dC data = mapC data:=by unfold dC;rw [if_neg (by omega),if_neg (by omega),if_pos a5]
  have T:dP data = 4:=by unfold dP;rw [if_neg (by omega),if_neg (by omega),if_pos a5]
  obtain ⟨c,hc⟩:=uX (mapC data);rw [<- hc] at c8 a5 e1;have s2:¬ (c:Int) = 0:=by omega
  rw [<- hN];clear hr hN hc;go_enter func38,ntmps38;go_upto_region 1 with fail
  rw [<- show W = _ from HW];clear HW;go_upto_region 4 with fail
  rw [<- show X = _ from HX,<- show t = _ from f8];go_wp2_with fail;refine HT.out.mono ?_;rintro e w1 ⟨rfl,f6,g1⟩;have a8:=RowAt.grown rX g1 (by intro x hx e;cases hx;cases e;exact a6 rfl)
  have l5:=c7.out w1 a8;have b4:=e4.grown g1 (by intro e;cases e;omega)
  have b1:=bX.grown g1 bX.size (fun k hk=>by cases hk;omega);go_wp2_with fail;refine (c2.out _).mono ?_;rintro e w3 ⟨rfl,f2⟩;have g7:=f2.symm;subst g7;go_wp2_with fail;refine (c8.out _ f6 a8).mono ?_;rintro e w5 ⟨v5,rfl,-,-,g5⟩;have f3:=b4.grown g5 (by intro e;cases e;omega)
  have b5:=b1.grown g5 b1.size (fun k hk=>by cases hk;omega);go_wp2_with fail;refine (d0.out _ _ _).mono ?_;rintro e w2 ⟨rfl,M⟩;have J:=f3.below M f3.lt;go_wp2_with (refine store_blk rfl 97 _ _ rfl w.heap.size rfl rfl J (by kernel_rfl) rfl (by kernel_rfl) ?_;intro H F C I)
  exact Qc (v:=.agg [.int .i64 (c:Int),.int .i64 4,.string ByteArray.empty,.slice none 0 0,.int .i64 0].toArray) (AG results38 _ _ rfl F underlying97 rfl (by kernel_rfl)) rfl (a1.out w2 H c 4 e1 a5 T (b5.trans (M.mono b5.size)) C I)
 have c3:mapC data = 0:=by omega
 rw [c3] at c8;obtain ⟨d,L⟩:=uX (BW data);obtain ⟨E,hE⟩:=uX (mapE data);have n3:∀ i,i < d.length -> d.getD i 0 ∈ tabNos:=by
  intro i hi;have a7:C9 (DL data) = true:=by
   cases h:C9 (DL data) with
   | true=>rfl
   | false =>
     exfalso
     revert c3
     unfold mapC;rw [if_pos h]
     split <;> omega
  have e:d = DL data:=by rw [L];unfold BW;rw [if_pos c3]
  rw [QA,List.getElem?_eq_getElem hi];unfold C9 at a7;rw [Qt] at a7;have:=a7 d[i] (by rw [<- e];exact Qd hi)
  simpa using this
 have q3:E <= N:=by
  have s4:¬ data.length < Cr data:=by
   intro h
   revert c3
   unfold mapC;rw [if_pos h];omega
  rw [hE];unfold mapE;rw [if_pos c3];omega
 have f0:Hid ((∀ i,i < d.length -> (∀ j,j < i -> fc data d E j = 0) -> fc data d E i ≠ 0 -> dC data = fc data d E i /\ dP data = decAt data d E i) /\ ((∀ j,j < d.length -> fc data d E j = 0) -> (decAt data d E d.length < N -> dC data = 5 /\ dP data = decAt data d E d.length) /\ (¬ decAt data d E d.length < N -> dC data = 0 /\ dP data = 0 /\ dM data = ⟨(data.take 4).toArray⟩ /\ dL data = Dv data d E d.length /\ dA data = macLI data d E d.length))):=by
  have eC:dC data = match bad data d E with | some i=>fc data d E i | none=>if decAt data d E d.length < N then 5 else 0:=by
   rw [L,hE,hN];unfold dC;rw [if_neg (by omega),if_neg (by omega),if_neg (by omega)];rfl
  have eP:dP data = match bad data d E with | some i=>decAt data d E i | none=>if decAt data d E d.length < N then decAt data d E d.length else 0:=by
   rw [L,hE,hN];unfold dP;rw [if_neg (by omega),if_neg (by omega),if_neg (by omega)];rfl
  refine ⟨fun i hi h1 h2=>?_,fun h1=>⟨fun h2=>?_,fun h2=>?_⟩⟩
  ·rw [eC,eP,Rg data d E i hi h1 h2];exact ⟨rfl,rfl⟩
  ·rw [eC,eP,Fc data d E h1];simp only;rw [if_pos h2,if_pos h2];exact ⟨rfl,rfl⟩
  ·have e0:dC data = 0:=by rw [eC,Fc data d E h1];simp only;rw [if_neg h2]
   refine ⟨e0,?_,?_,?_,?_⟩
   ·rw [eP,Fc data d E h1];simp only;rw [if_neg h2]
   ·unfold dM;rw [if_pos e0]
   ·unfold dL;rw [if_pos e0,L,hE]
   ·unfold dA;rw [if_pos e0,L,hE]
 rw [<- L,<- hE] at c8;rw [<- hN];rw [<- show S4 = _ from p8] at f0;have o0:=AA n3;have HN:=AA hN;have s1:E <= 20:=by rw [hE];unfold mapE Cr;split <;> (try split) <;> omega
 have s5:d.length <= 129:=by
  have h1:d = DL data:=by rw [L];unfold BW;rw [if_pos c3]
  rw [h1];unfold DL;refine QG (Fx _ _) ?_;unfold Cr
  split <;> omega
 clear L hE hN n3 c3 o7 hr a5;go_enter func38,ntmps38;go_upto_region 1 with fail
 rw [<- show W = _ from HW];clear HW;go_upto_region 4 with fail
 rw [<- show X = _ from HX,<- show t = _ from f8];go_wp2_with fail;refine HT.out.mono ?_;rintro e w1 ⟨rfl,f6,g1⟩;have a8:=RowAt.grown rX g1 (by intro x hx e;cases hx;cases e;exact a6 rfl)
 have l5:=c7.out w1 a8;have b4:=e4.grown g1 (by intro e;cases e;omega)
 have b1:=bX.grown g1 bX.size (fun k hk=>by cases hk;omega);go_wp2_with fail;refine (c2.out _).mono ?_;rintro e w3 ⟨rfl,f2⟩;have g7:=f2.symm;subst g7;go_wp2_with fail;refine (c8.out _ f6 a8).mono ?_;rintro e w5 ⟨v5,rfl,b3,o5,g5⟩;have i3:=o5 rfl;have o8:=c7.out w5 (RowAt.grown a8 g5 (by intro x hx e;cases hx;cases e;exact a6 rfl))
 have n0:=RowAt.grown a8 g5 (by intro x hx e;cases hx;cases e;exact a6 rfl)
 have f3:=b4.grown g5 (by intro e;cases e;omega)
 have b5:=b1.grown g5 b1.size (fun k hk=>by cases hk;omega);clear a8 b4 b1 f6 l5 rX e4 bX j5 rW HT c7 c2 c8 HX f8 o5 kP;have r5:=i3.lt;have p3:=g1.size;go_upto_region 13 with fail
 obtain ⟨X8,i9⟩:=uX (w5.alloc (Obj.cells #[.int .i64 0,.int .i64 0,.string S4,.slice none 0 0,.int .i64 0] 97));rw [<- i9];obtain ⟨f,i7⟩:=uX (w5.heap.size);rw [<- i7];have kO:=uK i9 i7;have l7:=uB i9;have q4:=i3.below l7 i3.lt;have q7:=grown_of_below l7 (some t);obtain ⟨n,f9⟩:=uX (d.length);have r9:n <= 129:=by omega
 have o6:∃ k7 ra,v5 = .slice ra n k7:=by
  rcases b3.2 with ⟨hv,hz⟩ | ⟨g,c,p5,hv,-⟩
  ·exact ⟨0,none,by rw [hv,f9,hz]⟩
  ·exact ⟨c,_,by rw [hv,f9]⟩
 have k1:=b3.lt;have r4:t < w1.heap.size:=QX q1 p3;have n5:Hid (∀ {x:World},w5.grownBy x (some t) -> ∀ i,i < n -> ∃ gR cR,v5 = .slice (some ⟨gR,0,none⟩) n cR /\ x.cell? ⟨gR,i,none⟩ = some (.int .i64 (d.getD i 0:Nat))):=by
  intro x hx i a7;have ox:=World.ownsRow.kept b3 hx (by
   cases hb:v5.ownBlock with
   | none=>exact .inl rfl
   | some g=>exact .inr (fun e=>by cases e;have:=(k1 _ hb).1;omega))
  rcases b3.2 with ⟨hv,hz⟩ | ⟨g,c,p5,hv,-⟩
  ·omega
  ·rw [hv] at ox;have c1:=ox.cellAt i (by omega);have n7:i < d.length:=by omega
   rw [List.getElem?_map,List.getElem?_eq_getElem n7] at c1;refine ⟨g,c,by rw [hv,f9],?_⟩;rw [c1,QA,List.getElem?_eq_getElem n7]
   rfl
 obtain ⟨k7,ra,q6⟩:=o6;subst q6;have r3:t < f:=by omega
 have O:=AA i7;have i5:=AA f9;have k2:Hid (∀ {x:World},w5.grownBy x (some t) -> Blk x w.heap.size 97 JG /\ RowAt x (some ⟨b,o,none⟩) data /\ Bl w x):=fun h=>⟨f3.grown h (by intro e;cases e;omega),RowAt.grown n0 h (by intro x hx e;cases hx;cases e;exact a6 rfl),b5.grown h b5.size (fun k hk=>by cases hk;omega)⟩
 clear i9 i7 b3 f9 o8 k1 i3 f3 n0 l7;go_wp2_with fail
 go_loopw [49] (fun i wr=>∃ (k:Nat) (v:Value) (vs:List Value),k <= n /\ i = .int .i64 (k:Int) /\ Hid (∀ j,j < k -> fc data d E j = 0) /\ decAt data d E k <= N /\ Blk wr t 159 [.slice (some ⟨b,o,none⟩) N G,.int .i64 (decAt data d E k:Nat)] /\ Blk wr f 97 [.int .i64 0,.int .i64 0,.string S4,v,.int .i64 ((if k = n then macLI data d E k else 0:Nat):Int)] /\ Fs wr (f + 1) v (Dv data d E k) vs /\ w5.grownBy wr (some t)) (fun i _=>n - (intOf i).toNat)
 case atStart=>exact ⟨0,_,[],QU _,rfl,fun j h=>absurd h (Qj j),q3,q4,by rw [show (if 0 = n then macLI data d E 0 else 0) = 0 from by split <;> rfl];exact kO,Fs.nil _ _,q7⟩
 case round =>
  obtain ⟨k,v,vs,hk,rfl,c6,l9,c5,a2,FS,gr⟩:=hrel
  by_cases hlt:k < n
  ·have p2:(k:Int) < (n:Int):=by omega
   obtain ⟨gR,cR,e3,c1⟩:=n5.out gr k hlt;simp only [Value.slice.injEq] at e3;obtain ⟨rfl,-,rfl⟩:=e3;have a7:=o0.out k (by have:=i5.out;omega);rw [if_neg (by omega)] at a2;have q:Hid (decAt data d E (k + 1) = decAt data d E k + fldE (d.getD k 0) (data.drop (decAt data d E k)) /\ macLI data d E (k + 1) = macP (d.getD k 0) (decAt data d E k) /\ Dv data d E (k + 1) = Dv data d E k ++ [(d.getD k 0,EM (d.getD k 0) (data.drop (decAt data d E k)))] /\ fc data d E k = fldC (d.getD k 0) (data.drop (decAt data d E k))):=⟨rfl,rfl,OL _ _ _ _,rfl⟩;obtain ⟨a,ha⟩:=uX (decAt data d E k);obtain ⟨D,n4⟩:=uX (d.getD k 0);rw [<- ha] at l9 q c5;rw [<- n4] at c1 a7 q;have p9:(data.drop a).length = N - a:=by have:=HN.out;rw [QN];omega
   have h8:=Nc D (data.drop a);obtain ⟨p6,m9,p4⟩:=k2.out gr;have k0:=AA (Ww D a7 data a t b o G N wr HN.out m0 l6 l9 a6 c5 m9);obtain ⟨fe,d6⟩:=uX (fldE D (data.drop a));obtain ⟨fv,a3⟩:=uX (fldC D (data.drop a));obtain ⟨HD,l1⟩:=uX (EM D (data.drop a));rw [<- d6,<- a3,<- l1] at k0;rw [<- d6,<- a3,<- l1] at q;rw [<- d6,<- a3,p9] at h8;have q0:=AA ha;clear d6 a3 l1 n4 ha a7;have p1:=c5.c 1;go_wp2_with fail;refine k0.out.mono ?_;rintro e w8 ⟨v8,rfl,h9,o1,g8⟩;obtain ⟨ah,ch,rfl,-,-,-,-⟩:=h9.shape;have l4:=grown_trans gr g8;obtain ⟨m8,r8,n9⟩:=k2.out l4;clear k0 p6 m9 p4 p1
   by_cases a3:fv = 0
   ·subst a3;have kP8':=o1 rfl;have d6:=h8 rfl;have j6:=a2.grown g8 (by intro e;cases e;omega)
    have m4:=FS.keep g8 (by omega);obtain ⟨A2,n6⟩:=uX (a + fe);rw [<- n6] at kP8' q;have e5:A2 <= N:=by omega
    have g0:(Dv data d E k).length = k:=Lo _ _ _ _;have a0:=FS.row.lt;have e7:∀ g,v.ownBlock = some g -> g < wr.heap.size:=fun g y=>(a0 g y).2;have i1:∀ i,i < (Dv data d E k).length -> ∀ g,(vs.getD i undef).ownBlock = some g -> g < wr.heap.size:=fun i hi g y=>(Fp (FS.own i hi) g y).2;obtain ⟨w6,j9⟩:=uX (w8.alloc (Obj.cells #[.int .i64 (D:Int),.slice ah HD.length ch] 29));have k6:Blk w6 w8.heap.size 29 [.int .i64 (D:Int),.slice ah HD.length ch]:=by rw [j9];exact Blk.new _ _ _
    have b6:=uB j9;have r6:=b6.size;have q9:=g8.size;have r2:=a2.lt;have f7:=m4.below b6;have b8:=f7.row;rw [g0] at b8;have j7:=j6.below b6 j6.lt;have j2:=kP8'.below b6 kP8'.lt;have e9:=h9.below b6;have j4:=grown_trans l4 (grown_of_below b6 (some t));have j8:=AA j9;have i8:f + 1 <= w6.heap.size:=by omega
    have f1:some f ≠ v.ownBlock:=fun e=>by have:=(a0 f e.symm).1;omega
    have e8:some t ≠ v.ownBlock:=fun e=>by have:=(a0 t e.symm).1;omega
    have o3:=j6.c 3;have s6:IntKind.i64.wrap ((n:Int) - 1) = (n:Int) - 1:=by rw [QH];omega
    clear n6 d6 h8 j9 j6 m4 kP8' b6 h9 c5 a2 FS gr l4 g8 o1 c1
    by_cases hla:k + 1 = n
    ·have e6:(k:Int) = (n:Int) - 1:=by omega
     have o9:((k:Int) == (n:Int) - 1) = true:=by rw [beq_iff_eq];exact e6
     by_cases h64:D = 64
     ·have p0:((D:Int) == 64) = true:=by rw [beq_iff_eq];omega
      have c4:Hid ((if k + 1 = n then macLI data d E (k + 1) else 0) = a):=by
       show _ = _;rw [if_pos hla,q.out.2.1];unfold macP;rw [if_pos (.inl h64)]
      have n8:=AA hla;clear h64 e6 hla;go_wp2_with (at_builtin;rw [<- show w6 = _ from j8];refine Qq _ rfl _ _ 30 rfl (f + 1) 29 i0 (.agg #[.int .i64 0,.slice none 0 0]) 2 32 underlying30 hi j1 i4 i2 rfl (by decide) _ _ _ rfl b8 ⟨w8.heap.size,0,none⟩ 1 1 [.int .i64 (D:Int),.slice ah HD.length ch] rfl rfl (Be k6) (by intro u hu;simp at hu;rcases hu with rfl | rfl <;> rfl) (by unfold maxLen;omega) (by omega) i8 ?_;intro v9 w9 B l _ R;obtain ⟨z,A,rfl⟩:=BK B;have r:=j7.grown l f1;have b9:=j2.grown l e8;have l3:=r.free 3;have k3:=r.c 3;have q8:=(r.set 3 (.slice z (k + 1) A)).free 4;have p7:=(r.set 3 (.slice z (k + 1) A)).c 4)
      have c0:=f7.snoc2 (m:=wr.heap.size) (x:=.slice ah HD.length ch) (p:=(D,HD)) i1 e7 e9 (by omega) (by omega) l (by rw [g0];exact B) (R.imp id (fun e=>⟨_,e,QE _⟩));have U:=c0.set (a:=⟨f,3,none⟩) (by show f < f + 1;omega) (.slice z (k + 1) A);have V:=r.set 3 (.slice z (k + 1) A);have b0:=Cf (Cf j4 l (fun g y=>by have:=(a0 g y).1;have:=O.out;omega)) (Ap w9 ⟨f,3,none⟩ (.slice z (k + 1) A)) (fun g y=>by cases y;show _ <= f;have:=O.out;omega);have Y:=b9.grown (Ap w9 ⟨f,3,none⟩ (.slice z (k + 1) A)) (fun e=>by have T:t = f:=Option.some.inj e;omega);have h0:=U.set (a:=⟨f,4,none⟩) (by show f < f + 1;omega) (.int .i64 (a:Int));have g9:=V.set 4 (.int .i64 (a:Int));have k8:=Cf b0 (Ap _ ⟨f,4,none⟩ (.int .i64 (a:Int))) (fun g y=>by cases y;show _ <= f;have:=O.out;omega);have h7:=Y.grown (Ap _ ⟨f,4,none⟩ (.int .i64 (a:Int))) (fun e=>by have T:t = f:=Option.some.inj e;omega);go_roundw
      case rel=>exact ⟨k + 1,_,_,by omega,by go_num,fun j hj=>by
       by_cases hjk:j = k
       ·rw [hjk];exact q.out.2.2.2
       ·exact c6.out j (by omega),by rw [q.out.1];exact e5,by rw [q.out.1];exact h7,by rw [c4.out];exact g9,by rw [q.out.2.2.1];exact h0,k8⟩
      case measure=>simp [intOf];omega
     ·have p0:((D:Int) == 64) = false:=by rw [QP];omega
      by_cases h128:D = 128
      ·have m2:((D:Int) == 128) = true:=by rw [beq_iff_eq];omega
       have c4:Hid ((if k + 1 = n then macLI data d E (k + 1) else 0) = a):=by
        show _ = _;rw [if_pos hla,q.out.2.1];unfold macP;rw [if_pos (.inr h128)]
       have n8:=AA hla;clear h128 e6 hla;go_wp2_with (at_builtin;rw [<- show w6 = _ from j8];refine Qq _ rfl _ _ 30 rfl (f + 1) 29 i0 (.agg #[.int .i64 0,.slice none 0 0]) 2 32 underlying30 hi j1 i4 i2 rfl (by decide) _ _ _ rfl b8 ⟨w8.heap.size,0,none⟩ 1 1 [.int .i64 (D:Int),.slice ah HD.length ch] rfl rfl (Be k6) (by intro u hu;simp at hu;rcases hu with rfl | rfl <;> rfl) (by unfold maxLen;omega) (by omega) i8 ?_;intro v9 w9 B l _ R;obtain ⟨z,A,rfl⟩:=BK B;have r:=j7.grown l f1;have b9:=j2.grown l e8;have l3:=r.free 3;have k3:=r.c 3;have q8:=(r.set 3 (.slice z (k + 1) A)).free 4;have p7:=(r.set 3 (.slice z (k + 1) A)).c 4)
       have c0:=f7.snoc2 (m:=wr.heap.size) (x:=.slice ah HD.length ch) (p:=(D,HD)) i1 e7 e9 (by omega) (by omega) l (by rw [g0];exact B) (R.imp id (fun e=>⟨_,e,QE _⟩));have U:=c0.set (a:=⟨f,3,none⟩) (by show f < f + 1;omega) (.slice z (k + 1) A);have V:=r.set 3 (.slice z (k + 1) A);have b0:=Cf (Cf j4 l (fun g y=>by have:=(a0 g y).1;have:=O.out;omega)) (Ap w9 ⟨f,3,none⟩ (.slice z (k + 1) A)) (fun g y=>by cases y;show _ <= f;have:=O.out;omega);have Y:=b9.grown (Ap w9 ⟨f,3,none⟩ (.slice z (k + 1) A)) (fun e=>by have T:t = f:=Option.some.inj e;omega);have h0:=U.set (a:=⟨f,4,none⟩) (by show f < f + 1;omega) (.int .i64 (a:Int));have g9:=V.set 4 (.int .i64 (a:Int));have k8:=Cf b0 (Ap _ ⟨f,4,none⟩ (.int .i64 (a:Int))) (fun g y=>by cases y;show _ <= f;have:=O.out;omega);have h7:=Y.grown (Ap _ ⟨f,4,none⟩ (.int .i64 (a:Int))) (fun e=>by have T:t = f:=Option.some.inj e;omega);go_roundw
       case rel=>exact ⟨k + 1,_,_,by omega,by go_num,fun j hj=>by
        by_cases hjk:j = k
        ·rw [hjk];exact q.out.2.2.2
        ·exact c6.out j (by omega),by rw [q.out.1];exact e5,by rw [q.out.1];exact h7,by rw [c4.out];exact g9,by rw [q.out.2.2.1];exact h0,k8⟩
       case measure=>simp [intOf];omega
      ·have m2:((D:Int) == 128) = false:=by rw [QP];omega
       have c4:Hid ((if k + 1 = n then macLI data d E (k + 1) else 0) = 0):=by
        show _ = _;rw [if_pos hla,q.out.2.1];unfold macP;rw [if_neg (by omega)]
       have n8:=AA hla;clear e6 hla;go_wp2_with (at_builtin;rw [<- show w6 = _ from j8];refine Qq _ rfl _ _ 30 rfl (f + 1) 29 i0 (.agg #[.int .i64 0,.slice none 0 0]) 2 32 underlying30 hi j1 i4 i2 rfl (by decide) _ _ _ rfl b8 ⟨w8.heap.size,0,none⟩ 1 1 [.int .i64 (D:Int),.slice ah HD.length ch] rfl rfl (Be k6) (by intro u hu;simp at hu;rcases hu with rfl | rfl <;> rfl) (by unfold maxLen;omega) (by omega) i8 ?_;intro v9 w9 B l _ R;obtain ⟨z,A,rfl⟩:=BK B;have r:=j7.grown l f1;have b9:=j2.grown l e8;have l3:=r.free 3;have k3:=r.c 3)
       have c0:=f7.snoc2 (m:=wr.heap.size) (x:=.slice ah HD.length ch) (p:=(D,HD)) i1 e7 e9 (by omega) (by omega) l (by rw [g0];exact B) (R.imp id (fun e=>⟨_,e,QE _⟩));have U:=c0.set (a:=⟨f,3,none⟩) (by show f < f + 1;omega) (.slice z (k + 1) A);have V:=r.set 3 (.slice z (k + 1) A);have b0:=Cf (Cf j4 l (fun g y=>by have:=(a0 g y).1;have:=O.out;omega)) (Ap w9 ⟨f,3,none⟩ (.slice z (k + 1) A)) (fun g y=>by cases y;show _ <= f;have:=O.out;omega);have Y:=b9.grown (Ap w9 ⟨f,3,none⟩ (.slice z (k + 1) A)) (fun e=>by have T:t = f:=Option.some.inj e;omega);go_roundw
       case rel=>exact ⟨k + 1,_,_,by omega,by go_num,fun j hj=>by
        by_cases hjk:j = k
        ·rw [hjk];exact q.out.2.2.2
        ·exact c6.out j (by omega),by rw [q.out.1];exact e5,by rw [q.out.1];exact Y,by rw [c4.out];exact V,by rw [q.out.2.2.1];exact U,b0⟩
       case measure=>simp [intOf];omega
    ·have o9:((k:Int) == (n:Int) - 1) = false:=by rw [QP];omega
     have c4:Hid ((if k + 1 = n then macLI data d E (k + 1) else 0) = 0):=by
      show _ = _;rw [if_neg hla]
     go_wp2_with (at_builtin;rw [<- show w6 = _ from j8];refine Qq _ rfl _ _ 30 rfl (f + 1) 29 i0 (.agg #[.int .i64 0,.slice none 0 0]) 2 32 underlying30 hi j1 i4 i2 rfl (by decide) _ _ _ rfl b8 ⟨w8.heap.size,0,none⟩ 1 1 [.int .i64 (D:Int),.slice ah HD.length ch] rfl rfl (Be k6) (by intro u hu;simp at hu;rcases hu with rfl | rfl <;> rfl) (by unfold maxLen;omega) (by omega) i8 ?_;intro v9 w9 B l _ R;obtain ⟨z,A,rfl⟩:=BK B;have r:=j7.grown l f1;have b9:=j2.grown l e8;have l3:=r.free 3;have k3:=r.c 3)
     have c0:=f7.snoc2 (m:=wr.heap.size) (x:=.slice ah HD.length ch) (p:=(D,HD)) i1 e7 e9 (by omega) (by omega) l (by rw [g0];exact B) (R.imp id (fun e=>⟨_,e,QE _⟩));have U:=c0.set (a:=⟨f,3,none⟩) (by show f < f + 1;omega) (.slice z (k + 1) A);have V:=r.set 3 (.slice z (k + 1) A);have b0:=Cf (Cf j4 l (fun g y=>by have:=(a0 g y).1;have:=O.out;omega)) (Ap w9 ⟨f,3,none⟩ (.slice z (k + 1) A)) (fun g y=>by cases y;show _ <= f;have:=O.out;omega);have Y:=b9.grown (Ap w9 ⟨f,3,none⟩ (.slice z (k + 1) A)) (fun e=>by have T:t = f:=Option.some.inj e;omega);go_roundw
     case rel=>exact ⟨k + 1,_,_,by omega,by go_num,fun j hj=>by
      by_cases hjk:j = k
      ·rw [hjk];exact q.out.2.2.2
      ·exact c6.out j (by omega),by rw [q.out.1];exact e5,by rw [q.out.1];exact Y,by rw [c4.out];exact V,by rw [q.out.2.2.1];exact U,b0⟩
     case measure=>simp [intOf];omega
   ·have r1:¬ (fv:Int) = 0:=by omega
    have k5:=f0.out.1 k (by have:=i5.out;omega) c6.out (by rw [q.out.2.2.2];exact a3);rw [q.out.2.2.2,<- q0.out] at k5;have g6:=AA k5;clear k5;go_wp2_with fail;refine (d0.out _ _ _).mono ?_;rintro e w2 ⟨rfl,M⟩;have J:=m8.below M m8.lt;go_wp2_with (refine store_blk rfl 97 _ _ rfl w.heap.size rfl rfl J (by kernel_rfl) rfl (by kernel_rfl) ?_;intro H F C I)
    exact Qc (v:=.agg [.int .i64 (fv:Int),.int .i64 (a:Int),.string ByteArray.empty,.slice none 0 0,.int .i64 0].toArray) (AG results38 _ _ rfl F underlying97 rfl (by kernel_rfl)) rfl (a1.out w2 H fv a g6.out.1 a3 g6.out.2 (n9.trans (M.mono n9.size)) C I)
  ·have p2:¬ (k:Int) < (n:Int):=by omega
   obtain rfl:k = n:=by omega
   rw [if_pos rfl] at a2;obtain ⟨i6,f4⟩:=f0.out.2 (fun j hj=>c6.out j (by have:=i5.out;omega));rw [<- i5.out] at i6 f4;obtain ⟨k4,-,j3⟩:=k2.out gr;have a0:=FS.row.lt;obtain ⟨av,cv,rfl⟩:=BK FS.row;obtain ⟨nv,m5⟩:=uX ((Dv data d E k).length);have m7:=AA FS;rw [<- m5] at a2 a0 m7;obtain ⟨mc,a5⟩:=uX (macLI data d E k);obtain ⟨a,ha⟩:=uX (decAt data d E k);rw [<- ha] at l9 i6 f4 c5;rw [<- a5] at f4 a2;have l0:=AA i6;have k9:=AA f4;have p1:=c5.c 1;clear a5 ha i6 f4 m5 FS n5 o0 f0
   by_cases hend:a < N
   ·have m3:(a:Int) < (N:Int):=by omega
    have g6:=AA (l0.out hend);clear l0 k9;go_wp2_with fail;refine (d0.out _ _ _).mono ?_;rintro e w2 ⟨rfl,M⟩;have J:=k4.below M k4.lt;go_wp2_with (refine store_blk rfl 97 _ _ rfl w.heap.size rfl rfl J (by kernel_rfl) rfl (by kernel_rfl) ?_;intro H F C I)
    exact Qc (v:=.agg [.int .i64 5,.int .i64 (a:Int),.string ByteArray.empty,.slice none 0 0,.int .i64 0].toArray) (AG results38 _ _ rfl F underlying97 rfl (by kernel_rfl)) rfl (a1.out w2 H 5 a g6.out.1 (by decide) g6.out.2 (j3.trans (M.mono j3.size)) C I)
   ·have m3:¬ (a:Int) < (N:Int):=by omega
    obtain ⟨d1,d2,d3,d4,d5⟩:=k9.out hend;have f5:=AA (And.intro d1 (And.intro d2 (And.intro d3 (And.intro d4 d5))));clear l0 k9 d1 d2 d3 d4 d5;go_wp2_with (first
     | (refine AL rfl 97 _ rfl f rfl a2 underlying97 rfl (by kernel_rfl) ?_)
     | (refine store_blk rfl 97 _ _ rfl w.heap.size rfl rfl k4 (by kernel_rfl) rfl (by kernel_rfl) ?_;intro H F C I))
    have q5:FsX H w.heap.size (.slice av nv cv) (dL data):=by
     rw [f5.out.2.2.2.1];exact ⟨_,(m7.out.keep C (by omega)).mono (by omega)⟩
    have b7:=j3.grown C j3.size (fun g y=>by cases y;exact QE _);exact Qc (v:=.agg [.int .i64 0,.int .i64 0,.string S4,.slice av nv cv,.int .i64 (mc:Int)].toArray) (AG results38 _ _ rfl F underlying97 rfl (by kernel_rfl)) rfl ⟨_,by rw [f5.out.1,f5.out.2.1,f5.out.2.2.1,f5.out.2.2.2.2];rfl,q5,b7⟩
theorem fldCells_at (L:List (Nat × LU)):∀ (vs:List Value),vs.length = L.length -> ∀ i,i < L.length -> (fldCells L vs)[i * 2]? = some (.int .i64 ((L.getD i (0,[])).1:Nat)) /\ (fldCells L vs)[i * 2 + 1]? = some (vs.getD i undef):=by
 induction L with
 | nil=>intro vs _ i h;simp at h
 | cons p r ih =>
   intro vs h i a
   cases vs with
   | nil=>simp at h
   | cons v t =>
     cases i with
     | zero=>exact ⟨rfl,rfl⟩
     | succ i =>
       have:=ih t (by simpa using h) i (by simpa using a);rw [show (i + 1) * 2 = i * 2 + 1 + 1 from by omega];exact this
theorem Fs.at {w:World} {lo:Nat} {v:Value} {L:List (Nat × LU)} {vs:List Value} (h:Fs w lo v L vs) {i:Nat} (d:i < L.length) :
 ∃ g c a b,v = .slice (some ⟨g,0,none⟩) L.length c /\ w.cell? ⟨g,i * 2,none⟩ = some (.int .i64 ((L.getD i (0,[])).1:Nat)) /\ w.cell? ⟨g,i * 2 + 1,none⟩ = some (.slice a (L.getD i (0,[])).2.length b) /\ RowAt w a (L.getD i (0,[])).2 /\ vs.getD i undef = .slice a (L.getD i (0,[])).2.length b /\ lo <= g /\ (∀ j,w.frozen? ⟨g,j,none⟩ = false):=by
 have row:=h.row;obtain ⟨n,l⟩:=fldCells_at L vs h.len i d;obtain ⟨a,b,e,r,-,-,-⟩:=(h.own i d).shape;rcases row.2 with ⟨f,hz⟩ | ⟨g,c,o,f,m,k⟩
 ·omega
 ·subst f;refine ⟨g,c,a,b,rfl,?_,?_,r,e,m,fun j=>row.frozenAt j⟩
  ·rw [row.cellAt (i * 2) (by omega),n]
  ·rw [row.cellAt (i * 2 + 1) (by omega),l,e]
theorem Fs.shape {w:World} {lo:Nat} {v:Value} {L:List (Nat × LU)} {vs:List Value} (h:Fs w lo v L vs):∃ a c,v = .slice a L.length c:=BK h.row
theorem SK (w:World) (m:Nat):Bl w (w.drewN m):=⟨rfl,rfl,rfl,QE _,fun _ _=>rfl⟩
def markF:List (Nat × LU) -> Nat -> List (Nat × LU)
 | [],_=>[]
 | p :: r,k=>(k,LK (k + 1) p.2.length) :: markF r (k + 1 + p.2.length)
def markN:List (Nat × LU) -> Nat -> Nat
 | [],k=>k
 | p :: r,k=>markN r (k + 1 + p.2.length)
theorem markF_length (L:List (Nat × LU)):∀ k,(markF L k).length = L.length:=by
 induction L with
 | nil=>intro k;rfl
 | cons p r ih=>intro k;show (markF r _).length + 1 = r.length + 1;rw [ih]
theorem markF_snoc (L:List (Nat × LU)) (p:Nat × LU):∀ k,markF (L ++ [p]) k = markF L k ++ [(markN L k,LK (markN L k + 1) p.2.length)]:=by
 induction L with
 | nil=>intro k;rfl
 | cons q r ih=>intro k;show _ :: markF (r ++ [p]) _ = _;rw [ih];rfl
theorem markN_snoc (L:List (Nat × LU)) (p:Nat × LU):∀ k,markN (L ++ [p]) k = markN L k + 1 + p.2.length:=by
 induction L with
 | nil=>intro k;rfl
 | cons q r ih=>intro k;show markN (r ++ [p]) _ = _;rw [ih];rfl
def mkAt (L:List (Nat × LU)) (k i:Nat):List (Nat × LU):=markF (L.take i) k ++ L.drop i
theorem mkAt_length (L:List (Nat × LU)) (k i:Nat):(mkAt L k i).length = L.length:=by
 unfold mkAt;rw [QC,markF_length,QI,QN];omega
theorem mkAt_zero (L:List (Nat × LU)) (k:Nat):mkAt L k 0 = L:=rfl
theorem mkAt_all (L:List (Nat × LU)) (k:Nat):mkAt L k L.length = markF L k:=by unfold mkAt;simp
theorem mkAt_get (L:List (Nat × LU)) (k i:Nat) (a:i < L.length):(mkAt L k i).getD i (0,[]) = L.getD i (0,[]):=by
 unfold mkAt;rw [QA,List.getElem?_append_right (by rw [markF_length,QI];omega),markF_length,QI,show i - min i L.length = 0 from by omega,List.getElem?_drop,qq,<- QA]
theorem mkAt_step (L:List (Nat × LU)) (k i:Nat) (a:i < L.length):(mkAt L k i).set i (markN (L.take i) k,LK (markN (L.take i) k + 1) (L.getD i (0,[])).2.length) = mkAt L k (i + 1) /\ markN (L.take (i + 1)) k = markN (L.take i) k + 1 + (L.getD i (0,[])).2.length:=by
 have e:L.take (i + 1) = L.take i ++ [L.getD i (0,[])]:=by rw [Qu a,QA,List.getElem?_eq_getElem a];rfl
 have b:(markF (L.take i) k).length = i:=by rw [markF_length,QI];omega
 refine ⟨?_,by rw [e,markN_snoc]⟩;unfold mkAt;rw [e,markF_snoc,qg a,qC _ _ (by omega),b,JF,qw,QV]
 rfl
theorem fldCells_set (L:List (Nat × LU)):∀ (vs:List Value),vs.length = L.length -> ∀ i,i < L.length -> ∀ p:Nat × LU,fldCells (L.set i p) vs = (fldCells L vs).set (i * 2) (.int .i64 (p.1:Int)):=by
 induction L with
 | nil=>intro vs _ i h;simp at h
 | cons q r ih =>
   intro vs h i a p
   cases vs with
   | nil=>simp at h
   | cons v t =>
     cases i with
     | zero=>rfl
     | succ i =>
       have:=ih t (by simpa using h) i (by simpa using a) p;rw [show (i + 1) * 2 = i * 2 + 1 + 1 from by omega];show Value.int .i64 (q.1:Int) :: v :: fldCells (r.set i p) t = _;rw [this]
       rfl
theorem FK {α:Type} (l:List α) (i:Nat) (x d:α) (h:i < l.length):(l.set i x).getD i d = x:=by simp [List.getD_eq_getElem?_getD,h]
theorem GV {α:Type} (l:List α) (i j:Nat) (x d:α) (h:i ≠ j):(l.set i x).getD j d = l.getD j d:=by simp [List.getD_eq_getElem?_getD,List.getElem?_set_ne h]
theorem Fs.putNo {w:World} {lo g n c:Nat} {L:List (Nat × LU)} {vs:List Value} (h:Fs w lo (.slice (some ⟨g,0,none⟩) n c) L vs) (i k:Nat) (p:i < L.length) :
 Fs (w.setCell ⟨g,i * 2,none⟩ (.int .i64 (k:Int))) lo (.slice (some ⟨g,0,none⟩) n c) (L.set i (k,(L.getD i (0,[])).2)) vs:=by
 have f:(Value.slice (some ⟨g,0,none⟩) n c).ownBlock = some g:=rfl;obtain ⟨x,y,e⟩:=h.shape;have u:n = L.length:=by simp only [Value.slice.injEq] at e;exact e.2.1
 refine ⟨by rw [QQ];exact h.len,?_,?_,fun a b o m=>?_,fun a l=>?_⟩
 ·rw [QQ,fldCells_set L vs h.len i p];have row:=h.row;subst u;exact (row.stored (i * 2) _).1
 ·intro j d;rw [QQ] at d;have r:((L.set i (k,(L.getD i (0,[])).2)).getD j (0,[])).2 = (L.getD j (0,[])).2:=by
   by_cases hij:i = j
   ·subst hij;rw [FK _ _ _ _ p]
   ·rw [GV _ _ _ _ _ hij]
  rw [r];obtain ⟨t,q⟩:=h.own j d;refine ⟨t,ownsRow_setCell_other q ?_ _⟩;intro s;exact h.ap j d g s f
 ·rw [QQ] at m;exact h.sep a b o m
 ·rw [QQ] at l;exact h.ap a l
theorem Fs.putData {w w':World} {lo:Nat} {v:Value} {L:List (Nat × LU)} {vs:List Value} (h:Fs w lo v L vs) (i:Nat) (l:i < L.length) (d:LU) (n:Own w' lo (vs.getD i undef) d) (p:w.grownBy w' (vs.getD i undef).ownBlock) :
 Fs w' lo v (L.set i ((L.getD i (0,[])).1,d)) vs:=by
 refine ⟨by rw [QQ];exact h.len,?_,?_,fun a b q f=>?_,fun a o=>?_⟩
 ·have e:fldCells (L.set i ((L.getD i (0,[])).1,d)) vs = fldCells L vs:=by
   rw [fldCells_set L vs h.len i l];have c:=(fldCells_at L vs h.len i l).1;obtain ⟨g,r⟩:=List.getElem?_eq_some_iff.1 c;rw [<- r,List.set_getElem_self]
  rw [QQ,e];refine World.ownsRow.kept h.row p ?_
  cases f:v.ownBlock with
  | none=>exact .inl rfl
  | some k=>exact .inr (fun e=>h.ap i l k e.symm f)
 ·intro j m;rw [QQ] at m
  by_cases hij:i = j
  ·subst hij;rw [FK _ _ _ _ l];exact n
  ·rw [GV _ _ _ _ _ hij];refine (h.own j m).grown p ?_;cases f:(vs.getD j undef).ownBlock with
   | none=>exact .inl rfl
   | some k =>
     refine .inr (fun e=>?_);rcases Nat.lt_or_gt_of_ne hij with g | g
     ·exact h.sep i j g m k e.symm f
     ·exact h.sep j i g l k f e.symm
 ·rw [QQ] at f;exact h.sep a b q f
 ·rw [QQ] at o;exact h.ap a o
def O8 (a:Nat) (w w':World):Prop:=∀ g,a <= g -> g < w.heap.size -> w'.heap[g]? = w.heap[g]?
theorem O8.refl (a:Nat) (w:World):O8 a w w:=fun _ _ _=>rfl
theorem O8.blk {a:Nat} {w w':World} (h:O8 a w w') {g t:Nat} {cs:List Value} (b:Blk w g t cs) (c:a <= g):Blk w' g t cs:=(h g c b.lt).trans b
structure ZT (v:Value) (vs:List Value) (n hi:Nat):Prop where
 v:∀ g,v.ownBlock = some g -> g < hi
 vs:∀ i,i < n -> ∀ g,(vs.getD i undef).ownBlock = some g -> g < hi
theorem Fs.under {w:World} {lo:Nat} {v:Value} {L:List (Nat × LU)} {vs:List Value} (h:Fs w lo v L vs):ZT v vs L.length w.heap.size :=
 ⟨fun g a=>(h.row.lt g a).2,fun i b g a=>(Fp (h.own i b) g a).2⟩
namespace Z
def fldCells (L:List (Int × LU)) (vs:List Value):List Value:=(List.zip L vs).flatMap (fun (p:(Int × LU) × Value)=>[.int .i64 (p.1.1:Int),p.2])
theorem fldCells_length (L:List (Int × LU)):∀ (vs:List Value),vs.length = L.length -> (fldCells L vs).length = L.length * 2:=by
 induction L with
 | nil=>intro vs h;obtain rfl:vs = []:=List.length_eq_zero_iff.1 h;rfl
 | cons p r ih =>
   intro vs h
   cases vs with
   | nil=>simp at h
   | cons v t =>
     have:=ih t (by simpa using h);unfold fldCells at this ⊢;simp only [List.zip_cons_cons,List.flatMap_cons,QC,Qn,qH];omega
structure Fs (w:World) (lo:Nat) (v:Value) (L:List (Int × LU)) (vs:List Value):Prop where
 len:vs.length = L.length
 row:w.ownsRow lo 29 2 v L.length (fldCells L vs)
 own:∀ i,i < L.length -> Own w lo (vs.getD i undef) (L.getD i (0,[])).2
 sep:∀ i j,i < j -> j < L.length -> ∀ g,(vs.getD i undef).ownBlock = some g -> (vs.getD j undef).ownBlock ≠ some g
 ap:∀ i,i < L.length -> ∀ g,(vs.getD i undef).ownBlock = some g -> v.ownBlock ≠ some g
theorem Fs.below {w w':World} {lo:Nat} {v:Value} {L:List (Int × LU)} {vs:List Value} (h:Fs w lo v L vs) (a:Bl w w'):Fs w' lo v L vs :=
 ⟨h.len,Am h.row a,fun i b=>(h.own i b).below a,h.sep,h.ap⟩
theorem Fs.mono {w:World} {B lo:Nat} {v:Value} {L:List (Int × LU)} {vs:List Value} (h:Fs w lo v L vs) (a:B <= lo):Fs w B v L vs :=
 ⟨h.len,ownR_mono h.row a,fun i b=>(h.own i b).monoI a,h.sep,h.ap⟩
theorem Fs.set {w:World} {lo:Nat} {v:Value} {L:List (Int × LU)} {vs:List Value} (h:Fs w lo v L vs) {a:Addr} (b:a.block < lo) (u:Value):Fs (w.setCell a u) lo v L vs :=
 ⟨h.len,qY h.row b u,fun i c=>by obtain ⟨t,q⟩:=h.own i c;exact ⟨t,qY q b u⟩,h.sep,h.ap⟩
theorem fldCells_at (L:List (Int × LU)):∀ (vs:List Value),vs.length = L.length -> ∀ i,i < L.length -> (fldCells L vs)[i * 2]? = some (.int .i64 (L.getD i (0,[])).1) /\ (fldCells L vs)[i * 2 + 1]? = some (vs.getD i undef):=by
 induction L with
 | nil=>intro vs _ i h;simp at h
 | cons p r ih =>
   intro vs h i a
   cases vs with
   | nil=>simp at h
   | cons v t =>
     cases i with
     | zero=>exact ⟨rfl,rfl⟩
     | succ i =>
       have:=ih t (by simpa using h) i (by simpa using a);rw [show (i + 1) * 2 = i * 2 + 1 + 1 from by omega];exact this
theorem Fs.at {w:World} {lo:Nat} {v:Value} {L:List (Int × LU)} {vs:List Value} (h:Fs w lo v L vs) {i:Nat} (d:i < L.length) :
 ∃ g c a b,v = .slice (some ⟨g,0,none⟩) L.length c /\ w.cell? ⟨g,i * 2,none⟩ = some (.int .i64 (L.getD i (0,[])).1) /\ w.cell? ⟨g,i * 2 + 1,none⟩ = some (.slice a (L.getD i (0,[])).2.length b) /\ RowAt w a (L.getD i (0,[])).2 /\ vs.getD i undef = .slice a (L.getD i (0,[])).2.length b /\ lo <= g /\ (∀ j,w.frozen? ⟨g,j,none⟩ = false):=by
 have row:=h.row;obtain ⟨n,l⟩:=fldCells_at L vs h.len i d;obtain ⟨a,b,e,r,-,-,-⟩:=(h.own i d).shape;rcases row.2 with ⟨f,hz⟩ | ⟨g,c,o,f,m,k⟩
 ·omega
 ·subst f;refine ⟨g,c,a,b,rfl,?_,?_,r,e,m,fun j=>row.frozenAt j⟩
  ·rw [row.cellAt (i * 2) (by omega),n]
  ·rw [row.cellAt (i * 2 + 1) (by omega),l,e]
theorem Fs.shape {w:World} {lo:Nat} {v:Value} {L:List (Int × LU)} {vs:List Value} (h:Fs w lo v L vs):∃ a c,v = .slice a L.length c:=BK h.row
def markF:List (Int × LU) -> Nat -> List (Int × LU)
 | [],_=>[]
 | p :: r,k=>((k:Int),LK (k + 1) p.2.length) :: markF r (k + 1 + p.2.length)
def markN:List (Int × LU) -> Nat -> Nat
 | [],k=>k
 | p :: r,k=>markN r (k + 1 + p.2.length)
theorem markF_length (L:List (Int × LU)):∀ k,(markF L k).length = L.length:=by
 induction L with
 | nil=>intro k;rfl
 | cons p r ih=>intro k;show (markF r _).length + 1 = r.length + 1;rw [ih]
theorem markF_snoc (L:List (Int × LU)) (p:Int × LU):∀ k,markF (L ++ [p]) k = markF L k ++ [(((markN L k:Nat):Int),LK (markN L k + 1) p.2.length)]:=by
 induction L with
 | nil=>intro k;rfl
 | cons q r ih=>intro k;show _ :: markF (r ++ [p]) _ = _;rw [ih];rfl
theorem markN_snoc (L:List (Int × LU)) (p:Int × LU):∀ k,markN (L ++ [p]) k = markN L k + 1 + p.2.length:=by
 induction L with
 | nil=>intro k;rfl
 | cons q r ih=>intro k;show markN (r ++ [p]) _ = _;rw [ih];rfl
def mkAt (L:List (Int × LU)) (k i:Nat):List (Int × LU):=markF (L.take i) k ++ L.drop i
theorem mkAt_length (L:List (Int × LU)) (k i:Nat):(mkAt L k i).length = L.length:=by
 unfold mkAt;rw [QC,markF_length,QI,QN];omega
theorem mkAt_zero (L:List (Int × LU)) (k:Nat):mkAt L k 0 = L:=rfl
theorem mkAt_all (L:List (Int × LU)) (k:Nat):mkAt L k L.length = markF L k:=by unfold mkAt;simp
theorem mkAt_get (L:List (Int × LU)) (k i:Nat) (a:i < L.length):(mkAt L k i).getD i (0,[]) = L.getD i (0,[]):=by
 unfold mkAt;rw [QA,List.getElem?_append_right (by rw [markF_length,QI];omega),markF_length,QI,show i - min i L.length = 0 from by omega,List.getElem?_drop,qq,<- QA]
theorem mkAt_step (L:List (Int × LU)) (k i:Nat) (a:i < L.length):(mkAt L k i).set i (((markN (L.take i) k:Nat):Int),LK (markN (L.take i) k + 1) (L.getD i (0,[])).2.length) = mkAt L k (i + 1) /\ markN (L.take (i + 1)) k = markN (L.take i) k + 1 + (L.getD i (0,[])).2.length:=by
 have e:L.take (i + 1) = L.take i ++ [L.getD i (0,[])]:=by rw [Qu a,QA,List.getElem?_eq_getElem a];rfl
 have b:(markF (L.take i) k).length = i:=by rw [markF_length,QI];omega
 refine ⟨?_,by rw [e,markN_snoc]⟩;unfold mkAt;rw [e,markF_snoc,qg a,qC _ _ (by omega),b,JF,qw,QV]
 rfl
theorem fldCells_set (L:List (Int × LU)):∀ (vs:List Value),vs.length = L.length -> ∀ i,i < L.length -> ∀ p:Int × LU,fldCells (L.set i p) vs = (fldCells L vs).set (i * 2) (.int .i64 (p.1:Int)):=by
 induction L with
 | nil=>intro vs _ i h;simp at h
 | cons q r ih =>
   intro vs h i a p
   cases vs with
   | nil=>simp at h
   | cons v t =>
     cases i with
     | zero=>rfl
     | succ i =>
       have:=ih t (by simpa using h) i (by simpa using a) p;rw [show (i + 1) * 2 = i * 2 + 1 + 1 from by omega];show Value.int .i64 (q.1:Int) :: v :: fldCells (r.set i p) t = _;rw [this]
       rfl
theorem Fs.putNo {w:World} {lo g n c:Nat} {L:List (Int × LU)} {vs:List Value} (h:Fs w lo (.slice (some ⟨g,0,none⟩) n c) L vs) (i k:Nat) (p:i < L.length) :
 Fs (w.setCell ⟨g,i * 2,none⟩ (.int .i64 (k:Int))) lo (.slice (some ⟨g,0,none⟩) n c) (L.set i ((k:Int),(L.getD i (0,[])).2)) vs:=by
 have f:(Value.slice (some ⟨g,0,none⟩) n c).ownBlock = some g:=rfl;obtain ⟨x,y,e⟩:=h.shape;have u:n = L.length:=by simp only [Value.slice.injEq] at e;exact e.2.1
 refine ⟨by rw [QQ];exact h.len,?_,?_,fun a b o m=>?_,fun a l=>?_⟩
 ·rw [QQ,fldCells_set L vs h.len i p];have row:=h.row;subst u;exact (row.stored (i * 2) _).1
 ·intro j d;rw [QQ] at d;have r:((L.set i ((k:Int),(L.getD i (0,[])).2)).getD j (0,[])).2 = (L.getD j (0,[])).2:=by
   by_cases hij:i = j
   ·subst hij;rw [FK _ _ _ _ p]
   ·rw [GV _ _ _ _ _ hij]
  rw [r];obtain ⟨t,q⟩:=h.own j d;refine ⟨t,ownsRow_setCell_other q ?_ _⟩;intro s;exact h.ap j d g s f
 ·rw [QQ] at m;exact h.sep a b o m
 ·rw [QQ] at l;exact h.ap a l
theorem Fs.putData {w w':World} {lo:Nat} {v:Value} {L:List (Int × LU)} {vs:List Value} (h:Fs w lo v L vs) (i:Nat) (l:i < L.length) (d:LU) (n:Own w' lo (vs.getD i undef) d) (p:w.grownBy w' (vs.getD i undef).ownBlock) :
 Fs w' lo v (L.set i ((L.getD i (0,[])).1,d)) vs:=by
 refine ⟨by rw [QQ];exact h.len,?_,?_,fun a b q f=>?_,fun a o=>?_⟩
 ·have e:fldCells (L.set i ((L.getD i (0,[])).1,d)) vs = fldCells L vs:=by
   rw [fldCells_set L vs h.len i l];have c:=(fldCells_at L vs h.len i l).1;obtain ⟨g,r⟩:=List.getElem?_eq_some_iff.1 c;rw [<- r,List.set_getElem_self]
  rw [QQ,e];refine World.ownsRow.kept h.row p ?_
  cases f:v.ownBlock with
  | none=>exact .inl rfl
  | some k=>exact .inr (fun e=>h.ap i l k e.symm f)
 ·intro j m;rw [QQ] at m
  by_cases hij:i = j
  ·subst hij;rw [FK _ _ _ _ l];exact n
  ·rw [GV _ _ _ _ _ hij];refine (h.own j m).grown p ?_;cases f:(vs.getD j undef).ownBlock with
   | none=>exact .inl rfl
   | some k =>
     refine .inr (fun e=>?_);rcases Nat.lt_or_gt_of_ne hij with g | g
     ·exact h.sep i j g m k e.symm f
     ·exact h.sep j i g l k f e.symm
 ·rw [QQ] at f;exact h.sep a b q f
 ·rw [QQ] at o;exact h.ap a o
theorem Fs.under {w:World} {lo:Nat} {v:Value} {L:List (Int × LU)} {vs:List Value} (h:Fs w lo v L vs):ZT v vs L.length w.heap.size :=
 ⟨fun g a=>(h.row.lt g a).2,fun i b g a=>(Fp (h.own i b) g a).2⟩
theorem markN_append (A B:List (Int × LU)):∀ k,markN (A ++ B) k = markN B (markN A k):=by
 induction A with
 | nil=>intro k;rfl
 | cons q r ih=>intro k;show markN (r ++ B) _ = _;rw [ih];rfl
theorem markN_ge (L:List (Int × LU)):∀ k,k <= markN L k:=by
 induction L with
 | nil=>intro k;exact QE _
 | cons q r ih=>intro k;have h:=ih (k + 1 + q.2.length);show k <= markN r _;omega
theorem markN_take (L:List (Int × LU)) (k i:Nat):markN (L.take i) k <= markN L k:=by
 have h:=markN_append (L.take i) (L.drop i) k;rw [qk] at h;rw [h];exact markN_ge _ _
end Z
end Go.Proofs.YtbkokcjolanpeaaGreatDoor
