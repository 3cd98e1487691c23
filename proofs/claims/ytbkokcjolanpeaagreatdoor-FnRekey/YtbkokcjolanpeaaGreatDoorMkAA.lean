import Derived.Test.YtbkokcjolanpeaaGreatDoorMkZb
set_option maxRecDepth 100000
set_option maxHeartbeats 20000000
namespace Go.Proofs.YtbkokcjolanpeaaGreatDoor
open Go.RowKit Go.Proofs.Tryz Act
def cP (n:Nat):Value:=.int .i64 (n:Int)
theorem Vt (a b:LU):Ae (a ++ b) = Ae a ++ Ae b:=by simp [Ae]
theorem OQ (l:LU):∀ i,i < 8 * l.length -> ((Ae l).getD i 0).toNat = if Bv l i = true then 1 else 0:=by
 induction l with
 | nil=>intro i h;simp at h
 | cons x r ih =>
   intro i h;have e:Ae (x :: r) = CG x ++ Ae r:=by simp [Ae]
   rw [e]
   by_cases hi:i < 8
   ·rw [QA,List.getElem?_append_left (by rw [B6];exact hi)];have b:(CG x)[i]? = some (Fd x i):=by unfold CG;rw [List.getElem?_map,List.getElem?_range hi];rfl
    rw [b];show (Fd x i).toNat = _;unfold Fd Bv;rw [show i / 8 = 0 from by omega,show i % 8 = i from by omega];show (UInt8.ofNat (x.toNat / 2 ^ (7 - i) % 2)).toNat = if x.toNat.testBit (7 - i) = true then 1 else 0
    rw [Qb,Nat.testBit_eq_decide_div_mod_eq];have a:=Nat.mod_two_eq_zero_or_one (x.toNat / 2 ^ (7 - i));rcases a with a | a <;> rw [a] <;> simp
   ·rw [QA,List.getElem?_append_right (by rw [B6];omega),B6,<- QA];rw [ih (i - 8) (by simp at h;omega)];unfold Bv;rw [show i / 8 = (i - 8) / 8 + 1 from by omega,show i % 8 = (i - 8) % 8 from by omega]
    rfl
theorem aV (n:Nat):(Bh (n:Int)).1 = 0 ↔ n ∉ tabNos:=by
 constructor
 ·intro h a;simp only [tabNos,qx,qd,or_false] at a;rcases a with rfl | rfl | rfl | rfl | rfl | rfl | rfl | rfl | rfl | rfl | rfl | rfl | rfl | rfl <;> exact absurd h (by decide)
 ·intro h;simp only [tabNos,qx,qd,or_false,not_or] at h;obtain ⟨r,k,i,o,j,l,q,m,p,f,g,b,c,d⟩:=h;unfold Bh;rw [if_neg (by omega),if_neg (by omega),if_neg (by omega),if_neg (by omega),if_neg (by omega),if_neg (by omega),if_neg (by omega),if_neg (by omega),if_neg (by omega),if_neg (by omega),if_neg (by omega),if_neg (by omega),if_neg (by omega),if_neg (by omega)]
theorem Y5 (b:LU) (k:Nat) (c:1 <= k):Eb (A5 b k) < k:=by
 unfold Eb;cases h:(A5 b k).getLast? with
 | none=>simp [List.getLastD_eq_getLast?,h];omega
 | some x =>
   have a:=List.mem_of_getLast? h;simp [List.getLastD_eq_getLast?,h];unfold A5 at a;rw [List.mem_filter,qp] at a;exact a.1
theorem Cf {a b c:World} {r y:Option Nat} (h:a.grownBy b r) (k:b.grownBy c y) (d:∀ g,y = some g -> a.heap.size <= g):a.grownBy c r :=
 ⟨k.os.trans h.os,k.tape.trans h.tape,k.output.trans h.output,QG h.size k.size,fun i f j=>(k.block i (QX f h.size) (fun e=>by first | exact absurd (d i e) (by omega) | exact absurd (d i e.symm) (by omega))).trans (h.block i f j)⟩
theorem Iq (a:LU):A5 a 1 = []:=by
 unfold A5;simp [List.range_succ]
theorem Tryz.infoInt:(prog.info? 3).map (fun i=>(i.zero,i.size,i.bytes)) = some (some (.int .i64 0),1,8):=by kernel_rfl
theorem Vy (data:LU) (t b o A N:Nat) (w:World) (hN:N = data.length) (j6:N <= 4096) (i5:N <= A) (h4:4 <= N) (i4:b ≠ t) (kP:Blk w t 159 [.slice (some ⟨b,o,none⟩) N A,.int .i64 ((4:Nat):Int)]) (hr:RowAt w (some ⟨b,o,none⟩) data) :
 Calls prog 90 #[.pointer (some ⟨t,0,none⟩)] w fun e w'=>∃ v,e = .returned (.tuple #[v,.int .i64 (mapC data:Nat)]) /\ w'.ownsRow w.heap.size 3 1 v (BW data).length ((BW data).map cP) /\ PAt (mapC data) w' t b o N A (mapE data) /\ w.grownBy w' (some t):=by
 obtain ⟨i0,hi,e6,c5,c3⟩:=Qg Tryz.infoInt;obtain ⟨j0,hj,m2,l5,l1⟩:=Qg Tryz.info5
 by_cases h12:N < 12
 ·have hc:mapC data = 1:=by
   unfold mapC;rw [if_pos];unfold Cr
   split <;> omega
  have i7:BW data = []:=by unfold BW;rw [hc];rfl
  rw [hc,i7];have z:=AA (GQ N 4 8 t A _ w (by omega) h4 (by omega) kP);clear hc i7 hN;go_enter func90,ntmps90;go_wp2_with (go_at_call 88;refine z.out.mono ?_;rintro e wt ⟨rfl,l2⟩)
  go_ret2;exact ⟨_,rfl,Qa _ _ _ _,(fun h=>absurd h (by decide)),ES (grown_of_below (Below.refl _ _) _)⟩
 have k5:=kP.lt;have h0:=AA (GT N 4 8 t b o (o + 4) A w j6 (by omega) i5 (.inr ⟨by omega,rfl⟩) kP);obtain ⟨i,X⟩:=uX ((data.drop 4).take 8);have a5:i.length = 8:=by rw [X,QI,QN];omega
 have h5:Bv i 0 = Bv (data.drop 4) 0:=by
  have e:((data.drop 4).take 8).getD 0 0 = (data.drop 4).getD 0 0:=by cases (data.drop 4) <;> rfl
  unfold Bv;rw [X,show 0 / 8 = 0 from rfl,e]
 have b8:((Ae i).getD 0 0).toNat = if Bv i 0 = true then 1 else 0:=OQ i 0 (by omega)
 obtain ⟨q,hq⟩:=uX (Bv (data.drop 4) 0);rw [h5,<- hq] at b8;obtain ⟨E,U⟩:=uX (Cr data);have R:E = if q = true then 20 else 12:=by rw [U,hq];rfl
 obtain ⟨m,hm⟩:=uX (E - 4);obtain ⟨a,e9⟩:=uX ((data.drop 4).take m);have r:Hid (mapC data = (if N < E then 1 else if C9 (A5 a (8 * m + 1)) = false then 3 else if 12 < E /\ Eb (A5 a (8 * m + 1)) <= 64 then 3 else 0) /\ BW data = (if mapC data = 0 then A5 a (8 * m + 1) else []) /\ mapE data = (if mapC data = 0 then E else 0)):=by
  have e:DL data = A5 a (8 * m + 1):=by unfold DL;rw [e9,hm,U]
  refine ⟨?_,?_,?_⟩
  ·unfold mapC;rw [e,<- U,<- hN]
  ·unfold BW;rw [e]
  ·unfold mapE;rw [<- U]
 obtain ⟨RC,i3⟩:=uX (mapC data);obtain ⟨RN,j2⟩:=uX (BW data);obtain ⟨RE,j5⟩:=uX (mapE data);rw [<- i3,<- j2,<- j5] at r ⊢;have HQ:=AA R;have HN:=AA hN;have HM:=AA hm;have c8:=AA e9;have b3:=AA X;have R1:Hid (∀ {x:World},RowAt x (some ⟨b,o,none⟩) data -> RowAt x (some ⟨b,o + 4,none⟩) i):=by
  intro x hx;rw [X];exact (RowAt.drop hx 4).take 8
 have f2:=AA (fun (V:World) (h:RowAt V (some ⟨b,o + 4,none⟩) i)=>IM (some ⟨b,o + 4,none⟩) (A - 4) i V (by omega) h);rw [a5] at f2;have b1:(Ae i).length = 64:=by rw [B4,a5]
 clear i3 j2 j5 hN U hq R hm e9 X h5;go_enter func90,ntmps90;go_upto_region 4 with (go_at_call 88;refine h0.out.mono ?_;rintro e w1 ⟨rfl,d5,g1⟩)
 have f0:=RowAt.grown hr g1 (by intro x hx e;cases hx;cases e;exact i4 rfl)
 go_wp2_with fail;refine (f2.out _ (R1.out f0)).mono ?_;rintro e w2 ⟨v2,rfl,Z,b2⟩;obtain ⟨a2,c2,rfl,f,-,-,-⟩:=(AO.own Z).shape;rw [b1] at Z ⊢;obtain ⟨g6,o6,rfl,f8⟩:=f.at (k:=0) (by omega);have j3:=f8 0 (by omega);rw [qq] at j3;obtain ⟨y0,e4⟩:=uX (((Ae i).getD 0 0).toNat);rw [<- e4] at j3 b8;have a1:=grown_trans g1 (grown_of_below b2 (some t));have T:=d5.below b2 d5.lt;have e5:=f0.below b2;have e7:=g1.size;have own2':=ownR_mono Z e7;have J:Hid (w2.ownsRow w.heap.size 5 1 (.slice (some ⟨g6,o6,none⟩) 64 c2) 64 ((Ae i).map byte)):=by
  have h:=own2';unfold AO at Z;rw [b1] at h;exact h
 have m5:((y0:Int) == 1) = q:=by
  rw [b8];cases q <;> rfl
 clear e4 f8 Z own2' f h0 f2 b2 d5 f0 g1 hr kP b8;go_upto_if 29 with fail
 go_cut [6] (fun bv V=>∃ g7 c7,bv = .slice (some ⟨g7,0,none⟩) (8 * m) c7 /\ V.ownsRow w.heap.size 5 1 (.slice (some ⟨g7,0,none⟩) (8 * m) c7) (8 * m) ((Ae a).map byte) /\ a.length = m /\ ¬ N < E /\ Blk V t 159 [.slice (some ⟨b,o,none⟩) N A,.int .i64 (E:Int)] /\ w.grownBy V (some t))
 case first =>
  cases q
  ·have U:=HQ.out;rw [if_neg (by decide)] at U;subst U;have e8:m = 8:=HM.out;subst e8;have m1:a = i:=by rw [c8.out,b3.out]
   subst m1;have k3:o6 = 0:=by
    rcases J.out.2 with ⟨hv,hz⟩ | ⟨g,c,k9,hv,-⟩
    ·cases hv
    ·cases hv;rfl
   subst k3;have b6:=AA (And.intro J.out (And.intro T a1));clear J r HQ;go_wp2_with fail;go_meet
   case rel=>exact ⟨g6,c2,rfl,b6.out.1,a5,h12,b6.out.2.1,b6.out.2.2⟩
  ·have U:=HQ.out;rw [if_pos rfl] at U;subst U;have e8:m = 16:=HM.out;subst e8
   by_cases h20:N < 20
   ·rw [if_pos h20] at r;obtain ⟨D,f,s⟩:=r.out;rw [D] at f s;rw [if_neg (by decide)] at f s;subst D f s;have z:=AA (GQ N 12 8 t A _ w2 (by omega) (by omega) (by omega) T);have HG:=AA a1;clear J r HQ T a1;go_wp2_with (go_at_call 88;refine z.out.mono ?_;rintro e wt ⟨rfl,l2⟩)
    go_ret2;exact ⟨_,rfl,Qa _ _ _ _,(fun h=>absurd h (by decide)),ES HG.out⟩
   have z:=AA (GT N 12 8 t b o (o + 12) A w2 j6 (by omega) i5 (.inr ⟨by omega,rfl⟩) T);obtain ⟨B,b9⟩:=uX ((data.drop 12).take 8);have d3:B.length = 8:=by have:=HN.out;rw [b9,QI,QN];omega
   have R2:Hid (∀ {x:World},RowAt x (some ⟨b,o,none⟩) data -> RowAt x (some ⟨b,o + 12,none⟩) B):=by
    intro x hx;rw [b9];exact (RowAt.drop hx 12).take 8
   have f1:a = i ++ B:=by rw [c8.out,b3.out,b9,show (16:Nat) = 8 + 8 from rfl,List.take_add,List.drop_drop]
   have f5:=AA (fun (V:World) (h:RowAt V (some ⟨b,o + 12,none⟩) B)=>IM (some ⟨b,o + 12,none⟩) (A - 12) B V (by omega) h);rw [d3] at f5;have e2:(Ae B).length = 64:=by rw [B4,d3]
   have k6:a.length = 16:=by rw [f1,QC,a5,d3]
   have m0:=AA f1;clear f1 b9 HQ r;have l9:=T.lt;have m4:t < w.heap.size:=k5;have i6:=J.out.lt;go_upto_region 10 with (go_at_call 88;refine z.out.mono ?_;rintro e w3 ⟨rfl,f4,g3⟩)
   have j4:=RowAt.grown e5 g3 (by intro x hx e;cases hx;cases e;exact i4 rfl)
   have h3:=World.ownsRow.kept J.out g3 (.inr (fun e=>by have:=(i6 _ e).1;omega));have i9:=grown_trans a1 g3;clear z T a1 g3 e5;go_wp2_with fail;refine (f5.out _ (R2.out j4)).mono ?_;rintro e w4 ⟨v4,rfl,d1,b4⟩;obtain ⟨a4,c4,rfl,r4,-,-,-⟩:=(AO.own d1).shape;rw [e2];obtain ⟨g8,o8,rfl,h8⟩:=Js r4 (by omega);have e1:=Am h3 b4;have j8:=f4.below b4 f4.lt;have d0:=grown_trans i9 (grown_of_below b4 (some t));have l4:=d0.size;have b5:=e1.lt;clear h3 f4 b4 i9 j4 d1 f5 R2;go_wp2_with (at_builtin;refine Qq _ rfl _ _ 22 rfl w.heap.size 5 j0 (.int .u8 0) 1 1 underlying22 hj m2 l5 l1 rfl (by decide) _ _ _ rfl e1 ⟨g8,o8,none⟩ 64 c4 ((Ae B).map byte) rfl (by rw [QD,e2]) (by intro j u H;rw [qZ];exact h8 j u H) (by intro u H;simp only [Qz] at H;obtain ⟨y,-,rfl⟩:=H;rfl) (by unfold maxLen;omega) (by omega) l4 ?_;intro v5 w5 p d _ j9)
   have k7:=j8.grown d (fun e=>by have:=(b5 _ e.symm).1;omega);have l8:=Cf d0 d (fun g hg=>(b5 g hg).1);rcases p.2 with ⟨hv,hz⟩ | ⟨g7,c7,k9,hv,f6⟩
   ·omega
   ·subst hv;have k8:Hid (w5.ownsRow w.heap.size 5 1 (.slice (some ⟨g7,0,none⟩) (64 + 64) c7) (64 + 64) ((Ae a).map byte)):=by
     rw [m0.out,Vt,Qf];exact p
    clear p f6 j9 d e1 h8 r4 j8 d0 b5 J i6;go_wp2_with fail;go_meet
    case rel=>exact ⟨g7,c7,rfl,k8.out,k6,h20,k7,l8⟩
 case rest =>
  obtain ⟨g7,c7,rfl,b0,f7,g0,b7,gc⟩:=hcut;rw [if_neg g0] at r;have l6:Hid (E = if q = true then 20 else 12):=HQ;have m8:m = 8 \/ m = 16:=by have h1:=HM.out;have h2:=HQ.out;cases q <;> simp at h2 <;> omega
  obtain ⟨M,h7⟩:=uX (8 * m);rw [<- h7] at b0 r ⊢;have m7:M <= 128:=by omega
  have h9:Hid (∀ {x:World},Bl wc x -> ∀ k,k < M -> x.cell? ⟨g7,k,none⟩ = some (.int .u8 ((if Bv a k = true then 1 else 0:Nat):Int))):=by
   intro y hy k hk;have ox:=Am b0 hy;have c:=ox.cellAt k (by omega);have g9:k < (Ae a).length:=by rw [B4,f7];omega
   rw [c,List.getElem?_map,List.getElem?_eq_getElem g9];have e:=OQ a k (by omega);rw [QA,List.getElem?_eq_getElem g9] at e;rw [<- e]
   rfl
  have l9:=b7.lt;clear b0 h7 c8 b3 J T a1 e5 R1 f7 b1 a5 e7 g0 HQ HM;go_wp2_with fail
  go_loopw [10,11,43] (fun ov hv iv wr=>∃ k:Nat,k <= M /\ iv = .int .i64 (k:Int) /\ hv = .bool (decide (64 < Eb (A5 a (k + 1)))) /\ wr.ownsRow wc.heap.size 3 1 ov (A5 a (k + 1)).length ((A5 a (k + 1)).map cP) /\ Hid (C9 (A5 a (k + 1)) = true) /\ Bl wc wr) (fun _ _ iv _=>M - (intOf iv).toNat)
  case atStart=>exact ⟨0,QU _,rfl,by rw [Iq];rfl,by rw [Iq];exact Qa _ _ _ _,by rw [Iq];exact (rfl:C9 [] = true),Below.refl _ _⟩
  case round =>
   rename_i ov _ _
   obtain ⟨k,hk,rfl,rfl,l,z,G⟩:=hrel
   by_cases hlt:k < M
   ·have k4:(k:Int) < (M:Int):=by omega
    have ck:=h9.out G k hlt;have k0:=Fx a (k + 1);have i2:=AA (Y5 a (k + 1) (by omega))
    by_cases hk0:k = 0
    ·subst hk0;have H2:Hid (A5 a (0 + 1 + 1) = A5 a (0 + 1)):=(Im a).trans (Iq a).symm;obtain ⟨L,hL⟩:=uX (A5 a (0 + 1));rw [<- hL] at l z H2 ⊢;obtain ⟨yb,g5⟩:∃ y:Nat,y = (if Bv a 0 = true then 1 else 0):=⟨_,rfl⟩;rw [<- g5] at ck;clear hL g5;go_wp2_with fail;go_roundw
     case rel=>exact ⟨1,by omega,rfl,by rw [H2.out],by rw [H2.out];exact l,by rw [H2.out];exact z,G⟩
     case measure=>simp [intOf];omega
    ·have m3:¬ (k:Int) = 0:=by omega
     have a3:=AA (PS a (k + 1));have a0:=AA (Oa a (k + 1) (by omega));have a8:=AA (fun n=>OT a (k + 1) n (by omega));rw [show k + 1 - 1 = k from rfl] at a3 a0 a8;obtain ⟨bt,i1⟩:=uX (Bv a k);rw [<- i1] at ck a3 a0 a8;clear i1;obtain ⟨L,hL⟩:=uX (A5 a (k + 1));rw [<- hL] at l z a3 a0 k0 i2 ⊢;clear hL;cases bt
     ·have e0:=AA (a3.out rfl);have l3:wr.cell? ⟨g7,k,none⟩ = some (.int .u8 0):=ck;clear a3 a0 a8 ck;go_wp2_with fail;go_roundw
      case rel=>exact ⟨k + 1,by omega,by go_num,by rw [e0.out],by rw [e0.out];exact l,by rw [e0.out];exact z,G⟩
      case measure=>simp [intOf];omega
     ·have d2:=AA (a0.out rfl);have h6:=AA (a8.out (M + 1) rfl (by omega));have l3:wr.cell? ⟨g7,k,none⟩ = some (.int .u8 1):=ck;clear a3 a0 a8 ck;obtain ⟨hb,c9⟩:=uX (decide (64 < Eb L));rw [<- c9];have l7:=AA c9;have l0:IntKind.i64.wrap ((k:Int) + 1) = ((k + 1:Nat):Int):=by rw [QH];omega
      obtain ⟨C,e3⟩:=uX (k + 1);rw [<- e3] at l0 d2 h6;have I:=AA e3;have a6:=AA (fun (V:World)=>Dl (C:Int) V);have a9:=AA (aV C);obtain ⟨kd,c6⟩:=uX ((Bh (C:Int)).1);obtain ⟨ke,j1⟩:=uX ((Bh (C:Int)).2);rw [<- c6,<- j1] at a6;rw [<- c6] at a9;clear c6 j1 e3 c9
      by_cases hin:C ∈ tabNos
      ·have c0:¬ kd = 0:=fun e=>(a9.out.1 e) hin;have f3:=G.alloc G.size (Obj.cells #[.int .i64 (C:Int)] 3);have m6:=G.size;have d6:=AA hin;clear a9 hin;have F:Hid (A5 a (k + 1 + 1) = L ++ [C]):=by rw [<- I.out];exact d2.out
       have f9:=i2.out;have c1:=I.out;have d4:=AA (And.intro f9 c1);clear f9 c1 d2;cases hb
       ·by_cases h64:64 <= k
        ·have k2:(64:Int) <= (k:Int):=by omega
         go_wp2_with (first
          | (go_at_call 82;refine (a6.out _).mono ?_;rintro e w5 ⟨rfl,O⟩;have Y:=O.symm;subst Y)
          | (at_builtin;refine Qi _ rfl _ _ 42 rfl wc.heap.size 3 i0 (.int .i64 0) 1 8 underlying42 hi e6 c5 c3 rfl (by decide) _ _ _ rfl (l.alloc _) ⟨wr.heap.size,0,none⟩ 1 1 [.int .i64 (C:Int)] rfl rfl (Be (Blk.new wr 3 #[.int .i64 (C:Int)])) (by intro u H;simp at H;subst H;rfl) (by unfold maxLen;omega) (by omega) (by simp;omega) ?_;intro v5 w5 p d _))
         have a7:=f3.grown d (by simp;omega) (fun g hg=>(l.lt g hg).1);go_roundw
         case rel=>exact ⟨k + 1,by omega,by rw [I.out],by rw [F.out,F4];exact congrArg Value.bool (by rw [QK (by have:=d4.out;omega)]),by rw [F.out,QC,Qf];exact p,by rw [F.out];exact (G9 _ _).trans (by rw [z.out,QK d6.out];rfl),a7⟩
         case measure=>have j7:=I.out;simp [intOf];omega
        ·have k2:¬ (64:Int) <= (k:Int):=by omega
         go_wp2_with (first
          | (go_at_call 82;refine (a6.out _).mono ?_;rintro e w5 ⟨rfl,O⟩;have Y:=O.symm;subst Y)
          | (at_builtin;refine Qi _ rfl _ _ 42 rfl wc.heap.size 3 i0 (.int .i64 0) 1 8 underlying42 hi e6 c5 c3 rfl (by decide) _ _ _ rfl (l.alloc _) ⟨wr.heap.size,0,none⟩ 1 1 [.int .i64 (C:Int)] rfl rfl (Be (Blk.new wr 3 #[.int .i64 (C:Int)])) (by intro u H;simp at H;subst H;rfl) (by unfold maxLen;omega) (by omega) (by simp;omega) ?_;intro v5 w5 p d _))
         have a7:=f3.grown d (by simp;omega) (fun g hg=>(l.lt g hg).1);go_roundw
         case rel=>exact ⟨k + 1,by omega,by rw [I.out],by rw [F.out,F4];exact congrArg Value.bool (by exact decide_eq_decide.2 (by have:=d4.out;omega)),by rw [F.out,QC,Qf];exact p,by rw [F.out];exact (G9 _ _).trans (by rw [z.out,QK d6.out];rfl),a7⟩
         case measure=>have j7:=I.out;simp [intOf];omega
       ·go_wp2_with (first
         | (go_at_call 82;refine (a6.out _).mono ?_;rintro e w5 ⟨rfl,O⟩;have Y:=O.symm;subst Y)
         | (at_builtin;refine Qi _ rfl _ _ 42 rfl wc.heap.size 3 i0 (.int .i64 0) 1 8 underlying42 hi e6 c5 c3 rfl (by decide) _ _ _ rfl (l.alloc _) ⟨wr.heap.size,0,none⟩ 1 1 [.int .i64 (C:Int)] rfl rfl (Be (Blk.new wr 3 #[.int .i64 (C:Int)])) (by intro u H;simp at H;subst H;rfl) (by unfold maxLen;omega) (by omega) (by simp;omega) ?_;intro v5 w5 p d _))
        have a7:=f3.grown d (by simp;omega) (fun g hg=>(l.lt g hg).1);go_roundw
        case rel=>exact ⟨k + 1,by omega,by rw [I.out],by rw [F.out,F4];exact congrArg Value.bool (by rw [QK (by have h:=JD l7.out.symm;have:=d4.out;omega)]),by rw [F.out,QC,Qf];exact p,by rw [F.out];exact (G9 _ _).trans (by rw [z.out,QK d6.out];rfl),a7⟩
        case measure=>have j7:=I.out;simp [intOf];omega
      ·have c0:kd = 0:=a9.out.2 hin;have hf:=Rw _ C h6.out hin;rw [if_pos hf] at r;obtain ⟨D,f,s⟩:=r.out;rw [D] at f s;rw [if_neg (by decide)] at f s;subst D f s c0;clear a9 hf hin;go_wp2_with (go_at_call 82;refine (a6.out _).mono ?_;rintro e w5 ⟨rfl,O⟩;have Y:=O.symm;subst Y)
       go_ret2;exact ⟨_,rfl,Qa _ _ _ _,(fun h=>absurd h (by decide)),grown_trans gc (grown_of_below G (some t))⟩
   ·have k4:¬ (k:Int) < (M:Int):=by omega
    obtain rfl:k = M:=by omega
    rw [if_neg (by rw [z.out];decide)] at r;obtain ⟨L,hL⟩:=uX (A5 a (k + 1));rw [<- hL] at l r ⊢;obtain ⟨la,i8⟩:=uX (Eb L);rw [<- i8] at r ⊢;have W:=AA (And.intro (ownR_mono l gc.size) (And.intro (b7.below G b7.lt) (grown_trans gc (grown_of_below G (some t)))));clear hL i8 l z b7 gc h9;have R:=l6.out;cases q
    ·rw [if_neg (by decide)] at R;subst R;rw [if_neg (by omega)] at r;obtain ⟨D,f,s⟩:=r.out;rw [D] at f s;rw [if_pos rfl] at f s;subst D f s;go_wp2_with fail;go_ret2;exact ⟨_,rfl,W.out.1,(fun _=>W.out.2.1),W.out.2.2⟩
    ·rw [if_pos rfl] at R;subst R
     by_cases h64:64 < la
     ·rw [if_neg (by omega)] at r;obtain ⟨D,f,s⟩:=r.out;rw [D] at f s;rw [if_pos rfl] at f s;subst D f s;rw [QK h64];go_wp2_with fail;go_ret2;exact ⟨_,rfl,W.out.1,(fun _=>W.out.2.1),W.out.2.2⟩
     ·rw [if_pos (by omega)] at r;obtain ⟨D,f,s⟩:=r.out;rw [D] at f s;rw [if_neg (by decide)] at f s;subst D f s;rw [QT h64];go_wp2_with fail;go_ret2;exact ⟨_,rfl,Qa _ _ _ _,(fun h=>absurd h (by decide)),W.out.2.2⟩
end Go.Proofs.YtbkokcjolanpeaaGreatDoor
