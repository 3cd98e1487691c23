import Derived.Test.YtbkokcjolanpeaaGreatDoorMkF
import Derived.Test.YtbkokcjolanpeaaGreatDoorMkI
set_option maxRecDepth 100000
set_option maxHeartbeats 10000000
namespace Go.Proofs.YtbkokcjolanpeaaGreatDoor
open Go.RowKit Go.Proofs.Tryz Act
def ksC (key:LU) (j:Nat):Value:=byte ((AQ key (j / 16)).getD (j % 16) 0)
theorem Kn (key:LU) (h:key.length = 16) (n j:Nat) (b:j < 16 * n):(keysUpto key n)[j]? = some ((AQ key (j / 16)).getD (j % 16) 0):=by
 induction n with
 | zero=>omega
 | succ n ih =>
   show (keysUpto key n ++ AQ key n)[j]? = _;have a:=BS key h n;have c:=BI key h n
   by_cases e:j < 16 * n
   ·rw [List.getElem?_append_left (by omega),ih e]
   ·rw [List.getElem?_append_right (by omega),a,show j / 16 = n from by omega,show j - 16 * n = j % 16 from by omega];have:j % 16 < (AQ key n).length:=by omega
    simp [this]
theorem aC (key:LU) (h:key.length = 16):(List.range 176).map (ksC key) = (keysUpto key 11).map byte:=by
 apply qA;intro j;have a:=BS key h 11
 by_cases hj:j < 176
 ·rw [List.getElem?_map,List.getElem?_map,List.getElem?_range hj,Kn key h 11 j (by omega)]
  rfl
 ·rw [List.getElem?_eq_none (by simp;omega),List.getElem?_eq_none (by simp;omega)]
theorem Xl {w:World} {g t n:Nat} {key:LU} {z:Value} (c:key.length = 16) (h:Blk w g t (BQ (ksC key) z 176 n)) (j:Nat) (k:16 * (j + 1) <= n) (b:n <= 176):w.rangeAt g (j * 16) ((AQ key j).map byte):=by
 intro i v a;have d:=BI key c j;have f:i < 16:=by have:=(List.getElem?_eq_some_iff.1 a).1;simpa [d] using this
 rw [OI h (j * 16 + i) (by omega) b,<- a];unfold ksC;rw [show (j * 16 + i) / 16 = j from by omega,show (j * 16 + i) % 16 = i from by omega];have:i < (AQ key j).length:=by omega
 simp [this]
theorem PH (l:LU) (k:Nat) (v:UInt8) (h:k < l.length):(l.set k v).getD k 0 = v:=by
 rw [QA,List.getElem?_set_self h];rfl
theorem AK {p:Prop} (h:p):Hid p:=h
def Iv (cs:List Value):Nat -> List Value -> List Value
 | _,[]=>cs
 | o,v :: r=>Iv (cs.set o v) (o + 1) r
theorem SA (vs:List Value):∀ (cs:List Value) (o:Nat),(Iv cs o vs).length = cs.length:=by
 induction vs with
 | nil=>intro cs o;rfl
 | cons v r ih=>intro cs o;show (Iv (cs.set o v) (o + 1) r).length = _;rw [ih,QQ]
theorem PR (vs:List Value):∀ (cs:List Value) (o i:Nat),o + vs.length <= cs.length -> (Iv cs o vs)[i]? = if o <= i /\ i < o + vs.length then vs[i - o]? else cs[i]?:=by
 induction vs with
 | nil=>intro cs o i _;rw [if_neg (by simp only [qH];omega)];rfl
 | cons v r ih =>
   intro cs o i a;simp only [Qn] at a ⊢;show (Iv (cs.set o v) (o + 1) r)[i]? = _;rw [ih (cs.set o v) (o + 1) i (by rw [QQ];omega)]
   by_cases h1:i = o
   ·subst h1;rw [if_neg (by omega),if_pos (by omega),JF,List.getElem?_set_self (by omega)]
    rfl
   ·by_cases h2:o + 1 <= i /\ i < o + 1 + r.length
    ·rw [if_pos h2,if_pos (by omega),show i - o = i - (o + 1) + 1 from by omega,List.getElem?_cons_succ]
    ·rw [if_neg h2,if_neg (by omega),List.getElem?_set_ne (by omega)]
theorem Dw (vs:List Value):∀ {w:World} {g t:Nat} (cs:List Value) (o:Nat),Blk w g t cs -> Blk (w.setCells g o vs) g t (Iv cs o vs) /\ w.grownBy (w.setCells g o vs) (some g) /\ (w.setCells g o vs).heap.size = w.heap.size:=by
 induction vs with
 | nil=>intro w g t cs o h;exact ⟨h,⟨rfl,rfl,rfl,QE _,fun _ _ _=>rfl⟩,rfl⟩
 | cons v r ih =>
   intro w g t cs o h;obtain ⟨f,b,a⟩:=ih (cs.set o v) (o + 1) (h.set o v);have c:w.grownBy (w.setCell ⟨g,o,none⟩ v) (some g):=⟨rfl,rfl,rfl,by simp,fun k _ d=>qv w _ k v (fun e=>d (by rw [e]))⟩;exact ⟨f,grown_trans c b,a.trans (by simp)⟩
theorem Wy {P:Program} {ops:Array Oper} {rest:List Oper} {o:Oper} {a:Act} {w:World} {Q:Exit -> Act -> World -> Prop} (i:o.guard = none) (f:Nat) (x y:Operand) (k:o.op = .store f x y)
 (g b:Nat) (u:a.eval x = .pointer (some ⟨g,b,none⟩)) {t:Nat} {c cs:List Value} (l:a.eval y = .agg cs.toArray) (d:Blk w g t c) (v:b + cs.length <= c.length) (p:(P.info? f).map (·.size) = some cs.length) (s:cs.toArray.all (·.oneCell') = true)
 (h:∀ w',Blk w' g t (Iv c b cs) -> w.grownBy w' (some g) -> w'.heap.size = w.heap.size -> wpList P ops Q rest (a.put o.dst undef) w'):wpList P ops Q (o :: rest) a w:=by
 refine wpList_store_mid i f x y k g b cs.toArray u l ?_ (by simpa using p) s ?_
 ·intro j n;have hj':j < cs.length:=by simpa using n
  exact ⟨by rw [d.cell (b + j) (by omega)];rfl,d.free _⟩
 ·obtain ⟨q,r,m⟩:=Dw cs c b d;exact h _ q r m
theorem Xr (key:LU) (b:key.length = 16):Iv (AC 176 .u8) 0 (key.map byte) = BQ (ksC key) (.int .u8 0) 176 16:=by
 apply qA;intro i;rw [PR _ _ _ _ (by rw [AD,QD,b];omega),QD,b]
 by_cases h1:i < 16
 ·rw [if_pos ⟨by omega,by omega⟩];have a:i < key.length:=by omega
  unfold BQ;rw [List.getElem?_map,List.getElem?_map,List.getElem?_range (by omega),Nat.sub_zero,List.getElem?_eq_getElem a];show some (byte key[i]) = some (if i < 16 then ksC key i else _);rw [if_pos h1];unfold ksC;rw [show i / 16 = 0 from by omega,show i % 16 = i from by omega];show _ = some (byte (key.getD i 0));simp [a]
 ·rw [if_neg (by omega)];unfold BQ AC
  by_cases h2:i < 176
  ·rw [List.getElem?_map,List.getElem?_range h2,List.getElem?_replicate,if_pos h2];show _ = some (if i < 16 then ksC key i else _);rw [if_neg h1]
  ·rw [List.getElem?_eq_none (by rw [List.length_replicate];omega),List.getElem?_eq_none (by rw [QD,qj];omega)]
theorem Zs (key:LU) (r i:Nat) (b:1 <= r) (a:i < 16):ksC key (16 * r + i) = byte ((CL (Dq (r - 1)) (AQ key (r - 1)) (i + 1)).getD (i % 4) 0):=by
 unfold ksC;rw [show (16 * r + i) / 16 = r from by omega,show (16 * r + i) % 16 = i from by omega];obtain ⟨q,rfl⟩:∃ q,r = q + 1:=⟨r - 1,by omega⟩;rw [show q + 1 - 1 = q from rfl];show byte ((Fk (Dq q) (AQ key q)).getD i 0) = _;unfold Fk;simp [a]
theorem Tryz.zero90:(prog.info? 90).map (fun i=>(i.zero,i.size)) = some (some (.agg (AC 176 .u8).toArray),176):=by kernel_rfl
theorem Tryz.zero277:(prog.info? 277).map (fun i=>(i.zero,i.size)) = some (some (.agg #[.int .u8 0,.int .u8 0,.int .u8 0,.int .u8 0]),4):=by kernel_rfl
theorem So (key:LU) (w:World) (x:key.length = 16) :
 Calls prog 133 #[.agg (key.map byte).toArray,.agg (AT.map byte).toArray] w fun e w'=>e = .returned (.agg ((keysUpto key 11).map byte).toArray) /\ Bl w w':=by
 have hz:=(QO Tryz.zero90).1;have g7:=(QO Tryz.zero277).1;have h1:=(QO Tryz.z16).1;have a4:(key.map byte).length = 16:=by rw [QD,x]
 go_enter func133,ntmps133;go_wp2_with (first
  | (refine AL rfl 88 _ rfl _ rfl ((((Blk.new w _ _).alloc _).alloc _).alloc _) underlying88 rfl (by rw [a4];kernel_rfl) ?_)
  | (refine Wy rfl 88 _ _ rfl _ 0 rfl rfl (Blk.newAt _ 90 _ (AC 176 .u8).toArray (by simp)) (by rw [a4,AD];omega) (by rw [a4];kernel_rfl) (AF _) ?_;intro w2 M X f5))
 have A:Blk w2 (w.heap.size + 1 + 1 + 1) 90 (BQ (ksC key) (.int .u8 0) 176 16) /\ Blk w2 (w.heap.size + 1 + 1) 90 (AC 176 .u8) /\ Blk w2 (w.heap.size + 1) 240 (AT.map byte) /\ Bl w w2:=by
  refine ⟨?_,?_,?_,?_⟩
  ·rw [<- Xr key x];exact M
  ·exact Blk.grown ((Blk.newAt _ 90 _ (AC 176 .u8).toArray (by simp)).alloc _) X (by simp)
  ·exact Blk.grown (((Blk.newAt _ 240 _ (AT.map byte).toArray (by simp)).alloc _).alloc _) X (by simp)
  ·exact (((((Below.refl _ _).alloc (QE _) _).alloc (by simp) _).alloc (by simp;omega) _).alloc (by simp;omega) _).grown X (by simp;omega) (by intro k x;cases x;omega)
 obtain ⟨A3,A2,A1,Ab⟩:=A;clear M X f5
 go_loopw [6,7,8,9,10,11,42] (fun p i _ _ _ _ _ wr=>∃ r:Nat,1 <= r /\ r <= 11 /\ i = .int .i64 r /\ p = .int .u8 ((Dq (r - 1)).toNat:Int) /\ Blk wr (w.heap.size + 1 + 1 + 1) 90 (BQ (ksC key) (.int .u8 0) 176 (16 * r)) /\ Blk wr (w.heap.size + 1 + 1) 90 (AC 176 .u8) /\ Blk wr (w.heap.size + 1) 240 (AT.map byte) /\ Bl w wr) (fun _ i _ _ _ _ _ _=>11 - (intOf i).toNat)
 case atStart=>exact ⟨1,by omega,by omega,rfl,rfl,A3,A2,A1,Ab⟩
 case round =>
  clear A3 A2 A1 Ab;obtain ⟨r,f8,g6,rfl,rfl,F,M,c9,G⟩:=hrel
  by_cases hlt:r < 11
  ·have h7:(r:Int) < 11:=by omega
   obtain ⟨q,hq,g0,i1,Hq⟩:∃ q:Nat,IntKind.i64.wrap ((r:Int) - 1) = (q:Int) /\ q < 11 /\ (q:Int) < 11 /\ Hid (r = q + 1):=⟨r - 1,by rw [QH];omega,by omega,by omega,AK (by omega:r = r - 1 + 1)⟩;have C:=Xl x F q (by have:=Hq.out;omega) (by omega);have b7:=BI key x q;obtain ⟨f,e3,b9⟩:∃ f:UInt8,Dq (r - 1) = f /\ Hid (f = Dq q):=⟨_,rfl,AK (by rw [Hq.out];rfl)⟩;obtain ⟨a,a0⟩:∃ l,Hid (l = AQ key q):=⟨_,AK rfl⟩;rw [<- a0.out] at C b7;rw [e3];have a1:(a.map byte).length = 16:=by rw [QD,b7]
   go_wp2_with (first
    | (refine Qw rfl 88 _ rfl _ (q * 16) rfl (a.map byte) _ C underlying88 rfl (by rw [a1];kernel_rfl) ?_)
    | (refine store_blk rfl 88 _ _ rfl _ rfl rfl (Blk.new wr _ _) (by rw [a1];kernel_rfl) (by rw [AD,a1]) (AF _) ?_;intro d t O e6))
   obtain ⟨L,hL⟩:=uX (wr.heap.size);have i3:w.heap.size + 4 <= L:=by have:=F.lt;omega
   have g3:Blk d (w.heap.size + 1 + 1 + 1) 90 (BQ (ksC key) (.int .u8 0) 176 (16 * r)):=(F.alloc _).grown O (by simp;omega);have g2:Blk d (w.heap.size + 1 + 1) 90 (AC 176 .u8):=(M.alloc _).grown O (by simp;omega);have g1:Blk d (w.heap.size + 1) 240 (AT.map byte):=(c9.alloc _).grown O (by simp;omega);have T:Bl w d:=(G.alloc G.size _).grown O (by simp;omega) (by intro k x;cases x;omega)
   have e0:L < d.heap.size:=by rw [hL];exact t.lt
   rw [<- hL] at t ⊢;clear F M c9 G O e6 hL C;have h6:=Bq;obtain ⟨E,i2,b6⟩:∃ y:Nat,y < 256 /\ Hid (y = (a.getD 12 0).toNat):=⟨_,QW _,rfl⟩;obtain ⟨B,i7,d1⟩:∃ y:Nat,y < 256 /\ Hid (y = (a.getD 13 0).toNat):=⟨_,QW _,rfl⟩;obtain ⟨I,i5,c0⟩:∃ y:Nat,y < 256 /\ Hid (y = (a.getD 14 0).toNat):=⟨_,QW _,rfl⟩;obtain ⟨J,g8,c2⟩:∃ y:Nat,y < 256 /\ Hid (y = (a.getD 15 0).toNat):=⟨_,QW _,rfl⟩;have a8:d.cell? ⟨L,12,none⟩ = some (.int .u8 (E:Int)):=by rw [BV t 12 (by omega),b6.out]
   have a7:d.cell? ⟨L,13,none⟩ = some (.int .u8 (B:Int)):=by rw [BV t 13 (by omega),d1.out]
   have a9:d.cell? ⟨L,14,none⟩ = some (.int .u8 (I:Int)):=by rw [BV t 14 (by omega),c0.out]
   have a3:d.cell? ⟨L,15,none⟩ = some (.int .u8 (J:Int)):=by rw [BV t 15 (by omega),c2.out]
   obtain ⟨W,h4,b8⟩:∃ y:Nat,y < 256 /\ Hid (y = (AT.getD E 0).toNat):=⟨_,QW _,rfl⟩;obtain ⟨Z,e4,d2⟩:∃ y:Nat,y < 256 /\ Hid (y = (AT.getD B 0).toNat):=⟨_,QW _,rfl⟩;obtain ⟨Y,h5,b4⟩:∃ y:Nat,y < 256 /\ Hid (y = (AT.getD I 0).toNat):=⟨_,QW _,rfl⟩;obtain ⟨V,h2,c3⟩:∃ y:Nat,y < 256 /\ Hid (y = (AT.getD J 0).toNat):=⟨_,QW _,rfl⟩;have a5:d.cell? ⟨w.heap.size + 1,E,none⟩ = some (.int .u8 (W:Int)):=by rw [BV g1 E (by omega),b8.out]
   have b0:d.cell? ⟨w.heap.size + 1,B,none⟩ = some (.int .u8 (Z:Int)):=by rw [BV g1 B (by omega),d2.out]
   have a2:d.cell? ⟨w.heap.size + 1,I,none⟩ = some (.int .u8 (Y:Int)):=by rw [BV g1 I (by omega),b4.out]
   have b3:d.cell? ⟨w.heap.size + 1,J,none⟩ = some (.int .u8 (V:Int)):=by rw [BV g1 J (by omega),c3.out]
   obtain ⟨pn,b5,c5,c7⟩:∃ n:Nat,f.toNat = n /\ n < 256 /\ Hid (f.toNat = n):=⟨_,rfl,QW _,rfl⟩;rw [b5];obtain ⟨c8,d3,d6⟩:∃ z:Nat,bits BinOp.xor IntKind.u8 (Z:Int) (pn:Int) = (z:Int) /\ Hid (z = Z ^^^ pn):=⟨_,qK _ _ e4 c5,rfl⟩;have e5:(E:Int) < 256:=by omega
   have e8:(B:Int) < 256:=by omega
   have f6:(I:Int) < 256:=by omega
   have e2:(J:Int) < 256:=by omega
   clear b5;have g:∀ (b o:Nat) (v:Value),d.cell? ⟨b,o,none⟩ = some v -> (d.alloc (.cells #[Value.int IntKind.u8 0,Value.int IntKind.u8 0,Value.int IntKind.u8 0,Value.int IntKind.u8 0] 277)).cell? ⟨b,o,none⟩ = some v:=fun b o v h=>((Below.refl _ d).alloc (QE _) _).cell (p:=⟨b,o,none⟩) (QF d _ h) ▸ h;have d12':=g _ _ _ a8;have d13':=g _ _ _ a7;have d14':=g _ _ _ a9;have d15':=g _ _ _ a3;have e12':=g _ _ _ a5;have e13':=g _ _ _ b0;have e14':=g _ _ _ a2;have e15':=g _ _ _ b3;clear g;dsimp only [put];go_cut [9] (fun p wx=>p = .pointer (some ⟨d.heap.size,0,none⟩) /\ wx = (d.alloc (.cells #[.int .u8 (c8:Int),.int .u8 (Y:Int),.int .u8 (V:Int),.int .u8 (W:Int)] 277)).drew)
   case first =>
    go_region_held3 (fun w'=>w'.cell? ⟨L,12,none⟩ = some (.int .u8 (E:Int)) /\ w'.cell? ⟨L,13,none⟩ = some (.int .u8 (B:Int)) /\ w'.cell? ⟨L,14,none⟩ = some (.int .u8 (I:Int)) /\ w'.cell? ⟨L,15,none⟩ = some (.int .u8 (J:Int)) /\ w'.cell? ⟨w.heap.size + 1,E,none⟩ = some (.int .u8 (W:Int)) /\ w'.cell? ⟨w.heap.size + 1,B,none⟩ = some (.int .u8 (Z:Int)) /\ w'.cell? ⟨w.heap.size + 1,I,none⟩ = some (.int .u8 (Y:Int)) /\ w'.cell? ⟨w.heap.size + 1,J,none⟩ = some (.int .u8 (V:Int))) (first | exact ⟨a8,a7,a9,a3,a5,b0,a2,b3⟩ | exact ⟨d12',d13',d14',d15',e12',e13',e14',e15'⟩ | go_keep) (fail)
    all_goals
     go_wp2_with fail;go_meet
     case rel=>exact ⟨rfl,rfl⟩
   case rest =>
    obtain ⟨rfl,H⟩:=hcut;have W4:(CL f a 0).map byte = [.int .u8 (c8:Int),.int .u8 (Y:Int),.int .u8 (V:Int),.int .u8 (W:Int)]:=by
     show [byte (Av (a.getD 13 0) ^^^ f),byte (Av (a.getD 14 0)),byte (Av (a.getD 15 0)),byte (Av (a.getD 12 0))] = _;unfold Av;rw [<- b6.out,<- d1.out,<- c0.out,<- c2.out,d6.out,<- c7.out,b8.out,d2.out,b4.out,c3.out,<- Qs]
     rfl
    obtain ⟨j,b1⟩:=uX (d.heap.size);have U:Blk wc j 277 ((CL f a 0).map byte):=by rw [H,W4,b1];exact Blk.drew1 (Blk.new d _ _)
    have f3:Blk wc (w.heap.size + 1 + 1 + 1) 90 (BQ (ksC key) (.int .u8 0) 176 (16 * r)):=by rw [H];exact (g3.alloc _).drew1
    have f2:Blk wc (w.heap.size + 1 + 1) 90 (AC 176 .u8):=by rw [H];exact (g2.alloc _).drew1
    have f1:Blk wc (w.heap.size + 1) 240 (AT.map byte):=by rw [H];exact (g1.alloc _).drew1
    have f0:Blk wc L 88 (a.map byte):=by rw [H];exact (t.alloc _).drew1
    have s:Bl w wc:=by rw [H];exact (T.alloc T.size _).drew
    have i0:w.heap.size + 5 <= j:=by omega
    have d4:Hid (f.toNat = pn):=c7;rw [<- b1];clear H W4 g3 g2 g1 T t a8 a7 a9 a3 a5 b0 a2 b3 d12' d13' d14' d15' e12' e13' e14' e15' d3 e5 e8 f6 e2 b1 e0;go_wp2_with (refine AL rfl 88 _ rfl _ rfl f0 underlying88 rfl (by rw [a1];kernel_rfl) ?_)
    go_loopw [10,11,42] (fun _ _ c wr=>∃ i:Nat,i <= 16 /\ c = .int .i64 i /\ Blk wr j 277 ((CL f a i).map byte) /\ Blk wr (w.heap.size + 1 + 1 + 1) 90 (BQ (ksC key) (.int .u8 0) 176 (16 * r + i)) /\ Blk wr (w.heap.size + 1 + 1) 90 (AC 176 .u8) /\ Blk wr (w.heap.size + 1) 240 (AT.map byte) /\ Bl w wr) (fun _ _ c _=>16 - (intOf c).toNat)
    case atStart=>exact ⟨0,by omega,rfl,U,f3,f2,f1,s⟩
    case round =>
     clear U f3 f2 f1 f0 s;obtain ⟨i,g5,rfl,U,f3,f2,f1,s⟩:=hrel
     by_cases hil:i < 16
     ·have h8:(i:Int) < 16:=by omega
      obtain ⟨xb,lb,Xb⟩:∃ y:Nat,y < 256 /\ Hid (y = (a.getD i 0).toNat):=⟨_,QW _,rfl⟩;have f7:=CB (P:=prog) underlying88 underlying5 rfl (by kernel_rfl) (a.map byte).toArray .i64 i hil (.int .u8 (xb:Int)) (by rw [I1 a i (by omega),Xb.out]);obtain ⟨m,hm,i6,g9,Hm⟩:∃ m:Nat,Int.tmod (i:Int) 4 = (m:Int) /\ m < 4 /\ (m:Int) < 4 /\ Hid (m = i % 4):=⟨i % 4,by rw [Qk (by omega)];omega,by omega,by omega,rfl⟩;have c4:=J4 f a i;obtain ⟨v,lv,Hv⟩:∃ y:Nat,y < 256 /\ Hid (y = ((CL f a i).getD m 0).toNat):=⟨_,QW _,rfl⟩;have c1:wr.cell? ⟨j,m,none⟩ = some (.int .u8 (v:Int)):=by rw [BV U m (by omega),Hv.out]
      have e1:=U.free m;obtain ⟨D,h9,i4,f9⟩:∃ z:Nat,bits BinOp.xor IntKind.u8 (v:Int) (xb:Int) = (z:Int) /\ z < 256 /\ Hid (z = v ^^^ xb):=⟨_,qK _ _ lv lb,Qx (n:=8) lv lb,rfl⟩;have HV:Hid (Value.int .u8 (D:Int) = byte ((CL f a i).getD (i % 4) 0 ^^^ a.getD i 0)):=AK (by
       show Value.int .u8 _ = Value.int .u8 _;rw [Qs,f9.out,Hv.out,Xb.out,Hm.out])
      have b2:=U.set m (.int .u8 (D:Int));have hst':Blk (wr.setCell ⟨j,m,none⟩ (.int .u8 (D:Int))) j 277 ((CL f a (i + 1)).map byte):=by
       rw [HV.out,Hm.out,<- qP] at b2;rw [HV.out,Hm.out];exact b2
      have k3:=f3.other ⟨j,m,none⟩ (.int .u8 (D:Int)) (by simp;omega);have k2:=f2.other ⟨j,m,none⟩ (.int .u8 (D:Int)) (by simp;omega);have k1:=f1.other ⟨j,m,none⟩ (.int .u8 (D:Int)) (by simp;omega);have kb:=s.setCell (p:=⟨j,m,none⟩) (by show w.heap.size <= j;omega) (.int .u8 (D:Int));have HN:Hid (Value.int .u8 (D:Int) = ksC key (16 * r + i)):=AK (by
       rw [Zs key r i f8 hil,Hq.out,show q + 1 - 1 = q from rfl,<- b9.out,<- a0.out,HV.out];show _ = byte (((CL f a i).set (i % 4) ((CL f a i).getD (i % 4) 0 ^^^ a.getD i 0)).getD (i % 4) 0);rw [PH _ _ _ (by rw [c4];omega)])
      go_upto_region 13 with fail
      obtain ⟨d0,a6⟩:=uX (wr.setCell ⟨j,m,none⟩ (.int .u8 (D:Int)));rw [<- a6] at hst' k3 k2 k1 kb ⊢;clear a6 b2 U f3 f2 f1 s c1 e1 f7;have c1:d0.cell? ⟨j,m,none⟩ = some (.int .u8 (D:Int)):=by
       rw [BV hst' m (by rw [J4];omega)];have e:(Value.int .u8 (D:Int)) = byte ((CL f a (i + 1)).getD m 0):=by
        rw [HV.out,Hm.out];show _ = byte (((CL f a i).set (i % 4) ((CL f a i).getD (i % 4) 0 ^^^ a.getD i 0)).getD (i % 4) 0);rw [PH _ _ _ (by rw [c4];omega)]
       rw [e]
       rfl
      have hf:=k3.free (r * 16 + i);obtain ⟨u,hu⟩:∃ u,d0.cell? ⟨w.heap.size + 1 + 1 + 1,r * 16 + i,none⟩ = some u:=⟨_,k3.cell (r * 16 + i) (by rw [Bs];omega)⟩;have c6:=k3.set (16 * r + i) (ksC key (16 * r + i));rw [Cv,<- HN.out] at c6;go_region;go_wp2;go_roundw
      case rel =>
       rw [show r * 16 + i = 16 * r + i from by omega];exact ⟨i + 1,by omega,by go_num,(hst'.other _ _ (by simp;omega)).drew1,by rw [show 16 * r + (i + 1) = 16 * r + i + 1 from by omega];exact c6.drew1,(k2.other _ _ (by simp)).drew1,(k1.other _ _ (by simp)).drew1,(kb.setCell (by simp;omega) _).drew⟩
      case measure=>simp [intOf];omega
     ·obtain rfl:i = 16:=by omega
      have d5:Hid (((tXN pn:Nat):Int) = ((Dq (r + 1 - 1)).toNat:Int)):=AK (by
       rw [show r + 1 - 1 = r from rfl,Hq.out];show _ = ((tXB (Dq q)).toNat:Int);rw [CD,<- b9.out,d4.out])
      go_wp2_with (go_at_call 165;refine (Ey pn _ c5).mono ?_;rintro e w' ⟨rfl,h3⟩;subst w')
      go_roundw
      case rel=>exact ⟨r + 1,by omega,by omega,by go_num,by rw [d5.out],by rw [show 16 * (r + 1) = 16 * r + 16 from by omega];exact f3,f2,f1,s⟩
      case measure=>simp [intOf];omega
  ·obtain rfl:r = 11:=by omega
   rw [show 16 * 11 = 176 from rfl,DD,aC key x] at F;have N:((keysUpto key 11).map byte).length = 176:=by rw [QD,BS key x]
   obtain ⟨R,hR⟩:=uX (keysUpto key 11);rw [<- hR] at F N;have HR:Hid (R = keysUpto key 11):=hR;clear hR;go_wp2_with (first | (refine AL rfl 90 _ rfl _ rfl F underlying90 rfl (by rw [N];kernel_rfl) ?_) | (refine store_blk rfl 90 _ _ rfl _ rfl rfl M (by rw [N];kernel_rfl) (by rw [AD,N]) (AF _) ?_;intro w4 e9 e7 h0))
   exact Qc (v:=.agg (R.map byte).toArray) (AG results133 _ _ rfl e9 underlying90 rfl (by rw [N];kernel_rfl)) rfl ⟨by rw [HR.out],G.grown e7 G.size (by intro k x;cases x;omega)⟩
def fnS (S:Nat):Value:=.func (.func 167) #[] #[.pointer (some ⟨S,0,none⟩)]
def fnM (S:Nat):Value:=.func (.func 168) #[] #[.pointer (some ⟨S,0,none⟩)]
def aesCells (f:List Value) (a c b d:Nat):List Value:=f ++ [fnS a,fnS c,fnM b,fnM d]
def Fj:List Value:=AC 176 .u8 ++ [.nilFunc,.nilFunc,.nilFunc,.nilFunc]
theorem E9:Fj.length = 180:=by unfold Fj;rw [QC,AD];rfl
theorem Cb (a:List Value) (b d c f:Nat) (h:a.length = 176):(aesCells a b d c f).length = 180:=by simp [aesCells,h]
theorem Tryz.zero93:(prog.info? 93).map (fun i=>(i.zero,i.size)) = some (some (.agg Fj.toArray),180):=by kernel_rfl
theorem JZ (l:LU) (b d c f:Nat):(aesCells (l.map byte) b d c f).toArray.all (·.oneCell') = true:=by
 rw [qc];intro v a;simp only [aesCells,List.mem_toArray,List.mem_append] at a;rcases a with a | a
 ·exact (Array.all_eq_true_iff_forall_mem.1 (AF l)) v (by simpa using a)
 ·simp only [qx,qd,or_false] at a;rcases a with rfl | rfl | rfl | rfl <;> rfl
def Ef:Array (Nat × Nat):=#[(0,176),(176,1),(177,1),(178,1),(179,1)]
theorem YR (a b:List Value) (d g o q:Value) (L:d.cells = #[d]) (D:g.cells = #[g]) (z:o.cells = #[o]) (C:q.cells = #[q]) (m:a.length = 176) (M:b.length = 180) :
 Instr.fill (fun i=>Ef[i]?) b.toArray [(0,.agg a.toArray),(1,d),(2,g),(3,o),(4,q)] = some (a ++ [d,g,o,q]).toArray:=by
 have s:=Fq a 0 b.toArray (by simp;omega);simp only [QZ,List.take_zero,qQ,m] at s;have G:(b.drop 176).length = 4:=by rw [QN];omega
 obtain ⟨p,n,j,f,hz⟩:∃ p n j f,b.drop 176 = [p,n,j,f]:=by
  match b.drop 176,G with
  | [p,n,j,f],_=>exact ⟨p,n,j,f,rfl⟩
 rw [hz] at s;have v:Ef[0]? = some (0,176):=rfl;have y:Ef[1]? = some (176,1):=rfl;have E:Ef[2]? = some (177,1):=rfl;have I:Ef[3]? = some (178,1):=rfl;have B:Ef[4]? = some (179,1):=rfl;have r:∀ (k:Nat) (x:Value) (l:List Value),((#[x]:Array Value).zipIdx.foldl (fun (cs:Array Value) (c:Value × Nat)=>cs.setIfInBounds (k + c.2) c.1) l.toArray) = (l.set k x).toArray:=by
  intro k x l;simp
 have A:(a ++ [p,n,j,f]).set 176 d = a ++ [d,n,j,f]:=by rw [qC _ _ (by omega),m];rfl
 have t:(a ++ [d,n,j,f]).set 177 g = a ++ [d,g,j,f]:=by rw [qC _ _ (by omega),m];rfl
 have u:(a ++ [d,g,j,f]).set 178 o = a ++ [d,g,o,f]:=by rw [qC _ _ (by omega),m];rfl
 have J:(a ++ [d,g,o,f]).set 179 q = a ++ [d,g,o,q]:=by rw [qC _ _ (by omega),m];rfl
 have H:((Value.agg a.toArray).cells.zipIdx.foldl (fun (cs:Array Value) (c:Value × Nat)=>cs.setIfInBounds (0 + c.2) c.1) b.toArray) = (a ++ [p,n,j,f]).toArray:=by
  show (a.toArray.zipIdx.foldl _ b.toArray) = _;rw [<- Array.foldl_toList,Array.toList_zipIdx]
  simpa using s
 have F:(Value.agg a.toArray).cells.size = 176:=by show a.toArray.size = 176;simpa using m
 simp only [Instr.fill,v,y,E,I,B];rw [if_neg (by rw [F];simp;omega),H];rw [L,D,z,C];rw [if_neg (by simp [m]),r,A,if_neg (by simp [m]),r,t,if_neg (by simp [m]),r,u,if_neg (by simp [m]),r,J]
theorem T7 (a:List (Nat × Value)):prog.built 93 a = Instr.fill (fun i=>Ef[i]?) Fj.toArray a:=by kernel_rfl
theorem Vi (a:List Value) (b d c f:Nat) (g:a.length = 176):prog.built 93 [(0,.agg a.toArray),(1,fnS b),(2,fnS d),(3,fnM c),(4,fnM f)] = some (aesCells a b d c f).toArray:=by
 rw [T7];exact YR a Fj (fnS b) (fnS d) (fnM c) (fnM f) rfl rfl rfl rfl g E9
theorem TJ {P:Program} {op:Oper} {a:Act} {w:World} {K:Act -> World -> Prop} {Q:Exit -> Act -> World -> Prop} (d:Option Tmp) (g:op.dst = d) (t:TypeId) (b:Array (Nat × Operand)) (f:op.op = .build t b) (cs:List Value)
 (c:P.built t (b.map fun (i,x)=>(i,a.eval x)).toList = some cs.toArray) (h:K (a.put d (.agg cs.toArray)) w):op.wp P a w K Q:=by
 subst g;exact wp_build t b f (by rw [c];rfl) (by rw [c];exact h)
theorem NP (key:LU) (w:World) (hk:key.length = 16) :
 Calls prog 76 #[.agg (key.map byte).toArray] w fun e w'=>∃ S1 S2 S3 S4,e = .returned (.agg (aesCells ((keysUpto key 11).map byte) S1 S2 S3 S4).toArray) /\ Blk w' S1 240 (AT.map byte) /\ Blk w' S2 240 (invTab.map byte) /\ Blk w' S3 247 (A6 Bn) /\ Blk w' S4 247 (A6 Bc) /\ Bl w w':=by
 have hz:=(QO Tryz.zero93).1;have d0:=(QO Tryz.zero240).1;have c9:(key.map byte).length = 16:=by rw [QD,hk]
 have u:(AT.map byte).length = 256:=by rw [QD,Bq]
 have c5:((keysUpto key 11).map byte).length = 176:=by rw [QD,BS key hk]
 go_enter func76,ntmps76;go_wp2_with (first
  | (go_at_call 132;refine (Ri _).mono ?_;rintro e w1 ⟨rfl,t⟩)
  | (refine store_blk rfl 240 _ _ rfl _ rfl rfl (Blk.new w1 _ _) (by rw [u];kernel_rfl) (by rw [AD,u]) (AF _) ?_;intro V KS W d1))
 have z1:=t.size;simp only [World.size_alloc] at z1;have K0:Blk V w.heap.size 88 (key.map byte):=(((((Blk.new w _ _).alloc _).below t (by simp;omega)).alloc _)).grown W (by simp;omega);have K1:Blk V (w.heap.size + 1) 93 Fj:=((((Blk.new2 w _ _ _).below t (by simp)).alloc _)).grown W (by simp;omega);have bV:Bl w V:=(((((Below.refl _ _).alloc (QE _) _).alloc (by simp) _).trans (t.mono (by simp;omega))).alloc (by omega) _).grown W (by simp;omega) (by intro k hk;cases hk;omega)
 obtain ⟨x,c4⟩:=uX (w1.heap.size);rw [<- c4] at KS z1 ⊢;have zV:x < V.heap.size:=KS.lt;clear W d1 t hz d0 c4;have c:Hid (∀ {w'},Bl V w' -> w'.rangeAt w.heap.size 0 (key.map byte) /\ w'.rangeAt x 0 (AT.map byte)):=fun h=>⟨Ad (K0.below h K0.lt),Ad (KS.below h KS.lt)⟩;dsimp only [put];refine QJ (S:=fun w'=>w'.rangeAt w.heap.size 0 (key.map byte) /\ w'.rangeAt x 0 (AT.map byte)) (by kernel_rfl) (c.out (Below.refl _ _).drew) (fun a=>?_);refine tB 0 (.agg (key.map byte).toArray) rfl (QY (by rfl) 88 _ rfl w.heap.size 0 rfl (key.map byte) _ (fun _ h=>h.1) underlying88 rfl (by rw [c9];kernel_rfl)) a ?_
 try dsimp only [put]
 refine tB 1 (.agg (AT.map byte).toArray) rfl (QY (by rfl) 240 _ rfl x 0 rfl (AT.map byte) _ (fun _ h=>h.2) underlying240 rfl (by rw [u];kernel_rfl)) a ?_
 try dsimp only [put]
 refine tB 3 (.agg (AT.map byte).toArray) rfl (QY (by rfl) 240 _ rfl x 0 rfl (AT.map byte) _ (fun _ h=>h.2) underlying240 rfl (by rw [u];kernel_rfl)) a ?_
 try dsimp only [put]
 refine tB 5 (.agg (AT.map byte).toArray) rfl (QY (by rfl) 240 _ rfl x 0 rfl (AT.map byte) _ (fun _ h=>h.2) underlying240 rfl (by rw [u];kernel_rfl)) a ?_
 try dsimp only [put]
 refine tB 8 (.agg (AT.map byte).toArray) rfl (QY (by rfl) 240 _ rfl x 0 rfl (AT.map byte) _ (fun _ h=>h.2) underlying240 rfl (by rw [u];kernel_rfl)) a ?_
 try dsimp only [put]
 refine rdy1 2 (fun K b=>?_);go_simp;refine (So key _ hk).mono ?_;rintro e f4 ⟨rfl,s⟩;have y:=K0.drew1.below s K0.drew1.lt;have O:=KS.drew1.below s KS.drew1.lt;have T:=K1.drew1.below s K1.drew1.lt;have b1:=AB (Below.refl V.heap.size V).drew s;have e4:=b1.size;go_wp2_with fail;refine b.out _ _ (c.out b1) (fun a=>?_);clear b K
 try dsimp only [put]
 refine rdy1 4 (fun K b=>?_);go_simp;refine (In AT _).mono ?_;rintro e f2 ⟨p,rfl,d5,A,r⟩;have z:=y.below r y.lt;have a2:=O.below r O.lt;have Y:=T.below r T.lt;have b5:=AB b1 r;have d3:=b5.size;go_wp2_with fail;refine b.out _ _ (c.out b5) (fun a=>?_);clear b K
 try dsimp only [put]
 refine rdy1 6 (fun K b=>?_);go_simp;refine (O4 _).mono ?_;rintro e e7 ⟨rfl,l⟩;have I:=z.below l z.lt;have L:=a2.below l a2.lt;have a3:=Y.below l Y.lt;have b0:=A.below l A.lt;have b3:=AB b5 l;have e3:=b3.size;go_wp2_with fail;refine b.out _ _ (c.out b3) (fun a=>?_);clear b K
 try dsimp only [put]
 refine rdy1 7 (fun K b=>?_);go_simp;refine (In invTab _).mono ?_;rintro e f0 ⟨m,rfl,e0,Z,o⟩;have R:=I.below o I.lt;have a0:=L.below o L.lt;have D:=a3.below o a3.lt;have b6:=b0.below o b0.lt;have b8:=AB b3 o;have e2:=b8.size;go_wp2_with fail;refine b.out _ _ (c.out b8) (fun a=>?_);clear b K
 try dsimp only [put]
 refine rdy1 9 (fun K b=>?_);go_simp;refine (Rl _).mono ?_;rintro e e8 ⟨rfl,i⟩;have F:=R.below i R.lt;have a1:=a0.below i a0.lt;have G:=D.below i D.lt;have a7:=b6.below i b6.lt;have a4:=Z.below i Z.lt;have c0:=AB b8 i;have e5:=c0.size;go_wp2_with fail;refine b.out _ _ (c.out c0) (fun a=>?_);clear b K
 try dsimp only [put]
 refine rdy1 10 (fun K b=>?_);go_simp;refine (If Bn _).mono ?_;rintro e f1 ⟨q,rfl,d6,B,j⟩;have U:=F.below j F.lt;have C:=a1.below j a1.lt;have J:=G.below j G.lt;have a5:=a7.below j a7.lt;have b9:=a4.below j a4.lt;have a6:=AB c0 j;have d4:=a6.size;go_wp2_with fail;refine b.out _ _ (c.out a6) (fun a=>?_);clear b K
 try dsimp only [put]
 refine rdy1 11 (fun K b=>?_);go_simp;refine (Nf _).mono ?_;rintro e f3 ⟨rfl,d⟩;have M:=U.below d U.lt;have X:=C.below d C.lt;have N:=J.below d J.lt;have a9:=a5.below d a5.lt;have b2:=b9.below d b9.lt;have b7:=B.below d B.lt;have a8:=AB a6 d;have e6:=a8.size;go_wp2_with fail;refine b.out _ _ (c.out a8) (fun a=>?_);clear b K
 try dsimp only [put]
 refine rdy1 12 (fun K b=>?_);go_simp;refine (If Bc _).mono ?_;rintro e e9 ⟨n,rfl,d2,c3,f⟩;have c1:=M.below f M.lt;have c2:=X.below f X.lt;have H:=N.below f N.lt;have c6:=a9.below f a9.lt;have c8:=b2.below f b2.lt;have c7:=b7.below f b7.lt;have E:=AB a8 f;have e1:=E.size;go_wp2_with fail;refine b.out _ _ (c.out E) (fun a=>?_);clear b K
 try dsimp only [put]
 refine rdy1 13 (fun K b=>?_);rw [if_pos (by rfl)];refine TJ (some 18) rfl 93 _ rfl (aesCells ((keysUpto key 11).map byte) p m q n) ((congrArg (prog.built 93) (show _ = [(0,.agg ((keysUpto key 11).map byte).toArray),(1,fnS p),(2,fnS m),(3,fnM q),(4,fnM n)] by kernel_rfl)).trans (Vi _ _ _ _ _ c5)) ?_
 try dsimp only [put]
 refine b.out _ _ (c.out E) (fun a=>?_);clear b K
 try dsimp only [put]
 refine rdy1 14 (fun K b=>?_);rw [if_pos (by rfl)];have b4:=Cb ((keysUpto key 11).map byte) p m q n c5;refine AR rfl 93 _ _ rfl (w.heap.size + 1) rfl rfl H (by rw [b4];kernel_rfl) (by rw [b4];exact E9) (JZ _ _ _ _ _) ?_;refine b.out _ _ ⟨Ad (Blk.setRow_other c1 (by omega)),Ad (Blk.setRow_other c2 (by omega))⟩ (fun a=>?_);clear b K
 try dsimp only [put]
 refine QM (by kernel_rfl) ?_ _;go_wp2_with fail;exact Qc (v:=.agg (aesCells ((keysUpto key 11).map byte) p m q n).toArray) (AG results76 _ _ rfl (Blk.setRow H _) underlying93 rfl (by rw [b4];kernel_rfl)) rfl ⟨p,m,q,n,rfl,Blk.setRow_other c6 (by omega),Blk.setRow_other c8 (by omega),Blk.setRow_other c7 (by omega),Blk.setRow_other c3 (by omega),AN (g:=w.heap.size + 1) (bV.trans (E.mono bV.size)) (by omega) _⟩
end Go.Proofs.YtbkokcjolanpeaaGreatDoor
