import Derived.Test.YtbkokcjolanpeaaGreatDoorMkD
import Derived.Laws.AppendOwn
import Derived.Deep.AppendLies
set_option maxRecDepth 100000
set_option maxHeartbeats 5000000
namespace Go.Proofs.YtbkokcjolanpeaaGreatDoor
open Go.RowKit Go.Proofs.Tryz Act
theorem KJ {w:World} {g t:Nat} {a b c:List Value} (h:Blk w g t (a ++ b ++ c)):w.rangeAt g a.length b:=by
 intro j v d;have i:j < b.length:=(List.getElem?_eq_some_iff.1 d).1;have f:a.length + j < (a ++ b ++ c).length:=by simp;omega
 rw [h.cell (a.length + j) f,<- List.getElem?_eq_getElem f,QV,List.getElem?_append_right (by omega),Nat.add_sub_cancel_left,List.getElem?_append_left i,d]
theorem Ia {w:World} {g t:Nat} {a b:List Value} (h:Blk w g t (a ++ b)):w.rangeAt g 0 a:=KJ (a:=[]) (b:=a) (c:=b) h
theorem JW {w:World} {g t n:Nat} {a b:List Value} (h:Blk w g t (a ++ b)) (d:a.length = n):w.rangeAt g n b:=by
 subst d;exact KJ (a:=a) (b:=b) (c:=[]) (by rw [qM];exact h)
theorem Ad {w:World} {g t:Nat} {a:List Value} (h:Blk w g t a):w.rangeAt g 0 a:=KJ (a:=[]) (b:=a) (c:=[]) (by rw [qM];exact h)
theorem Vr {w:World} {b a:Nat} {bs:LU} (d:∀ i,i < bs.length -> w.cell? ⟨b,a + i,none⟩ = some (.int .u8 ((bs.getD i 0).toNat:Int))):w.rangeAt b a (bs.map byte):=by
 intro j v g;obtain ⟨c,f⟩:=List.getElem?_eq_some_iff.1 g;rw [QD] at c;rw [d j c,<- f];simp [byte,c]
theorem AU {w w':World} {b a:Nat} {cs:List Value} (h:w.rangeAt b a cs) (d:Bl w w'):w'.rangeAt b a cs:=by
 intro j v c;rw [d.cell (p:=⟨b,a + j,none⟩) (QF w _ (h j v c))];exact h j v c
theorem RowAt.range {w:World} {c:Option Addr} {bs:LU} (h:RowAt w c bs) (f:0 < bs.length):∃ b a,c = some ⟨b,a,none⟩ /\ w.rangeAt b a (bs.map byte):=by
 obtain ⟨b,a,rfl,d⟩:=h.at f;exact ⟨b,a,rfl,Vr d⟩
theorem Un {key:LU} (h:key.length = 16):(key.take 8).length = 8:=by rw [QI,h];rfl
theorem ZN {key:LU} (h:key.length = 16):(key.drop 8).length = 8:=by rw [QN,h]
def AJ (n:Nat):LU:=List.replicate n 0
theorem Kb (n:Nat):AC n .u8 = (AJ n).map byte:=by simp [AC,AJ,byte]
theorem Uj (b:LU) (n:Nat) (h:b.length = n):AE (AJ n) b = b:=by
 apply qL
 ·simp [AE,AJ,h]
 ·intro i a c;simp [AE,AJ]
theorem OM (a b:LU):AE a b = AE b a:=by
 unfold AE;rw [List.zipWith_comm]
 congr 1
 funext x y
 exact UInt8.xor_comm _ _
def CP (n:Nat) (a:List LU):Nat -> LU
 | 0=>AJ n
 | k + 1=>AE (CP n a k) (a.getD k [])
theorem Kt (n:Nat) (a:List LU) (c:∀ b ∈ a,b.length = n) (k:Nat) (g:k <= a.length):(CP n a k).length = n:=by
 induction k with
 | zero=>simp [CP,AJ]
 | succ k ih =>
   have d:=ih (by omega);have f:(a.getD k []).length = n:=by
    have:a.getD k [] = a[k]:=by simp [show k < a.length from by omega]
    rw [this];exact c _ (Qd _)
   show (AE (CP n a k) (a.getD k [])).length = n;rw [AW _ _ (by omega),d]
theorem PO (n:Nat) (a b:LU) (c:a.length = n):CP n [a,b] 2 = AE a b:=by
 show AE (AE (AJ n) a) b = AE a b;rw [Uj a n c]
def GD (a b:LU) (j:Nat):LU:=(AE a b).take j ++ a.drop j
theorem Oh (a b:LU):GD a b 0 = a:=by simp [GD]
theorem Ru (a b:LU) (n:Nat) (c:a.length = n) (d:b.length = n):GD a b n = AE a b:=by
 unfold GD;rw [QS (by rw [AW _ _ (by omega)];omega),qE (by omega),qM]
theorem Lm (a b:LU) (j n:Nat) (d:a.length = n) (f:b.length = n) (c:j <= n):(GD a b j).length = n:=by
 unfold GD;rw [QC,QI,QN,AW _ _ (by omega)];omega
theorem Te (a b:LU) (j n:Nat) (f:a.length = n) (g:b.length = n) (d:j < n):(GD a b j)[j]? = some (a[j]'(by omega)):=by
 unfold GD;have c:((AE a b).take j).length = j:=by rw [QI,AW _ _ (by omega)];omega
 rw [List.getElem?_append_right (by omega),c,JF,List.getElem?_drop,qq,List.getElem?_eq_getElem]
theorem Pt (a b:LU) (j n:Nat) (c:a.length = n) (g:b.length = n) (i:j < n):(GD a b j).set j ((a[j]'(by omega)) ^^^ (b[j]'(by omega))) = GD a b (j + 1):=by
 unfold GD;have d:(AE a b).length = n:=by rw [AW _ _ (by omega),c]
 have f:((AE a b).take j).length = j:=by rw [QI,d];omega
 rw [qC _ _ (by omega),f,JF,qg (show j < a.length by omega),qw,B3 (AE a b) j (by omega),Jp a b j (by omega) (by omega),QV,List.singleton_append]
theorem Tryz.zero88:(prog.info? 88).map (fun i=>(i.zero,i.size)) = some (some (.agg (AC 16 .u8).toArray),16):=by kernel_rfl
theorem Va (a:List LU) (m g s M:Nat) (w:World) (hm:a.length = m) (W:m <= 1048576) (F:∀ b ∈ a,b.length = 16) (G:∀ k,k < m -> w.rangeAt g (s + k * 16) ((a.getD k []).map byte)) :
 Calls prog 32 #[.slice (some ⟨g,s,none⟩) m M] w fun e w'=>e = .returned (.agg ((CP 16 a m).map byte).toArray) /\ Bl w w':=by
 have hz:=(QO Tryz.zero88).1;have t:∀ k,k <= m -> (CP 16 a k).length = 16:=fun k r=>Kt 16 a F k (by omega);have z:∀ k,k < m -> (a.getD k []).length = 16:=by
  intro k r;have:a.getD k [] = a[k]:=by simp [show k < a.length from by omega]
  rw [this];exact F _ (Qd _)
 go_enter func32,ntmps32;go_wp2
 go_loopw [5,6,7,10,15] (fun _ _ _ i _ wr=>∃ k:Nat,k <= m /\ i = .int .i64 k /\ Blk wr (w.heap.size + 1) 88 ((CP 16 a k).map byte) /\ Blk wr w.heap.size 88 (AC 16 .u8) /\ Bl w wr) (fun _ _ _ i _ _=>m - (intOf i).toNat)
 case atStart=>exact ⟨0,QU _,rfl,by rw [show CP 16 a 0 = AJ 16 from rfl,<- Kb];exact Blk.new2 w _ _ _,(Blk.new w _ _).alloc _,((Below.refl _ _).alloc (QE _) _).alloc (by simp) _⟩
 case round =>
  obtain ⟨k,r,rfl,d,l,c⟩:=hrel
  by_cases hlt:k < m
  ·have u:=AU (G k hlt) c;have f:=z k hlt;have n:=t k r;have q:CP 16 a (k + 1) = AE (CP 16 a k) (a.getD k []):=rfl;obtain ⟨X,N⟩:=uX (a.getD k []);obtain ⟨A,L⟩:=uX (CP 16 a k);rw [<- N] at u f q;rw [<- L] at n q d;have o:(X.map byte).length = 16:=by rw [QD,f]
   have V:(k:Int) < (m:Int):=by omega
   have HS:Hid (CP 16 a (k + 1) = AE A X):=q;clear N L q t z G;go_wp2_with (first
    | (refine Qw rfl 88 _ rfl g (s + k * 16) rfl (X.map byte) _ u underlying88 rfl (by rw [o];kernel_rfl) ?_)
    | (refine store_blk rfl 88 _ _ rfl _ rfl rfl (Blk.new wr _ _) (by rw [o];kernel_rfl) (by rw [o];exact AD _ _) (AF _) ?_;intro w3 y p T)
    | (refine AL rfl 88 _ rfl _ rfl y underlying88 rfl (by rw [o];kernel_rfl) ?_))
   have l1:=d.lt;have J:=(d.alloc (.cells (AC 16 .u8).toArray 88)).grown p (by simp;omega);have H:=(l.alloc (.cells (AC 16 .u8).toArray 88)).grown p (by simp;omega);have R:=(c.alloc c.size (.cells (AC 16 .u8).toArray 88)).grown p (by simp;omega) (by intro j E;cases E;omega)
   clear d l c y p T u
   go_loopw [6,7,15] (fun _ _ i wr=>∃ j:Nat,j <= 16 /\ i = .int .i64 j /\ Blk wr (w.heap.size + 1) 88 ((GD A X j).map byte) /\ Blk wr w.heap.size 88 (AC 16 .u8) /\ Bl w wr) (fun _ _ i _=>16 - (intOf i).toNat)
   case atStart=>exact ⟨0,QU _,rfl,by rw [Oh];exact J,H,R⟩
   case round =>
    clear J H R;obtain ⟨j,E,rfl,d,l,c⟩:=hrel
    by_cases hjl:j < 16
    ·have U:=CB (P:=prog) underlying88 underlying5 rfl (by kernel_rfl) (X.map byte).toArray .i64 j hjl (.int .u8 (X[j].toNat:Int)) (by simp [f,hjl,byte]);have B:=Lm A X j 16 n f E;have C:=Te A X j 16 n f hjl;have hc:wr.cell? ⟨w.heap.size + 1,j,none⟩ = some (.int .u8 ((A[j]'(by omega)).toNat:Int)):=by
      rw [d.cell j (by rw [QD,B];exact hjl),<- List.getElem?_eq_getElem,List.getElem?_map,C];rfl
     have hf:=d.free j;have D:=d.set j (byte ((A[j]'(by omega)) ^^^ X[j]));rw [<- qP,Pt A X j 16 n f hjl] at D;have HE:Hid (Value.int .u8 (bits BinOp.xor IntKind.u8 ((A[j]'(by omega)).toNat:Int) (X[j].toNat:Int)) = byte ((A[j]'(by omega)) ^^^ X[j])):=L9 _ _;have Y:(j:Int) < 16:=by omega
     clear C B d;go_wp2;go_roundw
     case rel =>
      rw [HE.out];exact ⟨j + 1,by omega,by go_num,D,l.other _ _ (by simp),c.setCell (by simp) _⟩
     case measure=>simp [intOf];omega
    ·obtain rfl:j = 16:=by omega
     rw [Ru A X 16 n f,<- HS.out] at d;go_wp2;go_roundw
     case rel=>exact ⟨k + 1,by omega,by go_num,d,l,c⟩
     case measure=>simp [intOf];omega
  ·obtain rfl:k = m:=by omega
   have x:((CP 16 a k).map byte).length = 16:=by rw [QD,t k r]
   go_wp2_with (first | (refine AL rfl 88 _ rfl _ rfl d underlying88 rfl (by rw [x];kernel_rfl) ?_) | (refine store_blk rfl 88 _ _ rfl _ rfl rfl l (by rw [x];kernel_rfl) (by rw [x];exact AD _ _) (AF _) ?_;intro w2 O I Z))
   exact Qc (v:=.agg ((CP 16 a k).map byte).toArray) (AG results32 _ _ rfl O underlying88 rfl (by rw [x];kernel_rfl)) rfl ⟨rfl,c.grown I c.size (by intro k r;cases r;exact QE _)⟩
theorem Bt (a b:LU) (g c t:Nat) (w:World) (d:a.length = 16) (f:b.length = 16) (h:Blk w g t (a.map byte ++ b.map byte)) :
 Calls prog 32 #[.slice (some ⟨g,0,none⟩) 2 c] w fun e w'=>e = .returned (.agg ((AE a b).map byte).toArray) /\ Bl w w':=by
 have:=Va [a,b] 2 g 0 c w rfl (by omega) (by simp [d,f]) (by
  intro k i
  match k,i with
  | 0,_=>exact Ia h
  | 1,_=>exact JW h (by simp [d]))
 rw [PO 16 a b d] at this;exact this
theorem Lt {P:Program} (w:World) (t u g e:TypeId) (i:TypeInfo) (z:Value) (o:P.underlying t = some (.slice e)) (m:P.underlying u = some (.int .i64)) (j:P.info? e = some i) (hz:i.zero = some z) (c:i.size = 1) (f:i.bytes = 1)
 (n:Nat) (k:0 < n) (p:n <= 1048576) :
 (Builtin.append_ #[t,u] g #[.slice none 0 0,.int .i64 (n:Int)]).run P w =
  .ok (.slice (some ⟨w.heap.size,0,none⟩) n (grownCap w n 0 e)) (w.drew.alloc (.cells (Builtin.zeroCells z.cells n ++ Builtin.zeroCells z.cells (grownCap w n 0 e - n)) e)):=by
 have a:n ≠ 0:=by omega
 have l:IntKind.i64.wrap (n:Int) = (n:Int):=by rw [QH];omega
 have d:¬ ((n:Int) < 0):=by omega
 have b:¬ (281474976710656 < (n:Int)):=by omega
 have h63':¬ (9223372036854775807 < (n:Int)):=by omega
 have h48':¬ (281474976710656 < Builtin.nextslicecap n 0):=by rw [nextslicecap_zero k];omega
 simp [Builtin.append_,run_underlying o,run_underlying m,sizeOf,typeInfo,zeroValue,asInt,asIntOf,j,hz,c,f,l,d,b,a,h63',h48',Question.forced,run_firstCells_none,newRow,grownCap]
theorem AO.drew1 {w:World} {base:Nat} {v:Value} {l:LU} (h:AO w base v l):AO w.drew base v l:=h
theorem J9 {P:Program} {w:World} {ops:Array Oper} {rest:List Oper} {o:Oper} {a:Act} {Q:Exit -> Act -> World -> Prop} (c:o.guard = none) (s x:Operand) (t u:TypeId)
 (g:o.op = .call { callee:=.builtin .append,args:=#[s,x],argTypes:=#[t,u] }) (e:TypeId) (i:TypeInfo) (z:Value) (v:P.underlying t = some (.slice e)) (r:P.underlying u = some (.int .i64)) (p:P.info? e = some i) (hz:i.zero = some z) (k:i.size = 1) (l:i.bytes = 1)
 (n:Nat) (q:0 < n) (d:n <= 1048576) (b:a.eval s = .slice none 0 0) (f:a.eval x = .int .i64 (n:Int))
 (h:wpList P ops Q rest (a.put o.dst (.slice (some ⟨w.heap.size,0,none⟩) n (grownCap w n 0 e))) (w.drew.alloc (.cells (Builtin.zeroCells z.cells n ++ Builtin.zeroCells z.cells (grownCap w n 0 e - n)) e))):wpList P ops Q (o :: rest) a w :=
 wpList_plain c fun _ j=>by
  have m:=Lt (P:=P) w t u o.type e i z v r p hz k l n q d;unfold Oper.wp execOp;simp only [g,resolve,invoke,builtin,Qe,ql,qB,qR,qD,qN,b,f,m];exact j _ _ h
theorem PU (n:Nat) (w:World) (j:n <= 1048576) :
 Calls prog 58 #[.slice none 0 0,.int .i64 (n:Int)] w fun e w'=>∃ v,e = .returned v /\ AO w' w.heap.size v [] /\ Bl w w':=by
 obtain ⟨l,k,f,g,d⟩:=Qg Tryz.info5
 by_cases h0:0 < n
 ·have p:¬ ((n:Int) < 0):=by omega
  have o:(0:Int) < (n:Int):=by omega
  have i:=grownCap_ge w n 0 5;have a:=grownCap_le_maxLen w n 0 5 (by unfold maxLen;omega);obtain ⟨c,b⟩:=uX (grownCap w n 0 5);rw [<- b] at i a;have m:(0:Int) <= (c:Int):=by omega
  go_enter func58,ntmps58;go_wp2_with (at_builtin;refine J9 rfl _ _ 22 3 rfl 5 l (.int .u8 0) underlying22 underlying3 k f g d n h0 j rfl rfl ?_;rw [<- b])
  go_ret;rw [<- b];refine ⟨_,rfl,AO.drew1 (w:=w.alloc _) (World.ownsRow_made w _ c (QE _) a ?_),((Below.refl _ _).alloc (QE _) _).drew⟩;rw [Array.size_append,size_zeroCells,size_zeroCells];show n * 1 + (c - n) * 1 = c * 1;omega
 ·obtain rfl:n = 0:=by omega
  go_enter func58,ntmps58;go_wp2;go_ret;exact ⟨_,rfl,Qa _ _ _ _,Below.refl _ _⟩
def Src (w:World) (v:Value) (bs:LU):Prop:=∃ b o c,v = .slice (some ⟨b,o,none⟩) bs.length c /\ RowAt w (some ⟨b,o,none⟩) bs
theorem Src.below {w w':World} {v:Value} {bs:LU} (h:Src w v bs) (d:Bl w w'):Src w' v bs:=by
 obtain ⟨b,o,c,rfl,a⟩:=h;exact ⟨b,o,c,rfl,a.below d⟩
theorem EG (a:List LU) (k:Nat) (h:k < a.length):(a.take (k + 1)).flatten = (a.take k).flatten ++ a.getD k []:=by
 rw [B3 a k h,qh];simp [h]
theorem LJ (a:List LU) (k:Nat):(a.take k).flatten.length <= a.flatten.length:=by
 have h:a.flatten = (a.take k).flatten ++ (a.drop k).flatten:=by rw [<- qh,qk]
 rw [h,QC];omega
theorem Mf (vs:List Value) (a:List LU) (g t a5 m:Nat) (w:World) (hm:vs.length = m) (a7:a.length = m) (a8:m <= 1048576) (ht:a.flatten.length <= 1048576) (Z:w.rangeAt g t vs) (T:∀ k,k < m -> Src w (vs.getD k undef) (a.getD k [])) :
 Calls prog 23 #[.slice (some ⟨g,t,none⟩) m a5] w fun e w'=>∃ v,e = .returned v /\ AO w' w.heap.size v a.flatten /\ Bl w w':=by
 obtain ⟨i0,hi,a3,a4,a2⟩:=Qg Tryz.info5;have n:∀ k,k < m -> w.cell? ⟨g,t + k,none⟩ = some (vs.getD k undef):=fun k hk=>Z k _ (by simp [show k < vs.length from by omega]);go_enter func23,ntmps23;go_wp2;go_loop [3,5,11] (fun s _ i=>∃ k:Nat,k <= m /\ i = .int .i64 k /\ s = .int .i64 ((a.take k).flatten.length:Nat)) (fun _ _ i=>m - (intOf i).toNat)
 case atStart=>exact ⟨0,QU _,rfl,by simp⟩
 case round =>
  obtain ⟨k,hk,rfl,rfl⟩:=hrel
  by_cases hlt:k < m
  ·obtain ⟨b,o,c,B,r⟩:=T k hlt;have z:=n k hlt;rw [B] at z;have HF:Hid ((a.take (k + 1)).flatten.length = (a.take k).flatten.length + (a.getD k []).length):=by show _ = _;rw [EG a k (by omega),QC]
   have y:=LJ a (k + 1);rw [HF.out] at y;obtain ⟨s,G⟩:=uX ((a.take k).flatten.length);obtain ⟨l,D⟩:=uX ((a.getD k []).length);rw [<- G,<- D] at y;rw [<- G];rw [<- D] at z;have a6:(k:Int) < (m:Int):=by omega
   have a9:¬ ((s:Int) + (l:Int) < 0):=by omega
   have J:Hid ((a.take (k + 1)).flatten.length = s + l):=by show _ = _;rw [HF.out,G,D]
   clear T n Z HF G D B r;go_wp2;go_round
   case rel=>exact ⟨k + 1,by omega,by go_num,by rw [J.out];go_num⟩
   case measure=>simp [intOf];omega
  ·rw [show (a.take k).flatten = a.flatten from by rw [QS (by omega)]];obtain ⟨N,hN⟩:=uX (a.flatten.length);rw [<- hN] at ht ⊢;have HC:Hid (∀ k,k < m -> w.cell? ⟨g,t + k,none⟩ = some (vs.getD k undef)):=n;have HV:Hid (∀ k,k < m -> Src w (vs.getD k undef) (a.getD k [])):=T;have HN:Hid (N = a.flatten.length):=hN;have b0:¬ ((k:Int) < (m:Int)):=by omega
   clear n T Z hN;go_wp2_with fail;refine (PU N _ ht).mono ?_;rintro e w1 ⟨v1,rfl,I,O⟩;go_wp2_with fail
   go_loopw [6,8,27] (fun v _ i wr=>∃ k:Nat,k <= m /\ i = .int .i64 k /\ AO wr w.heap.size v (a.take k).flatten /\ Bl w wr) (fun _ _ i _=>m - (intOf i).toNat)
   case atStart=>exact ⟨0,QU _,rfl,by simpa using I,O⟩
   case round =>
    clear I O;obtain ⟨q,hq,rfl,f,d⟩:=hrel
    by_cases hql:q < m
    ·obtain ⟨b,o,c,B,E⟩:=HV.out q hql;have z:wr.cell? ⟨g,t + q,none⟩ = some (vs.getD q undef):=(d.cell (p:=⟨g,t + q,none⟩) (QF w _ (HC.out q hql))).trans (HC.out q hql);rw [B] at z;have HF:Hid ((a.take (q + 1)).flatten = (a.take q).flatten ++ a.getD q []):=EG a q (by omega);have y:=LJ a (q + 1);rw [HF.out,QC,<- HN.out] at y;have r:=E.below d;obtain ⟨L,Y⟩:=uX ((a.take q).flatten);obtain ⟨X,hX⟩:=uX (a.getD q []);have J:Hid ((a.take (q + 1)).flatten = L ++ X):=by show _ = _;rw [HF.out,Y,hX]
     rw [<- Y] at f y;rw [<- hX] at z r y;have F:∀ j u,(X.map byte)[j]? = some u -> wr.cell? ((⟨b,o,none⟩:Addr).add j) = some u:=by
      intro j u hu;obtain ⟨H,he⟩:=List.getElem?_eq_some_iff.1 hu;rw [QD] at H;obtain ⟨b',o',a1,a0⟩:=r.at H;cases a1
      rw [qZ,a0 j H,<- he];simp [byte,H]
     have M:∀ u ∈ X.map byte,u.oneCell' = true:=by
      intro u hu;obtain ⟨x,-,rfl⟩:=List.mem_map.1 hu
      rfl
     have b1:(q:Int) < (m:Int):=by omega
     have W:=d.size;clear B E r Y hX HF;go_wp2_with (at_builtin;refine Qi _ rfl _ _ 22 rfl w.heap.size 5 i0 (.int .u8 0) 1 1 underlying22 hi a3 a4 a2 rfl (by decide) _ _ _ rfl f ⟨b,o,none⟩ X.length c (X.map byte) rfl (by rw [QD,Nat.mul_one]) F M (by unfold maxLen;omega) (by omega) W ?_;intro v1 w1 C A U)
     have V:AO w1 w.heap.size v1 (a.take (q + 1)).flatten:=by
      rw [J.out];unfold AO;rw [Qf,QC];exact C
     have R:=d.grown A W (fun j H=>(f.lt j H).1);clear C f d A U F M z;go_wp2;go_roundw
     case rel=>exact ⟨q + 1,by omega,by go_num,V,R⟩
     case measure=>simp [intOf];omega
    ·rw [show (a.take q).flatten = a.flatten from by rw [QS (by omega)]] at f;go_wp2;go_ret;exact ⟨_,rfl,f,d⟩
theorem VD (l:List Value) (b k:Nat) (cs:Array Value) (h:b + k + l.length <= cs.size) :
 (l.zipIdx k).foldl (fun (cs:Array Value) (x:Value × Nat)=>cs.setIfInBounds (b + x.2) x.1) cs = (cs.toList.take (b + k) ++ l ++ cs.toList.drop (b + k + l.length)).toArray:=by
 induction l generalizing k cs with
 | nil=>simp
 | cons a l ih =>
   rw [Qn] at h;rw [List.zipIdx_cons,qI,ih (k + 1) _ (by rw [Array.size_setIfInBounds];omega),Array.toList_setIfInBounds,Qn];have c:b + k < cs.toList.length:=by rw [Ql];omega
   rw [show b + (k + 1) = b + k + 1 from by omega,List.take_set,Qu c,qC _ _ (by rw [QI];omega),List.drop_set_of_lt (by omega)];rw [QI,Nat.min_eq_left (qz c),JF,qw,show b + k + 1 + l.length = b + k + (l.length + 1) from by omega,QV,QV,List.singleton_append,QV,List.cons_append]
theorem Fq (l:List Value) (a:Nat) (cs:Array Value) (h:a + l.length <= cs.size) :
 l.zipIdx.foldl (fun (cs:Array Value) (x:Value × Nat)=>cs.setIfInBounds (a + x.2) x.1) cs = (cs.toList.take a ++ l ++ cs.toList.drop (a + l.length)).toArray:=VD l a 0 cs h
theorem Yv (N:Nat) (a b:List Value) (c:Array Value) (k:c.size = 2 * N) (d:a.length = N) (g:b.length = N) :
 Instr.fill (fun i=>some (i * N,N)) c [(0,.agg a.toArray),(1,.agg b.toArray)] = some (a ++ b).toArray:=by
 have j:=Fq a 0 c (by omega);have f:=Fq b N ((a ++ c.toList.drop N).toArray) (by simp [k,d,g];omega);simp only [QZ,List.take_zero,qQ,d] at j;have l:((a ++ c.toList.drop N).toArray.toList.take N ++ b ++ (a ++ c.toList.drop N).toArray.toList.drop (N + b.length)).toArray = (a ++ b).toArray:=by
  rw [List.toList_toArray,List.take_left' d,List.drop_append,qE (by omega),qQ,qE (by rw [QN,Ql];omega),qM]
 rw [l] at f;simp only [Instr.fill,Value.cells,Qo,d,g,Nat.zero_mul,Nat.one_mul,QZ,ne_eq,not_true_eq_false,decide_false,Bool.false_or,Qh,<- Array.foldl_toList,Array.toList_zipIdx,j];rw [if_neg (by omega),if_neg (by simp [d,k];omega),f]
theorem M5 {P:Program} (w:World) (t e N:Nat) (z:Value) (a b:List Value) (p:P.underlying t = some (.slice e)) (hz:(P.info? e).map (fun i=>(i.zero,i.size)) = some (some z,N)) (k:a.length = N) (m:b.length = N) (q:0 < N) (r:N <= 1048576) :
 (Instr.buildSlice t 2 #[(0,.agg a.toArray),(1,.agg b.toArray)]).run P w = .ok (.slice (some ⟨w.heap.size,0,none⟩) 2 2) (w.alloc (.cells (a ++ b).toArray e)):=by
 cases hq:P.info? e with
 | none=>simp [hq] at hz
 | some i =>
   have f:i.zero = some z:=by simp [hq] at hz;exact hz.1
   have d:i.size = N:=by simp [hq] at hz;exact hz.2
   have o:¬ (2 * N > 16777216):=by omega
   have l:¬ (2 * N = 0):=by omega
   have n:=Yv N a b ((Array.range (2 * N)).map (z.cells[· % z.cells.size]!)) (by simp) k m;have j:∀ c,(sizeOf e).run P c = .ok N c:=fun c=>by simp [sizeOf,typeInfo,hq,d]
   have g:∀ c,(zeroValue e).run P c = .ok z c:=fun c=>by simp [zeroValue,typeInfo,hq,f]
   simp [Instr.buildSlice,run_underlying p,j,g,n,newRow];rw [if_neg o,if_neg l]
section
variable {P:Program} {op:Oper} {a:Act} {w:World} {K:Act -> World -> Prop} {Q:Exit -> Act -> World -> Prop}
theorem Bi (d:Option Tmp) (j:op.dst = d) (t:TypeId) (x y:Operand) (b:op.op = .buildSlice t 2 #[(0,x),(1,y)]) (e N:Nat) (z:Value) (A B:List Value) (m:a.eval x = .agg A.toArray) (f:a.eval y = .agg B.toArray)
 (l:P.underlying t = some (.slice e)) (hz:(P.info? e).map (fun i=>(i.zero,i.size)) = some (some z,N)) (c:A.length = N) (k:B.length = N) (g:0 < N) (n:N <= 1048576)
 (h:K (a.put d (.slice (some ⟨w.heap.size,0,none⟩) 2 2)) (w.alloc (.cells (A ++ B).toArray e))):op.wp P a w K Q:=by
 subst j;unfold Oper.wp execOp;simp only [b,qR,qD,qN,m,f,Qe,M5 w t e N z A B l hz c k g n,qB];exact h
theorem Dj (d:Option Tmp) (i:op.dst = d) (c:TypeId) (x:Operand) (f:op.op = .load c x) (b o:Nat) (m:a.eval x = .pointer (some ⟨b,o,none⟩)) (cs:List Value) (D:TypeDesc) (k:w.rangeAt b o cs)
 (l:P.underlying c = some D) (j:D.isRow = true) (g:(P.info? c).map (·.size) = some cs.length) (h:K (a.put d (.agg cs.toArray)) w):op.wp P a w K Q:=by
 subst i;exact wp_load_mid c x f b o m cs D k l j g h
theorem AR (o:op.dst = none) (c:TypeId) (x y:Operand) (k:op.op = .store c x y) (g:Nat) (r:a.eval x = .pointer (some ⟨g,0,none⟩)) {t:Nat} {b cs:List Value} (n:a.eval y = .agg cs.toArray) (m:Blk w g t b)
 (f:(P.info? c).map (·.size) = some cs.length) (s:b.length = cs.length) (p:cs.toArray.all (·.oneCell') = true)
 (h:K a (w.setRow g cs.toArray)):op.wp P a w K Q:=by
 have j:(storeCells ⟨g,0,none⟩ cs 0).run P w = .ok () (w.setRow g cs.toArray):=by
  have:=run_storeCells_from (P:=P) g t cs 0 b.toArray w m (by rw [Qo,QZ];omega) (fun v q=>(Array.all_eq_true_iff_forall_mem.1 p) v (by simpa using q));rw [List.take_zero,qQ] at this;exact this
 have d:(storeVar c ⟨g,0,none⟩ (.agg cs.toArray)).run P w = .ok () (w.setRow g cs.toArray):=by
  cases hq:P.info? c with
  | none=>simp [hq] at f
  | some i =>
    have l:cs.length = i.size:=by simp [hq] at f;omega
    simp [storeVar,sizeOf,typeInfo,hq,Value.cells,l,j]
 unfold Oper.wp execOp;simp only [k,r,n,Instr.storeAt,Instr.sureAddr,Qe,ql,qB,d];have h':K (a.put op.dst undef) (w.setRow g cs.toArray):=by rw [o];exact h
 exact h'
theorem At (w:World) (o:Obj):Bl w (w.alloc o):=(Below.refl _ _).alloc (QE _) o
theorem AB {a b c:World} (h:Bl a b) (d:Bl b c):Bl a c:=h.trans (d.mono h.size)
end
end Go.Proofs.YtbkokcjolanpeaaGreatDoor
