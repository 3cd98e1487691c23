import Derived.Test.YtbkokcjolanpeaaGreatDoorMkM
set_option maxRecDepth 100000
set_option maxHeartbeats 20000000
namespace Go.Proofs.YtbkokcjolanpeaaGreatDoor
open Go.RowKit Go.Proofs.Tryz Act
theorem Xs (a:List LU) (m g s M:Nat) (w:World) (hm:a.length = m) (W:m <= 1048576) (F:∀ b ∈ a,b.length = 8) (G:∀ k,k < m -> w.rangeAt g (s + k * 8) ((a.getD k []).map byte)) :
 Calls prog 111 #[.slice (some ⟨g,s,none⟩) m M] w fun e w'=>e = .returned (.agg ((CP 8 a m).map byte).toArray) /\ Bl w w':=by
 have hz:=(QO Tryz.zero208).1;have t:∀ k,k <= m -> (CP 8 a k).length = 8:=fun k r=>Kt 8 a F k (by omega);have z:∀ k,k < m -> (a.getD k []).length = 8:=by
  intro k r;have:a.getD k [] = a[k]:=by simp [show k < a.length from by omega]
  rw [this];exact F _ (Qd _)
 go_enter func111,ntmps111;go_wp2
 go_loopw [5,6,7,10,15] (fun _ _ _ i _ wr=>∃ k:Nat,k <= m /\ i = .int .i64 k /\ Blk wr (w.heap.size + 1) 208 ((CP 8 a k).map byte) /\ Blk wr w.heap.size 208 (AC 8 .u8) /\ Bl w wr) (fun _ _ _ i _ _=>m - (intOf i).toNat)
 case atStart=>exact ⟨0,QU _,rfl,by rw [show CP 8 a 0 = AJ 8 from rfl,<- Kb];exact Blk.new2 w _ _ _,(Blk.new w _ _).alloc _,((Below.refl _ _).alloc (QE _) _).alloc (by simp) _⟩
 case round =>
  obtain ⟨k,r,rfl,d,l,c⟩:=hrel
  by_cases hlt:k < m
  ·have u:=AU (G k hlt) c;have f:=z k hlt;have n:=t k r;have q:CP 8 a (k + 1) = AE (CP 8 a k) (a.getD k []):=rfl;obtain ⟨X,N⟩:=uX (a.getD k []);obtain ⟨A,L⟩:=uX (CP 8 a k);rw [<- N] at u f q;rw [<- L] at n q d;have o:(X.map byte).length = 8:=by rw [QD,f]
   have V:(k:Int) < (m:Int):=by omega
   have HS:Hid (CP 8 a (k + 1) = AE A X):=q;clear N L q t z G;go_wp2_with (first
    | (refine Qw rfl 208 _ rfl g (s + k * 8) rfl (X.map byte) _ u underlying208 rfl (by rw [o];kernel_rfl) ?_)
    | (refine store_blk rfl 208 _ _ rfl _ rfl rfl (Blk.new wr _ _) (by rw [o];kernel_rfl) (by rw [o];exact AD _ _) (AF _) ?_;intro w3 y p T)
    | (refine AL rfl 208 _ rfl _ rfl y underlying208 rfl (by rw [o];kernel_rfl) ?_))
   have l1:=d.lt;have J:=(d.alloc (.cells (AC 8 .u8).toArray 208)).grown p (by simp;omega);have H:=(l.alloc (.cells (AC 8 .u8).toArray 208)).grown p (by simp;omega);have R:=(c.alloc c.size (.cells (AC 8 .u8).toArray 208)).grown p (by simp;omega) (by intro j E;cases E;omega)
   clear d l c y p T u
   go_loopw [6,7,15] (fun _ _ i wr=>∃ j:Nat,j <= 8 /\ i = .int .i64 j /\ Blk wr (w.heap.size + 1) 208 ((GD A X j).map byte) /\ Blk wr w.heap.size 208 (AC 8 .u8) /\ Bl w wr) (fun _ _ i _=>8 - (intOf i).toNat)
   case atStart=>exact ⟨0,QU _,rfl,by rw [Oh];exact J,H,R⟩
   case round =>
    clear J H R;obtain ⟨j,E,rfl,d,l,c⟩:=hrel
    by_cases hjl:j < 8
    ·have U:=CB (P:=prog) underlying208 underlying5 rfl (by kernel_rfl) (X.map byte).toArray .i64 j hjl (.int .u8 (X[j].toNat:Int)) (by simp [f,hjl,byte]);have B:=Lm A X j 8 n f E;have C:=Te A X j 8 n f hjl;have hc:wr.cell? ⟨w.heap.size + 1,j,none⟩ = some (.int .u8 ((A[j]'(by omega)).toNat:Int)):=by
      rw [d.cell j (by rw [QD,B];exact hjl),<- List.getElem?_eq_getElem,List.getElem?_map,C];rfl
     have hf:=d.free j;have D:=d.set j (byte ((A[j]'(by omega)) ^^^ X[j]));rw [<- qP,Pt A X j 8 n f hjl] at D;have HE:Hid (Value.int .u8 (bits BinOp.xor IntKind.u8 ((A[j]'(by omega)).toNat:Int) (X[j].toNat:Int)) = byte ((A[j]'(by omega)) ^^^ X[j])):=L9 _ _;have Y:(j:Int) < 8:=by omega
     clear C B d;go_wp2;go_roundw
     case rel =>
      rw [HE.out];exact ⟨j + 1,by omega,by go_num,D,l.other _ _ (by simp),c.setCell (by simp) _⟩
     case measure=>simp [intOf];omega
    ·obtain rfl:j = 8:=by omega
     rw [Ru A X 8 n f,<- HS.out] at d;go_wp2;go_roundw
     case rel=>exact ⟨k + 1,by omega,by go_num,d,l,c⟩
     case measure=>simp [intOf];omega
  ·obtain rfl:k = m:=by omega
   have x:((CP 8 a k).map byte).length = 8:=by rw [QD,t k r]
   go_wp2_with (first | (refine AL rfl 208 _ rfl _ rfl d underlying208 rfl (by rw [x];kernel_rfl) ?_) | (refine store_blk rfl 208 _ _ rfl _ rfl rfl l (by rw [x];kernel_rfl) (by rw [x];exact AD _ _) (AF _) ?_;intro w2 O I Z))
   exact Qc (v:=.agg ((CP 8 a k).map byte).toArray) (AG results111 _ _ rfl O underlying208 rfl (by rw [x];kernel_rfl)) rfl ⟨rfl,c.grown I c.size (by intro k r;cases r;exact QE _)⟩
theorem YH (a b:LU) (g c t:Nat) (w:World) (d:a.length = 8) (f:b.length = 8) (h:Blk w g t (a.map byte ++ b.map byte)) :
 Calls prog 111 #[.slice (some ⟨g,0,none⟩) 2 c] w fun e w'=>e = .returned (.agg ((AE a b).map byte).toArray) /\ Bl w w':=by
 have:=Xs [a,b] 2 g 0 c w rfl (by omega) (by simp [d,f]) (by
  intro k i
  match k,i with
  | 0,_=>exact Ia h
  | 1,_=>exact JW h (by simp [d]))
 rw [PO 8 a b d] at this;exact this
def GE (p:LU):LU:=p ++ AJ (8 - p.length)
theorem Lh (p:LU) (h:p.length <= 8):(GE p).length = 8:=by simp [GE,AJ];omega
theorem Hk {w:World} {b o:Nat} {l:LU} (h:w.rangeAt b o (l.map byte)):∀ j u,(l.map byte)[j]? = some u -> w.cell? ((⟨b,o,none⟩:Addr).add j) = some u:=by
 intro j u a;rw [qZ];exact h j u a
theorem Sy (p:LU) (b o i:Nat) (w:World) (u:p.length <= 8) (x:w.rangeAt b o (p.map byte)) :
 Calls prog 108 #[.slice (some ⟨b,o,none⟩) p.length i] w fun e w'=>e = .returned (.agg ((GE p).map byte).toArray) /\ Bl w w':=by
 have hz:=(QO Tryz.zero208).1;obtain ⟨W,c⟩:=uX ((w.alloc (.cells (AC 8 .u8).toArray 208)).alloc (.cells (AC 8 .u8).toArray 208));have F:Blk W w.heap.size 208 (AC 8 .u8):=by rw [c];exact (Blk.new w _ _).alloc _
 have B:Blk W (w.heap.size + 1) 208 (AC 8 .u8):=by rw [c];exact Blk.new2 w _ _ _
 have D:Bl w W:=by rw [c];exact (At w _).alloc (by simp) _
 have d:=Lh p u;have a:((GE p).map byte).length = 8:=by rw [QD,d]
 have l:(AC 8 .u8).toArray.toList.take 0 ++ (p.map byte ++ (AC 8 .u8).toArray.toList.drop (0 + (p.map byte).length)) = (GE p).map byte:=by
  rw [List.toList_toArray,List.take_zero,qQ,QZ,QD];unfold GE AC AJ;rw [List.drop_replicate,Qf,List.map_replicate]
  rfl
 have r:(p.map byte).length = Nat.min p.length 8:=by rw [QD];exact (Nat.min_eq_left u).symm
 have f:=Hk (AU x D);have q:=GU p;have m:0 + (p.map byte).length <= (AC 8 .u8).toArray.size:=by rw [QD,Qo,AD];omega
 have C:=Blk.setRow B ((GE p).map byte);have y:Blk (W.setRow (w.heap.size + 1) ((GE p).map byte).toArray) w.heap.size 208 (AC 8 .u8):=F.setRow_other (by omega);have n:=AN (g:=w.heap.size + 1) D (by omega) ((GE p).map byte).toArray;obtain ⟨L,z⟩:=uX ((GE p).map byte);have j:=AF (GE p);rw [<- z] at a l C y n j ⊢;have s:Hid (W = (w.alloc (.cells (AC 8 .u8).toArray 208)).alloc (.cells (AC 8 .u8).toArray 208)):=c;clear c z x d;go_enter func108,ntmps108;go_upto_region 2 with fail
 rw [<- show W = _ from s];clear s;go_wp2_with (first
  | (refine wpList_copy_own rfl _ _ 22 22 rfl 5 underlying22 (by kernel_rfl) (w.heap.size + 1) 0 8 8 ⟨b,o,none⟩ p.length i rfl rfl _ 208 B (p.map byte) r f m q ?_;rw [l])
  | (refine AL rfl 208 _ rfl _ rfl C underlying208 rfl (by rw [a];kernel_rfl) ?_)
  | (refine store_blk rfl 208 _ _ rfl _ rfl rfl y (by rw [a];kernel_rfl) (by rw [a];exact AD _ _) j ?_;intro H t A G))
 exact Qc (v:=.agg L.toArray) (AG results108 _ _ rfl t underlying208 rfl (by rw [a];kernel_rfl)) rfl ⟨rfl,n.grown A n.size (by intro k E;cases E;exact QE _)⟩
theorem YV (N:Nat) (a:List Value) (b:Array Value) (f:b.size = N) (d:a.length = N):Instr.fill (fun i=>some (i * N,N)) b [(0,.agg a.toArray)] = some a.toArray:=by
 have c:=Fq a 0 b (by omega);simp only [QZ,List.take_zero,qQ,d] at c;rw [qE (by rw [Ql];omega),qM] at c;simp only [Instr.fill,Value.cells,Qo,d,Nat.zero_mul,QZ,ne_eq,not_true_eq_false,decide_false,Bool.false_or,Qh,<- Array.foldl_toList,Array.toList_zipIdx,c];rw [if_neg (by omega)]
theorem NF {P:Program} (w:World) (t e N:Nat) (z:Value) (a:List Value) (n:P.underlying t = some (.slice e)) (hz:(P.info? e).map (fun i=>(i.zero,i.size)) = some (some z,N)) (k:a.length = N) (o:0 < N) (p:N <= 1048576) :
 (Instr.buildSlice t 1 #[(0,.agg a.toArray)]).run P w = .ok (.slice (some ⟨w.heap.size,0,none⟩) 1 1) (w.alloc (.cells a.toArray e)):=by
 cases hq:P.info? e with
 | none=>simp [hq] at hz
 | some i =>
   have d:i.zero = some z:=by simp [hq] at hz;exact hz.1
   have c:i.size = N:=by simp [hq] at hz;exact hz.2
   have m:¬ (N > 16777216):=by omega
   have l:¬ (N = 0):=by omega
   have f:=YV N a ((Array.range (1 * N)).map (z.cells[· % z.cells.size]!)) (by simp) k;have j:∀ b,(sizeOf e).run P b = .ok N b:=fun b=>by simp [sizeOf,typeInfo,hq,c]
   have g:∀ b,(zeroValue e).run P b = .ok z b:=fun b=>by simp [zeroValue,typeInfo,hq,d]
   rw [Nat.one_mul] at f;simp [Instr.buildSlice,run_underlying n,j,g,f,newRow];rw [if_neg m,if_neg l]
section
variable {P:Program} {op:Oper} {a:Act} {w:World} {K:Act -> World -> Prop} {Q:Exit -> Act -> World -> Prop} {ops:Array Oper} {rest:List Oper}
theorem Vk (d:Option Tmp) (g:op.dst = d) (t:TypeId) (x:Operand) (b:op.op = .buildSlice t 1 #[(0,x)]) (e N:Nat) (z:Value) (A:List Value) (k:a.eval x = .agg A.toArray)
 (j:P.underlying t = some (.slice e)) (hz:(P.info? e).map (fun i=>(i.zero,i.size)) = some (some z,N)) (c:A.length = N) (f:0 < N) (l:N <= 1048576)
 (h:K (a.put d (.slice (some ⟨w.heap.size,0,none⟩) 1 1)) (w.alloc (.cells A.toArray e))):op.wp P a w K Q:=by
 subst g;unfold Oper.wp execOp;simp only [b,qR,qD,qN,k,Qe,NF w t e N z A j hz c f l,qB];exact h
theorem Gu (b:op.guard = none) (t:TypeId) (x:Operand) (c:op.op = .buildSlice t 1 #[(0,x)]) (e N:Nat) (z:Value) (A:List Value) (k:a.eval x = .agg A.toArray)
 (j:P.underlying t = some (.slice e)) (hz:(P.info? e).map (fun i=>(i.zero,i.size)) = some (some z,N)) (f:A.length = N) (g:0 < N) (l:N <= 1048576)
 (h:wpList P ops Q rest (a.put op.dst (.slice (some ⟨w.heap.size,0,none⟩) 1 1)) (w.alloc (.cells A.toArray e))):wpList P ops Q (op :: rest) a w :=
 wpList_plain b fun _ d=>Vk op.dst rfl t x c e N z A k j hz f g l (d _ _ h)
theorem O0 (b:op.guard = none) (t:TypeId) (x y:Operand) (c:op.op = .buildSlice t 2 #[(0,x),(1,y)]) (e N:Nat) (z:Value) (A B:List Value) (m:a.eval x = .agg A.toArray) (g:a.eval y = .agg B.toArray)
 (l:P.underlying t = some (.slice e)) (hz:(P.info? e).map (fun i=>(i.zero,i.size)) = some (some z,N)) (f:A.length = N) (k:B.length = N) (j:0 < N) (n:N <= 1048576)
 (h:wpList P ops Q rest (a.put op.dst (.slice (some ⟨w.heap.size,0,none⟩) 2 2)) (w.alloc (.cells (A ++ B).toArray e))):wpList P ops Q (op :: rest) a w :=
 wpList_plain b fun _ d=>Bi op.dst rfl t x y c e N z A B m g l hz f k j n (d _ _ h)
end
def OwnK (w:World) (base:Nat) (v:Value) (a:List LU):Prop:=w.ownsRow base 208 8 v a.length (a.flatten.map byte)
theorem OwnK.below {w w':World} {base:Nat} {v:Value} {l:List LU} (h:OwnK w base v l) (a:Bl w w'):OwnK w' base v l :=
 World.ownsRow.kept h (grown_of_below a none) (by cases b:v.ownBlock <;> simp)
theorem OwnK.mono {w:World} {B base:Nat} {v:Value} {l:List LU} (h:OwnK w base v l) (f:B <= base):OwnK w B v l:=by
 refine ⟨h.1,?_⟩;rcases h.2 with h | ⟨g,a,b,c,d,r⟩
 ·exact .inl h
 ·exact .inr ⟨g,a,b,c,by omega,r⟩
def Jm (data:LU) (k:Nat):LU:=GE ((data.drop (8 * k)).take 8)
def chunks (data:LU) (k:Nat):List LU:=(List.range k).map (Jm data)
theorem SL (data:LU) (k:Nat):chunks data (k + 1) = chunks data k ++ [Jm data k]:=by simp [chunks,List.range_succ]
theorem Ci (data:LU) (k:Nat):(chunks data k).length = k:=by simp [chunks]
theorem Ka (data:LU) (k:Nat):(Jm data k).length = 8:=Lh _ (by rw [QI];omega)
theorem UR {w:World} {b o:Nat} {l:LU} (h:w.rangeAt b o (l.map byte)) (k n:Nat):w.rangeAt b (o + k) (((l.drop k).take n).map byte):=by
 intro j v a;rw [List.map_take,List.getElem?_take] at a
 split at a
 ·rw [List.map_drop,List.getElem?_drop] at a;rw [Nat.add_assoc];exact h (k + j) v a
 ·cases a
theorem Tryz.info208:(prog.info? 208).map (fun i=>(i.zero,i.size,i.bytes)) = some (some (.agg (AC 8 .u8).toArray),8,8):=by kernel_rfl
theorem OY {c:World} {base:Nat} {b:Value} {a:List LU} {x:LU} (h:c.ownsRow base 208 8 b (a.length + 1) (a.flatten.map byte ++ x.map byte)):OwnK c base b (a ++ [x]):=by
 unfold OwnK;rw [QC,qh,Qf]
 simpa using h
theorem XT (data:LU) (b o m:Nat) (w:World) (hn:data.length <= 4096) (hc:data.length <= m) (U:w.rangeAt b o (data.map byte)) :
 Calls prog 107 #[.slice (some ⟨b,o,none⟩) data.length m,.int .i64 8,.func (.func 108) #[] #[]] w fun e w'=>∃ v,e = .returned v /\ OwnK w' w.heap.size v (chunks data ((data.length + 7) / 8)) /\ Bl w w':=by
 obtain ⟨Y,V,G,H,F⟩:=Qg Tryz.info208;obtain ⟨n,D⟩:=uX (data.length);have HF:Hid (∀ (a k L:Nat) (p:World),a = 8 * k -> L = min 8 (n - a) -> Bl w p -> Calls prog 108 #[.slice (some ⟨b,o + a,none⟩) L (m - a)] p fun x w'=>x = .returned (.agg ((Jm data k).map byte).toArray) /\ Bl p w'):=by
  intro a k L p B W J;subst B;have:=Sy ((data.drop (8 * k)).take 8) b (o + 8 * k) (m - 8 * k) p (by rw [QI];omega) (AU (UR U (8 * k) 8) J);rw [show ((data.drop (8 * k)).take 8).length = L from by rw [QI,QN];omega] at this;exact this
 have HN:Hid (n = data.length):=D;rw [<- D] at hn hc ⊢;clear U D;go_enter func107,ntmps107;go_wp2
 go_loopw [7,8] (fun v i wr=>∃ k:Nat,8 * k <= n + 7 /\ i = .int .i64 ((8 * k:Nat):Int) /\ OwnK wr w.heap.size v (chunks data k) /\ Bl w wr) (fun _ i _=>n + 8 - (intOf i).toNat)
 case atStart=>exact ⟨0,by omega,rfl,Qa _ _ _ _,Below.refl _ _⟩
 case round =>
  obtain ⟨k,hk,rfl,r,d⟩:=hrel;obtain ⟨a,B⟩:=uX (8 * k);have y:Hid (a = 8 * k):=B;rw [<- B] at hk ⊢;clear B
  by_cases hlt:a < n
  ·have a6:(a:Int) < (n:Int):=by omega
   have a0:(0:Int) <= (a:Int):=by omega
   have a5:(n:Int) <= (m:Int):=by omega
   have a3:IntKind.i64.wrap ((a:Int) + 8) = ((a + 8:Nat):Int):=by rw [QH];omega
   have I:=Ka data k;have HS:=Aa (SL data k);have a4:=Ci data k;obtain ⟨X,O⟩:=uX (Jm data k);rw [<- O] at I HS;have A:(X.map byte).length = 8:=by rw [QD,I]
   have C:=GU X;have E:=d.size;have a1:k <= 4096:=by have:=y.out;omega
   have HK:Hid (∀ L p,L = min 8 (n - a) -> Bl w p -> Calls prog 108 #[.slice (some ⟨b,o + a,none⟩) L (m - a)] p fun x w'=>x = .returned (.agg (X.map byte).toArray) /\ Bl p w'):=by
    intro L p W J;rw [O];exact HF.out a k L p y.out W J
   clear O
   by_cases h8:a + 8 <= n
   ·have Z:((a:Int) + 8) <= (n:Int):=by omega
    have a2:((a:Int) + 8) <= (m:Int):=by omega
    have a7:(a:Int) <= (a:Int) + 8:=by omega
    go_wp2_with (first
     | (go_at_call 108;refine (HK.out _ _ (by omega) d).mono ?_;rintro e1 s ⟨rfl,q⟩;have z:=(d.trans (q.mono E));have u:=(r.below q).alloc (.cells (X.map byte).toArray 208);have n1:Blk (s.alloc (.cells (X.map byte).toArray 208)) s.heap.size 208 (X.map byte):=(Blk.new s _ _);have l:=Hk (Ad n1);have g:=(z.alloc z.size (.cells (X.map byte).toArray 208)))
     | (refine Gu rfl 206 _ rfl 208 8 _ (X.map byte) rfl underlying206 Tryz.zero208 A (by omega) (by omega) ?_)
     | (at_builtin;refine Qi _ rfl _ _ 206 rfl w.heap.size 208 Y _ 8 8 underlying206 V G H F rfl (by decide) _ _ _ rfl u ⟨s.heap.size,0,none⟩ 1 1 (X.map byte) rfl A l C (by unfold maxLen;omega) (by omega) g.size ?_;intro T w2 f c t))
    have N:OwnK w2 w.heap.size T (chunks data (k + 1)):=by rw [HS.out];exact OY f
    have R:=g.grown c g.size (fun j M=>(u.lt j M).1);clear f c t r d u n1 l z g;go_wp2;go_roundw
    case rel=>exact ⟨k + 1,by have:=y.out;omega,by have:=y.out;go_num,N,R⟩
    case measure=>simp [intOf];omega
   ·have Z:¬ ((a:Int) + 8) <= (n:Int):=by omega
    go_wp2_with (first
     | (go_at_call 108;refine (HK.out _ _ (by omega) d).mono ?_;rintro e1 s ⟨rfl,q⟩;have z:=(d.trans (q.mono E));have u:=(r.below q).alloc (.cells (X.map byte).toArray 208);have n1:Blk (s.alloc (.cells (X.map byte).toArray 208)) s.heap.size 208 (X.map byte):=(Blk.new s _ _);have l:=Hk (Ad n1);have g:=(z.alloc z.size (.cells (X.map byte).toArray 208)))
     | (refine Gu rfl 206 _ rfl 208 8 _ (X.map byte) rfl underlying206 Tryz.zero208 A (by omega) (by omega) ?_)
     | (at_builtin;refine Qi _ rfl _ _ 206 rfl w.heap.size 208 Y _ 8 8 underlying206 V G H F rfl (by decide) _ _ _ rfl u ⟨s.heap.size,0,none⟩ 1 1 (X.map byte) rfl A l C (by unfold maxLen;omega) (by omega) g.size ?_;intro T w2 f c t))
    have N:OwnK w2 w.heap.size T (chunks data (k + 1)):=by rw [HS.out];exact OY f
    have R:=g.grown c g.size (fun j M=>(u.lt j M).1);clear f c t r d u n1 l z g;go_wp2;go_roundw
    case rel=>exact ⟨k + 1,by have:=y.out;omega,by have:=y.out;go_num,N,R⟩
    case measure=>simp [intOf];omega
  ·go_wp2;go_ret;rw [show (n + 7) / 8 = k from by have:=y.out;omega];exact ⟨_,rfl,r,d⟩
def F9 (f:LU -> LU) (a:LU) (b:List LU):Nat -> LU
 | 0=>a
 | k + 1=>f (AE (b.getD k []) (F9 f a b k))
def Fb (f:LU -> LU) (a:LU) (b:List LU) (k:Nat):List LU:=(List.range k).map fun j=>F9 f a b (j + 1)
theorem Wx (f:LU -> LU) (a:LU) (b:List LU) (k:Nat):Fb f a b (k + 1) = Fb f a b k ++ [F9 f a b (k + 1)]:=by simp [Fb,List.range_succ]
theorem Lg (f:LU -> LU) (a:LU) (b:List LU) (k:Nat):(Fb f a b k).length = k:=by simp [Fb]
theorem LS (f:LU -> LU) (d:∀ x,(f x).length = 8) (a:LU) (b:a.length = 8) (c:List LU) (k:Nat):(F9 f a c k).length = 8:=by
 cases k with
 | zero=>exact b
 | succ k=>exact d _
def Blks (w:World) (c:Option Addr) (b:List LU):Prop:=∀ k,k < b.length -> ∃ g a,c = some ⟨g,a,none⟩ /\ w.rangeAt g (a + k * 8) ((b.getD k []).map byte)
theorem Blks.below {w w':World} {c:Option Addr} {a:List LU} (h:Blks w c a) (d:Bl w w'):Blks w' c a:=fun k i=>by
 obtain ⟨g,b,e,f⟩:=h k i;exact ⟨g,b,e,AU f d⟩
theorem NI (a:List LU) (c:∀ b ∈ a,b.length = 8) (k:Nat) (d:k <= a.length):(a.take k).flatten.length = k * 8:=by
 induction k with
 | zero=>simp
 | succ k ih =>
   rw [EG a k (by omega),QC,ih (by omega)];have:(a.getD k []).length = 8:=by
    rw [show a.getD k [] = a[k] from by simp [show k < a.length from by omega]];exact c _ (Qd _)
   omega
theorem OwnK.blks {w:World} {base:Nat} {v:Value} {a:List LU} (h:OwnK w base v a) (l:∀ b ∈ a,b.length = 8):∃ n d,v = .slice n a.length d /\ a.length <= d /\ Blks w n a:=by
 rcases h.2 with ⟨rfl,i⟩ | ⟨g,d,r,rfl,x,s,i,t,u,y⟩
 ·exact ⟨none,0,by rw [i],by omega,fun k m=>by omega⟩
 ·refine ⟨_,d,rfl,i,fun k m=>⟨g,0,rfl,?_⟩⟩;intro j v o;have q:a.getD k [] = a[k]:=by simp [m]
  have f:(a.getD k []).length = 8:=by rw [q];exact l _ (Qd _)
  have p:j < 8:=by have:=(List.getElem?_eq_some_iff.1 o).1;rw [QD,f] at this;exact this
  have c:=h.cells (g:=g) rfl (k * 8 + j) v (by
   have e:a.flatten = (a.take k).flatten ++ (a.getD k [] ++ (a.drop (k + 1)).flatten):=by
    rw [<- QV,<- EG a k m,<- qh,qk]
   rw [e,Qf,Qf,List.getElem?_append_right (by rw [QD,NI a l k (by omega)];omega),QD,NI a l k (by omega),Nat.add_sub_cancel_left,List.getElem?_append_left (by rw [QD,f];exact p)];exact o)
  rw [qZ] at c;rw [QZ] at c ⊢;exact c
theorem VB (f:LU -> LU) (hf:∀ x,(f x).length = 8) (C:Value) (S:Nat) (d:LU) (b9:d.length = 8) (c:List LU) (h8:∀ b ∈ c,b.length = 8) (ao:Option Addr) (m d0:Nat) (hm:c.length = m) (d5:m <= 4096) (w:World) (hs:Blks w ao c) (hS:Blk w S 291 mergedCells)
 (HT:∀ x j,x.length = 8 -> Blk j S 291 mergedCells -> Calls prog 110 #[C,.agg (x.map byte).toArray] j fun e w'=>e = .returned (.agg ((f x).map byte).toArray) /\ Bl j w') :
 Calls prog 109 #[.func (.func 110) #[C] #[],.func (.func 111) #[] #[],.agg (d.map byte).toArray,.slice ao m d0,.bool false] w fun e w'=>∃ v,e = .returned v /\ OwnK w' w.heap.size v (Fb f d c m) /\ Bl w w':=by
 obtain ⟨i0,hi,d2,a6,c5⟩:=Qg Tryz.info208;have hz:=(QO Tryz.zero208).1;have c3:=LS f hf d b9 c;have a2:(d.map byte).length = 8:=by rw [QD,b9]
 have k0:Blk (w.alloc (.cells (d.map byte).toArray 208)) w.heap.size 208 (d.map byte):=Blk.new w _ _;have HX:=Aa (fun (a b:LU) (g:Nat) (j:World) (ha:a.length = 8) (hb:b.length = 8) (h:Blk j g 208 (a.map byte ++ b.map byte))=>YH a b g 2 208 j ha hb h)
 replace HT:=Aa HT
 have HB:=Aa hs;have H8:=Aa h8;have lS:=hS.lt;clear hs h8;go_enter func109,ntmps109;go_upto_region 3 with (first
  | (at_make;refine wpList_make_own _ rfl _ _ 206 rfl w.heap.size 208 i0 _ 8 underlying206 hi d2 a6 .i64 .i64 _ m rfl rfl rfl (by rw [c5];omega) (by unfold maxLen;omega) (by simp) ?_;intro W z a7;have t:=Ac a7)
  | (refine AL rfl 208 _ rfl _ rfl (k0.below t k0.lt) underlying208 rfl (by rw [a2];kernel_rfl) ?_)
  | (refine store_blk rfl 208 _ _ rfl _ rfl rfl (Blk.new W _ _) (by rw [a2];kernel_rfl) (by rw [a2];exact AD _ _) (AF _) ?_;intro w1 a3 c0 c6))
 have c4:W.heap.size ≥ w.heap.size + 2:=by
  have h:=z.lt (w.heap.size + 1) (by simp [Value.ownBlock]);omega
 have y:Bl W w1:=(At W _).grown c0 (by simp) (by intro k r;cases r;exact QE _)
 have bw:Bl w w1:=AB (AB (At w _) t) y;have s0:=hS.below bw lS;have o0:w1.ownsRow w.heap.size 208 8 (.slice (some ⟨w.heap.size + 1,0,none⟩) 0 m) 0 []:=World.ownsRow.kept (by simpa using z) (grown_of_below y none) (by right;simp [Value.ownBlock]);obtain ⟨B,hB⟩:=uX (W.heap.size);obtain ⟨G,hG⟩:=uX (w.heap.size + 1);have d6:G < B:=by omega
 have e0:w.heap.size < G:=by omega
 rw [<- hB] at a3 ⊢;rw [<- hG] at o0 ⊢;have q0:Blk w1 B 208 (d.map byte):=a3;clear a3 c0 c6 y z a7 t hB hG c4 k0;go_wp2_with fail
 go_loopw [11,14,21] (fun v _ i wr=>∃ k:Nat,k <= m /\ i = .int .i64 k /\ v = .slice (some ⟨G,0,none⟩) k m /\ wr.ownsRow w.heap.size 208 8 (.slice (some ⟨G,0,none⟩) k m) k ((Fb f d c k).flatten.map byte) /\ Blk wr B 208 ((F9 f d c k).map byte) /\ Blk wr S 291 mergedCells /\ Bl w wr) (fun _ _ i _=>m - (intOf i).toNat)
 case atStart=>exact ⟨0,QU _,rfl,rfl,o0,q0,s0,bw⟩
 case round =>
  clear o0 q0 s0 bw;obtain ⟨k,r,rfl,rfl,n,kB,kS,l⟩:=hrel
  by_cases hlt:k < m
  ·obtain ⟨g,d4,rfl,b7⟩:=HB.out k (by omega);have Z:=AU b7 l;have I:(c.getD k []).length = 8:=by
    rw [show c.getD k [] = c[k] from by simp [show k < c.length from by omega]];exact H8.out _ (Qd _)
   have T:=c3 k;have R:=Aa (show F9 f d c (k + 1) = f (AE (c.getD k []) (F9 f d c k)) from rfl);have HO:=Aa (Wx f d c k);obtain ⟨X,hX⟩:=uX (c.getD k []);obtain ⟨P,hP⟩:=uX (F9 f d c k);rw [<- hX] at Z I R;rw [<- hP] at kB T R;have a8:(AE X P).length = 8:=by rw [AW _ _ (by omega),I]
   obtain ⟨Y,hY⟩:=uX (AE X P);have c1:=Aa (fun (g:Nat) (j:World) (h:Blk j g 208 (X.map byte ++ P.map byte))=>HX.out X P g j I T h);rw [<- hY] at c1 R a8;have b0:=Aa (fun (j:World) (h:Blk j S 291 mergedCells)=>HT.out Y j a8 h);have b3:=hf Y;obtain ⟨N,hN⟩:=uX (f Y);rw [<- hN] at b0 R b3;have q:(X.map byte).length = 8:=by rw [QD,I]
   have U:(P.map byte).length = 8:=by rw [QD,T]
   have p:(N.map byte).length = 8:=by rw [QD,b3]
   have e1:(k:Int) < (m:Int):=by omega
   have lB:=kB.lt;have c9:=kS.lt;have lG:=(n.lt G (by simp [Value.ownBlock])).2;clear hX hP hY hN b7;go_wp2_with (first
    | (refine Qw rfl 208 _ rfl g (d4 + k * 8) rfl (X.map byte) _ Z underlying208 rfl (by rw [q];kernel_rfl) ?_)
    | (refine store_blk rfl 208 _ _ rfl _ rfl rfl (Blk.new wr _ _) (by rw [q];kernel_rfl) (by rw [q];exact AD _ _) (AF _) ?_;intro w2 d1 b1 d3;clear d3;have u:Bl wr w2:=((At wr _).grown b1 (by simp) (by intro k r;cases r;exact QE _));have E:=kB.below u lB;have a1:=kS.below u c9;have n2:Blk (w2.alloc (.cells (X.map byte ++ P.map byte).toArray 208)) w2.heap.size 208 (X.map byte ++ P.map byte):=(Blk.new w2 _ _))
    | (refine AL rfl 208 _ rfl _ rfl d1 underlying208 rfl (by rw [q];kernel_rfl) ?_)
    | (refine AL rfl 208 _ rfl _ rfl E underlying208 rfl (by rw [U];kernel_rfl) ?_)
    | (refine O0 rfl 206 _ _ rfl 208 8 _ (X.map byte) (P.map byte) rfl rfl underlying206 Tryz.zero208 q U (by omega) (by omega) ?_)
    | (go_at_call 111;refine (c1.out _ _ n2).mono ?_;rintro e3 w3 ⟨rfl,c2⟩;have o:=(AB (At w2 _) c2);have M:=a1.below o a1.lt;have V:=E.below o E.lt)
    | (go_at_call 110;refine (b0.out _ M).mono ?_;rintro e4 w4 ⟨rfl,s⟩;have b2:=V.below s V.lt;have H:=(AB (AB u o) s);have a9:=M.below s M.lt;have O:=(World.ownsRow.kept n (grown_of_below H none) (by right;simp [Value.ownBlock]));have b4:=(l.trans (H.mono l.size)))
    | (refine store_blk rfl 208 _ _ rfl _ rfl rfl b2 (by rw [p];kernel_rfl) (by rw [p];exact U) (AF _) ?_;intro w5 a0 F c8;clear c8;have a5:=(a9.grown F (by simp;omega));have D:=(World.ownsRow.kept O F (by right;simp [Value.ownBlock];omega));have b5:=(b4.grown F b4.size (by intro k r;cases r;omega));have n5:Blk (w5.alloc (.cells (N.map byte).toArray 208)) w5.heap.size 208 (N.map byte):=(Blk.new w5 _ _);have A:=Hk (Ad n5);have a4:=GU N)
    | (refine AL rfl 208 _ rfl _ rfl a0 underlying208 rfl (by rw [p];kernel_rfl) ?_)
    | (refine Gu rfl 206 _ rfl 208 8 _ (N.map byte) rfl underlying206 Tryz.zero208 p (by omega) (by omega) ?_)
    | (at_builtin;refine wpList_append_fits _ rfl _ _ 206 rfl w.heap.size 208 i0 8 underlying206 hi a6 G k m _ rfl (D.alloc _) ⟨w5.heap.size,0,none⟩ 1 1 (N.map byte) rfl p A a4 (by omega) ?_;intro w6 L J))
   have hO:(Fb f d c (k + 1)).flatten.map byte = (Fb f d c k).flatten.map byte ++ N.map byte:=by
    rw [HO.out,R.out,qh,Qf];simp
   rw [<- hO] at L;have b8:=(a0.alloc (.cells (N.map byte).toArray 208)).grown J (by simp;omega);have c7:=(a5.alloc (.cells (N.map byte).toArray 208)).grown J (by simp;omega);have b6:=(b5.alloc b5.size (.cells (N.map byte).toArray 208)).grown J (by simp;have:=b5.size;omega) (by intro k r;cases r;omega)
   rw [<- R.out] at b8;clear D O n J F b1 kB E V b2 a0 kS a1 M a9 a5 b4 b5 l n2 n5 A a4 Z;go_wp2;go_roundw
   case rel=>exact ⟨k + 1,by omega,by go_num,rfl,L,b8,c7,b6⟩
   case measure=>simp [intOf];omega
  ·obtain rfl:k = m:=by omega
   go_wp2;go_ret;exact ⟨_,rfl,by unfold OwnK;rw [Lg];exact n,l⟩
end Go.Proofs.YtbkokcjolanpeaaGreatDoor
namespace Go.Proofs.YtbkokcjolanpeaaGreatDoor
open Go.RowKit Go.Proofs.Tryz Act
section
variable {P:Program} {o:Oper} {a:Act} {w:World} {K:Act -> World -> Prop} {Q:Exit -> Act -> World -> Prop}
end
theorem Wj (b:Option Addr) (a:Nat) (w:World) :
 Calls prog 107 #[.slice b 0 a,.int .i64 8,.func (.func 108) #[] #[]] w fun e w'=>e = .returned (.slice none 0 0) /\ w' = w:=by
 go_enter func107,ntmps107;go_wp2;go_loop [7,8] (fun v i=>v = .slice none 0 0 /\ i = .int .i64 0) (fun _ _=>0)
 case atStart=>exact ⟨rfl,rfl⟩
 case round =>
  obtain ⟨rfl,rfl⟩:=hrel;go_wp2;go_ret;exact ⟨rfl,rfl⟩
def nBlocks (data:LU):Nat:=(data.length + 7) / 8
theorem aY (data:LU) (c:Option Addr) (a:Nat) (w:World) (f:data.length <= 4096) (i:data.length <= a) (g:RowAt w c data) :
 Calls prog 107 #[.slice c data.length a,.int .i64 8,.func (.func 108) #[] #[]] w fun e w'=>∃ v,e = .returned v /\ OwnK w' w.heap.size v (chunks data (nBlocks data)) /\ Bl w w':=by
 by_cases h0:0 < data.length
 ·obtain ⟨b,o,rfl,d⟩:=g.range h0;exact XT data b o a w f i d
 ·obtain rfl:data = []:=List.length_eq_zero_iff.1 (by omega);refine (Wj c a w).mono ?_;rintro e w' ⟨rfl,rfl⟩;exact ⟨_,rfl,Qa _ _ _ _,Below.refl _ _⟩
def Ep (a:List LU):List LU:=if a.length = 0 then [AJ 8] else a
theorem US:(madeCells (Value.agg (AC 8 .u8).toArray).cells (1 * 8)).toList = [AJ 8].flatten.map byte:=by kernel_rfl
theorem UV (v:Value) (b:Option Addr) (n a:Nat) (w:World) (c:v = .slice b n a) (f:0 < n) (d:n <= 4096) :
 Calls prog 106 #[v] w fun e w'=>e = .returned v /\ w' = w:=by
 subst c;have g:¬ ((n:Int) = 0):=by omega
 go_enter func106,ntmps106;go_wp2;go_ret;exact ⟨rfl,rfl⟩
theorem Tv (k:Option Addr) (i:Nat) (w:World) :
 Calls prog 106 #[.slice k 0 i] w fun e w'=>∃ v,e = .returned v /\ OwnK w' w.heap.size v [AJ 8] /\ Bl w w':=by
 obtain ⟨m,l,d,g,f⟩:=Qg Tryz.info208;have j:=US;go_enter func106,ntmps106;go_wp2_with (at_make;refine Qv _ rfl _ _ 206 rfl w.heap.size 208 m _ 8 underlying206 l d g .i64 .i64 _ _ 1 rfl rfl rfl rfl (by rw [f];omega) (by unfold maxLen;omega) (QE _) ?_;intro n a b;rw [j] at a;have c:=Ac b)
 go_ret;exact ⟨_,rfl,a,c⟩
theorem VZ (v:Value) (c:List LU) (base:Nat) (w:World) (k:c.length <= 4096) (l:base <= w.heap.size) (h:OwnK w base v c) :
 Calls prog 106 #[v] w fun e w'=>∃ d,e = .returned d /\ OwnK w' base d (Ep c) /\ Bl w w':=by
 unfold Ep
 by_cases h0:c.length = 0
 ·rw [if_pos h0];obtain ⟨b,a,rfl⟩:∃ b a,v = .slice b 0 a:=by
   rcases h.2 with ⟨rfl,-⟩ | ⟨g,a,i,rfl,-⟩
   ·exact ⟨none,0,rfl⟩
   ·exact ⟨_,a,by rw [h0]⟩
  refine (Tv b a w).mono ?_;rintro e w' ⟨d,rfl,j,f⟩;exact ⟨d,rfl,j.mono l,f⟩
 ·rw [if_neg h0];obtain ⟨b,a,m⟩:∃ b a,v = .slice b c.length a:=by
   rcases h.2 with ⟨rfl,n⟩ | ⟨g,a,i,rfl,-⟩
   ·omega
   ·exact ⟨_,a,rfl⟩
  refine (UV v b c.length a w m (by omega) k).mono ?_;rintro e w' ⟨rfl,rfl⟩;exact ⟨v,rfl,h,Below.refl _ _⟩
def macBlocks (data:LU):List LU:=Ep (chunks data (nBlocks data))
theorem Mp (data:LU):∀ b ∈ macBlocks data,b.length = 8:=by
 intro b a;unfold macBlocks Ep at a
 split at a
 ·simp only [List.mem_singleton] at a;rw [a];simp [AJ]
 ·simp only [chunks,Qz] at a;obtain ⟨k,-,rfl⟩:=a;exact Ka _ _
theorem Jy (data:LU):0 < (macBlocks data).length:=by
 unfold macBlocks Ep
 split
 ·simp
 ·omega
theorem Kl (data:LU) (h:data.length <= 4096):(macBlocks data).length <= 4096:=by
 unfold macBlocks Ep
 split
 ·simp
 ·rw [Ci];unfold nBlocks;omega
theorem DF (n:Nat):(AJ n).length = n:=by simp [AJ]
theorem SR {P:Program} {ops:Array Oper} {rest:List Oper} {o:Oper} {a:Act} {w:World} {Q:Exit -> Act -> World -> Prop} (c:o.guard = none) (t:Nat) (b:o.op = .build t #[]) (cs:List Value)
 (d:P.built t [] = some cs.toArray) (h:wpList P ops Q rest (a.put o.dst (.agg cs.toArray)) w):wpList P ops Q (o :: rest) a w :=
 EN c t #[] b cs (by simpa using d) h
theorem VG:prog.built 208 [] = some ((AJ 8).map byte).toArray:=by kernel_rfl
def IY (key data:LU):LU:=F9 (EE (key.take 8)) (AJ 8) (macBlocks data) (macBlocks data).length
def IA (key data:LU):LU:=EE (key.take 8) (IG (key.drop 8) (IY key data))
theorem JL (key data:LU):(IA key data).length = 8:=ER _ _
theorem TD (key data:LU):(IY key data).length = 8:=LS _ (fun _=>ER _ _) _ (DF 8) _ _
theorem ZF (f:LU -> LU) (a:LU) (b:List LU) (m k:Nat) (h:k < m):(Fb f a b m).getD k [] = F9 f a b (k + 1):=by simp [Fb,h]
theorem Up (f:LU -> LU) (g:∀ x,(f x).length = 8) (c:LU) (d:List LU) (m:Nat):∀ b ∈ Fb f c d m,b.length = 8:=by
 intro b a;simp only [Fb,Qz] at a;obtain ⟨k,-,rfl⟩:=a;exact g _
theorem Sl (key data:LU) (kb ko ck cd:Nat) (ad:Option Addr) (w:World) (hk:key.length = 16) (hn:data.length <= 4096) (hc:data.length <= cd) (rk:w.rangeAt kb ko (key.map byte)) (rd:RowAt w ad data) :
 Calls prog 57 #[.slice (some ⟨kb,ko,none⟩) 16 ck,.slice ad data.length cd] w fun e w'=>∃ v,e = .returned v /\ Own w' w.heap.size v (IA key data) /\ Bl w w':=by
 have hz:=(QO Tryz.zero204).1;have j8:=(QO Tryz.zero208).1;have j3:=fun (f:World)=>run_arrayAt (P:=prog) (w:=f) 88 5 16 (some ⟨kb,ko,none⟩) 16 ck underlying88 (QE _);have i1:(key.map byte).length = 16:=by rw [QD,hk]
 have A:=Aa (fun (f:World) (h:RowAt f ad data)=>aY data ad cd f hn hc h);have g9:(chunks data (nBlocks data)).length <= 4096:=by rw [Ci];unfold nBlocks;omega
 have HL:=Aa (fun (v:Value) (base:Nat) (f:World) (hb:base <= f.heap.size) (h:OwnK f base v (chunks data (nBlocks data)))=>VZ v _ base f g9 hb h);have h8:=Mp data;have f3:=Jy data;have f9:=Kl data hn;have Y:=fun m k h=>ZF (EE (key.take 8)) (AJ 8) (macBlocks data) m k h;have X:=Up (EE (key.take 8)) (fun _=>ER _ _) (AJ 8) (macBlocks data);have F:=Aa (fun (S:Nat) (ao:Option Addr) (b9:Nat) (f:World) (hs:Blks f ao (macBlocks data)) (hS:Blk f S 291 mergedCells)=>VB (EE (key.take 8)) (fun _=>ER _ _) (.agg (AV (key.take 8) S).toArray) S (AJ 8) (DF 8) (macBlocks data) h8 ao (macBlocks data).length b9 rfl f9 f hs hS (fun x j2 hx i9=>Ld (key.take 8) x S j2 hx i9));show Calls prog 57 #[.slice (some ⟨kb,ko,none⟩) 16 ck,.slice ad data.length cd] w fun e w'=>∃ v,e = .returned v /\ Own w' w.heap.size v (EE (key.take 8) (IG (key.drop 8) (IY key data))) /\ Bl w w';have b7:=TD key data;have I:(EE (key.take 8) (IG (key.drop 8) (IY key data))).length = 8:=ER _ _;have O:=Aa (fun (S:Nat) (f:World) (h:Blk f S 291 mergedCells)=>Sp (key.drop 8) (IY key data) S f b7 h);have HE:=Aa (fun (S:Nat) (f:World) (h:Blk f S 291 mergedCells)=>Ld (key.take 8) (IG (key.drop 8) (IY key data)) S f (LR _ _) h);obtain ⟨M,hM⟩:=uX (EE (key.take 8) (IG (key.drop 8) (IY key data)));obtain ⟨D,hD⟩:=uX (IG (key.drop 8) (IY key data));rw [<- hM] at HE I ⊢;rw [<- hD] at O HE;have Hh:=Aa (show IY key data = F9 (EE (key.take 8)) (AJ 8) (macBlocks data) (macBlocks data).length from rfl);obtain ⟨h,hh⟩:=uX (IY key data);rw [<- hh] at O Hh b7;obtain ⟨bl,a5⟩:=uX (macBlocks data);obtain ⟨ch,b1⟩:=uX (chunks data (nBlocks data));have HL':Hid (∀ (v:Value) (base:Nat) (f:World),base <= f.heap.size -> OwnK f base v ch -> Calls prog 106 #[v] f fun e w'=>∃ v',e = .returned v' /\ OwnK w' base v' bl /\ Bl f w'):=by
  rw [a5,b1];exact HL
 rw [<- b1] at A;rw [<- a5] at F Hh h8 f3 f9 Y X;clear HL hM hD hh a5 b1 g9;obtain ⟨m,hm⟩:=uX (bl.length);obtain ⟨q,hq⟩:∃ q,m = q + 1:=⟨m - 1,by omega⟩;obtain ⟨l,c1⟩:=uX (key.take 8);obtain ⟨R,b4⟩:=uX (key.drop 8);have a6:=Aa (fun (f:World)=>TA key f hk);rw [<- c1,<- b4] at a6;rw [<- c1] at F HE Y X Hh;rw [<- b4] at O;have HO:=Aa X;have Hg:Hid ((Fb (EE l) (AJ 8) bl m).getD q [] = h):=by
  have e:=Y m q (by omega);show _ = _;rw [e,Hh.out,<- hm,hq]
 have a9:=Lg (EE l) (AJ 8) bl m;rw [<- hm] at F;obtain ⟨d3,p⟩:=uX (Fb (EE l) (AJ 8) bl m);have i7:Hid (∀ b ∈ d3,b.length = 8):=by rw [p];exact HO.out m
 have HCH':Hid (∀ (S:Nat) (ao:Option Addr) (b9:Nat) (f:World),Blks f ao bl -> Blk f S 291 mergedCells -> Calls prog 109 #[.func (.func 110) #[.agg (AV l S).toArray] #[],.func (.func 111) #[] #[],.agg ((AJ 8).map byte).toArray,.slice ao m b9,.bool false] f fun e w'=>∃ v,e = .returned v /\ OwnK w' f.heap.size v d3 /\ Bl f w'):=by
  rw [p];exact F
 rw [<- p] at Hg a9;have H8:=Aa h8;have HM:=Aa hm;have HQ:=Aa hq;have k3:IntKind.i64.wrap ((m:Int) - 1) = (q:Int):=by rw [QH];omega
 have k5:(q:Int) < (m:Int):=by omega
 have i8:q < m:=by omega
 clear F p c1 b4 Y X h8 hm hq HO f3;obtain ⟨n,h2⟩:=uX (data.length);rw [<- h2] at hn hc A ⊢;clear h2 hc;have k0:¬ ((4096:Int) < (n:Int)):=by omega
 have T:(h.map byte).length = 8:=by rw [QD,b7]
 have t:(M.map byte).length = 8:=by rw [QD,I]
 obtain ⟨Z,hZ⟩:=uX ((AJ 8).map byte);have f8:=VG;rw [<- hZ] at HCH' f8;clear hZ;go_enter func57,ntmps57;go_wp2_with (first
  | (refine Qw rfl 88 _ rfl kb ko rfl (key.map byte) _ rk underlying88 rfl (by rw [i1];kernel_rfl) ?_)
  | (go_at_call 105;refine (a6.out _).mono ?_;rintro e1 w1 ⟨S,rfl,j0,d6,c8⟩;have c6:=EJ l R S;have lS:=d6.lt)
  | (refine store_blk rfl 204 _ _ rfl _ rfl rfl (Blk.new w1 _ _) (by rw [c6];kernel_rfl) (by rw [c6];exact Il) (LO _ _ _) ?_;intro w2 a0 h0 j1;clear j1;have L:Bl w1 w2:=((At w1 _).grown h0 (by simp) (by intro k hk;cases hk;exact QE _));have b2:=AB c8 L;have s2:=d6.below L lS;have lC:=a0.lt)
  | (go_at_call 107;refine (A.out _ (rd.below b2)).mono ?_;rintro e3 w3 ⟨v3,rfl,e2,N⟩)
  | (go_at_call 106;refine (HL'.out _ _ _ N.size e2).mono ?_;rintro e4 w4 ⟨v4,rfl,b3,a7⟩;have r:=AB N a7;have g7:=a0.below r lC;have s4:=s2.below r s2.lt;obtain ⟨i3,h9,f7,-,d5⟩:=b3.blks H8.out;rw [<- HM.out] at f7;subst f7;have g0:=Ia (a:=AV l S) (b:=AV R S) g7)
  | (refine Qw rfl 202 _ rfl _ 0 rfl (AV l S) _ g0 underlying202 rfl (by rw [AZ];kernel_rfl) ?_)
  | (refine SR rfl 208 rfl Z f8 ?_)
  | (go_at_call 109;refine (HCH'.out S i3 h9 _ d5 s4).mono ?_;rintro e5 w5 ⟨v5,rfl,a8,c5⟩;have W:=AB r c5;obtain ⟨j9,j7,h3,-,c3⟩:=a8.blks i7.out;rw [a9] at h3;subst h3;obtain ⟨g5,o5,rfl,d2⟩:=c3 q (by rw [a9];exact i8);rw [Hg.out] at d2)
  | (refine Qw rfl 208 _ rfl g5 (o5 + q * 8) rfl (h.map byte) _ d2 underlying208 rfl (by rw [T];kernel_rfl) ?_)
  | (refine store_blk rfl 208 _ _ rfl _ rfl rfl (Blk.new w5 _ _) (by rw [T];kernel_rfl) (by rw [T];exact AD _ _) (AF _) ?_;intro w6 G h1 i4;clear i4;have c2:Bl w5 w6:=((At w5 _).grown h1 (by simp) (by intro k hk;cases hk;exact QE _))))
 have o:=AB W c2;have s:=a0.below o lC;have s6:=s2.below o s2.lt;have b6:=AB b2 o;obtain ⟨z,h5⟩:=uX (w1.heap.size);obtain ⟨a2,f2⟩:=uX (w5.heap.size);rw [<- h5] at s ⊢;rw [<- f2] at G ⊢;obtain ⟨V,J⟩:=uX (w6.drew)
 replace G:Blk V a2 208 (h.map byte):=by rw [J];exact G.drew1
 replace s:Blk V z 204 (C4 l R S):=by rw [J];exact s.drew1
 replace s6:Blk V S 291 mergedCells:=by rw [J];exact s6.drew1
 have bV:Bl w V:=by rw [J];exact b6.drew
 have b8:=bV.size
 replace O:=Aa (O.out S)
 replace HE:=Aa (HE.out S)
 clear b6 o W c2 h1 a8 c3 d2 b3 d5 g7 s4 g0 e2 N a7 r c5 a0 h0 L b2 s2 lC d6 j0 c8 c6 lS h5 f2 HCH' a6 A HL' rd j3 rk hz;have C:Bl V V:=Below.refl _ _;have j:Hid (∀ {x},Bl V x -> Blk x S 291 mergedCells):=fun h=>s6.below h s6.lt;have i:Hid (∀ {x},Bl V x -> x.rangeAt z 0 (AV l S) /\ x.rangeAt z 17 (AV R S) /\ x.rangeAt a2 0 (h.map byte)):=fun hx=>⟨Ia (s.below hx s.lt),JW (s.below hx s.lt) (AZ _ _),Ad (G.below hx G.lt)⟩;refine QJ (S:=fun x=>x.rangeAt z 0 (AV l S) /\ x.rangeAt z 17 (AV R S) /\ x.rangeAt a2 0 (h.map byte)) (by kernel_rfl) (by rw [<- J];exact i.out C) (fun c=>?_);rw [<- J] at c ⊢;clear J;refine tA 0 (.pointer (some ⟨z,0,none⟩)) c ?_
 try dsimp only [put]
 refine tB 1 (.agg (AV l S).toArray) rfl (QY (by rfl) 202 _ rfl z 0 rfl (AV l S) _ (fun _ h=>h.1) underlying202 rfl (by rw [AZ];kernel_rfl)) c ?_
 try dsimp only [put]
 refine tA 2 (.pointer (some ⟨z,17,none⟩)) c ?_
 try dsimp only [put]
 refine tB 3 (.agg (AV R S).toArray) rfl (QY (by rfl) 202 _ rfl z 17 rfl (AV R S) _ (fun _ h=>h.2.1) underlying202 rfl (by rw [AZ];kernel_rfl)) c ?_
 try dsimp only [put]
 refine tB 4 (.agg (h.map byte).toArray) rfl (QY (by rfl) 208 _ rfl a2 0 rfl (h.map byte) _ (fun _ h=>h.2.2) underlying208 rfl (by rw [T];kernel_rfl)) c ?_
 try dsimp only [put]
 refine Qr (rs:=[5,7]) (by kernel_rfl) (by simp) ?_;refine AllReadyH.cons rfl (fun K d=>?_) (AllReadyH.cons rfl (fun K d=>?_) (AllReadyH.nil))
 ·go_simp;refine (O.out _ (j.out C)).mono ?_;rintro e a4 ⟨rfl,e8⟩;have E:=AB C e8;go_wp2_with fail;refine d.out _ _ (i.out E) (fun c=>?_);clear d K
  try dsimp only [put]
  refine Qr (rs:=[6,7]) (by kernel_rfl) (by simp) ?_;refine AllReadyH.cons rfl (fun K d=>?_) (AllReadyH.cons rfl (fun K d=>?_) (AllReadyH.nil))
  ·go_simp;refine (HE.out _ (j.out E)).mono ?_;rintro e a1 ⟨rfl,e7⟩;have c4:=AB E e7;go_wp2_with fail;refine d.out _ _ (i.out c4) (fun c=>?_);clear d K
   try dsimp only [put]
   refine rdy1 7 (fun K d=>?_);go_simp;obtain ⟨i2,y⟩:=uX (World.alloc a1 (.cells (AC 8 .u8).toArray 208));have e6:=uB y;have f1:Blk i2 a1.heap.size 208 (AC 8 .u8):=by rw [y];exact Blk.new _ _ _
   have c0:=c4.size;have g8:=AB c4 e6;rw [<- y];clear y;refine d.out _ _ (i.out g8) (fun c=>?_);clear d K
   try dsimp only [put]
   refine rdy1 8 (fun K d=>?_);rw [if_pos (by rfl)];refine AR rfl 208 _ _ rfl a1.heap.size rfl rfl f1 (by rw [t];kernel_rfl) (by rw [t];exact AD _ _) (AF _) ?_;have j5:=Blk.setRow f1 (M.map byte);have h4:=AN (g:=a1.heap.size) g8 c0 (M.map byte).toArray;refine d.out _ _ (i.out h4) (fun c=>?_);clear d K
   try dsimp only [put]
   refine QM (by kernel_rfl) ?_ _;go_wp2;go_ret;exact ⟨_,rfl,E7 j5 (by omega) I (by unfold maxLen;omega),bV.trans (h4.mono b8)⟩
  ·go_simp;obtain ⟨i5,B⟩:=uX (World.alloc a4 (.cells (AC 8 .u8).toArray 208));have e9:=uB B;have g6:Blk i5 a4.heap.size 208 (AC 8 .u8):=by rw [B];exact Blk.new _ _ _
   have d1:=E.size;have e0:=AB E e9;rw [<- B];clear B;refine d.out _ _ (i.out e0) (fun c=>?_);clear d K
   try dsimp only [put]
   refine rdy1 6 (fun K d=>?_);go_simp;refine (HE.out _ (j.out e0)).mono ?_;rintro e k4 ⟨rfl,a3⟩;have f5:=g6.below a3 g6.lt;have f4:=AB e0 a3;go_wp2_with fail;refine d.out _ _ (i.out f4) (fun c=>?_);clear d K
   try dsimp only [put]
   refine rdy1 8 (fun K d=>?_);rw [if_pos (by rfl)];refine AR rfl 208 _ _ rfl a4.heap.size rfl rfl f5 (by rw [t];kernel_rfl) (by rw [t];exact AD _ _) (AF _) ?_;have j4:=Blk.setRow f5 (M.map byte);have f6:=AN (g:=a4.heap.size) f4 d1 (M.map byte).toArray;refine d.out _ _ (i.out f6) (fun c=>?_);clear d K
   try dsimp only [put]
   refine QM (by kernel_rfl) ?_ _;go_wp2;go_ret;exact ⟨_,rfl,E7 j4 (by omega) I (by unfold maxLen;omega),bV.trans (f6.mono b8)⟩
 ·go_simp;obtain ⟨i6,u⟩:=uX (World.alloc V (.cells (AC 8 .u8).toArray 208));have f0:=uB u;have h7:Blk i6 V.heap.size 208 (AC 8 .u8):=by rw [u];exact Blk.new _ _ _
  have c9:=C.size;have b0:=AB C f0;rw [<- u];clear u;refine d.out _ _ (i.out b0) (fun c=>?_);clear d K
  try dsimp only [put]
  refine rdy1 5 (fun K d=>?_);go_simp;refine (O.out _ (j.out b0)).mono ?_;rintro e k6 ⟨rfl,U⟩;have h6:=h7.below U h7.lt;have d0:=AB b0 U;go_wp2_with fail;refine d.out _ _ (i.out d0) (fun c=>?_);clear d K
  try dsimp only [put]
  refine rdy1 6 (fun K d=>?_);go_simp;refine (HE.out _ (j.out d0)).mono ?_;rintro e j6 ⟨rfl,H⟩;have d4:=h6.below H h6.lt;have c7:=AB d0 H;go_wp2_with fail;refine d.out _ _ (i.out c7) (fun c=>?_);clear d K
  try dsimp only [put]
  refine rdy1 8 (fun K d=>?_);rw [if_pos (by rfl)];refine AR rfl 208 _ _ rfl V.heap.size rfl rfl d4 (by rw [t];kernel_rfl) (by rw [t];exact AD _ _) (AF _) ?_;have i0:=Blk.setRow d4 (M.map byte);have b5:=AN (g:=V.heap.size) c7 c9 (M.map byte).toArray;refine d.out _ _ (i.out b5) (fun c=>?_);clear d K
  try dsimp only [put]
  refine QM (by kernel_rfl) ?_ _;go_wp2;go_ret;exact ⟨_,rfl,E7 i0 (by omega) I (by unfold maxLen;omega),bV.trans (b5.mono b8)⟩
end Go.Proofs.YtbkokcjolanpeaaGreatDoor
