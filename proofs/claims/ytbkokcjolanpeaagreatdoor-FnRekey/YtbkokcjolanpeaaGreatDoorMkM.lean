import Derived.Test.YtbkokcjolanpeaaGreatDoorMkJ
set_option maxRecDepth 100000
set_option maxHeartbeats 20000000
namespace Go.Proofs.YtbkokcjolanpeaaGreatDoor
open Go.RowKit Go.Proofs.Tryz Act
section
variable {P:Program} {o:Oper} {a:Act} {w:World} {K:Act -> World -> Prop} {Q:Exit -> Act -> World -> Prop}
theorem Pc (d:Option Tmp) (I:o.dst = d) (s x:Operand) (t:TypeId) (L:o.op = .call { callee:=.builtin .append,args:=#[s,x],argTypes:=#[t,t] })
 (base:Nat) (e:TypeId) (i:TypeInfo) (z:Value) (size f:Nat) (N:P.underlying t = some (.slice e)) (F:P.info? e = some i) (hz:i.zero = some z)
 (p:i.size = size) (D:i.bytes = f) (E:z.cells.size = size) (C:0 < size)
 (v:Value) (n:Nat) (q:List Value) (H:a.eval s = v) (y:w.ownsRow base e size v n q)
 (r:Addr) (m c:Nat) (b:List Value) (G:a.eval x = .slice (some r) m c) (J:b.length = m * size) (k:∀ j u,b[j]? = some u -> w.cell? (r.add j) = some u) (M:∀ u ∈ b,u.oneCell' = true)
 (B:n + m <= maxLen) (g:(n + m) * f <= 140737488355328) (l:base <= w.heap.size)
 (h:∀ A w',w'.ownsRow base e size A (n + m) (q ++ b) -> w.grownBy w' v.ownBlock -> (A = .slice none 0 0 ↔ v = .slice none 0 0 /\ m = 0) -> K (a.put d A) w'):o.wp P a w K Q:=by
 subst I;exact wp_append_own w s x t L base e i z size f N F hz p D E C v n q H y r m c b G J k M B g l h
end
theorem ZI {w:World} {g:Nat} {l:LU} (h:RowAt w (some ⟨g,0,none⟩) l):∀ j u,(l.map byte)[j]? = some u -> w.cell? ((⟨g,0,none⟩:Addr).add j) = some u:=by
 intro j u f;obtain ⟨a,d⟩:=List.getElem?_eq_some_iff.1 f;rw [QD] at a;obtain ⟨k,i,c,b⟩:=h.at a;cases c
 rw [qZ,b j a,<- d];simp [byte,a]
theorem GU (l:LU):∀ u ∈ l.map byte,u.oneCell' = true:=by
 intro u a;obtain ⟨x,-,rfl⟩:=List.mem_map.1 a
 rfl
theorem Aa {p:Prop} (h:p):Hid p:=h
def Dt (p:LU):LU:=p ++ AJ (16 - p.length)
theorem Km (p:LU) (h:p.length <= 16):(Dt p).length = 16:=by simp [Dt,AJ];omega
theorem GW {w:World} {b o:Nat} {l:LU} (h:w.rangeAt b o (l.map byte)):∀ j u,(l.map byte)[j]? = some u -> w.cell? ((⟨b,o,none⟩:Addr).add j) = some u:=by
 intro j u a;rw [qZ];exact h j u a
theorem Pq (p:LU) (b o i:Nat) (w:World) (u:p.length <= 16) (x:w.rangeAt b o (p.map byte)) :
 Calls prog 141 #[.slice (some ⟨b,o,none⟩) p.length i] w fun e w'=>e = .returned (.agg ((Dt p).map byte).toArray) /\ Bl w w':=by
 have hz:=(QO Tryz.zero88).1;obtain ⟨W,c⟩:=uX ((w.alloc (.cells (AC 16 .u8).toArray 88)).alloc (.cells (AC 16 .u8).toArray 88));have F:Blk W w.heap.size 88 (AC 16 .u8):=by rw [c];exact (Blk.new w _ _).alloc _
 have B:Blk W (w.heap.size + 1) 88 (AC 16 .u8):=by rw [c];exact Blk.new2 w _ _ _
 have D:Bl w W:=by rw [c];exact (At w _).alloc (by simp) _
 have d:=Km p u;have a:((Dt p).map byte).length = 16:=by rw [QD,d]
 have l:(AC 16 .u8).toArray.toList.take 0 ++ (p.map byte ++ (AC 16 .u8).toArray.toList.drop (0 + (p.map byte).length)) = (Dt p).map byte:=by
  rw [List.toList_toArray,List.take_zero,qQ,QZ,QD];unfold Dt AC AJ;rw [List.drop_replicate,Qf,List.map_replicate]
  rfl
 have r:(p.map byte).length = Nat.min p.length 16:=by rw [QD];exact (Nat.min_eq_left u).symm
 have f:=GW (AU x D);have q:=GU p;have m:0 + (p.map byte).length <= (AC 16 .u8).toArray.size:=by rw [QD,Qo,AD];omega
 have C:=Blk.setRow B ((Dt p).map byte);have y:Blk (W.setRow (w.heap.size + 1) ((Dt p).map byte).toArray) w.heap.size 88 (AC 16 .u8):=F.setRow_other (by omega);have n:=AN (g:=w.heap.size + 1) D (by omega) ((Dt p).map byte).toArray;obtain ⟨L,z⟩:=uX ((Dt p).map byte);have j:=AF (Dt p);rw [<- z] at a l C y n j ⊢;have s:Hid (W = (w.alloc (.cells (AC 16 .u8).toArray 88)).alloc (.cells (AC 16 .u8).toArray 88)):=c;clear c z x d;go_enter func141,ntmps141;go_upto_region 2 with fail
 rw [<- show W = _ from s];clear s;go_wp2_with (first
  | (refine wpList_copy_own rfl _ _ 22 22 rfl 5 underlying22 (by kernel_rfl) (w.heap.size + 1) 0 16 16 ⟨b,o,none⟩ p.length i rfl rfl _ 88 B (p.map byte) r f m q ?_;rw [l])
  | (refine AL rfl 88 _ rfl _ rfl C underlying88 rfl (by rw [a];kernel_rfl) ?_)
  | (refine store_blk rfl 88 _ _ rfl _ rfl rfl y (by rw [a];kernel_rfl) (by rw [a];exact AD _ _) j ?_;intro H t A G))
 exact Qc (v:=.agg L.toArray) (AG results141 _ _ rfl t underlying88 rfl (by rw [a];kernel_rfl)) rfl ⟨rfl,n.grown A n.size (by intro k E;cases E;exact QE _)⟩
theorem Wv (N:Nat) (a:List Value) (b:Array Value) (f:b.size = N) (d:a.length = N):Instr.fill (fun i=>some (i * N,N)) b [(0,.agg a.toArray)] = some a.toArray:=by
 have c:=Fq a 0 b (by omega);simp only [QZ,List.take_zero,qQ,d] at c;rw [qE (by rw [Ql];omega),qM] at c;simp only [Instr.fill,Value.cells,Qo,d,Nat.zero_mul,QZ,ne_eq,not_true_eq_false,decide_false,Bool.false_or,Qh,<- Array.foldl_toList,Array.toList_zipIdx,c];rw [if_neg (by omega)]
theorem MY {P:Program} (w:World) (t e N:Nat) (z:Value) (a:List Value) (n:P.underlying t = some (.slice e)) (hz:(P.info? e).map (fun i=>(i.zero,i.size)) = some (some z,N)) (k:a.length = N) (o:0 < N) (p:N <= 1048576) :
 (Instr.buildSlice t 1 #[(0,.agg a.toArray)]).run P w = .ok (.slice (some ⟨w.heap.size,0,none⟩) 1 1) (w.alloc (.cells a.toArray e)):=by
 cases hq:P.info? e with
 | none=>simp [hq] at hz
 | some i =>
   have d:i.zero = some z:=by simp [hq] at hz;exact hz.1
   have c:i.size = N:=by simp [hq] at hz;exact hz.2
   have m:¬ (N > 16777216):=by omega
   have l:¬ (N = 0):=by omega
   have f:=Wv N a ((Array.range (1 * N)).map (z.cells[· % z.cells.size]!)) (by simp) k;have j:∀ b,(sizeOf e).run P b = .ok N b:=fun b=>by simp [sizeOf,typeInfo,hq,c]
   have g:∀ b,(zeroValue e).run P b = .ok z b:=fun b=>by simp [zeroValue,typeInfo,hq,d]
   rw [Nat.one_mul] at f;simp [Instr.buildSlice,run_underlying n,j,g,f,newRow];rw [if_neg m,if_neg l]
section
variable {P:Program} {op:Oper} {a:Act} {w:World} {K:Act -> World -> Prop} {Q:Exit -> Act -> World -> Prop} {ops:Array Oper} {rest:List Oper}
theorem Tz (d:Option Tmp) (g:op.dst = d) (t:TypeId) (x:Operand) (b:op.op = .buildSlice t 1 #[(0,x)]) (e N:Nat) (z:Value) (A:List Value) (k:a.eval x = .agg A.toArray)
 (j:P.underlying t = some (.slice e)) (hz:(P.info? e).map (fun i=>(i.zero,i.size)) = some (some z,N)) (c:A.length = N) (f:0 < N) (l:N <= 1048576)
 (h:K (a.put d (.slice (some ⟨w.heap.size,0,none⟩) 1 1)) (w.alloc (.cells A.toArray e))):op.wp P a w K Q:=by
 subst g;unfold Oper.wp execOp;simp only [b,qR,qD,qN,k,Qe,MY w t e N z A j hz c f l,qB];exact h
theorem GP (b:op.guard = none) (t:TypeId) (x:Operand) (c:op.op = .buildSlice t 1 #[(0,x)]) (e N:Nat) (z:Value) (A:List Value) (k:a.eval x = .agg A.toArray)
 (j:P.underlying t = some (.slice e)) (hz:(P.info? e).map (fun i=>(i.zero,i.size)) = some (some z,N)) (f:A.length = N) (g:0 < N) (l:N <= 1048576)
 (h:wpList P ops Q rest (a.put op.dst (.slice (some ⟨w.heap.size,0,none⟩) 1 1)) (w.alloc (.cells A.toArray e))):wpList P ops Q (op :: rest) a w :=
 wpList_plain b fun _ d=>Tz op.dst rfl t x c e N z A k j hz f g l (d _ _ h)
theorem No (b:op.guard = none) (t:TypeId) (x y:Operand) (c:op.op = .buildSlice t 2 #[(0,x),(1,y)]) (e N:Nat) (z:Value) (A B:List Value) (m:a.eval x = .agg A.toArray) (g:a.eval y = .agg B.toArray)
 (l:P.underlying t = some (.slice e)) (hz:(P.info? e).map (fun i=>(i.zero,i.size)) = some (some z,N)) (f:A.length = N) (k:B.length = N) (j:0 < N) (n:N <= 1048576)
 (h:wpList P ops Q rest (a.put op.dst (.slice (some ⟨w.heap.size,0,none⟩) 2 2)) (w.alloc (.cells (A ++ B).toArray e))):wpList P ops Q (op :: rest) a w :=
 wpList_plain b fun _ d=>Bi op.dst rfl t x y c e N z A B m g l hz f k j n (d _ _ h)
end
def OwnKQ (w:World) (base:Nat) (v:Value) (a:List LU):Prop:=w.ownsRow base 88 16 v a.length (a.flatten.map byte)
theorem OwnKQ.below {w w':World} {base:Nat} {v:Value} {l:List LU} (h:OwnKQ w base v l) (a:Bl w w'):OwnKQ w' base v l :=
 World.ownsRow.kept h (grown_of_below a none) (by cases b:v.ownBlock <;> simp)
theorem OwnKQ.mono {w:World} {B base:Nat} {v:Value} {l:List LU} (h:OwnKQ w base v l) (f:B <= base):OwnKQ w B v l:=by
 refine ⟨h.1,?_⟩;rcases h.2 with h | ⟨g,a,b,c,d,r⟩
 ·exact .inl h
 ·exact .inr ⟨g,a,b,c,by omega,r⟩
def I8 (data:LU) (k:Nat):LU:=Dt ((data.drop (16 * k)).take 16)
def chunksQ (data:LU) (k:Nat):List LU:=(List.range k).map (I8 data)
theorem Py (data:LU) (k:Nat):chunksQ data (k + 1) = chunksQ data k ++ [I8 data k]:=by simp [chunksQ,List.range_succ]
theorem Cs (data:LU) (k:Nat):(chunksQ data k).length = k:=by simp [chunksQ]
theorem J0 (data:LU) (k:Nat):(I8 data k).length = 16:=Km _ (by rw [QI];omega)
theorem Lr {w:World} {b o:Nat} {l:LU} (h:w.rangeAt b o (l.map byte)) (k n:Nat):w.rangeAt b (o + k) (((l.drop k).take n).map byte):=by
 intro j v a;rw [List.map_take,List.getElem?_take] at a
 split at a
 ·rw [List.map_drop,List.getElem?_drop] at a;rw [Nat.add_assoc];exact h (k + j) v a
 ·cases a
theorem Tryz.info88:(prog.info? 88).map (fun i=>(i.zero,i.size,i.bytes)) = some (some (.agg (AC 16 .u8).toArray),16,16):=by kernel_rfl
theorem Mx {c:World} {base:Nat} {b:Value} {a:List LU} {x:LU} (h:c.ownsRow base 88 16 b (a.length + 1) (a.flatten.map byte ++ x.map byte)):OwnKQ c base b (a ++ [x]):=by
 unfold OwnKQ;rw [QC,qh,Qf]
 simpa using h
theorem Vf (data:LU) (b o m:Nat) (w:World) (hn:data.length <= 4096) (hc:data.length <= m) (U:w.rangeAt b o (data.map byte)) :
 Calls prog 140 #[.slice (some ⟨b,o,none⟩) data.length m,.int .i64 16,.func (.func 141) #[] #[]] w fun e w'=>∃ v,e = .returned v /\ OwnKQ w' w.heap.size v (chunksQ data ((data.length + 15) / 16)) /\ Bl w w':=by
 obtain ⟨Y,V,G,H,F⟩:=Qg Tryz.info88;obtain ⟨n,D⟩:=uX (data.length);have HF:Hid (∀ (a k L:Nat) (p:World),a = 16 * k -> L = min 16 (n - a) -> Bl w p -> Calls prog 141 #[.slice (some ⟨b,o + a,none⟩) L (m - a)] p fun x w'=>x = .returned (.agg ((I8 data k).map byte).toArray) /\ Bl p w'):=by
  intro a k L p B W J;subst B;have:=Pq ((data.drop (16 * k)).take 16) b (o + 16 * k) (m - 16 * k) p (by rw [QI];omega) (AU (Lr U (16 * k) 16) J);rw [show ((data.drop (16 * k)).take 16).length = L from by rw [QI,QN];omega] at this;exact this
 have HN:Hid (n = data.length):=D;rw [<- D] at hn hc ⊢;clear U D;go_enter func140,ntmps140;go_wp2
 go_loopw [7,8] (fun v i wr=>∃ k:Nat,16 * k <= n + 15 /\ i = .int .i64 ((16 * k:Nat):Int) /\ OwnKQ wr w.heap.size v (chunksQ data k) /\ Bl w wr) (fun _ i _=>n + 16 - (intOf i).toNat)
 case atStart=>exact ⟨0,by omega,rfl,Qa _ _ _ _,Below.refl _ _⟩
 case round =>
  obtain ⟨k,hk,rfl,r,d⟩:=hrel;obtain ⟨a,B⟩:=uX (16 * k);have y:Hid (a = 16 * k):=B;rw [<- B] at hk ⊢;clear B
  by_cases hlt:a < n
  ·have a6:(a:Int) < (n:Int):=by omega
   have a0:(0:Int) <= (a:Int):=by omega
   have a5:(n:Int) <= (m:Int):=by omega
   have a3:IntKind.i64.wrap ((a:Int) + 16) = ((a + 16:Nat):Int):=by rw [QH];omega
   have I:=J0 data k;have HS:=Aa (Py data k);have a4:=Cs data k;obtain ⟨X,O⟩:=uX (I8 data k);rw [<- O] at I HS;have A:(X.map byte).length = 16:=by rw [QD,I]
   have C:=GU X;have E:=d.size;have a1:k <= 4096:=by have:=y.out;omega
   have HK:Hid (∀ L p,L = min 16 (n - a) -> Bl w p -> Calls prog 141 #[.slice (some ⟨b,o + a,none⟩) L (m - a)] p fun x w'=>x = .returned (.agg (X.map byte).toArray) /\ Bl p w'):=by
    intro L p W J;rw [O];exact HF.out a k L p y.out W J
   clear O
   by_cases h8:a + 16 <= n
   ·have Z:((a:Int) + 16) <= (n:Int):=by omega
    have a2:((a:Int) + 16) <= (m:Int):=by omega
    have a7:(a:Int) <= (a:Int) + 16:=by omega
    go_wp2_with (first
     | (go_at_call 141;refine (HK.out _ _ (by omega) d).mono ?_;rintro e1 s ⟨rfl,q⟩;have z:=(d.trans (q.mono E));have u:=(r.below q).alloc (.cells (X.map byte).toArray 88);have n1:Blk (s.alloc (.cells (X.map byte).toArray 88)) s.heap.size 88 (X.map byte):=(Blk.new s _ _);have l:=GW (Ad n1);have g:=(z.alloc z.size (.cells (X.map byte).toArray 88)))
     | (refine GP rfl 148 _ rfl 88 16 _ (X.map byte) rfl underlying148 Tryz.zero88 A (by omega) (by omega) ?_)
     | (at_builtin;refine Qi _ rfl _ _ 148 rfl w.heap.size 88 Y _ 16 16 underlying148 V G H F rfl (by decide) _ _ _ rfl u ⟨s.heap.size,0,none⟩ 1 1 (X.map byte) rfl A l C (by unfold maxLen;omega) (by omega) g.size ?_;intro T w2 f c t))
    have N:OwnKQ w2 w.heap.size T (chunksQ data (k + 1)):=by rw [HS.out];exact Mx f
    have R:=g.grown c g.size (fun j M=>(u.lt j M).1);clear f c t r d u n1 l z g;go_wp2;go_roundw
    case rel=>exact ⟨k + 1,by have:=y.out;omega,by have:=y.out;go_num,N,R⟩
    case measure=>simp [intOf];omega
   ·have Z:¬ ((a:Int) + 16) <= (n:Int):=by omega
    go_wp2_with (first
     | (go_at_call 141;refine (HK.out _ _ (by omega) d).mono ?_;rintro e1 s ⟨rfl,q⟩;have z:=(d.trans (q.mono E));have u:=(r.below q).alloc (.cells (X.map byte).toArray 88);have n1:Blk (s.alloc (.cells (X.map byte).toArray 88)) s.heap.size 88 (X.map byte):=(Blk.new s _ _);have l:=GW (Ad n1);have g:=(z.alloc z.size (.cells (X.map byte).toArray 88)))
     | (refine GP rfl 148 _ rfl 88 16 _ (X.map byte) rfl underlying148 Tryz.zero88 A (by omega) (by omega) ?_)
     | (at_builtin;refine Qi _ rfl _ _ 148 rfl w.heap.size 88 Y _ 16 16 underlying148 V G H F rfl (by decide) _ _ _ rfl u ⟨s.heap.size,0,none⟩ 1 1 (X.map byte) rfl A l C (by unfold maxLen;omega) (by omega) g.size ?_;intro T w2 f c t))
    have N:OwnKQ w2 w.heap.size T (chunksQ data (k + 1)):=by rw [HS.out];exact Mx f
    have R:=g.grown c g.size (fun j M=>(u.lt j M).1);clear f c t r d u n1 l z g;go_wp2;go_roundw
    case rel=>exact ⟨k + 1,by have:=y.out;omega,by have:=y.out;go_num,N,R⟩
    case measure=>simp [intOf];omega
  ·go_wp2;go_ret;rw [show (n + 15) / 16 = k from by have:=y.out;omega];exact ⟨_,rfl,r,d⟩
def FA (f:LU -> LU) (a:LU) (b:List LU):Nat -> LU
 | 0=>a
 | k + 1=>f (AE (b.getD k []) (FA f a b k))
def EZ (f:LU -> LU) (a:LU) (b:List LU) (k:Nat):List LU:=(List.range k).map fun j=>FA f a b (j + 1)
theorem Uu (f:LU -> LU) (a:LU) (b:List LU) (k:Nat):EZ f a b (k + 1) = EZ f a b k ++ [FA f a b (k + 1)]:=by simp [EZ,List.range_succ]
theorem Ki (f:LU -> LU) (a:LU) (b:List LU) (k:Nat):(EZ f a b k).length = k:=by simp [EZ]
theorem IT (f:LU -> LU) (d:∀ x,(f x).length = 16) (a:LU) (b:a.length = 16) (c:List LU) (k:Nat):(FA f a c k).length = 16:=by
 cases k with
 | zero=>exact b
 | succ k=>exact d _
def Mb (w:World) (c:Option Addr) (b:List LU):Prop:=∀ k,k < b.length -> ∃ g a,c = some ⟨g,a,none⟩ /\ w.rangeAt g (a + k * 16) ((b.getD k []).map byte)
theorem Mb.below {w w':World} {c:Option Addr} {a:List LU} (h:Mb w c a) (d:Bl w w'):Mb w' c a:=fun k i=>by
 obtain ⟨g,b,e,f⟩:=h k i;exact ⟨g,b,e,AU f d⟩
theorem La (a:List LU) (c:∀ b ∈ a,b.length = 16) (k:Nat) (d:k <= a.length):(a.take k).flatten.length = k * 16:=by
 induction k with
 | zero=>simp
 | succ k ih =>
   rw [EG a k (by omega),QC,ih (by omega)];have:(a.getD k []).length = 16:=by
    rw [show a.getD k [] = a[k] from by simp [show k < a.length from by omega]];exact c _ (Qd _)
   omega
theorem OwnKQ.blks {w:World} {base:Nat} {v:Value} {a:List LU} (h:OwnKQ w base v a) (l:∀ b ∈ a,b.length = 16):∃ n d,v = .slice n a.length d /\ a.length <= d /\ Mb w n a:=by
 rcases h.2 with ⟨rfl,i⟩ | ⟨g,d,r,rfl,x,s,i,t,u,y⟩
 ·exact ⟨none,0,by rw [i],by omega,fun k m=>by omega⟩
 ·refine ⟨_,d,rfl,i,fun k m=>⟨g,0,rfl,?_⟩⟩;intro j v o;have q:a.getD k [] = a[k]:=by simp [m]
  have f:(a.getD k []).length = 16:=by rw [q];exact l _ (Qd _)
  have p:j < 16:=by have:=(List.getElem?_eq_some_iff.1 o).1;rw [QD,f] at this;exact this
  have c:=h.cells (g:=g) rfl (k * 16 + j) v (by
   have e:a.flatten = (a.take k).flatten ++ (a.getD k [] ++ (a.drop (k + 1)).flatten):=by
    rw [<- QV,<- EG a k m,<- qh,qk]
   rw [e,Qf,Qf,List.getElem?_append_right (by rw [QD,La a l k (by omega)];omega),QD,La a l k (by omega),Nat.add_sub_cancel_left,List.getElem?_append_left (by rw [QD,f];exact p)];exact o)
  rw [qZ] at c;rw [QZ] at c ⊢;exact c
theorem Tt (b:Option Addr) (a:Nat) (w:World) :
 Calls prog 140 #[.slice b 0 a,.int .i64 16,.func (.func 141) #[] #[]] w fun e w'=>e = .returned (.slice none 0 0) /\ w' = w:=by
 go_enter func140,ntmps140;go_wp2;go_loop [7,8] (fun v i=>v = .slice none 0 0 /\ i = .int .i64 0) (fun _ _=>0)
 case atStart=>exact ⟨rfl,rfl⟩
 case round =>
  obtain ⟨rfl,rfl⟩:=hrel;go_wp2;go_ret;exact ⟨rfl,rfl⟩
def nBlocksQ (data:LU):Nat:=(data.length + 15) / 16
theorem Xc (data:LU) (c:Option Addr) (a:Nat) (w:World) (f:data.length <= 4096) (i:data.length <= a) (g:RowAt w c data) :
 Calls prog 140 #[.slice c data.length a,.int .i64 16,.func (.func 141) #[] #[]] w fun e w'=>∃ v,e = .returned v /\ OwnKQ w' w.heap.size v (chunksQ data (nBlocksQ data)) /\ Bl w w':=by
 by_cases h0:0 < data.length
 ·obtain ⟨b,o,rfl,d⟩:=g.range h0;exact Vf data b o a w f i d
 ·obtain rfl:data = []:=List.length_eq_zero_iff.1 (by omega);refine (Tt c a w).mono ?_;rintro e w' ⟨rfl,rfl⟩;exact ⟨_,rfl,Qa _ _ _ _,Below.refl _ _⟩
def EH (a:List LU):List LU:=if a.length = 0 then [AJ 16] else a
theorem Sq:(madeCells (Value.agg (AC 16 .u8).toArray).cells (1 * 16)).toList = [AJ 16].flatten.map byte:=by kernel_rfl
theorem SX (v:Value) (b:Option Addr) (n a:Nat) (w:World) (c:v = .slice b n a) (f:0 < n) (d:n <= 4096) :
 Calls prog 139 #[v] w fun e w'=>e = .returned v /\ w' = w:=by
 subst c;have g:¬ ((n:Int) = 0):=by omega
 go_enter func139,ntmps139;go_wp2;go_ret;exact ⟨rfl,rfl⟩
theorem S9 (k:Option Addr) (i:Nat) (w:World) :
 Calls prog 139 #[.slice k 0 i] w fun e w'=>∃ v,e = .returned v /\ OwnKQ w' w.heap.size v [AJ 16] /\ Bl w w':=by
 obtain ⟨m,l,d,g,f⟩:=Qg Tryz.info88;have j:=Sq;go_enter func139,ntmps139;go_wp2_with (at_make;refine Qv _ rfl _ _ 148 rfl w.heap.size 88 m _ 16 underlying148 l d g .i64 .i64 _ _ 1 rfl rfl rfl rfl (by rw [f];omega) (by unfold maxLen;omega) (QE _) ?_;intro n a b;rw [j] at a;have c:=Ac b)
 go_ret;exact ⟨_,rfl,a,c⟩
theorem Tx (v:Value) (c:List LU) (base:Nat) (w:World) (k:c.length <= 4096) (l:base <= w.heap.size) (h:OwnKQ w base v c) :
 Calls prog 139 #[v] w fun e w'=>∃ d,e = .returned d /\ OwnKQ w' base d (EH c) /\ Bl w w':=by
 unfold EH
 by_cases h0:c.length = 0
 ·rw [if_pos h0];obtain ⟨b,a,rfl⟩:∃ b a,v = .slice b 0 a:=by
   rcases h.2 with ⟨rfl,-⟩ | ⟨g,a,i,rfl,-⟩
   ·exact ⟨none,0,rfl⟩
   ·exact ⟨_,a,by rw [h0]⟩
  refine (S9 b a w).mono ?_;rintro e w' ⟨d,rfl,j,f⟩;exact ⟨d,rfl,j.mono l,f⟩
 ·rw [if_neg h0];obtain ⟨b,a,m⟩:∃ b a,v = .slice b c.length a:=by
   rcases h.2 with ⟨rfl,n⟩ | ⟨g,a,i,rfl,-⟩
   ·omega
   ·exact ⟨_,a,rfl⟩
  refine (SX v b c.length a w m (by omega) k).mono ?_;rintro e w' ⟨rfl,rfl⟩;exact ⟨v,rfl,h,Below.refl _ _⟩
def AM (data:LU):List LU:=EH (chunksQ data (nBlocksQ data))
theorem EP (data:LU):∀ b ∈ AM data,b.length = 16:=by
 intro b a;unfold AM EH at a
 split at a
 ·simp only [List.mem_singleton] at a;rw [a];simp [AJ]
 ·simp only [chunksQ,Qz] at a;obtain ⟨k,-,rfl⟩:=a;exact J0 _ _
theorem Cu (data:LU):0 < (AM data).length:=by
 unfold AM EH
 split
 ·simp
 ·omega
theorem J3 (data:LU) (h:data.length <= 4096):(AM data).length <= 4096:=by
 unfold AM EH
 split
 ·simp
 ·rw [Cs];unfold nBlocksQ;omega
theorem Ur (f:LU -> LU) (hf:∀ x,(f x).length = 16) (C:Value) (d:LU) (b2:d.length = 16) (c:List LU) (h8:∀ b ∈ c,b.length = 16) (ao:Option Addr) (m c4:Nat) (hm:c.length = m) (d0:m <= 4096) (w:World) (hs:Mb w ao c)
 (HT:∀ x l,x.length = 16 -> Bl w l -> Calls prog 34 #[C,.agg (x.map byte).toArray] l fun e w'=>e = .returned (.agg ((f x).map byte).toArray) /\ Bl l w') :
 Calls prog 79 #[.func (.func 34) #[C] #[],.func (.func 32) #[] #[],.agg (d.map byte).toArray,.slice ao m c4,.bool false] w fun e w'=>∃ v,e = .returned v /\ OwnKQ w' w.heap.size v (EZ f d c m) /\ Bl w w':=by
 obtain ⟨i0,hi,c6,a3,c1⟩:=Qg Tryz.info88;have hz:=(QO Tryz.zero88).1;have b9:=IT f hf d b2 c;have a0:(d.map byte).length = 16:=by rw [QD,b2]
 have k0:Blk (w.alloc (.cells (d.map byte).toArray 88)) w.heap.size 88 (d.map byte):=Blk.new w _ _;have HX:=Aa (fun (a b:LU) (g:Nat) (l:World) (ha:a.length = 16) (hb:b.length = 16) (h:Blk l g 88 (a.map byte ++ b.map byte))=>Bt a b g 2 88 l ha hb h)
 replace HT:=Aa HT
 have HB:=Aa hs;have H8:=Aa h8;clear hs h8;go_enter func79,ntmps79;go_upto_region 3 with (first
  | (at_make;refine wpList_make_own _ rfl _ _ 148 rfl w.heap.size 88 i0 _ 16 underlying148 hi c6 a3 .i64 .i64 _ m rfl rfl rfl (by rw [c1];omega) (by unfold maxLen;omega) (by simp) ?_;intro T y a4;have s:=Ac a4)
  | (refine AL rfl 88 _ rfl _ rfl (k0.below s k0.lt) underlying88 rfl (by rw [a0];kernel_rfl) ?_)
  | (refine store_blk rfl 88 _ _ rfl _ rfl rfl (Blk.new T _ _) (by rw [a0];kernel_rfl) (by rw [a0];exact AD _ _) (AF _) ?_;intro w1 a1 b3 c2))
 have c0:T.heap.size ≥ w.heap.size + 2:=by
  have h:=y.lt (w.heap.size + 1) (by simp [Value.ownBlock]);omega
 have u:Bl T w1:=(At T _).grown b3 (by simp) (by intro k r;cases r;exact QE _)
 have bw:Bl w w1:=AB (AB (At w _) s) u;have o0:w1.ownsRow w.heap.size 88 16 (.slice (some ⟨w.heap.size + 1,0,none⟩) 0 m) 0 []:=World.ownsRow.kept (by simpa using y) (grown_of_below u none) (by right;simp [Value.ownBlock]);obtain ⟨B,hB⟩:=uX (T.heap.size);obtain ⟨G,hG⟩:=uX (w.heap.size + 1);have d1:G < B:=by omega
 have d2:w.heap.size < G:=by omega
 rw [<- hB] at a1 ⊢;rw [<- hG] at o0 ⊢;have q0:Blk w1 B 88 (d.map byte):=a1;clear a1 b3 c2 u y a4 s hB hG c0 k0;go_wp2_with fail
 go_loopw [11,14,21] (fun v _ i wr=>∃ k:Nat,k <= m /\ i = .int .i64 k /\ v = .slice (some ⟨G,0,none⟩) k m /\ wr.ownsRow w.heap.size 88 16 (.slice (some ⟨G,0,none⟩) k m) k ((EZ f d c k).flatten.map byte) /\ Blk wr B 88 ((FA f d c k).map byte) /\ Bl w wr) (fun _ _ i _=>m - (intOf i).toNat)
 case atStart=>exact ⟨0,QU _,rfl,rfl,o0,q0,bw⟩
 case round =>
  clear o0 q0 bw;obtain ⟨k,r,rfl,rfl,n,kB,j⟩:=hrel
  by_cases hlt:k < m
  ·obtain ⟨g,c9,rfl,b0⟩:=HB.out k (by omega);have U:=AU b0 j;have F:(c.getD k []).length = 16:=by
    rw [show c.getD k [] = c[k] from by simp [show k < c.length from by omega]];exact H8.out _ (Qd _)
   have M:=b9 k;have J:=Aa (show FA f d c (k + 1) = f (AE (c.getD k []) (FA f d c k)) from rfl);have HO:=Aa (Uu f d c k);obtain ⟨X,hX⟩:=uX (c.getD k []);obtain ⟨P,hP⟩:=uX (FA f d c k);rw [<- hX] at U F J;rw [<- hP] at kB M J;have a5:(AE X P).length = 16:=by rw [AW _ _ (by omega),F]
   obtain ⟨Y,hY⟩:=uX (AE X P);have b7:=Aa (fun (g:Nat) (l:World) (h:Blk l g 88 (X.map byte ++ P.map byte))=>HX.out X P g l F M h);rw [<- hY] at b7 J a5;have a6:=Aa (fun (l:World) (h:Bl w l)=>HT.out Y l a5 h);have a9:=hf Y;obtain ⟨N,hN⟩:=uX (f Y);rw [<- hN] at a6 J a9;have q:(X.map byte).length = 16:=by rw [QD,F]
   have O:(P.map byte).length = 16:=by rw [QD,M]
   have p:(N.map byte).length = 16:=by rw [QD,a9]
   have d3:(k:Int) < (m:Int):=by omega
   have lB:=kB.lt;have lG:=(n.lt G (by simp [Value.ownBlock])).2;clear hX hP hY hN b0;go_wp2_with (first
    | (refine Qw rfl 88 _ rfl g (c9 + k * 16) rfl (X.map byte) _ U underlying88 rfl (by rw [q];kernel_rfl) ?_)
    | (refine store_blk rfl 88 _ _ rfl _ rfl rfl (Blk.new wr _ _) (by rw [q];kernel_rfl) (by rw [q];exact AD _ _) (AF _) ?_;intro w2 c5 a7 c7;clear c7;have t:Bl wr w2:=((At wr _).grown a7 (by simp) (by intro k r;cases r;exact QE _));have D:=kB.below t lB;have n2:Blk (w2.alloc (.cells (X.map byte ++ P.map byte).toArray 88)) w2.heap.size 88 (X.map byte ++ P.map byte):=(Blk.new w2 _ _))
    | (refine AL rfl 88 _ rfl _ rfl c5 underlying88 rfl (by rw [q];kernel_rfl) ?_)
    | (refine AL rfl 88 _ rfl _ rfl D underlying88 rfl (by rw [O];kernel_rfl) ?_)
    | (refine No rfl 148 _ _ rfl 88 16 _ (X.map byte) (P.map byte) rfl rfl underlying148 Tryz.zero88 q O (by omega) (by omega) ?_)
    | (go_at_call 32;refine (b7.out _ _ n2).mono ?_;rintro e3 w3 ⟨rfl,b8⟩;have o:=(AB (At w2 _) b8);have c8:=(j.trans ((AB t o).mono j.size));have R:=D.below o D.lt)
    | (go_at_call 34;refine (a6.out _ c8).mono ?_;rintro e4 w4 ⟨rfl,L⟩;have a8:=R.below L R.lt;have E:=(AB (AB t o) L);have I:=(World.ownsRow.kept n (grown_of_below E none) (by right;simp [Value.ownBlock]));have b4:=(j.trans (E.mono j.size)))
    | (refine store_blk rfl 88 _ _ rfl _ rfl rfl a8 (by rw [p];kernel_rfl) (by rw [p];exact O) (AF _) ?_;intro w5 Z V c3;clear c3;have A:=(World.ownsRow.kept I V (by right;simp [Value.ownBlock];omega));have b5:=(b4.grown V b4.size (by intro k r;cases r;omega));have n5:Blk (w5.alloc (.cells (N.map byte).toArray 88)) w5.heap.size 88 (N.map byte):=(Blk.new w5 _ _);have z:=GW (Ad n5);have a2:=GU N)
    | (refine AL rfl 88 _ rfl _ rfl Z underlying88 rfl (by rw [p];kernel_rfl) ?_)
    | (refine GP rfl 148 _ rfl 88 16 _ (N.map byte) rfl underlying148 Tryz.zero88 p (by omega) (by omega) ?_)
    | (at_builtin;refine wpList_append_fits _ rfl _ _ 148 rfl w.heap.size 88 i0 16 underlying148 hi a3 G k m _ rfl (A.alloc _) ⟨w5.heap.size,0,none⟩ 1 1 (N.map byte) rfl p z a2 (by omega) ?_;intro w6 H W))
   have hO:(EZ f d c (k + 1)).flatten.map byte = (EZ f d c k).flatten.map byte ++ N.map byte:=by
    rw [HO.out,J.out,qh,Qf];simp
   rw [<- hO] at H;have b1:=(Z.alloc (.cells (N.map byte).toArray 88)).grown W (by simp;omega);have b6:=(b5.alloc b5.size (.cells (N.map byte).toArray 88)).grown W (by simp;have:=b5.size;omega) (by intro k r;cases r;omega)
   rw [<- J.out] at b1;clear A I n W V a7 kB D R a8 Z b4 b5 j n2 n5 z a2 U;go_wp2;go_roundw
   case rel=>exact ⟨k + 1,by omega,by go_num,rfl,H,b1,b6⟩
   case measure=>simp [intOf];omega
  ·obtain rfl:k = m:=by omega
   go_wp2;go_ret;exact ⟨_,rfl,by unfold OwnKQ;rw [Ki];exact n,j⟩
def IQ (f:Nat -> Value) (z:Value) (n k:Nat):List Value:=(List.range n).map fun i=>if k <= i then f i else z
theorem ST (f:Nat -> Value) (z:Value) (n k:Nat):(IQ f z n k).length = n:=by simp [IQ]
theorem YE (f:Nat -> Value) (z:Value) (n k:Nat):(IQ f z n (k + 1)).set k (f k) = IQ f z n k:=by
 apply qA;intro i;rw [List.getElem?_set];simp only [IQ,QD,qj,List.getElem?_map]
 by_cases hi:k = i
 ·subst hi
  by_cases hn:k < n <;> simp [hn]
 ·rw [if_neg hi]
  by_cases hn:i < n
  ·simp [hn,show (k + 1 <= i) = (k <= i) from by apply propext;omega]
  ·simp [hn]
theorem Xd (f:Nat -> Value) (z:Value) (n:Nat):IQ f z n n = List.replicate n z:=by
 apply qA;intro i
 by_cases hn:i < n
 ·simp [IQ,hn];omega
 ·simp [IQ,hn]
theorem YW (f:Nat -> Value) (z:Value) (n:Nat):IQ f z n 0 = (List.range n).map f:=by simp [IQ]
def lostN (v:LU) (k:Nat):Nat:=if k = 16 then 0 else (v.getD k 0).toNat / 128
def shB (v:LU) (i:Nat):UInt8:=UInt8.ofNat ((v.getD i 0).toNat * 2 % 256 ||| lostN v (i + 1))
def shL (v:LU):LU:=(List.range 16).map (shB v)
theorem Jk (v:LU):(shL v).length = 16:=by simp [shL]
def Au (v:LU):LU:=(shL v).set 15 (shB v 15 ^^^ UInt8.ofNat (lostN v 0 * 135))
theorem BN (v:LU):(Au v).length = 16:=by simp [Au,Jk]
theorem MS (v:LU) (k:Nat):lostN v k <= 1:=by
 unfold lostN
 split
 ·omega
 ·have:=(v.getD k 0).toNat_lt;omega
theorem FH (v:LU) (w:World) (hv:v.length = 16) :
 Calls prog 78 #[.agg (v.map byte).toArray] w fun e w'=>e = .returned (.agg ((Au v).map byte).toArray) /\ Bl w w':=by
 have hz:=(QO Tryz.z16).1;go_enter func78,ntmps78;go_wp2
 go_loopw [4,5] (fun l i wr=>∃ k:Nat,k <= 16 /\ i = .int .i64 ((k:Int) - 1) /\ l = .int .u8 (lostN v k:Nat) /\ Blk wr (w.heap.size + 1 + 1) 88 (IQ (fun j=>byte (shB v j)) (.int .u8 0) 16 k) /\ Blk wr (w.heap.size + 1) 88 (AC 16 .u8) /\ Blk wr w.heap.size 88 (v.map byte) /\ Bl w wr) (fun _ i _=>(intOf i + 1).toNat)
 case atStart =>
  refine ⟨16,by omega,rfl,rfl,?_,(Blk.new2 w _ _ _).alloc _,((Blk.new w _ _).alloc _).alloc _,(((Below.refl _ _).alloc (QE _) _).alloc (by simp) _).alloc (by simp;omega) _⟩;rw [Xd];exact Blk.newAt _ _ _ _ (by simp)
 case round =>
  obtain ⟨k,t,rfl,rfl,a,r,f,d⟩:=hrel;have C:=MS v k;obtain ⟨l,I,HL⟩:∃ l,lostN v k = l /\ Hid (l = lostN v k):=⟨_,rfl,rfl⟩;rw [I] at C ⊢;clear I
  by_cases h0:0 < k
  ·obtain ⟨m,G,A,X,L⟩:∃ m:Nat,(k:Int) - 1 = (m:Int) /\ m < 16 /\ (m:Int) < 16 /\ Hid (k = m + 1):=⟨k - 1,by omega,by omega,by omega,AK (by omega:k = k - 1 + 1)⟩;rw [G];have Z:(0:Int) <= (m:Int):=by omega
   obtain ⟨x,Y,g⟩:∃ x:Nat,x < 256 /\ Hid (x = (v.getD m 0).toNat):=⟨_,QW _,rfl⟩;have O:wr.cell? ⟨w.heap.size,m,none⟩ = some (.int .u8 (x:Int)):=by rw [BV f m (by omega),g.out]
   obtain ⟨y,hy,o⟩:∃ y:Nat,bits BinOp.or IntKind.u8 ((x:Int) * 2 % 256) (l:Int) = (y:Int) /\ Hid (Value.int .u8 (y:Int) = byte (shB v m)):=by
    refine ⟨x * 2 % 256 ||| l,?_,AK ?_⟩
    ·have e:(x:Int) * 2 % 256 = ((x * 2 % 256:Nat):Int):=by omega
     rw [e,u8_or_nat _ _ (by omega) (by omega)]
    ·show Value.int .u8 _ = Value.int .u8 _;unfold shB;have a0:x * 2 % 256 ||| l < 256:=qO (n:=8) (by omega) (by omega);rw [Qb,<- g.out,show m + 1 = k from L.out.symm,<- HL.out]
     congr 1
     omega
   have M:=a.free m;obtain ⟨u,hu⟩:∃ u,wr.cell? ⟨w.heap.size + 1 + 1,m,none⟩ = some u:=⟨_,a.cell m (by rw [ST];exact A)⟩;have b:=a.set m (byte (shB v m));rw [L.out,YE (fun j=>byte (shB v j))] at b;have s:=f.other ⟨w.heap.size + 1 + 1,m,none⟩ (.int .u8 (y:Int)) (by simp;omega);have V:(wr.setCell ⟨w.heap.size + 1 + 1,m,none⟩ (.int .u8 (y:Int))).cell? ⟨w.heap.size,m,none⟩ = some (.int .u8 (x:Int)):=by rw [BV s m (by omega),g.out]
   have E:Hid (Value.int .u8 ((x:Int) / 128) = .int .u8 ((lostN v m:Nat):Int)):=AK (by
    unfold lostN;rw [if_neg (by omega),<- g.out];simp)
   clear G t h0;go_wp2;go_roundw
   case rel =>
    rw [o.out,E.out];exact ⟨m,by omega,by go_num,rfl,b,r.other _ _ (by simp),f.other _ _ (by simp;omega),d.setCell (by simp;omega) _⟩
   case measure=>simp [intOf]
  ·obtain rfl:k = 0:=by omega
   rw [YW] at a;have H:(List.range 16).map (fun j=>byte (shB v j)) = (shL v).map byte:=by unfold shL;rw [JA];rfl
   rw [H] at a;have W:=Jk v;obtain ⟨y,J,o⟩:∃ y:Nat,y < 256 /\ Hid (y = (shB v 15).toNat):=⟨_,QW _,rfl⟩;have O:wr.cell? ⟨w.heap.size + 1 + 1,15,none⟩ = some (.int .u8 (y:Int)):=by
    rw [BV a 15 (by omega),o.out];simp [shL]
   have M:=a.free 15;have b:=a.set 15 (byte (shB v 15 ^^^ UInt8.ofNat (lostN v 0 * 135)));rw [<- qP] at b;have hst':Blk (wr.setCell ⟨w.heap.size + 1 + 1,15,none⟩ (byte (shB v 15 ^^^ UInt8.ofNat (lostN v 0 * 135)))) (w.heap.size + 1 + 1) 88 ((Au v).map byte):=b;obtain ⟨q,hq,U⟩:∃ q:Nat,bits BinOp.xor IntKind.u8 (y:Int) ((l:Int) * 135) = (q:Int) /\ Hid (Value.int .u8 (q:Int) = byte (shB v 15 ^^^ UInt8.ofNat (lostN v 0 * 135))):=by
    have e:(l:Int) * 135 = ((l * 135:Nat):Int):=by omega
    refine ⟨_,by rw [e,qK y (l * 135) J (by omega)],AK ?_⟩;show Value.int .u8 _ = Value.int .u8 _;rw [Qs,Qb,<- HL.out,<- o.out]
    congr 3
    omega
   rw [<- U.out] at hst';have T:=r.other ⟨w.heap.size + 1 + 1,15,none⟩ (.int .u8 (q:Int)) (by simp);have F:=d.setCell (p:=⟨w.heap.size + 1 + 1,15,none⟩) (by show w.heap.size <= w.heap.size + 1 + 1;omega) (.int .u8 (q:Int));have c:((Au v).map byte).length = 16:=by rw [QD,BN]
   obtain ⟨R,z⟩:=uX (Au v);rw [<- z] at hst' c;have N:Hid (R = Au v):=z;clear z b H;go_wp2_with (first | (refine AL rfl 88 _ rfl _ rfl hst' underlying88 rfl (by rw [c];kernel_rfl) ?_) | (refine store_blk rfl 88 _ _ rfl _ rfl rfl T (by rw [c];kernel_rfl) (by rw [AD,c]) (AF _) ?_;intro w2 B D a1))
   exact Qc (v:=.agg (R.map byte).toArray) (AG results78 _ _ rfl B underlying88 rfl (by rw [c];kernel_rfl)) rfl ⟨by rw [N.out],F.grown D F.size (by intro k t;cases t;omega)⟩
theorem Jx (x:UInt8) (l:LU):Ae (x :: l) = CG x ++ Ae l:=by simp [Ae]
theorem NS (v:LU):∀ j,j < v.length -> (Ae v).drop (8 * j) = CG (v.getD j 0) ++ Ae (v.drop (j + 1)):=by
 induction v with
 | nil=>intro j a;simp at a
 | cons x l ih =>
   intro j a
   cases j with
   | zero=>rw [Jx];rfl
   | succ j =>
     rw [Jx,show 8 * (j + 1) = (CG x).length + 8 * j from by rw [B6];omega,List.drop_append];rw [qE (by omega),qQ,Nat.add_sub_cancel_left,ih j (by simpa using a)]
     rfl
theorem eK:∀ n:Nat,n < 256 -> AI ((CG (UInt8.ofNat n)).drop 1) = n % 128:=by decide +kernel
theorem dY (x:UInt8):AI ((CG x).drop 1) = x.toNat % 128:=by
 have h:=eK x.toNat x.toNat_lt
 rwa [UInt8.ofNat_toNat] at h
def inB (v:LU) (j:Nat):UInt8:=if j = 15 then 0 else Fd (v.getD (j + 1) 0) 0
theorem Zx (v:LU) (j:Nat):(inB v j).toNat = lostN v (j + 1):=by
 unfold inB lostN
 by_cases h:j = 15
 ·rw [if_pos h,if_pos (by omega)];rfl
 ·rw [if_neg h,if_neg (by omega)];unfold Fd;have:=(v.getD (j + 1) 0).toNat_lt;rw [Qb];omega
theorem aX (v:LU) (d:v.length = 16) (j:Nat) (c:j < 16):((((Ae v).drop 1 ++ [0]).drop (8 * j)).take 8) = (CG (v.getD j 0)).drop 1 ++ [inB v j]:=by
 have f:=B4 v;have b:((CG (v.getD j 0)).drop 1).length = 7:=by rw [QN,B6]
 rw [Qy (by rw [QN];omega),List.drop_drop,show 1 + 8 * j = 8 * j + 1 from by omega,<- List.drop_drop,NS v j (by omega),Qy (by rw [B6];omega),QV];rw [List.take_append,QS (by omega),b]
 congr 1
 unfold inB
 by_cases h:j = 15
 ·rw [if_pos h,qE (by omega)]
  rfl
 ·rw [if_neg h];have a:v.drop (j + 1) = v.getD (j + 1) 0 :: v.drop (j + 2):=by
   rw [qg (by omega)];simp [show j + 1 < v.length from by omega]
  rw [a,Jx]
  rfl
theorem YN (v:LU) (b:v.length = 16):Ar ((Ae v).drop 1 ++ [0]) = shL v:=by
 have f:=B4 v;have c:((Ae v).drop 1 ++ [0]).length = 128:=by rw [QC,QN];simp;omega
 unfold Ar CR shL;rw [c];apply qr;intro j a;have a:=List.mem_range.1 a;unfold Gl seg shB;rw [QS (l:=(Ae v).drop 1 ++ [0]) (i:=128) (by omega),aX v b j (by omega),Io,dY,Zx];have d:=MS v (j + 1);rw [nat_join 1 ((v.getD j 0).toNat * 2 % 256) (lostN v (j + 1)) (by omega) (by omega)]
 congr 1
 omega
theorem bG (x:UInt8) (j:Nat):(Fd x j).toNat <= 1:=by
 unfold Fd;rw [Qb];omega
theorem U7 (v:LU):AP ((Ae v).drop 1 ++ [0]):=by
 intro b a;rcases List.mem_append.1 a with h | h
 ·have h:=qn h;simp only [Ae,List.mem_flatMap,CG,Qz] at h;obtain ⟨x,-,j,-,rfl⟩:=h;exact bG x j
 ·simp only [List.mem_singleton] at h;subst h
  decide
theorem Wz (v:LU) (a:v.length = 16):((Ae v).getD 0 0).toNat = lostN v 0:=by
 have h:=NS v 0 (by omega);rw [Nat.mul_zero,List.drop_zero] at h;rw [h];show (Fd (v.getD 0 0) 0).toNat = _;unfold Fd lostN;have:=(v.getD 0 0).toNat_lt;rw [Qb,if_neg (by omega)];omega
theorem Ln (v:LU) (W:Option Addr) (R:Nat) (w:World) (I:v.length = 16) (hr:RowAt w W v) :
 Calls prog 177 #[.slice W 16 R] w fun e w'=>∃ x,e = .returned x /\ AO w' w.heap.size x (Au v) /\ Bl w w':=by
 obtain ⟨i0,a1,a4,a2,a5⟩:=Qg Tryz.info5;have HB:=AS (IM W R v w (by omega) hr);rw [I] at HB;have O:(Ae v).length = 128:=by rw [B4,I]
 have k:((Ae v).drop 1).length = 127:=by rw [QN,O]
 have HU:=AS (YN v I);have HI:=AS (U7 v);have h0:=Wz v I;have a0:=MS v 0;have A:=Jk v;obtain ⟨D,V⟩:=uX ((Ae v).drop 1);rw [<- V] at k HU HI;have HD:=AS V;obtain ⟨l,hl⟩:=uX (lostN v 0);have HL:=AS hl;rw [<- hl] at h0 a0;clear V hl;go_enter func177,ntmps177;go_wp2_with fail;refine HB.out.mono ?_;rintro e U ⟨v1,rfl,r,d⟩;obtain ⟨g1,Y,b7,rfl,b⟩:=BE r O (by omega);have rowD:RowAt U (some ⟨g1,1,none⟩) D:=by rw [HD.out];have:=b.drop 1;rwa [QZ] at this
 have HY:=AS (EF (some ⟨g1,1,none⟩) (Y - 1) D U (by omega) (by omega) rowD);rw [k] at HY;have b6:(128:Int) <= (Y:Int):=by omega
 have a8:(1:Int) <= (Y:Int):=by omega
 clear HB r rowD;go_wp2_with fail;refine HY.out.mono ?_;rintro e w2 ⟨rfl,F,g⟩;have X:=d.trans (g.mono d.size);have T:=X.size;have own2':=By (F.mono d.size) k;have o:=b.below g;have hz1':=d.size;clear HY F;go_wp2_with (at_builtin;refine Qi _ rfl _ _ 22 rfl w.heap.size 5 i0 (.int .u8 0) 1 1 underlying22 a1 a4 a2 a5 rfl (by decide) _ _ _ rfl (own2'.alloc _) ⟨w2.heap.size,0,none⟩ 1 1 [.int .u8 0] rfl rfl (qy _ _ _) (by intro u hu;simp at hu;subst hu;rfl) (by unfold maxLen;omega) (by omega) (by simp;omega) ?_;intro v3 N E t M)
 have b8:=b.blk (by omega);have B:(D ++ [0]).length = 128:=by rw [QC,k];rfl
 have o3:AO N w.heap.size v3 (D ++ [0]):=by
  unfold AO;rw [B,Qf];exact E
 have J:Bl w N:=(X.alloc T _).grown t (by simp;omega) (fun j hj=>(own2'.lt j hj).1);have z:RowAt N (some ⟨g1,0,none⟩) (Ae v):=(o.below (At w2 _)).grown t (by
  rintro a ha;cases ha
  show (Value.slice (some ⟨U.heap.size,0,none⟩) 127 127).ownBlock ≠ some g1;simp only [Value.ownBlock,ne_eq,Option.some.injEq];omega)
 obtain ⟨g3,c3,b9,rfl,m⟩:=BE o3 B (by omega);have HN:=AS (Jw (some ⟨g3,0,none⟩) c3 (D ++ [0]) N (by omega) (by omega) HI.out m);rw [B,HU.out] at HN;clear E t M own2' o b o3 m X g T;go_wp2_with fail;refine HN.out.mono ?_;rintro e H ⟨v4,rfl,c,f⟩;have n:=z.below f;have b4:=J.trans (f.mono J.size);obtain ⟨g4,c4,b1,rfl,s⟩:=BE c A (by omega);have a3:=(c.lt g4 rfl);have a6:=J.size;have own4':=By (c.mono a6) A;have b0:H.cell? ⟨g1,0,none⟩ = some (.int .u8 (l:Int)):=by
  obtain ⟨L,oo,Z,C⟩:=n.at (show 0 < (Ae v).length by omega);cases Z
  have:=C 0 (by omega);rw [h0] at this;exact this
 clear HN z n c f J;obtain rfl | rfl:l = 0 \/ l = 1:=by omega
 ·have HE:Hid (shL v = Au v):=AS (by
   unfold Au;rw [<- HL.out];have e:shB v 15 ^^^ UInt8.ofNat (0 * 135) = shB v 15:=by simp
   rw [e]
   symm
   apply qA;intro i;rw [List.getElem?_set]
   by_cases hi:15 = i
   ·subst hi;simp [shL]
   ·rw [if_neg hi])
  go_wp2;go_ret;refine ⟨_,rfl,?_,b4⟩;rw [<- HE.out];unfold AO;rw [A];exact own4'
 ·obtain ⟨y,a7,Hy⟩:∃ y:Nat,y < 256 /\ Hid (y = (shB v 15).toNat):=⟨_,QW _,rfl⟩;have b5:H.cell? ⟨g4,15,none⟩ = some (.int .u8 (y:Int)):=by
   obtain ⟨L,oo,Z,C⟩:=s.at (show 0 < (shL v).length by omega);cases Z
   have:=C 15 (by omega);rw [QZ] at this;rw [this,Hy.out];simp [shL]
  have a9:H.frozen? ⟨g4,15,none⟩ = false:=own4'.frozenAt 15;obtain ⟨q,hq,Hq⟩:∃ q:Nat,bits BinOp.xor IntKind.u8 (y:Int) 135 = (q:Int) /\ Hid (Value.int .u8 (q:Int) = byte (shB v 15 ^^^ UInt8.ofNat (lostN v 0 * 135))):=by
   refine ⟨_,qK y 135 a7 (by omega),AS ?_⟩;show Value.int .u8 _ = Value.int .u8 _;rw [Qs,<- HL.out,<- Hy.out]
   rfl
  have G:=(own4'.stored 15 (byte (shB v 15 ^^^ UInt8.ofNat (lostN v 0 * 135)))).1;rw [<- qP] at G;have hst':AO (H.setCell ⟨g4,15,none⟩ (byte (shB v 15 ^^^ UInt8.ofNat (lostN v 0 * 135)))) w.heap.size (.slice (some ⟨g4,0,none⟩) 16 c4) (Au v):=by
   unfold AO;rw [BN];exact G
  have L:=b4.setCell (p:=⟨g4,15,none⟩) (by show w.heap.size <= g4;have:=a3.1;omega) (byte (shB v 15 ^^^ UInt8.ofNat (lostN v 0 * 135)));rw [<- Hq.out] at hst' L;clear G own4' s;go_wp2;go_ret;exact ⟨_,rfl,hst',L⟩
end Go.Proofs.YtbkokcjolanpeaaGreatDoor
