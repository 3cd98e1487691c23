import Derived.Test.YtbkokcjolanpeaaGreatDoorMkB
import Derived.Laws.Cover3
import Derived.Deep.DeepCutAuto
set_option maxRecDepth 100000
set_option maxHeartbeats 5000000
namespace Go.Proofs.YtbkokcjolanpeaaGreatDoor
open Go.RowKit Go.Proofs.Tryz Act
def Jv (f:Nat -> Value) (k i:Nat):Value:=if i < k \/ 15 < i + k then f (15 - i) else f i
def CQ (f:Nat -> Value) (k:Nat):List Value:=(List.range 16).map (Jv f k)
theorem EX (f:Nat -> Value) (k:Nat):(CQ f k).length = 16:=by simp [CQ]
theorem Fy (f:Nat -> Value) (k i:Nat) (h:i < 16):(CQ f k)[i]'(by rw [EX];exact h) = Jv f k i:=by simp [CQ]
theorem O6 (f:Nat -> Value) (k:Nat) (h:k < 8):((CQ f k).set k (f (15 - k))).set (15 - k) (f k) = CQ f (k + 1):=by
 apply qL
 ·simp [CQ]
 ·intro i b a;rw [EX] at a;rw [List.getElem_set,List.getElem_set,Fy f k i a,Fy f (k + 1) i a];unfold Jv
  by_cases e1:15 - k = i
  ·rw [if_pos e1,if_pos (by omega),show 15 - i = k from by omega]
  ·rw [if_neg e1]
   by_cases e2:k = i
   ·rw [if_pos e2,if_pos (by omega),e2]
   ·rw [if_neg e2]
    by_cases e3:i < k \/ 15 < i + k
    ·rw [if_pos e3,if_pos (by omega)]
    ·rw [if_neg e3,if_neg (by omega)]
theorem Ry (g t:Nat) (f:Nat -> Nat) (w:World) (a:Blk w g t ((List.range 16).map fun i=>BU (f i))) :
 Calls prog 160 #[.slice (some ⟨g,0,none⟩) 16 16] w fun e w'=>e = .returned (.tuple #[]) /\ Blk w' g t ((List.range 16).map fun i=>BU (f (15 - i))) /\ w.grownBy w' (some g):=by
 have s:Blk w g t (CQ (fun i=>BU (f i)) 0):=by
  have:CQ (fun i=>BU (f i)) 0 = (List.range 16).map fun i=>BU (f i):=by
   unfold CQ Jv;apply qr;intro i l;rw [qp] at l;rw [if_neg (by omega)]
  rw [this];exact a
 clear a;go_enter func160,ntmps160;go_wp2
 go_loopw [2,3] (fun i j wr=>∃ k:Nat,k <= 8 /\ i = .int .i64 k /\ j = .int .i64 ((15:Int) - k) /\ Blk wr g t (CQ (fun i=>BU (f i)) k) /\ w.grownBy wr (some g)) (fun i _ _=>8 - (intOf i).toNat)
 case atStart=>exact ⟨0,QU _,rfl,rfl,s,World.grownBy.refl _ _⟩
 case round =>
  clear s;obtain ⟨k,E,rfl,rfl,a,q⟩:=hrel
  by_cases hlt:k < 8
  ·obtain ⟨j,r,m,o⟩:∃ j:Nat,((15:Int) - (k:Int)) = (j:Int) /\ j < 16 /\ Hid (j = 15 - k):=⟨15 - k,by omega,by omega,rfl⟩;have A:k < j:=by have:=o.out;omega
   have n:k < 16:=by omega
   have G:wr.cell? ⟨g,k,none⟩ = some (.int .u64 (f k:Nat)):=by
    rw [a.cell k (by rw [EX];exact n),Fy _ _ _ n];unfold Jv;rw [if_neg (by omega)];rfl
   have C:wr.cell? ⟨g,j,none⟩ = some (.int .u64 (f j:Nat)):=by
    rw [a.cell j (by rw [EX];exact m),Fy _ _ _ m];unfold Jv;rw [if_neg (by have:=o.out;omega)];rfl
   have D:=a.free k;have F:=a.free j;have y:¬ k = j:=by omega
   have v:¬ j = k:=by omega
   have z:(k:Int) < 16:=by omega
   have B:(j:Int) < 16:=by omega
   have u:(k:Int) < (j:Int):=by omega
   have p:=(a.set k (BU (f j))).set j (BU (f k));have d:=grown_trans q (grown_trans (b:=wr.setCell ⟨g,k,none⟩ (BU (f j))) ⟨rfl,rfl,rfl,by simp [World.setCell],fun i _ l=>qv wr _ i _ (fun e=>l (by simp [e]))⟩ (c:=(wr.setCell ⟨g,k,none⟩ (BU (f j))).setCell ⟨g,j,none⟩ (BU (f k))) ⟨rfl,rfl,rfl,by simp [World.setCell],fun i _ l=>qv _ _ i _ (fun e=>l (by simp [e]))⟩);rw [r];clear r;go_wp2;go_region;go_wp2;go_roundw
   case rel =>
    have x:((CQ (fun i=>BU (f i)) k).set k (BU (f j))).set j (BU (f k)) = CQ (fun i=>BU (f i)) (k + 1):=by
     have:=O6 (fun i=>BU (f i)) k hlt;rw [<- o.out] at this;exact this
    rw [x] at p;exact ⟨k + 1,by omega,by go_num,by have:=o.out;go_num,p,⟨d.os,d.tape,d.output,d.size,d.block⟩⟩
   case measure=>simp [intOf];omega
  ·obtain rfl:k = 8:=by omega
   go_wp2;go_end0;refine ⟨rfl,?_,q⟩;have:CQ (fun i=>BU (f i)) 8 = (List.range 16).map fun i=>BU (f (15 - i)):=by
    unfold CQ Jv;apply qr;intro i l;rw [qp] at l
    by_cases h:i < 8 \/ 15 < i + 8
    ·rw [if_pos h]
    ·omega
   rw [<- this];exact a
theorem KU (key:LU) (S:Nat):(AV key S)[16]? = some (.func (.func 190) #[] #[.pointer (some ⟨S,0,none⟩)]):=by
 unfold AV;rw [List.getElem?_append_right (by rw [BF];exact QE _),BF]
 rfl
theorem Lp {w:World} {g t:Nat} {key:LU} {S:Nat} (h:Blk w g t (AV key S)):w.rangeAt g 0 (CJ key):=by
 intro j v b;have a:j < (CJ key).length:=(List.getElem?_eq_some_iff.1 b).1;rw [QZ,h.cell j (by rw [AZ];rw [BF] at a;omega)];have:(AV key S)[j]? = some v:=by unfold AV;rw [List.getElem?_append_left a];exact b
 rw [List.getElem?_eq_getElem (by rw [AZ];rw [BF] at a;omega)] at this;exact this
def EE (key a:LU):LU:=Jo (Bx key) a
def IG (key a:LU):LU:=Jo (Bx key).reverse a
theorem ER (key a:LU):(EE key a).length = 8:=Dn _ _
theorem LR (key a:LU):(IG key a).length = 8:=Dn _ _
theorem Ld (key a:LU) (S:Nat) (w:World) (g:a.length = 8) (p:Blk w S 291 mergedCells) :
 Calls prog 110 #[.agg (AV key S).toArray,.agg (a.map byte).toArray] w fun e w'=>e = .returned (.agg ((EE key a).map byte).toArray) /\ Bl w w':=by
 have hz:=(QO Tryz.zero208).1;have r:(a.map byte).length = 8:=by simp [g]
 obtain ⟨W,c⟩:=uX (((w.alloc (.cells (AV key S).toArray 202)).alloc (.cells (a.map byte).toArray 208)).alloc (.cells (AC 8 .u8).toArray 208));have j:Blk W w.heap.size 202 (AV key S):=by rw [c];exact ((Blk.new w _ _).alloc _).alloc _
 have q:Blk W (w.heap.size + 1) 208 (a.map byte):=by rw [c];exact (Blk.new2 w _ _ _).alloc _
 have d:Blk W (w.heap.size + 1 + 1) 208 (AC 8 .u8):=by rw [c];exact Blk.newAt _ _ _ _ (by simp)
 have n:Blk W S 291 mergedCells:=by rw [c];exact ((p.alloc _).alloc _).alloc _
 have m:Bl w W:=by rw [c];exact (((Below.refl _ _).alloc (QE _) _).alloc (by simp) _).alloc (by simp;omega) _
 subst c;go_enter func110,ntmps110;go_wp2_with (first
  | (refine AL rfl 202 _ rfl _ rfl j underlying202 rfl (by rw [AZ];kernel_rfl) ?_)
  | (refine AL rfl 208 _ rfl _ rfl q underlying208 rfl (by rw [r];kernel_rfl) ?_)
  | (refine Qw rfl 199 _ rfl w.heap.size 0 rfl (CJ key) _ (Lp j) underlying199 rfl (by rw [BF];kernel_rfl) ?_)
  | (go_at_call 159;rw [Ot];refine (Tc (AV key S) a (Bx key) S _ (AZ _ _) (KU _ _) g (ED _) (Ml _) n).mono ?_;rintro e t ⟨rfl,b⟩)
  | (refine store_blk rfl 208 _ _ rfl _ rfl rfl (d.below b d.lt) (by rw [QD,Dn];kernel_rfl) (by rw [QD,Dn];exact AD _ _) (AF _) ?_;intro w2 i l s))
 have f:=m.size;exact Qc (v:=.agg ((EE key a).map byte).toArray) (AG results110 _ _ rfl i underlying208 rfl (by rw [QD,ER];kernel_rfl)) rfl
  ⟨rfl,(m.trans (b.mono f)).grown l (QG f b.size) (by intro k o;cases o;omega)⟩
theorem Wf (key:LU):((List.range 16).map fun i=>BU (keyN key (15 - i))) = ((Bx key).reverse).map BU:=by
 apply qL
 ·simp [Bx]
 ·intro i a b;simp [Bx]
theorem NZ (key:LU):CJ key = (List.range 16).map fun i=>BU (keyN key i):=by
 simp [CJ,GB,BU]
theorem Sp (key a:LU) (S:Nat) (w:World) (t:a.length = 8) (B:Blk w S 291 mergedCells) :
 Calls prog 112 #[.agg (AV key S).toArray,.agg (a.map byte).toArray] w fun e w'=>e = .returned (.agg ((IG key a).map byte).toArray) /\ Bl w w':=by
 have hz:=(QO Tryz.zero208).1;have q:=(QO Tryz.zero199).1;have H:(a.map byte).length = 8:=by simp [t]
 obtain ⟨W,d⟩:=uX (((w.alloc (.cells (AV key S).toArray 202)).alloc (.cells (a.map byte).toArray 208)).alloc (.cells (AC 8 .u8).toArray 208));have m:Blk W w.heap.size 202 (AV key S):=by rw [d];exact ((Blk.new w _ _).alloc _).alloc _
 have y:Blk W (w.heap.size + 1) 208 (a.map byte):=by rw [d];exact (Blk.new2 w _ _ _).alloc _
 have C:Blk W (w.heap.size + 1 + 1) 208 (AC 8 .u8):=by rw [d];exact Blk.newAt _ _ _ _ (by simp)
 have u:Blk W S 291 mergedCells:=by rw [d];exact ((B.alloc _).alloc _).alloc _
 have n:Bl w W:=by rw [d];exact (((Below.refl _ _).alloc (QE _) _).alloc (by simp) _).alloc (by simp;omega) _
 have F:W.heap.size = w.heap.size + 1 + 1 + 1:=by rw [d];simp
 subst d;have R:=B.lt;go_enter func112,ntmps112;go_wp2_with (first
  | (refine Qw rfl 199 _ rfl w.heap.size 0 rfl (CJ key) _ (Lp m) underlying199 rfl (by rw [BF];kernel_rfl) ?_)
  | (refine store_blk rfl 199 _ _ rfl _ rfl rfl (Blk.newAt _ _ _ _ (by simp)) (by rw [BF];kernel_rfl) (by rw [BF];exact AD _ _) (Lj _) ?_;intro w2 j b l))
 have hb2':=j;rw [NZ] at hb2';refine (Ry _ _ (keyN key) _ hb2').mono ?_;rintro e O ⟨rfl,i,c⟩;rw [Wf] at i;have L:w2.heap.size = w.heap.size + 1 + 1 + 1 + 1:=by rw [l];simp
 have G:=((m.alloc _).grown b (by simp;omega)).grown c (by simp;omega);have I:=((y.alloc _).grown b (by simp)).grown c (by simp);have z:=((C.alloc _).grown b (by simp)).grown c (by simp);have D:=((u.alloc _).grown b (by simp;omega)).grown c (by simp;omega);have s:=((n.alloc n.size _).grown b (by simp;omega) (by intro k g;cases g;omega)).grown c (by omega) (by intro k g;cases g;omega)
 have o:(((Bx key).reverse).map BU).length = 16:=by simp [ED]
 clear j hb2' m y C u b c l hz q n F;go_wp2_with (first
  | (refine AL rfl 202 _ rfl _ rfl G underlying202 rfl (by rw [AZ];kernel_rfl) ?_)
  | (refine AL rfl 208 _ rfl _ rfl I underlying208 rfl (by rw [H];kernel_rfl) ?_)
  | (refine AL rfl 199 _ rfl _ rfl i underlying199 rfl (by rw [o];kernel_rfl) ?_)
  | (go_at_call 159;refine (Tc (AV key S) a (Bx key).reverse S _ (AZ _ _) (KU _ _) t (by rw [List.length_reverse];exact ED _) (fun x E=>Ml key x (List.mem_reverse.1 E)) D).mono ?_;rintro e M ⟨rfl,f⟩)
  | (refine store_blk rfl 208 _ _ rfl _ rfl rfl (z.below f z.lt) (by rw [QD,Dn];kernel_rfl) (by rw [QD,Dn];exact AD _ _) (AF _) ?_;intro N r A J))
 have p:=s.size;exact Qc (v:=.agg ((IG key a).map byte).toArray) (AG results112 _ _ rfl r underlying208 rfl (by rw [QD,LR];kernel_rfl)) rfl
  ⟨rfl,(s.trans (f.mono p)).grown A (QG p f.size) (by intro k g;cases g;omega)⟩
structure FP (w:World) (b off:Nat) (k0 k1 k2 k3 k4 k5 k6 k7:UInt8):Prop where
 c0:w.cell? ⟨b,off,none⟩ = some (byte k0)
 c1:w.cell? ⟨b,off + 1,none⟩ = some (byte k1)
 c2:w.cell? ⟨b,off + 2,none⟩ = some (byte k2)
 c3:w.cell? ⟨b,off + 3,none⟩ = some (byte k3)
 c4:w.cell? ⟨b,off + 4,none⟩ = some (byte k4)
 c5:w.cell? ⟨b,off + 5,none⟩ = some (byte k5)
 c6:w.cell? ⟨b,off + 6,none⟩ = some (byte k6)
 c7:w.cell? ⟨b,off + 7,none⟩ = some (byte k7)
theorem RowAt.eight {w:World} {g:Option Addr} {i m o j d f n l:UInt8} (h:RowAt w g [i,m,o,j,d,f,n,l]) :
 ∃ b c,g = some ⟨b,c,none⟩ /\ b < w.heap.size /\ FP w b c i m o j d f n l:=by
 obtain ⟨b,c,rfl,a⟩:=h.at (k:=0) (by simp);exact ⟨b,c,rfl,RowAt.lt a (k:=0) (by simp),⟨a 0 (by simp),a 1 (by simp),a 2 (by simp),a 3 (by simp),a 4 (by simp),a 5 (by simp),a 6 (by simp),a 7 (by simp)⟩⟩
theorem FP.below {w w':World} {b a:Nat} {i l m j f g n k:UInt8} {B:Nat} (h:FP w b a i l m j f g n k) (c:Below B w w') (d:b < B):FP w' b a i l m j f g n k :=
 ⟨(c.cell (p:=⟨b,a,none⟩) d).trans h.c0,(c.cell (p:=⟨b,a + 1,none⟩) d).trans h.c1,(c.cell (p:=⟨b,a + 2,none⟩) d).trans h.c2,(c.cell (p:=⟨b,a + 3,none⟩) d).trans h.c3,
  (c.cell (p:=⟨b,a + 4,none⟩) d).trans h.c4,(c.cell (p:=⟨b,a + 5,none⟩) d).trans h.c5,(c.cell (p:=⟨b,a + 6,none⟩) d).trans h.c6,(c.cell (p:=⟨b,a + 7,none⟩) d).trans h.c7⟩
theorem NL {B:Nat} {w w':World} (h:Below B w.drew w'):Below B w w':=⟨h.os,h.tape,h.output,h.size,h.block⟩
theorem FP.alloc {w:World} {b a:Nat} {f j k g c d l i:UInt8} (h:FP w b a f j k g c d l i) (o:Obj):FP (w.alloc o) b a f j k g c d l i :=
 h.below ((Below.refl _ _).alloc (QE _) o) (QF w _ h.c0)
theorem FP.drew1 {w:World} {b a:Nat} {f j k g c d l i:UInt8} (h:FP w b a f j k g c d l i):FP w.drew b a f j k g c d l i:=⟨h.c0,h.c1,h.c2,h.c3,h.c4,h.c5,h.c6,h.c7⟩
theorem FP.setRow {w:World} {b a g:Nat} {cs:Array Value} {f l m i c d n j:UInt8} (h:FP w b a f l m i c d n j) (k:¬ b = g) :
 (w.setRow g cs).cell? ⟨b,a,none⟩ = some (byte f) /\ (w.setRow g cs).cell? ⟨b,a + 1,none⟩ = some (byte l) /\ (w.setRow g cs).cell? ⟨b,a + 2,none⟩ = some (byte m) /\ (w.setRow g cs).cell? ⟨b,a + 3,none⟩ = some (byte i) /\
 (w.setRow g cs).cell? ⟨b,a + 4,none⟩ = some (byte c) /\ (w.setRow g cs).cell? ⟨b,a + 5,none⟩ = some (byte d) /\ (w.setRow g cs).cell? ⟨b,a + 6,none⟩ = some (byte n) /\ (w.setRow g cs).cell? ⟨b,a + 7,none⟩ = some (byte j):=by
 have e:∀ o,(w.setRow g cs).cell? ⟨b,o,none⟩ = w.cell? ⟨b,o,none⟩:=fun o=>cell_setRow_other w g cs ⟨b,o,none⟩ (by simpa using k);exact ⟨(e _).trans h.c0,(e _).trans h.c1,(e _).trans h.c2,(e _).trans h.c3,(e _).trans h.c4,(e _).trans h.c5,(e _).trans h.c6,(e _).trans h.c7⟩
theorem E7 {w:World} {g t base n:Nat} {bs:LU} (h:Blk w g t (bs.map byte)) (c:base <= g) (a:bs.length = n) (b:n <= maxLen):Own w base (.slice (some ⟨g,0,none⟩) n n) bs:=by
 subst a;exact ⟨t,by simp,.inr ⟨g,bs.length,(bs.map byte).toArray,rfl,c,h,QE _,b,by simp,by rw [QS (by simp)]⟩⟩
end Go.Proofs.YtbkokcjolanpeaaGreatDoor
