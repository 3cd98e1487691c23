import Derived.Test.YtbkokcjolanpeaaGreatDoorMkA
set_option maxRecDepth 100000
set_option maxHeartbeats 10000000
namespace Go.Proofs.YtbkokcjolanpeaaGreatDoor
open Go.RowKit Go.Proofs.Tryz Act
def Ek:LU:=[
 69,52,68,49,50,70,66,56,51,65,54,67,53,57,48,55,48,70,55,52,69,50,68,49,65,54,67,66,57,53,51,56,
 52,49,69,56,68,54,50,66,70,67,57,55,51,65,53,48,70,67,56,50,52,57,49,55,53,66,51,69,65,48,54,68,
 70,49,56,69,54,66,51,52,57,55,50,68,67,48,53,65,51,68,52,55,70,50,56,69,67,48,49,65,54,57,66,53,
 48,69,55,66,65,52,68,49,53,56,67,54,57,51,50,70,68,56,65,49,51,70,52,50,66,54,55,67,48,53,69,57,
 65,48,57,69,54,51,70,53,49,68,67,55,66,52,50,56,68,55,48,57,51,52,54,65,50,56,53,69,67,66,70,49,
 68,54,52,57,56,70,51,48,66,49,50,67,53,65,69,55,49,65,68,48,54,57,56,55,52,70,69,51,66,53,50,67,
 55,68,69,51,48,54,57,65,49,50,56,53,66,67,52,70,68,56,66,53,54,70,48,51,52,55,50,67,49,65,69,57,
 65,54,57,48,67,66,55,68,70,49,51,69,53,50,56,52,51,70,48,54,65,49,68,56,57,52,53,66,67,55,50,69,
 50,67,52,49,55,65,66,54,56,53,51,70,68,48,69,57,69,66,50,67,52,55,68,49,53,48,70,65,51,57,56,54,
 52,50,49,66,65,68,55,56,70,57,67,53,54,51,48,69,66,56,67,55,49,69,50,68,54,70,48,57,65,52,53,51,
 67,49,65,70,57,50,54,56,48,68,51,52,69,55,53,66,65,70,52,50,55,67,57,53,54,49,68,69,48,66,51,56,
 57,69,70,53,50,56,67,51,55,48,52,65,49,68,66,54,52,51,50,67,57,53,70,65,66,69,49,55,54,48,56,68,
 52,66,50,69,70,48,56,68,51,67,57,55,53,65,54,49,68,48,66,55,52,57,49,65,69,51,53,67,50,70,56,54,
 49,52,66,68,67,51,55,69,65,70,54,56,48,53,57,50,54,66,68,56,49,52,65,55,57,53,48,70,69,50,51,67,
 68,50,56,52,54,70,66,49,65,57,51,69,53,48,67,55,49,70,68,56,65,51,55,52,67,53,54,66,48,69,57,50,
 55,66,52,49,57,67,69,50,48,54,65,68,70,51,53,56,50,49,69,55,52,65,56,68,70,67,57,48,51,53,54,66]
def Nl (a g:Nat):Nat:=hexN (Ek.getD (64 * a + 16 * (g / 32 * 2 + g % 2) + g / 2 % 16) 0).toNat
def mergedN (a g:Nat):Nat:=spreadN a (Nl a g)
def CZ (j:Nat):Value:=CS (mergedN (j / 64) (j % 64))
def mergedCells:List Value:=(List.range 512).map CZ
theorem mergedCells_length:mergedCells.length = 512:=by simp [mergedCells]
theorem J2:mergedCells.toArray.all (·.oneCell') = true:=Fm _ (fun _=>rfl) _
theorem MN:∀ i:Nat,i < 512 -> hexN (Ek.getD i 0).toNat < 16:=by decide +kernel
theorem Tryz.zero291:(prog.info? 291).map (fun i=>(i.zero,i.size)) = some (some (.agg (AC 512 .u32).toArray),512):=by kernel_rfl
theorem g1:∀ g:Nat,g < 64 -> bits BinOp.and IntKind.i64 ((g:Int) / 16) 2 = ((g / 32 * 2:Nat):Int):=by decide +kernel
theorem g2:∀ g:Nat,g < 64 -> bits BinOp.and IntKind.i64 (g:Int) 1 = ((g % 2:Nat):Int):=by decide +kernel
theorem g3:∀ g:Nat,g < 64 -> bits BinOp.or IntKind.i64 ((g / 32 * 2:Nat):Int) ((g % 2:Nat):Int) = ((g / 32 * 2 + g % 2:Nat):Int):=by decide +kernel
theorem g4:∀ g:Nat,g < 64 -> bits BinOp.and IntKind.i64 ((g:Int) / 2) 15 = ((g / 2 % 16:Nat):Int):=by decide +kernel
theorem aQ (L:ByteArray) (x:Nat) (f:x < L.size) (c:L.data.toList = Ek) (a:x < 512) (w:World) :
 Calls prog 223 #[.int .u8 (L[x].toNat:Int)] w fun e w'=>∃ d:Nat,e = .returned (.int .u8 d) /\ d < 16 /\ (d:Int) < 16 /\ Hid (d = hexN (Ek.getD x 0).toNat) /\ w' = w:=by
 have h:=MN x a;have b:L[x] = Ek.getD x 0:=by
  rw [<- c];have g:x < L.data.toList.length:=by simpa using f
  rw [QA,List.getElem?_eq_getElem g]
  rfl
 rw [b];refine (PX (Ek.getD x 0).toNat w (QW _)).mono ?_;rintro e w' ⟨rfl,rfl⟩;exact ⟨_,rfl,h,by omega,rfl,rfl⟩
theorem S8 {w:World} {S t k d:Nat} (h:Blk w S t (CY k)) (a:d < 16):w.cell? ⟨S,d,none⟩ = some (.int .u32 (spreadN k d:Nat)):=by
 rw [h.cell d (by rw [spreadCells_length];exact a),Mv k d a]
 rfl
theorem Mz (w:World) :
 Calls prog 189 #[] w fun e w'=>e = .returned (.agg mergedCells.toArray) /\ Bl w w':=by
 have hz:=(QO Tryz.zero291).1;have a4:=(QO Tryz.zero319).1;go_enter func189,ntmps189;go_wp2
 go_loopw [2,3,4,5,6,7,12] (fun _ _ _ _ _ i _ wr=>∃ k:Nat,k <= 8 /\ i = .int .i64 k /\ Blk wr (w.heap.size + 1) 291 (BQ CZ (.int .u32 0) 512 (64 * k)) /\ Blk wr w.heap.size 291 (AC 512 .u32) /\ Bl w wr) (fun _ _ _ _ _ i _ _=>8 - (intOf i).toNat)
 case atStart=>exact ⟨0,QU _,rfl,by rw [Cz];exact Blk.new2 w _ _ _,(Blk.new w _ _).alloc _,((Below.refl _ _).alloc (QE _) _).alloc (by simp) _⟩
 case round =>
  obtain ⟨k,H,rfl,l,n,f⟩:=hrel
  by_cases hlt:k < 8
  ·go_wp2_with (first | (go_at_call 222;refine (MT k _ hlt).mono ?_;rintro e s ⟨rfl,o⟩) | (refine store_blk rfl 319 _ _ rfl _ rfl rfl (Blk.new s _ _) (by rw [spreadCells_length];kernel_rfl) (by rw [AD,spreadCells_length]) (J1 _) ?_;intro z p q N))
   have L:Blk z (w.heap.size + 1) 291 (BQ CZ (.int .u32 0) 512 (64 * k)) /\ Blk z w.heap.size 291 (AC 512 .u32) /\ Bl w z /\ w.heap.size + 1 < s.heap.size:=by
    have V:=l.lt;have l2:=o.size;have F:Blk (s.alloc (.cells (AC 16 .u32).toArray 319)) (w.heap.size + 1) 291 (BQ CZ (.int .u32 0) 512 (64 * k)):=(l.below o V).alloc _;have D:Blk (s.alloc (.cells (AC 16 .u32).toArray 319)) w.heap.size 291 (AC 512 .u32):=(n.below o (by omega)).alloc _;refine ⟨?_,?_,?_,by omega⟩
    ·unfold Blk;rw [q.block _ F.lt (by simp;omega)];exact F
    ·unfold Blk;rw [q.block _ D.lt (by simp;omega)];exact D
    ·exact (((f.trans (o.mono f.size))).alloc (by omega) _).grown q (by simp;omega) (by intro j O;cases O;omega)
   obtain ⟨S,B⟩:=uX (s.heap.size);rw [<- B] at p L;rw [<- B];clear l n f q N o B;obtain ⟨l,n,f,b1⟩:=L
   go_loopw [4,5,6,12] (fun _ _ _ i wr=>∃ g:Nat,g <= 64 /\ i = .int .i64 g /\ Blk wr (w.heap.size + 1) 291 (BQ CZ (.int .u32 0) 512 (64 * k + g)) /\ Blk wr w.heap.size 291 (AC 512 .u32) /\ Blk wr S 319 (CY k) /\ Bl w wr) (fun _ _ _ i _=>64 - (intOf i).toNat)
   case atStart=>exact ⟨0,QU _,rfl,l,n,p,f⟩
   case round =>
    clear l n f p;obtain ⟨g,hg,rfl,l,n,p,f⟩:=hrel
    by_cases hgl:g < 64
    ·obtain ⟨a,ha,Ha⟩:∃ a:Nat,bits BinOp.and IntKind.i64 ((g:Int) / 16) 2 = (a:Int) /\ Hid (a = g / 32 * 2):=⟨_,g1 g hgl,Eq.refl (g / 32 * 2)⟩;obtain ⟨b,hb,Hb⟩:∃ b:Nat,bits BinOp.and IntKind.i64 (g:Int) 1 = (b:Int) /\ Hid (b = g % 2):=⟨_,g2 g hgl,Eq.refl (g % 2)⟩;obtain ⟨r,hr,a6,U⟩:∃ r:Nat,bits BinOp.or IntKind.i64 (a:Int) (b:Int) = (r:Int) /\ r < 4 /\ Hid (r = g / 32 * 2 + g % 2):=⟨g / 32 * 2 + g % 2,by rw [Ha.out,Hb.out];exact g3 g hgl,by omega,rfl⟩;obtain ⟨c,hc,Y,R⟩:∃ c:Nat,bits BinOp.and IntKind.i64 ((g:Int) / 2) 15 = (c:Int) /\ c < 16 /\ Hid (c = g / 2 % 16):=⟨_,g4 g hgl,by omega,Eq.refl (g / 2 % 16)⟩;obtain ⟨m1,a8,M⟩:∃ m:Nat,IntKind.i64.wrap (64 * (k:Int)) = (m:Int) /\ Hid (m = 64 * k):=⟨64 * k,by rw [QH];omega,rfl⟩;obtain ⟨Z,a5,J⟩:∃ m:Nat,IntKind.i64.wrap (16 * (r:Int)) = (m:Int) /\ Hid (m = 16 * r):=⟨16 * r,by rw [QH];omega,rfl⟩;obtain ⟨W,a7,C⟩:∃ m:Nat,IntKind.i64.wrap ((m1:Int) + (Z:Int)) = (m:Int) /\ Hid (m = 64 * k + 16 * r):=⟨64 * k + 16 * r,by have:=M.out;have:=J.out;rw [QH];omega,rfl⟩;obtain ⟨x,hx,G,Hx⟩:∃ m:Nat,IntKind.i64.wrap ((W:Int) + (c:Int)) = (m:Int) /\ m < 512 /\ Hid (m = 64 * k + 16 * r + c):=⟨64 * k + 16 * r + c,by have:=C.out;rw [QH];omega,by omega,rfl⟩;have b0:wr.frozen? ⟨w.heap.size + 1,k * 64 + g,none⟩ = false:=l.free _;obtain ⟨u,hu⟩:∃ u,wr.cell? ⟨w.heap.size + 1,k * 64 + g,none⟩ = some u:=⟨_,l.cell (k * 64 + g) (by rw [Bs];omega)⟩;have a0:(x:Int) < 512:=by omega
     have a3:(k:Int) < 8:=by omega
     have b2:(g:Int) < 64:=by omega
     go_wp2;go_region_with (go_at_call 223;refine (aQ _ x _ (by kernel_rfl) G _).mono ?_;rintro e w' ⟨d,rfl,A,a2,X,rfl⟩;have a1:=S8 p A);have t:Value.int IntKind.u32 (spreadN k d:Nat) = CZ (64 * k + g):=by
      unfold CZ CS mergedN Nl;rw [show (64 * k + g) / 64 = k from by omega,show (64 * k + g) % 64 = g from by omega,<- U.out,<- R.out,<- Hx.out,<- X.out]
     have y:=l.set (64 * k + g) (CZ (64 * k + g));rw [Cv,show 64 * k + g + 1 = 64 * k + (g + 1) from by omega] at y;have T:Hid (Value.int IntKind.u32 (spreadN k d:Nat) = CZ (64 * k + g)):=t;clear t;go_wp2;go_roundw
     case rel =>
      rw [T.out,show k * 64 + g = 64 * k + g from by omega];exact ⟨g + 1,by omega,by go_num,y.drew1,(n.other _ _ (by simp)).drew1,(p.other _ _ (by simp;omega)).drew1,(f.setCell (by simp) _).drew⟩
     case measure=>simp [intOf];omega
    ·obtain rfl:g = 64:=by omega
     go_wp2;go_roundw
     case rel=>exact ⟨k + 1,by omega,by go_num,by rw [show 64 * (k + 1) = 64 * k + 64 from by omega];exact l,n,f⟩
     case measure=>simp [intOf];omega
  ·obtain rfl:k = 8:=by omega
   have hb1':Blk wr (w.heap.size + 1) 291 mergedCells:=by rw [DD] at l;exact l
   go_wp2_with (first | (refine AL rfl 291 _ rfl _ rfl hb1' underlying291 rfl (by rw [mergedCells_length];kernel_rfl) ?_) | (refine store_blk rfl 291 _ _ rfl _ rfl rfl n (by rw [mergedCells_length];kernel_rfl) (by rw [AD,mergedCells_length]) J2 ?_;intro w2 I E a9))
   exact Qc (v:=.agg mergedCells.toArray) (AG results189 _ _ rfl I underlying291 rfl (by rw [mergedCells_length];kernel_rfl)) rfl ⟨rfl,f.grown E f.size (by intro k H;cases H;exact QE _)⟩
def K9 (a key k:Nat):Nat:=(rotN a (4 * k + 5) ^^^ key / 2 ^ (42 - 6 * k) % 4294967296) % 64
def mixN (a key:Nat):Nat -> Nat
 | 0=>0
 | k + 1=>mixN a key k ||| mergedN k (K9 a key k)
theorem Ni (a key k:Nat):mixN a key k < 4294967296:=by
 induction k with
 | zero=>simp [mixN]
 | succ k ih=>exact qO (n:=32) ih (JT _ _)
theorem ZU (x k:Nat) (b:x < 4294967296):rotN x k < 4294967296:=by
 unfold rotN;have a:x / 2 ^ (32 - k % 32) <= x:=qX _ _;exact qO (n:=32) (by omega) (by omega)
theorem TE {w:World} {S t k g:Nat} (h:Blk w S t mergedCells) (b:k < 8) (a:g < 64):w.cell? ⟨S,k * 64 + g,none⟩ = some (.int .u32 (mergedN k g:Nat)):=by
 rw [h.cell (k * 64 + g) (by rw [mergedCells_length];omega)];have:mergedCells[k * 64 + g]'(by rw [mergedCells_length];omega) = CZ (k * 64 + g):=by simp [mergedCells]
 rw [this];unfold CZ CS;rw [show (k * 64 + g) / 64 = k from by omega,show (k * 64 + g) % 64 = g from by omega]
theorem OB (w:World) (a b:Nat):(w.drewN a).drewN b = w.drewN (a + b):=by
 simp [World.drewN,Nat.add_assoc]
theorem Rv (w:World) :
 Calls prog 157 #[] w fun e w'=>∃ S,e = .returned (.func (.func 190) #[] #[.pointer (some ⟨S,0,none⟩)]) /\ w.heap.size <= S /\ Blk w' S 291 mergedCells /\ Bl w w':=by
 have hz:=(QO Tryz.zero291).1;go_enter func157,ntmps157;go_wp2_with (first | (go_at_call 189;refine (Mz _).mono ?_;rintro e f ⟨rfl,a⟩) | (refine store_blk rfl 291 _ _ rfl _ rfl rfl (Blk.new f _ _) (by rw [mergedCells_length];kernel_rfl) (by rw [AD,mergedCells_length]) J2 ?_;intro w2 b c g))
 go_ret;exact ⟨_,rfl,a.size,b,(a.alloc a.size _).grown c (by have:=a.size;simp;omega) (by intro k d;cases d;exact a.size)⟩
theorem VX (a key S:Nat) (w:World) (x:a < 4294967296) (_hk:key < 18446744073709551616) (p:Blk w S 291 mergedCells) :
 Calls prog 190 #[.int .u32 a,.int .u64 key,.pointer (some ⟨S,0,none⟩)] w fun e w'=>e = .returned (.int .u32 (mixN a key 8:Nat)) /\ ∃ m,w' = w.drewN m:=by
 go_enter func190,ntmps190;go_wp2
 go_loopw [6,7,8,9] (fun t _ _ i wr=>∃ k m:Nat,k <= 8 /\ i = .int .i64 k /\ t = .int .u32 (mixN a key k:Nat) /\ wr = w.drewN m) (fun _ _ _ i _=>8 - (intOf i).toNat)
 case atStart=>exact ⟨0,0,QU _,rfl,rfl,rfl⟩
 case round =>
  obtain ⟨k,m,R,rfl,rfl,b⟩:=hrel;have d:Hid (wr = w.drewN m):=b;have v:Blk wr S 291 mergedCells:=by rw [b];exact p
  clear b p
  by_cases hlt:k < 8
  ·obtain ⟨H,O,z⟩:∃ m:Nat,IntKind.i64.wrap (4 * (k:Int)) = (m:Int) /\ Hid (m = 4 * k):=⟨4 * k,by rw [QH];omega,rfl⟩;obtain ⟨o,L,f,y⟩:∃ m:Nat,IntKind.i64.wrap ((H:Int) + 5) = (m:Int) /\ m <= 64 /\ Hid (m = 4 * k + 5):=⟨4 * k + 5,by have:=z.out;rw [QH];omega,by omega,rfl⟩;obtain ⟨F,N,r⟩:∃ m:Nat,IntKind.i64.wrap (6 * (k:Int)) = (m:Int) /\ Hid (m = 6 * k):=⟨6 * k,by rw [QH];omega,rfl⟩;obtain ⟨c,U,D,u⟩:∃ m:Nat,IntKind.i64.wrap (42 - (F:Int)) = (m:Int) /\ m <= 42 /\ Hid (m = 42 - 6 * k):=⟨42 - 6 * k,by have:=r.out;rw [QH];omega,by omega,rfl⟩;go_wp2;go_quiet ((go_at_call 169;exact Calls.quiet_of_same (YT _ _ _ x f)));obtain ⟨G,W,j,E⟩:∃ G:Nat,bits BinOp.xor IntKind.u32 ((rotN a o:Nat):Int) ((key:Int) / 2 ^ c % 4294967296) = (G:Int) /\ G < 4294967296 /\ Hid (G = rotN a o ^^^ key / 2 ^ c % 4294967296):=by
    have A:=ZU a o x;have e:(key:Int) / 2 ^ c % 4294967296 = ((key / 2 ^ c % 4294967296:Nat):Int):=by simp
    exact ⟨_,by rw [e,u32_xor_nat _ _ A (by omega)],Qx (n:=32) A (by omega),rfl⟩
   obtain ⟨l,I,s,q⟩:∃ g:Nat,bits BinOp.and IntKind.u32 (G:Int) 63 = (g:Int) /\ g < 64 /\ Hid (g = G % 64):=by
    have h:=u32_and_nat G 63 j (by omega);rw [nat_mask6] at h;exact ⟨G % 64,h,by omega,rfl⟩
   have B:=TE v hlt s;obtain ⟨M,V,C⟩:∃ M:Nat,bits BinOp.or IntKind.u32 ((mixN a key k:Nat):Int) ((mergedN k l:Nat):Int) = (M:Int) /\ Hid (M = mixN a key (k + 1)):=by
    refine ⟨mixN a key k ||| mergedN k l,u32_or_nat _ _ (Ni _ _ _) (JT _ _),?_⟩;show _ = mixN a key k ||| mergedN k (K9 a key k);rw [q.out,E.out,y.out,u.out]
    rfl
   have J:(k:Int) < 8:=by omega
   have T:(l:Int) < 64:=by omega
   go_wp2;go_roundw
   case rel=>exact ⟨k + 1,m + nq,by omega,by go_num,by rw [C.out],by rw [d.out,OB]⟩
   case measure=>simp [intOf];omega
  ·go_wp2;go_ret;obtain rfl:k = 8:=by omega
   exact ⟨rfl,m,d.out⟩
def D8:LU:=[57,49,41,33,25,17,9,1,58,50,42,34,26,18,10,2,59,51,43,35,27,19,11,3,60,52,44,36,
 63,55,47,39,31,23,15,7,62,54,46,38,30,22,14,6,61,53,45,37,29,21,13,5,28,20,12,4]
def pc2Tab:LU:=[14,17,11,24,1,5,3,28,15,6,21,10,23,19,12,4,26,8,16,7,27,20,13,2,
 41,52,31,37,47,55,30,40,51,45,33,48,44,49,39,56,34,53,46,42,50,36,29,32]
def BO:List Nat:=[1,1,2,2,2,2,2,2,1,2,2,2,2,2,2,1]
theorem VS:(D8.map byte).length = 56:=rfl
theorem Vh:(pc2Tab.map byte).length = 48:=rfl
theorem VP:∀ t ∈ D8,1 <= t.toNat /\ t.toNat <= 64:=by decide
theorem WI:∀ t ∈ pc2Tab,1 <= t.toNat /\ t.toNat <= 56:=by decide
def Eo:List Value:=BO.map fun (n:Nat)=>Value.int .u64 (n:Int)
theorem IK:Eo.length = 16:=rfl
theorem GR:∀ k,k < 16 -> 1 <= BO.getD k 0 /\ BO.getD k 0 <= 2:=by decide
theorem On (k:Nat) (h:k < 16):Eo.toArray[k]? = some (.int .u64 (BO.getD k 0:Nat)):=by
 have:k < BO.length:=h;simp [Eo,this]
theorem Ps:Eo.toArray.all (·.oneCell') = true:=Fm _ (fun _=>rfl) _
def halfN (h:Nat):Nat -> Nat
 | 0=>h
 | k + 1=>turnN (halfN h k) (BO.getD k 0)
theorem Jg (h k:Nat) (a:h < 268435456) (b:k <= 16):halfN h k < 268435456:=by
 induction k with
 | zero=>exact a
 | succ k ih=>exact ZK _ _ (ih (by omega)) (GR k (by omega)).1 (GR k (by omega)).2
def Id (key:LU):Nat:=takeN (wordN key) 64 D8
theorem Xu (key:LU):Id key < 72057594037927936:=IH _ _ D8
def keyN (key:LU) (k:Nat):Nat:=takeN (halfN (Id key / 268435456) (k + 1) * 268435456 + halfN (Id key % 268435456) (k + 1)) 56 pc2Tab
theorem bD (key:LU) (k:Nat):keyN key k < 281474976710656:=IH _ _ pc2Tab
def GB (key:LU) (k:Nat):Value:=.int .u64 (keyN key k:Nat)
def CJ (key:LU):List Value:=(List.range 16).map (GB key)
theorem BF (key:LU):(CJ key).length = 16:=by simp [CJ]
def Bx (key:LU):List Nat:=(List.range 16).map (keyN key)
theorem ED (key:LU):(Bx key).length = 16:=by simp [Bx]
theorem Ml (key:LU):∀ x ∈ Bx key,x < 18446744073709551616:=by
 intro x a;simp only [Bx,Qz,qp] at a;obtain ⟨k,-,rfl⟩:=a;have:=bD key k;omega
def BU (n:Nat):Value:=.int .u64 (n:Int)
theorem Ot (key:LU):CJ key = (Bx key).map BU:=by
 simp [CJ,Bx,GB,BU,Function.comp_def]
theorem Lj (key:LU):(CJ key).toArray.all (·.oneCell') = true:=Fm _ (fun _=>rfl) _
theorem Tryz.zero199:(prog.info? 199).map (fun i=>(i.zero,i.size)) = some (some (.agg (AC 16 .u64).toArray),16):=by kernel_rfl
theorem Tryz.zero321:(prog.info? 321).map (fun i=>(i.zero,i.size)) = some (some (.agg (AC 56 .u8).toArray),56):=by kernel_rfl
theorem Tryz.zero322:(prog.info? 322).map (fun i=>(i.zero,i.size)) = some (some (.agg (AC 48 .u8).toArray),48):=by kernel_rfl
theorem Tryz.zero323:(prog.info? 323).map (fun i=>(i.zero,i.size)) = some (some (.agg (AC 16 .u64).toArray),16):=by kernel_rfl
theorem ZL (bs:LU) (h:bs.length = 8):∃ g d i j a b f c,bs = [g,d,i,j,a,b,f,c]:=by
 match bs,h with
 | [g,d,i,j,a,b,f,c],_=>exact ⟨g,d,i,j,a,b,f,c,rfl⟩
theorem Su (key:LU) (w:World) (h8:key.length = 8) :
 Calls prog 191 #[.agg (key.map byte).toArray] w fun e w'=>e = .returned (.agg (CJ key).toArray) /\ Bl w w':=by
 have d6:=(QO Tryz.zero199).1;have a9:=(QO Tryz.zero321).1;have b9:=(QO Tryz.zero322).1;have c8:=(QO Tryz.zero323).1;obtain ⟨l,n,a,b,g,p,j,m,rfl⟩:=ZL key h8;go_enter func191,ntmps191;go_wp2_with (first
  | (refine EN rfl 321 _ rfl (D8.map byte) (by kernel_rfl) ?_)
  | (refine EN rfl 322 _ rfl (pc2Tab.map byte) (by kernel_rfl) ?_)
  | (refine EN rfl 323 _ rfl Eo (by kernel_rfl) ?_)
  | (refine store_blk rfl 321 _ _ rfl _ rfl rfl (Blk.newAt _ _ _ _ (by simp)) (by kernel_rfl) (by rw [VS];exact AD _ _) (AF _) ?_;intro w2 a3 I J)
  | (refine store_blk rfl 322 _ _ rfl _ rfl rfl (Blk.newAt w2 _ _ _ (by rw [J];simp)) (by kernel_rfl) (by rw [Vh];exact AD _ _) (AF _) ?_;intro w3 a0 F U)
  | (refine store_blk rfl 323 _ _ rfl _ rfl rfl (Blk.newAt w3 _ _ _ (by rw [U];simp [J])) (by kernel_rfl) (by rw [IK];exact AD _ _) Ps ?_;intro s a2 x a1))
 have A:Blk s w.heap.size 208 ([l,n,a,b,g,p,j,m].map byte) /\ Blk s (w.heap.size + 1) 199 (AC 16 .u64) /\ Blk s (w.heap.size + 1 + 1) 321 (D8.map byte) /\ Blk s (w.heap.size + 1 + 1 + 1) 322 (pc2Tab.map byte) /\ Blk s (w.heap.size + 1 + 1 + 1 + 1) 323 Eo /\ Bl w s /\ s.heap.size = w.heap.size + 1 + 1 + 1 + 1 + 1:=by
  have z2:w2.heap.size = w.heap.size + 3:=by rw [J];simp
  have z3:w3.heap.size = w.heap.size + 4:=by rw [U];simp [z2]
  have z4:s.heap.size = w.heap.size + 5:=by rw [a1];simp [z3]
  have q0:Blk w2 w.heap.size 208 ([l,n,a,b,g,p,j,m].map byte):=Blk.grown (((Blk.new w _ _).alloc _).alloc _) I (by simp;omega);have q1:Blk w2 (w.heap.size + 1) 199 (AC 16 .u64):=Blk.grown ((Blk.new2 w _ _ _).alloc _) I (by simp);have a:Bl w w2:=((((Below.refl _ _).alloc (QE _) _).alloc (by simp) _).alloc (by simp;omega) _).grown I (by simp;omega) (by intro k r;cases r;omega)
  have b:Bl w w3:=(a.alloc (by omega) _).grown F (by simp;omega) (by intro k r;cases r;omega)
  have g:Bl w s:=(b.alloc (by omega) _).grown x (by simp;omega) (by intro k r;cases r;omega)
  have s0:=(q0.alloc _).grown F (by simp <;> omega);have s1:=(q1.alloc _).grown F (by simp <;> omega);have s2:=(a3.alloc _).grown F (by simp <;> omega);exact ⟨(s0.alloc _).grown x (by simp <;> omega),(s1.alloc _).grown x (by simp <;> omega),(s2.alloc _).grown x (by simp <;> omega),(a0.alloc _).grown x (by simp <;> omega),a2,g,z4⟩
 obtain ⟨z,k1,k2,k3,k4,G,z4⟩:=A;clear a3 a0 a2 I F x J U a1 a9 b9 c8;have c0:=z.c 0;have c1:=z.c 1;have c2:=z.c 2;have c3:=z.c 3;have c4:=z.c 4;have c5:=z.c 5;have c6:=z.c 6;have c7:=z.c 7;simp only [qD,qN,List.getElem_cons_zero,List.getElem_cons_succ] at c0 c1 c2 c3 c4 c5 c6 c7;have a4:=Lv [l,n,a,b,g,p,j,m];have a5:=Ai k2;go_region_with (first | (go_at_call 194;refine (Me [l,n,a,b,g,p,j,m] _ rfl).mono ?_;rintro e w5 ⟨rfl,f⟩) | (go_at_call 193;refine (Ga _ 64 56 64 _ _ D8 _ (by simpa using a4) rfl (by omega) rfl (by omega) VP (a5.drew1.below f)).mono ?_;rintro e Y ⟨rfl,rfl⟩));have bel5':Bl s Y:=⟨f.os,f.tape,f.output,f.size,f.block⟩;have l5:=bel5'.size;have R:=k1.below bel5' (by omega);have W:=k3.below bel5' (by omega);have j4:=k4.below bel5' (by omega);have H:=G.trans (bel5'.mono G.size);obtain ⟨B,hB,d5,HB⟩:∃ B,takeN (wordN [l,n,a,b,g,p,j,m]) 64 D8 = B /\ B < 72057594037927936 /\ Hid (B = Id [l,n,a,b,g,p,j,m]):=⟨_,rfl,Xu _,rfl⟩;obtain ⟨D,hD,X,HD⟩:∃ D:Nat,bits BinOp.and IntKind.u64 (B:Int) 268435455 = (D:Int) /\ D < 268435456 /\ Hid (D = B % 268435456):=by
  have h:=u64_and_nat B 268435455 (by omega) (by omega);have hm:∀ y:Nat,y &&& 268435455 = y % 268435456:=fun y=>Nat.and_two_pow_sub_one_eq_mod y 28;rw [hm] at h;exact ⟨_,h,by omega,rfl⟩
 obtain ⟨C,hC,T,HC⟩:∃ C:Nat,(B:Int) / 268435456 = (C:Int) /\ C < 268435456 /\ Hid (C = B / 268435456):=⟨B / 268435456,by omega,by omega,rfl⟩;clear z k1 k2 k3 k4 c0 c1 c2 c3 c4 c5 c6 c7 f bel5' G a5 a4;obtain ⟨M,L⟩:=uX (Y.heap.size);go_wp2_with (refine AL rfl 323 _ rfl _ rfl (j4.alloc _) underlying323 rfl (by rw [IK];kernel_rfl) ?_)
 have E:Blk (Y.alloc (.cells (AC 16 .u64).toArray 199)) M 199 (AC 16 .u64):=Blk.newAt Y _ _ _ L;have j1':=R.alloc (.cells (AC 16 .u64).toArray 199);have j3':=W.alloc (.cells (AC 16 .u64).toArray 199);have o:=H.alloc H.size (.cells (AC 16 .u64).toArray 199);rw [<- L];have e0:w.heap.size + 5 <= M:=by omega
 have HC':Hid (C = Id [l,n,a,b,g,p,j,m] / 268435456 /\ D = Id [l,n,a,b,g,p,j,m] % 268435456):=⟨by rw [HC.out,HB.out],by rw [HD.out,HB.out]⟩;clear R W j4 H L l5 z4 hB hD hC HB HD HC
 go_loopw [7,8,10,11,26] (fun c d _ _ i wr=>∃ k:Nat,k <= 16 /\ i = .int .i64 k /\ c = .int .u32 (halfN C k:Nat) /\ d = .int .u32 (halfN D k:Nat) /\ Blk wr M 199 (BQ (GB [l,n,a,b,g,p,j,m]) (.int .u64 0) 16 k) /\ Blk wr (w.heap.size + 1) 199 (AC 16 .u64) /\ Blk wr (w.heap.size + 1 + 1 + 1) 322 (pc2Tab.map byte) /\ Bl w wr) (fun _ _ _ _ i _=>16 - (intOf i).toNat)
 case atStart=>exact ⟨0,QU _,rfl,rfl,rfl,by rw [Cz];exact E,j1',j3',o⟩
 case round =>
  clear E j1' j3' o;obtain ⟨k,r,rfl,rfl,rfl,E,R,W,o⟩:=hrel
  by_cases hlt:k < 16
  ·have d4:=CB (P:=prog) underlying323 underlying103 rfl (by kernel_rfl) Eo.toArray .i64 k hlt _ (On k hlt);have O:=GR k hlt;obtain ⟨t,Z,Ht⟩:∃ t,BO.getD k 0 = t /\ Hid (BO.getD k 0 = t):=⟨_,rfl,rfl⟩;rw [Z] at d4 O;clear Z;have d1:=Jg C k T r;have b8:=Jg D k X r;have a8:=Jg C (k + 1) T (by omega);have d2:=Jg D (k + 1) X (by omega);have N:Hid (halfN C (k + 1) = turnN (halfN C k) t):=by rw [<- Ht.out];rfl
   have V:Hid (halfN D (k + 1) = turnN (halfN D k) t):=by rw [<- Ht.out];rfl
   rw [N.out] at a8;rw [V.out] at d2;obtain ⟨q,hq,a7,Hq⟩:∃ q:Nat,bits BinOp.or IntKind.u64 ((turnN (halfN C k) t:Nat) * 268435456:Int) ((turnN (halfN D k) t:Nat):Int) = (q:Int) /\ q < 18446744073709551616 /\ Hid (q = turnN (halfN C k) t * 268435456 + turnN (halfN D k) t):=by
    refine ⟨_,?_,?_,rfl⟩
    ·have e:((turnN (halfN C k) t:Nat) * 268435456:Int) = ((turnN (halfN C k) t * 268435456:Nat):Int):=by omega
     rw [e,u64_or_nat _ _ (by omega) (by omega),nat_join 28 _ _ (by omega) (by omega)]
    ·omega
   have hf:=E.free k;obtain ⟨u,hu⟩:∃ u,wr.cell? ⟨M,k,none⟩ = some u:=⟨_,E.cell k (by rw [Bs];exact hlt)⟩;have a6:=E.set k (GB [l,n,a,b,g,p,j,m] k);rw [Cv] at a6;have c9:=Ai W;go_wp2_with fail;refine (Mn _ _ _ d1 O.1 O.2).mono ?_;rintro e w' ⟨rfl,rfl⟩;go_wp2_with fail;refine (Mn _ _ _ b8 O.1 O.2).mono ?_;rintro e w' ⟨rfl,rfl⟩;go_wp2_with fail;refine (Ga q 56 48 56 _ _ pc2Tab _ a7 rfl (by omega) rfl (by omega) WI c9).mono ?_;rintro e w' ⟨rfl,rfl⟩;go_wp2;go_roundw
   case rel =>
    have hv:Value.int IntKind.u64 (takeN q 56 pc2Tab:Nat) = GB [l,n,a,b,g,p,j,m] k:=by
     unfold GB keyN;rw [<- HC'.out.1,<- HC'.out.2,N.out,V.out,Hq.out]
    rw [hv];exact ⟨k + 1,by omega,by go_num,by rw [N.out],by rw [V.out],a6,R.other _ _ (by simp;omega),W.other _ _ (by simp;omega),o.setCell (by simp;omega) _⟩
   case measure=>simp [intOf];omega
  ·obtain rfl:k = 16:=by omega
   have kK':Blk wr M 199 (CJ [l,n,a,b,g,p,j,m]):=by rw [DD] at E;exact E
   go_wp2_with (first | (refine AL rfl 199 _ rfl _ rfl kK' underlying199 rfl (by rw [BF];kernel_rfl) ?_) | (refine store_blk rfl 199 _ _ rfl _ rfl rfl R (by rw [BF];kernel_rfl) (by rw [AD,BF]) (Lj _) ?_;intro w8 d0 d3 e1))
   exact Qc (v:=.agg (CJ [l,n,a,b,g,p,j,m]).toArray) (AG results191 _ _ rfl d0 underlying199 rfl (by rw [BF];kernel_rfl)) rfl ⟨rfl,o.grown d3 o.size (by intro k r;cases r;omega)⟩
def dc (S:Nat):Value:=.func (.func 190) #[] #[.pointer (some ⟨S,0,none⟩)]
def AV (key:LU) (S:Nat):List Value:=CJ key ++ [dc S]
theorem AZ (key:LU) (S:Nat):(AV key S).length = 17:=by simp [AV,BF]
theorem G0 (key:LU) (S:Nat):(AV key S).toArray.all (·.oneCell') = true:=by
 rw [qc];intro v a;simp only [AV,CJ,List.mem_toArray,List.mem_append,Qz,List.mem_singleton] at a;rcases a with ⟨k,-,rfl⟩ | rfl <;> rfl
def Cc:List Value:=AC 16 .u64 ++ [.nilFunc]
theorem G6:Cc.length = 17:=rfl
theorem Tryz.zero202:(prog.info? 202).map (fun i=>(i.zero,i.size)) = some (some (.agg Cc.toArray),17):=by kernel_rfl
theorem NU (key:LU) (S:Nat) (w:World) (c:key.length = 8) :
 Calls prog 158 #[.agg (key.map byte).toArray,.func (.func 190) #[] #[.pointer (some ⟨S,0,none⟩)]] w fun e w'=>e = .returned (.agg (AV key S).toArray) /\ Bl w w':=by
 have hz:=(QO Tryz.zero202).1;have m:(key.map byte).length = 8:=by simp [c]
 have i:Blk ((w.alloc (.cells (key.map byte).toArray 208)).alloc (.cells Cc.toArray 202)) w.heap.size 208 (key.map byte):=(Blk.new w _ _).alloc _;have j:Blk ((w.alloc (.cells (key.map byte).toArray 208)).alloc (.cells Cc.toArray 202)) (w.heap.size + 1) 202 Cc:=Blk.new2 w _ _ _;go_enter func158,ntmps158;go_wp2_with (first
  | (refine AL rfl 208 _ rfl _ rfl i underlying208 rfl (by rw [m];kernel_rfl) ?_)
  | (go_at_call 191;refine (Su key _ c).mono ?_;rintro e o ⟨rfl,a⟩)
  | (refine EN rfl 202 _ rfl (AV key S) (by kernel_rfl) ?_)
  | (refine store_blk rfl 202 _ _ rfl _ rfl rfl (j.below a (by simp)) (by rw [AZ];kernel_rfl) (by rw [AZ];exact G6) (G0 _ _) ?_;intro w2 d f n))
 exact Qc (v:=.agg (AV key S).toArray) (AG results158 _ _ rfl d underlying202 rfl (by rw [AZ];kernel_rfl)) rfl ⟨rfl,by
  have b:Bl w ((w.alloc (.cells (key.map byte).toArray 208)).alloc (.cells Cc.toArray 202)):=((Below.refl _ _).alloc (QE _) _).alloc (by simp) _;have l:=a.size;exact (b.trans (a.mono b.size)).grown f (by simp at l;omega) (by intro k g;cases g;omega)⟩
theorem Tryz.zero208:(prog.info? 208).map (fun i=>(i.zero,i.size)) = some (some (.agg (AC 8 .u8).toArray),8):=by kernel_rfl
def Co (a:List Nat) (L R:Nat):Nat -> Nat × Nat
 | 0=>(L,R)
 | k + 1=>((Co a L R k).2,(Co a L R k).1 ^^^ mixN (Co a L R k).2 (a.getD k 0) 8)
theorem XP (a:List Nat) (L R:Nat) (b:L < 4294967296) (c:R < 4294967296) (k:Nat):(Co a L R k).1 < 4294967296 /\ (Co a L R k).2 < 4294967296:=by
 induction k with
 | zero=>exact ⟨b,c⟩
 | succ k ih=>exact ⟨ih.2,Qx (n:=32) ih.1 (Ni _ _ _)⟩
def FI (a:LU):Nat:=takeN (wordN a) 64 CV
def PW (L R:Nat):LU:=Di (putN (R * 4294967296 + L) 64 CV 64)
def Jo (b:List Nat) (a:LU):LU :=
 PW (Co b (FI a / 4294967296) (FI a % 4294967296) 16).1 (Co b (FI a / 4294967296) (FI a % 4294967296) 16).2
theorem Vn (a:LU):FI a < 18446744073709551616:=IH _ _ CV
theorem PB:∀ t ∈ CV,1 <= t.toNat /\ t.toNat <= 64:=by decide
theorem Dn (b:List Nat) (a:LU):(Jo b a).length = 8:=blockN_length _
theorem Tc (cs:List Value) (D:LU) (a:List Nat) (S:Nat) (w:World) (e6:cs.length = 17) (e0:cs[16]? = some (.func (.func 190) #[] #[.pointer (some ⟨S,0,none⟩)])) (h8:D.length = 8) (e4:a.length = 16) (d5:∀ x ∈ a,x < 18446744073709551616)
 (hS:Blk w S 291 mergedCells) :
 Calls prog 159 #[.agg cs.toArray,.agg (D.map byte).toArray,.agg (a.map BU).toArray] w fun e w'=>e = .returned (.agg ((Jo a D).map byte).toArray) /\ Bl w w':=by
 have hz:=(QO Tryz.zero208).1;have d6:=(QO Tryz.zero294).1;obtain ⟨j,o,d,f,s,p,b,n,rfl⟩:=ZL D h8;obtain ⟨C,N⟩:∃ C:List Value,C = a.map BU:=⟨_,rfl⟩;rw [<- N];have a6:Hid (C = a.map BU):=N;clear N;go_enter func159,ntmps159;go_wp2_with (first
  | (go_at_call 192;refine (MO _).mono ?_;rintro e w1 ⟨rfl,F⟩)
  | (refine store_blk rfl 294 _ _ rfl _ rfl rfl (Blk.newAt w1 _ _ _ rfl) (by kernel_rfl) (by rw [Lc];exact AD _ _) (AF _) ?_;intro w2 G U e1))
 have A:Blk w2 w.heap.size 202 cs /\ Blk w2 (w.heap.size + 1) 208 ([j,o,d,f,s,p,b,n].map byte) /\ Blk w2 (w.heap.size + 1 + 1) 199 C /\ Blk w2 (w.heap.size + 1 + 1 + 1) 208 (AC 8 .u8) /\ Bl w w2 /\ w.heap.size + 1 + 1 + 1 < w1.heap.size /\ Blk w2 S 291 mergedCells:=by
  have l1:=F.size;have lS:=hS.lt;simp only [World.size_alloc] at l1;have q0:=(((Blk.new w 202 cs.toArray).alloc (.cells #[byte j,byte o,byte d,byte f,byte s,byte p,byte b,byte n] 208)).alloc (.cells C.toArray 199)).alloc (.cells (AC 8 .u8).toArray 208);have q1:=((Blk.new2 w (.cells cs.toArray 202) 208 #[byte j,byte o,byte d,byte f,byte s,byte p,byte b,byte n]).alloc (.cells C.toArray 199)).alloc (.cells (AC 8 .u8).toArray 208);have q2:=(Blk.newAt ((w.alloc (.cells cs.toArray 202)).alloc (.cells #[byte j,byte o,byte d,byte f,byte s,byte p,byte b,byte n] 208)) 199 (w.heap.size + 1 + 1) C.toArray (by simp)).alloc (.cells (AC 8 .u8).toArray 208);have q3:=Blk.newAt (((w.alloc (.cells cs.toArray 202)).alloc (.cells #[byte j,byte o,byte d,byte f,byte s,byte p,byte b,byte n] 208)).alloc (.cells C.toArray 199)) 208 (w.heap.size + 1 + 1 + 1) (AC 8 .u8).toArray (by simp);have q4:=(((hS.alloc (.cells cs.toArray 202)).alloc (.cells #[byte j,byte o,byte d,byte f,byte s,byte p,byte b,byte n] 208)).alloc (.cells C.toArray 199)).alloc (.cells (AC 8 .u8).toArray 208);have b0':Bl w ((((w.alloc (.cells cs.toArray 202)).alloc (.cells #[byte j,byte o,byte d,byte f,byte s,byte p,byte b,byte n] 208)).alloc (.cells C.toArray 199)).alloc (.cells (AC 8 .u8).toArray 208)):=((((Below.refl _ _).alloc (QE _) _).alloc (by simp) _).alloc (by simp;omega) _).alloc (by simp;omega) _;have V:∀ {g t:Nat} {xs:List Value},Blk ((((w.alloc (.cells cs.toArray 202)).alloc (.cells #[byte j,byte o,byte d,byte f,byte s,byte p,byte b,byte n] 208)).alloc (.cells C.toArray 199)).alloc (.cells (AC 8 .u8).toArray 208)) g t xs -> Blk w2 g t xs:=by
   intro g t xs h;have M:=h.lt;refine ((h.below F M).alloc _).grown U ?_;simp only [World.size_alloc] at M;simp only [ne_eq,Option.some.injEq];omega
  exact ⟨V q0,V q1,V q2,V q3,((b0'.trans (F.mono b0'.size)).alloc (by omega) _).grown U (by simp;omega) (by intro k hk;cases hk;omega),by omega,V q4⟩
 obtain ⟨a0,E,a2,a3,I,hT,aS⟩:=A;obtain ⟨T,a5⟩:=uX (w1.heap.size);rw [<- a5] at G hT ⊢;have lT:=G.lt;clear F U e1 hS a5;have c0:=E.c 0;have c1:=E.c 1;have c2:=E.c 2;have c3:=E.c 3;have c4:=E.c 4;have c5:=E.c 5;have c6:=E.c 6;have c7:=E.c 7;simp only [qD,qN,List.getElem_cons_zero,List.getElem_cons_succ] at c0 c1 c2 c3 c4 c5 c6 c7;have a7:=Lv [j,o,d,f,s,p,b,n];have J:=Ai G;go_region_with (first | (go_at_call 194;refine (Me [j,o,d,f,s,p,b,n] _ rfl).mono ?_;rintro e w5 ⟨rfl,u⟩) | (go_at_call 193;refine (Ga _ 64 64 64 _ _ CV _ (by simpa using a7) rfl (by omega) rfl (by omega) PB (J.drew1.below u)).mono ?_;rintro e Z ⟨rfl,rfl⟩));have bel5':Bl w2 Z:=⟨u.os,u.tape,u.output,u.size,u.block⟩;have l5:=bel5'.size;have d0:=a0.below bel5' a0.lt;have d2:=a2.below bel5' a2.lt;have d3:=a3.below bel5' a3.lt;have dT:=G.below bel5' lT;have dS:=aS.below bel5' aS.lt;have O:=I.trans (bel5'.mono I.size);obtain ⟨X,hX,c9,HX⟩:∃ X,takeN (wordN [j,o,d,f,s,p,b,n]) 64 CV = X /\ X < 18446744073709551616 /\ Hid (X = FI [j,o,d,f,s,p,b,n]):=⟨_,rfl,Vn _,rfl⟩;obtain ⟨L,hL,d1,HL⟩:∃ L:Nat,(X:Int) / 4294967296 = (L:Int) /\ L < 4294967296 /\ Hid (L = X / 4294967296):=⟨X / 4294967296,by omega,by omega,rfl⟩;obtain ⟨R,hR,a8,HR⟩:∃ R:Nat,(X:Int) % 4294967296 = (R:Int) /\ R < 4294967296 /\ Hid (R = X % 4294967296):=⟨X % 4294967296,by omega,by omega,rfl⟩;clear a0 E a2 a3 aS G I u bel5' c0 c1 c2 c3 c4 c5 c6 c7 J a7 hz d6;have b8:C.length = 16:=by rw [a6.out];simp [e4]
 go_wp2_with (refine AL rfl 199 _ rfl _ rfl d2 underlying199 rfl (by rw [b8];kernel_rfl) ?_)
 have cf:Z.cell? ⟨w.heap.size,16,none⟩ = some (.func (.func 190) #[] #[.pointer (some ⟨S,0,none⟩)]):=by
  rw [d0.cell 16 (by omega)];have:=e0;rw [List.getElem?_eq_getElem (by omega)] at this;exact this
 have a4:Hid (L = FI [j,o,d,f,s,p,b,n] / 4294967296 /\ R = FI [j,o,d,f,s,p,b,n] % 4294967296):=⟨by rw [HL.out,HX.out],by rw [HR.out,HX.out]⟩;clear hX hL hR HX HL HR c9 d0 d2
 go_loopw [9,10,12,24] (fun l r _ i wr=>∃ k m:Nat,k <= 16 /\ i = .int .i64 k /\ l = .int .u32 ((Co a L R k).1:Nat) /\ r = .int .u32 ((Co a L R k).2:Nat) /\ wr = Z.drewN m) (fun _ _ _ i _=>16 - (intOf i).toNat)
 case atStart=>exact ⟨0,0,QU _,rfl,rfl,rfl,rfl⟩
 case round =>
  obtain ⟨k,m,hk,rfl,rfl,B⟩:=hrel;obtain ⟨rfl,B⟩:=B;have e2:Hid (wr = Z.drewN m):=B;have cf':wr.cell? ⟨w.heap.size,16,none⟩ = some (.func (.func 190) #[] #[.pointer (some ⟨S,0,none⟩)]):=by rw [B];exact cf
  have eS:Blk wr S 291 mergedCells:=by rw [B];exact dS
  have e3:Blk wr (w.heap.size + 1 + 1 + 1) 208 (AC 8 .u8):=by rw [B];exact d3
  have eT:Blk wr T 294 (CV.map byte):=by rw [B];exact dT
  have W:Bl w wr:=by rw [B];exact below_drewN O m
  clear cf dS d3 dT O B;have hb:=XP a L R d1 a8 k;obtain ⟨l,M,Hl⟩:∃ l,(Co a L R k).1 = l /\ Hid ((Co a L R k).1 = l):=⟨_,rfl,rfl⟩;obtain ⟨r,hr,Hr⟩:∃ r,(Co a L R k).2 = r /\ Hid ((Co a L R k).2 = r):=⟨_,rfl,rfl⟩;rw [M,hr] at hb;rw [M,hr];clear M hr
  by_cases hlt:k < 16
  ·obtain ⟨y,hy,Hy⟩:∃ y,C.toArray[k]? = some (.int .u64 (y:Nat)) /\ y < 18446744073709551616 /\ Hid (a.getD k 0 = y):=by
    refine ⟨a[k]'(by omega),?_,d5 _ (Qd _),?_⟩
    ·rw [a6.out];simp [BU,show k < a.length by omega]
    ·show a.getD k 0 = _;simp [show k < a.length by omega]
   have e7:=CB (P:=prog) underlying199 underlying198 rfl (by kernel_rfl) C.toArray .i64 k hlt _ hy;obtain ⟨z,hz,Hz⟩:∃ z:Nat,bits BinOp.xor IntKind.u32 (l:Int) ((mixN r y 8:Nat):Int) = (z:Int) /\ Hid (z = l ^^^ mixN r y 8):=⟨_,u32_xor_nat _ _ hb.1 (Ni _ _ _),rfl⟩;go_wp2_with (go_at_call 190;refine (VX r y S _ hb.2 Hy.1 eS).mono ?_;rintro e w9 ⟨rfl,m9,rfl⟩)
   go_roundw
   case rel =>
    refine ⟨k + 1,m + m9,by omega,by go_num,?_,?_,?_⟩
    ·show _ = Value.int IntKind.u32 ((Co a L R k).2:Nat);rw [Hr.out]
    ·show _ = Value.int IntKind.u32 (((Co a L R k).1 ^^^ mixN (Co a L R k).2 (a.getD k 0) 8:Nat):Int);rw [Hr.out,Hl.out,Hy.2.out,Hz.out]
    ·rw [e2.out,OB]
   case measure=>simp [intOf];omega
  ·obtain rfl:k = 16:=by omega
   obtain ⟨q,hq,c8,Hq⟩:∃ q:Nat,bits BinOp.or IntKind.u64 ((r:Int) * 4294967296) (l:Int) = (q:Int) /\ q < 18446744073709551616 /\ Hid (q = r * 4294967296 + l):=by
    refine ⟨_,?_,?_,rfl⟩
    ·have e:((r:Int) * 4294967296) = ((r * 4294967296:Nat):Int):=by omega
     rw [e,u64_or_nat _ _ (by omega) (by omega),nat_join 32 _ _ (by omega) (by omega)]
    ·omega
   have a9:putN q 64 CV 64 < 18446744073709551616:=TW q 64 CV (by omega) PB 64 (by decide);have J:=Ai eT;go_wp2_with (first | (go_at_call 196;refine (VC q 64 64 64 _ _ CV _ c8 rfl (by omega) rfl (by omega) PB J).mono ?_;rintro e w' ⟨rfl,rfl⟩) | (go_at_call 195;refine (Sa _ _ a9).mono ?_;rintro e w8 ⟨rfl,H⟩) | (refine store_blk rfl 208 _ _ rfl _ rfl rfl (e3.below H e3.lt) (by rw [QD,blockN_length];kernel_rfl) (by rw [QD,blockN_length];exact AD _ _) (AF _) ?_;intro e8 Y b9 e5))
   have d4:Di (putN q 64 CV 64) = Jo a [j,o,d,f,s,p,b,n]:=by
    unfold Jo PW;rw [<- a4.out.1,<- a4.out.2,Hl.out,Hr.out,Hq.out]
   rw [d4] at Y;have l7:=W.size;exact Qc (v:=.agg ((Jo a [j,o,d,f,s,p,b,n]).map byte).toArray) (AG results159 _ _ rfl Y underlying208 rfl (by rw [QD,Dn];kernel_rfl)) rfl
    ⟨rfl,(W.trans (H.mono l7)).grown b9 (QG l7 H.size) (by intro k hk;cases hk;omega)⟩
end Go.Proofs.YtbkokcjolanpeaaGreatDoor
