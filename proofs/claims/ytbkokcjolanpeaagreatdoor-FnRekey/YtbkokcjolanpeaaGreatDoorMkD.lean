import Derived.Test.YtbkokcjolanpeaaGreatDoorMkB
import Derived.Laws.CopyOwn
import Derived.WideShapes
import Derived.Laws.Cover3
import Derived.Deep.DeepCutAuto
set_option maxRecDepth 100000
set_option maxHeartbeats 20000000
namespace Go.Proofs.YtbkokcjolanpeaaGreatDoor
open Go.RowKit Go.Proofs.Tryz Act
def num (n:Nat):Value:=.int .i64 (n:Int)
def Gv (w:World) (d:Option Addr) (c:List Nat):Prop :=
 c = [] \/ ∃ b a,d = some ⟨b,a,none⟩ /\ ∀ i,i < c.length -> w.cell? ⟨b,a + i,none⟩ = some (.int .i64 ((c.getD i 0:Nat):Int))
theorem Gv.at {w:World} {d:Option Addr} {a:List Nat} (h:Gv w d a) {k:Nat} (f:k < a.length) :
 ∃ b c,d = some ⟨b,c,none⟩ /\ ∀ i,i < a.length -> w.cell? ⟨b,c + i,none⟩ = some (.int .i64 ((a.getD i 0:Nat):Int)):=by
 rcases h with rfl | h
 ·simp at f
 ·exact h
theorem Gv.lt {w:World} {b c:Nat} {a:List Nat} (h:∀ i,i < a.length -> w.cell? ⟨b,c + i,none⟩ = some (.int .i64 ((a.getD i 0:Nat):Int))) {k:Nat} (d:k < a.length):b < w.heap.size :=
 QF w _ (h k d)
theorem Gv.below {w w':World} {d:Option Addr} {c:List Nat} (h:Gv w d c) (j:Bl w w'):Gv w' d c:=by
 rcases h with rfl | ⟨b,a,rfl,g⟩
 ·exact .inl rfl
 ·exact .inr ⟨b,a,rfl,fun i f=>by rw [j.cell (p:=⟨b,a + i,none⟩) (Gv.lt g f)];exact g i f⟩
def EI (w:World) (base:Nat) (v:Value) (a:List Nat):Prop:=w.ownsRow base 3 1 v a.length (a.map num)
theorem EI.shape {w:World} {base:Nat} {v:Value} {b:List Nat} (h:EI w base v b):∃ f a,v = .slice f b.length a /\ Gv w f b:=by
 rcases h.2 with ⟨d,c⟩ | ⟨g,a,k,d,o,l,c,m,n,p⟩
 ·exact ⟨none,0,by rw [d,c],.inl (List.length_eq_zero_iff.1 c)⟩
 ·subst d;refine ⟨some ⟨g,0,none⟩,a,rfl,.inr ⟨g,0,rfl,?_⟩⟩;intro i j;have h':w.ownsRow base 3 1 (.slice (some ⟨g,0,none⟩) b.length a) b.length (b.map num):=h;rw [QZ,h'.cellAt i (by omega)];simp [j,num]
def Dr (l:LU):List Nat:=l.map (·.toNat)
theorem Na (w:World) (a:List Nat) (b:a.length <= maxLen):EI (w.alloc (.cells (a.map num).toArray 3)) w.heap.size (.slice (some ⟨w.heap.size,0,none⟩) a.length a.length) a:=by
 have:=World.ownsRow_lit (base:=w.heap.size) (e:=3) (size:=1) w (a.map num).toArray a.length (QE _) b (by simp);exact this
theorem Zq (w:World):Calls prog 209 #[] w fun e w'=>∃ v,e = .returned v /\ EI w' w.heap.size v (Dr D8) /\ Bl w w':=by
 go_enter func209,ntmps209;go_wp2;go_ret;exact ⟨_,rfl,Na w (Dr D8) (by decide),(Below.refl _ _).alloc (QE _) _⟩
theorem aj (w:World):Calls prog 210 #[] w fun e w'=>∃ v,e = .returned v /\ EI w' w.heap.size v (Dr pc2Tab) /\ Bl w w':=by
 go_enter func210,ntmps210;go_wp2;go_ret;exact ⟨_,rfl,Na w (Dr pc2Tab) (by decide),(Below.refl _ _).alloc (QE _) _⟩
theorem dm (w:World):Calls prog 214 #[] w fun e w'=>∃ v,e = .returned v /\ EI w' w.heap.size v (Dr pTab) /\ Bl w w':=by
 go_enter func214,ntmps214;go_wp2;go_ret;exact ⟨_,rfl,Na w (Dr pTab) (by decide),(Below.refl _ _).alloc (QE _) _⟩
def AO (w:World) (base:Nat) (v:Value) (l:LU):Prop:=w.ownsRow base 5 1 v l.length (l.map byte)
theorem AO.own {w:World} {base:Nat} {v:Value} {l:LU} (h:AO w base v l):Own w base v l:=⟨_,h⟩
theorem ME {w wr f:World} {l:LU} {v i c:Value} {x:UInt8} {o:Obj} (g:AO wr w.heap.size v l) (b:Bl w wr)
 (d:f.ownsRow w.heap.size 5 1 i (l.length + 1) (l.map byte ++ [c])) (a:(wr.alloc o).grownBy f v.ownBlock) (n:c = byte x):AO f w.heap.size i (l ++ [x]) /\ Bl w f:=by
 have k:=b.size;refine ⟨?_,(b.alloc k o).grown a (by simp;omega) (fun j m=>(g.lt j m).1)⟩;unfold AO;subst n;rw [Qf,QC];exact d
theorem P5 {w wr f:World} {l:List Nat} {v i c:Value} {x:Nat} {o:Obj} (g:EI wr w.heap.size v l) (b:Bl w wr)
 (d:f.ownsRow w.heap.size 3 1 i (l.length + 1) (l.map num ++ [c])) (a:(wr.alloc o).grownBy f v.ownBlock) (n:c = num x):EI f w.heap.size i (l ++ [x]) /\ Bl w f:=by
 have k:=b.size;refine ⟨?_,(b.alloc k o).grown a (by simp;omega) (fun j m=>(g.lt j m).1)⟩;unfold EI;subst n;rw [Qf,QC];exact d
theorem Tryz.info3:(prog.info? 3).map (fun i=>(i.zero,i.size,i.bytes)) = some (some (.int .i64 0),1,8):=by kernel_rfl
theorem Sr:∀ n:Nat,n < 256 -> ∀ k:Nat,k < 8 -> bits BinOp.and IntKind.u8 ((n:Int) / 2 ^ k) 1 = ((n / 2 ^ k % 2:Nat):Int):=by decide +kernel
def Fd (x:UInt8) (j:Nat):UInt8:=UInt8.ofNat (x.toNat / 2 ^ (7 - j) % 2)
def CG (x:UInt8):LU:=(List.range 8).map (Fd x)
def Ae (bs:LU):LU:=bs.flatMap CG
theorem B6 (x:UInt8):(CG x).length = 8:=by simp [CG]
theorem B4 (bs:LU):(Ae bs).length = 8 * bs.length:=by
 induction bs with
 | nil=>rfl
 | cons b bs ih=>simp only [Ae,List.flatMap_cons,QC,B6,Qn] at *;omega
theorem UG (l:LU) (x:UInt8):Ae (l ++ [x]) = Ae l ++ CG x:=by simp [Ae]
theorem ZH (x:UInt8) (j:Nat) (b:j < 8) (k:Nat) (a:k = 7 - j):Value.int .u8 (bits BinOp.and IntKind.u8 ((x.toNat:Int) / 2 ^ k) 1) = byte (Fd x j):=by
 have h:=Sr x.toNat x.toNat_lt (7 - j) (by omega);unfold byte Fd;rw [Qb,a,h]
 congr 1
 omega
theorem IM (r:Option Addr) (t:Nat) (bs:LU) (w:World) (J:bs.length <= 1048576) (n:RowAt w r bs) :
 Calls prog 148 #[.slice r bs.length t] w fun e w'=>∃ v,e = .returned v /\ AO w' w.heap.size v (Ae bs) /\ Bl w w':=by
 obtain ⟨E,D,p,q,o⟩:=Qg Tryz.info5;go_enter func148,ntmps148;go_wp2
 go_loopw [3,5,6,9] (fun v _ _ i wr=>∃ k:Nat,k <= bs.length /\ i = .int .i64 k /\ AO wr w.heap.size v (Ae (bs.take k)) /\ Bl w wr) (fun _ _ _ i _=>bs.length - (intOf i).toNat)
 case atStart=>exact ⟨0,QU _,rfl,Qa _ _ _ _,Below.refl _ _⟩
 case round =>
  obtain ⟨k,N,rfl,a,c⟩:=hrel
  by_cases hlt:k < bs.length
  ·obtain ⟨b,m,rfl,l⟩:=n.at hlt;have A:wr.cell? ⟨b,m + k,none⟩ = some (.int .u8 (bs[k].toNat:Int)):=(c.cell (RowAt.lt l hlt)).trans ((l k hlt).trans (by simp [hlt]));clear l n;go_wp2;have M:=bs[k].toNat_lt
   go_loopw [3,6] (fun v i wr=>∃ j:Nat,j <= 8 /\ i = .int .i64 (7 - (j:Int)) /\ AO wr w.heap.size v (Ae (bs.take k) ++ (CG bs[k]).take j) /\ Bl w wr) (fun _ i _=>(intOf i + 1).toNat)
   case atStart=>exact ⟨0,QU _,rfl,by simpa using a,c⟩
   case round =>
    clear a c A;obtain ⟨j,H,rfl,a,c⟩:=hrel
    by_cases hj:j < 8
    ·obtain ⟨s,y,I,B⟩:∃ s:Nat,(7 - (j:Int)) = (s:Int) /\ s <= 7 /\ Hid (s = 7 - j):=⟨7 - j,by omega,by omega,rfl⟩;have O:(Ae (bs.take k) ++ (CG bs[k]).take j).length <= 16777216:=by simp [B4,B6];omega
     have F:=c.size;rw [y];have G:(0:Int) <= (s:Int):=by omega
     go_wp2_with (at_builtin;refine Qi _ rfl _ _ 22 rfl w.heap.size 5 E (.int .u8 0) 1 1 underlying22 D p q o rfl (by decide) _ _ _ rfl (a.alloc _) ⟨wr.heap.size,0,none⟩ 1 1 [.int .u8 (bits BinOp.and IntKind.u8 ((bs[k].toNat:Int) / 2 ^ s) 1)] rfl rfl (qy _ _ _) (by intro u z;simp at z;subst z;rfl) (by unfold maxLen;omega) (by omega) (by simp;omega) ?_;intro T L f d g)
     have R:=ME (x:=Fd bs[k] j) a c f d (ZH bs[k] j hj s B.out);have C:Ae (bs.take k) ++ (CG bs[k]).take j ++ [Fd bs[k] j] = Ae (bs.take k) ++ (CG bs[k]).take (j + 1):=by
      rw [QV,B3 (CG bs[k]) j (by rw [B6];exact hj)];simp [CG]
     rw [C] at R;clear f d a g y;go_wp2;go_roundw
     case rel=>exact ⟨j + 1,by omega,by have:=B.out;go_num,R.1,R.2⟩
     case measure=>simp [intOf]
    ·obtain rfl:j = 8:=by omega
     go_wp2;go_roundw
     case rel=>exact ⟨k + 1,by omega,by go_num,by rw [B3 bs k hlt,UG];rw [show (CG bs[k]).take 8 = CG bs[k] from QS (by rw [B6];exact QE _)] at a;exact a,c⟩
     case measure=>simp [intOf];omega
  ·go_wp2;go_ret;obtain rfl:k = bs.length:=by omega
   rw [qt] at a;exact ⟨_,rfl,a,c⟩
def Ak (l:LU) (a:List Nat):LU:=a.map fun n=>l.getD (n - 1) 0
theorem IO (G I:Option Addr) (H O:Nat) (l:LU) (a:List Nat) (w:World) (hl:l.length <= 1048576) (Z:a.length <= 1048576) (r:∀ n ∈ a,1 <= n /\ n <= l.length) (A:RowAt w G l) (B:Gv w I a) :
 Calls prog 179 #[.slice G l.length H,.slice I a.length O] w fun e w'=>∃ v,e = .returned v /\ AO w' w.heap.size v (Ak l a) /\ Bl w w':=by
 obtain ⟨U,C,D,F,E⟩:=Qg Tryz.info5;go_enter func179,ntmps179;go_wp2
 go_loopw [5,7,10] (fun v _ i wr=>∃ k:Nat,k <= a.length /\ i = .int .i64 k /\ AO wr w.heap.size v (Ak l (a.take k)) /\ Bl w wr) (fun _ _ i _=>a.length - (intOf i).toNat)
 case atStart=>exact ⟨0,QU _,rfl,Qa _ _ _ _,Below.refl _ _⟩
 case round =>
  obtain ⟨k,hk,rfl,d,c⟩:=hrel
  by_cases hlt:k < a.length
  ·obtain ⟨b,q,rfl,y⟩:=B.at hlt;have s:wr.cell? ⟨b,q + k,none⟩ = some (.int .i64 (a[k]:Int)):=(c.cell (Gv.lt y hlt)).trans ((y k hlt).trans (by simp [hlt]));have M:=r a[k] (Qd hlt);obtain ⟨m,t,g⟩:∃ m:Nat,a[k] = m + 1 /\ m < l.length:=⟨a[k] - 1,by omega,by omega⟩;have T:Hid (a[k] = m + 1):=t;have hcx':wr.cell? ⟨b,q + k,none⟩ = some (.int .i64 ((m:Int) + 1)):=by rw [s,t];congr 2
   obtain ⟨N,z,rfl,o⟩:=A.at g;have Y:wr.cell? ⟨N,z + m,none⟩ = some (.int .u8 (l[m].toNat:Int)):=(c.cell (RowAt.lt o g)).trans ((o m g).trans (by simp [g]));have W:(Ak l (a.take k)).length <= 1048576:=by simp [Ak];omega
   have V:=c.size;have X:(m:Int) < (l.length:Int):=by omega
   clear y A o B s t M r;go_wp2_with (at_builtin;refine Qi _ rfl _ _ 22 rfl w.heap.size 5 U (.int .u8 0) 1 1 underlying22 C D F E rfl (by decide) _ _ _ rfl (d.alloc _) ⟨wr.heap.size,0,none⟩ 1 1 [.int .u8 (l[m].toNat:Int)] rfl rfl (qy _ _ _) (by intro u J;simp at J;subst J;rfl) (by unfold maxLen;omega) (by omega) (by simp;omega) ?_;intro v1 w1 j f p)
   have R:=ME (x:=l[m]) d c j f rfl;have L:Ak l (a.take k) ++ [l[m]] = Ak l (a.take (k + 1)):=by
    rw [B3 a k hlt];simp [Ak,T.out,g]
   rw [L] at R;clear j f d p;go_wp2;go_roundw
   case rel=>exact ⟨k + 1,by omega,by go_num,R.1,R.2⟩
   case measure=>simp [intOf];omega
  ·go_wp2;go_ret;obtain rfl:k = a.length:=by omega
   rw [qt] at d;exact ⟨_,rfl,d,c⟩
def DZ:List Nat:=[58,60,62,64,57,59,61,63]
def A7:List Nat:=Dr CV
theorem Z3:∀ i,i < 8 -> ∀ k,k < 8 -> A7.getD (8 * i + k) 0 = DZ.getD i 0 - 8 * k /\ 57 <= DZ.getD i 0 /\ DZ.getD i 0 <= 64:=by decide +kernel
theorem Cj:A7.length = 64:=rfl
theorem Od (l:List Nat) (j:Nat) (h:j < l.length):l.take j ++ [l.getD j 0] = l.take (j + 1):=by
 rw [B3 l j h];simp [h]
theorem Xj {w:World} {B base:Nat} {v:Value} {a:List Nat} (h:EI w (B + base) v a):EI w B v a:=by
 refine ⟨h.1,?_⟩;rcases h.2 with h | ⟨g,b,c,d,f,r⟩
 ·exact .inl h
 ·exact .inr ⟨g,b,c,d,by omega,r⟩
theorem XC (w:World):Calls prog 180 #[] w fun e w'=>∃ v,e = .returned v /\ EI w' w.heap.size v A7 /\ Bl w w':=by
 obtain ⟨E,r,s,x,t⟩:=Qg Tryz.info3;go_enter func180,ntmps180;go_wp2;have o:Blk (w.alloc (.cells #[.int .i64 58,.int .i64 60,.int .i64 62,.int .i64 64,.int .i64 57,.int .i64 59,.int .i64 61,.int .i64 63] 3)) w.heap.size 3 (DZ.map num):=Blk.new w _ _;have m:Bl w (w.alloc (.cells #[.int .i64 58,.int .i64 60,.int .i64 62,.int .i64 64,.int .i64 57,.int .i64 59,.int .i64 61,.int .i64 63] 3)):=(Below.refl _ _).alloc (QE _) _
 go_loopw [1,3,4,7] (fun v _ _ i wr=>∃ k:Nat,k <= 8 /\ i = .int .i64 k /\ EI wr (w.heap.size + 1) v (A7.take (8 * k)) /\ Blk wr w.heap.size 3 (DZ.map num) /\ Bl w wr) (fun _ _ _ i _=>8 - (intOf i).toNat)
 case atStart=>exact ⟨0,QU _,rfl,Qa _ _ _ _,o,m⟩
 case round =>
  clear o m;obtain ⟨i,L,rfl,a,g,b⟩:=hrel
  by_cases hlt:i < 8
  ·obtain ⟨f,y,C⟩:∃ f,DZ.getD i 0 = f /\ Hid (DZ.getD i 0 = f):=⟨_,rfl,rfl⟩;have A:wr.cell? ⟨w.heap.size,i,none⟩ = some (.int .i64 (f:Int)):=by
    rw [g.cell i (by simpa [DZ] using hlt),<- y];have:i < DZ.length:=hlt;simp [num,this]
   clear y;have I:decide ((i:Int) < 8) = true:=QK (by omega);go_wp2
   go_loopw [1,4] (fun v q wr=>∃ k:Nat,k <= 8 /\ q = .int .i64 k /\ EI wr (w.heap.size + 1) v (A7.take (8 * i + k)) /\ Blk wr w.heap.size 3 (DZ.map num) /\ Bl w wr) (fun _ q _=>8 - (intOf q).toNat)
   case atStart=>exact ⟨0,QU _,rfl,a,g,b⟩
   case round =>
    clear a g b A;obtain ⟨k,M,rfl,a,g,b⟩:=hrel
    by_cases hkl:k < 8
    ·have l:=Z3 i hlt k hkl;rw [C.out] at l;have HS:Hid (A7.getD (8 * i + k) 0 = f - 8 * k):=l.1;have H:=l.2.1;have J:=l.2.2;clear l;have G:(A7.take (8 * i + k)).length <= 64:=by rw [QI];omega
     have F:=g.lt;go_wp2_with (at_builtin;refine Qi _ rfl _ _ 42 rfl (w.heap.size + 1) 3 E (.int .i64 0) 1 8 underlying42 r s x t rfl (by decide) _ _ _ rfl (a.alloc _) ⟨wr.heap.size,0,none⟩ 1 1 [.int .i64 ((f:Int) - 8 * (k:Int))] rfl rfl (qy _ _ _) (by intro u z;simp at z;subst z;rfl) (by unfold maxLen;omega) (by omega) (by simp;omega) ?_;intro D p d c n)
     have R:EI p (w.heap.size + 1) D (A7.take (8 * i + (k + 1))) /\ Blk p w.heap.size 3 (DZ.map num) /\ Bl w p:=by
      refine ⟨?_,(g.alloc _).grown c ?_,(b.alloc b.size _).grown c (by simp;omega) (fun j B=>by have:=(a.lt j B).1;omega)⟩
      ·have e:((f:Int) - 8 * (k:Int)) = ((A7.getD (8 * i + k) 0:Nat):Int):=by rw [HS.out];omega
       rw [e] at d;unfold EI;rw [show 8 * i + (k + 1) = 8 * i + k + 1 from by omega,<- Od _ _ (by rw [Cj];omega),Qf,QC];exact d
      ·intro e;have:=(a.lt _ e.symm).1;omega
     clear d c a n g b;go_wp2;go_roundw
     case rel=>first | exact ⟨k + 1,by omega,by go_num,R.1,R.2.1,R.2.2⟩ | ((repeat apply Exists.intro);exact ⟨⟨k + 1,by omega,by go_num,R.1,R.2.1,R.2.2⟩,rfl⟩)
     case measure=>simp [intOf];omega
    ·obtain rfl:k = 8:=by omega
     go_wp2;go_roundw
     case rel=>exact ⟨i + 1,by omega,by go_num,by rw [show 8 * (i + 1) = 8 * i + 8 from by omega];exact a,g,b⟩
     case measure=>simp [intOf];omega
  ·go_wp2;go_ret;obtain rfl:i = 8:=by omega
   rw [QS (by rw [Cj];omega)] at a;exact ⟨_,rfl,Xj a,b⟩
def Ay:List Nat:=(List.range 48).map fun j=>(4 * (j / 6) + j % 6 + 31) % 32 + 1
theorem Dz:Ay.length = 48:=by simp [Ay]
theorem cg (i k:Nat) (a:i < 8) (b:k < 6):Ay.getD (6 * i + k) 0 = (4 * i + k + 31) % 32 + 1:=by
 have h:6 * i + k < 48:=by omega
 simp only [Ay,QA,List.getElem?_map,List.getElem?_range h,Option.map_some,qG];rw [show (6 * i + k) / 6 = i from by omega,show (6 * i + k) % 6 = k from by omega]
theorem d9 (w:World):Calls prog 211 #[] w fun e w'=>∃ v,e = .returned v /\ EI w' w.heap.size v Ay /\ Bl w w':=by
 obtain ⟨p,j,l,n,m⟩:=Qg Tryz.info3;go_enter func211,ntmps211;go_wp2
 go_loopw [1,2,3] (fun v i _ wr=>∃ k:Nat,k <= 8 /\ i = .int .i64 k /\ EI wr w.heap.size v (Ay.take (6 * k)) /\ Bl w wr) (fun _ i _ _=>8 - (intOf i).toNat)
 case atStart=>exact ⟨0,QU _,rfl,Qa _ _ _ _,Below.refl _ _⟩
 case round =>
  obtain ⟨i,t,rfl,a,b⟩:=hrel
  by_cases hlt:i < 8
  ·have s:decide ((i:Int) < 8) = true:=QK (by omega);go_wp2
   go_loopw [1,3] (fun v g wr=>∃ k:Nat,k <= 6 /\ g = .int .i64 k /\ EI wr w.heap.size v (Ay.take (6 * i + k)) /\ Bl w wr) (fun _ g _=>6 - (intOf g).toNat)
   case atStart=>exact ⟨0,QU _,rfl,a,b⟩
   case round =>
    clear a b;obtain ⟨k,z,rfl,a,b⟩:=hrel
    by_cases hkl:k < 6
    ·have HS:Hid (Ay.getD (6 * i + k) 0 = (4 * i + k + 31) % 32 + 1):=cg i k hlt hkl;have r:(Ay.take (6 * i + k)).length <= 48:=by rw [QI,Dz];omega
     have q:=b.size;go_wp2_with (at_builtin;refine Qi _ rfl _ _ 42 rfl w.heap.size 3 p (.int .i64 0) 1 8 underlying42 j l n m rfl (by decide) _ _ _ rfl (a.alloc _) ⟨wr.heap.size,0,none⟩ 1 1 [.int .i64 ((4 * (i:Int) + (k:Int) + 31) % 32 + 1)] rfl rfl (qy _ _ _) (by intro u o;simp at o;subst o;rfl) (by unfold maxLen;omega) (by omega) (by simp;omega) ?_;intro A y d c f)
     have R:=P5 (x:=Ay.getD (6 * i + k) 0) a b d c (by unfold num;rw [HS.out];congr 1);rw [Od _ _ (by rw [Dz];omega),show 6 * i + k + 1 = 6 * i + (k + 1) from by omega] at R;clear d c a f b;go_wp2;go_roundw
     case rel=>first | exact ⟨k + 1,by omega,by go_num,R.1,R.2⟩ | ((repeat apply Exists.intro);exact ⟨⟨k + 1,by omega,by go_num,R.1,R.2⟩,rfl⟩)
     case measure=>simp [intOf];omega
    ·obtain rfl:k = 6:=by omega
     go_wp2;go_roundw
     case rel=>exact ⟨i + 1,by omega,by go_num,by rw [show 6 * (i + 1) = 6 * i + 6 from by omega];exact a,b⟩
     case measure=>simp [intOf];omega
  ·go_wp2;go_ret;obtain rfl:i = 8:=by omega
   rw [QS (by rw [Dz];omega)] at a;exact ⟨_,rfl,a,b⟩
def AE (a b:LU):LU:=List.zipWith (· ^^^ ·) a b
theorem AW (a b:LU) (h:a.length = b.length):(AE a b).length = a.length:=by simp [AE,h]
theorem Jp (a b:LU) (i:Nat) (c:i < a.length) (d:i < b.length):(AE a b)[i]'(by simp [AE];omega) = a[i] ^^^ b[i]:=by simp [AE]
theorem L9 (x y:UInt8):Value.int .u8 (bits BinOp.xor IntKind.u8 (x.toNat:Int) (y.toNat:Int)) = byte (x ^^^ y):=by
 unfold byte;rw [qK _ _ x.toNat_lt y.toNat_lt,Qs]
theorem H7 (E G:Option Addr) (F M:Nat) (a b:LU) (w:World) (hn:a.length <= 1048576) (r:a.length = b.length) (H:RowAt w E a) (z:RowAt w G b) :
 Calls prog 143 #[.slice E a.length F,.slice G b.length M] w fun e w' =>
  e = .returned (.slice (some ⟨w.heap.size,0,none⟩) a.length a.length) /\ AO w' w.heap.size (.slice (some ⟨w.heap.size,0,none⟩) a.length a.length) (AE a b) /\ Bl w w':=by
 obtain ⟨N,L,C,D,B⟩:=Qg Tryz.info5;have t:=AW a b r;have V:Hid (a.length = b.length):=r;have l:Hid ((AE a b).length = a.length):=t;have Y:a.length <= b.length:=by omega
 clear r t;go_enter func143,ntmps143;go_wp2_with (at_make;refine Qv _ rfl _ _ 22 rfl w.heap.size 5 N (.int .u8 0) 1 underlying22 L C D .i64 .i64 _ _ a.length rfl rfl rfl rfl (by rw [B];omega) (by unfold maxLen;omega) (QE _) ?_;intro T m g)
 have j:T.ownsRow w.heap.size 5 1 (.slice (some ⟨w.heap.size,0,none⟩) a.length a.length) a.length (EK (AE a b) 0):=by
  rw [KC,l.out,<- Cl];exact m
 have v:=Ac g;clear m g
 go_loopw [6,12] (fun _ i wr=>∃ k:Nat,k <= a.length /\ i = .int .i64 k /\ wr.ownsRow w.heap.size 5 1 (.slice (some ⟨w.heap.size,0,none⟩) a.length a.length) a.length (EK (AE a b) k) /\ Bl w wr) (fun _ i _=>a.length - (intOf i).toNat)
 case atStart=>exact ⟨0,QU _,rfl,j,v⟩
 case round =>
  obtain ⟨k,hk,rfl,c,f⟩:=hrel;clear j v
  by_cases hlt:k < a.length
  ·have d:k < b.length:=by omega
   obtain ⟨U,y,rfl,q⟩:=H.at hlt;obtain ⟨O,x,rfl,n⟩:=z.at d;have a0:wr.cell? ⟨U,y + k,none⟩ = some (.int .u8 (a[k].toNat:Int)):=(f.cell (RowAt.lt q hlt)).trans ((q k hlt).trans (by simp [hlt]));have Z:wr.cell? ⟨O,x + k,none⟩ = some (.int .u8 (b[k].toNat:Int)):=(f.cell (RowAt.lt n d)).trans ((n k d).trans (by simp [d]));have X:wr.frozen? ⟨w.heap.size,k,none⟩ = false:=c.frozenAt k;obtain ⟨u,hu⟩:=Ma c (by omega:k < a.length * 1);have s:=(c.stored k (byte (a[k] ^^^ b[k]))).1;have o:=L3 (AE a b) k (by rw [l.out];exact hlt);rw [Jp a b k hlt d] at o;rw [o] at s;have I:=f.setCell (p:=⟨w.heap.size,k,none⟩) (QE _) (byte (a[k] ^^^ b[k]));have W:(k:Int) < (a.length:Int):=by omega
   have a1:(k:Int) < (b.length:Int):=by omega
   have R:Hid (Value.int .u8 (bits BinOp.xor IntKind.u8 (a[k].toNat:Int) (b[k].toNat:Int)) = byte (a[k] ^^^ b[k])):=L9 _ _;have J:Hid ((wr.setCell ⟨w.heap.size,k,none⟩ (byte (a[k] ^^^ b[k]))).ownsRow w.heap.size 5 1 (.slice (some ⟨w.heap.size,0,none⟩) a.length a.length) a.length (EK (AE a b) (k + 1))):=s;clear c f q n o H z s;go_wp2;go_region;go_wp2;go_roundw
   case rel =>
    rw [R.out];exact ⟨k + 1,by omega,by go_num,J.out,I.drew⟩
   case measure=>simp [intOf];omega
  ·go_wp2;go_ret;have A:k = (AE a b).length:=by have:=l.out;omega
   subst A;rw [L6] at c;exact ⟨rfl,by unfold AO;have e:=l.out;rw [e];exact c,f⟩
theorem WL {w d:World} {b a:Nat} {bs:LU} (g:Bl w d) (l:b < w.heap.size) (k:∀ i,i < bs.length -> w.cell? ⟨b,a + i,none⟩ = some (.int .u8 ((bs.getD i 0).toNat:Int))) :
 ∀ j v,(bs.map byte)[j]? = some v -> d.cell? ((⟨b,a,none⟩:Addr).add j) = some v:=by
 intro j v f;have c:j < bs.length:=by simpa using (List.getElem?_eq_some_iff.1 f).1
 rw [Go.WideShapes.add_plain,g.cell (p:=⟨b,a + j,none⟩) l,k j c,<- f];simp [c,byte]
theorem C8 {w:World} {base e g n:Nat} {b:List Value} (h:w.ownsRow base e 1 (.slice (some ⟨g,0,none⟩) n n) n b):Blk w g e b:=by
 rcases h.2 with ⟨a,-⟩ | ⟨g',f,i,a,m,c,j,k,l,d⟩
 ·cases a
 ·simp only [Value.slice.injEq,Option.some.injEq,Addr.mk.injEq,and_true,true_and] at a;obtain ⟨rfl,rfl⟩:=a;unfold Blk;rw [c,<- d,QS (by simp;omega)]
theorem LC {w:World} {base g:Nat} {l:LU} (h:Blk w g 5 (l.map byte)) (b:base <= g) (a:l.length <= maxLen):AO w base (.slice (some ⟨g,0,none⟩) l.length l.length) l :=
 ⟨by simp,.inr ⟨g,l.length,(l.map byte).toArray,rfl,b,h,QE _,a,by simp,by rw [QS (by simp)]⟩⟩
theorem T9 (b a g:Nat) (bs:LU) (w:World) (y:bs.length <= 1048576) (t:0 < bs.length) (f:∀ i,i < bs.length -> w.cell? ⟨b,a + i,none⟩ = some (.int .u8 ((bs.getD i 0).toNat:Int))) :
 Calls prog 37 #[.slice (some ⟨b,a,none⟩) bs.length g] w fun e w' =>
  e = .returned (.slice (some ⟨w.heap.size,0,none⟩) bs.length bs.length) /\ AO w' w.heap.size (.slice (some ⟨w.heap.size,0,none⟩) bs.length bs.length) bs /\ Bl w w':=by
 obtain ⟨u,k,o,p,n⟩:=Qg Tryz.info5;have l:=RowAt.lt f t;have s:=fun i k=>(Hid.out (show Hid (w.cell? ⟨b,a + i,none⟩ = some (.int .u8 ((bs.getD i 0).toNat:Int))) from f i k));have r:Hid (∀ i,i < bs.length -> w.cell? ⟨b,a + i,none⟩ = some (.int .u8 ((bs.getD i 0).toNat:Int))):=f;clear s f;go_enter func37,ntmps37;go_wp2_with (first
  | (at_make;refine Qv _ rfl _ _ 22 rfl w.heap.size 5 u (.int .u8 0) 1 underlying22 k o p .i64 .i64 _ _ bs.length rfl rfl rfl rfl (by rw [n];omega) (by unfold maxLen;omega) (QE _) ?_;intro z d c)
  | (refine wpList_copy_own rfl _ _ 22 22 rfl 5 underlying22 (by kernel_rfl) w.heap.size 0 bs.length bs.length ⟨b,a,none⟩ bs.length g rfl rfl _ 5 (C8 d) (bs.map byte) (by simp) (WL (Ac c) l r.out) (by rw [Cl];simp) (by intro v m;simp only [Qz] at m;obtain ⟨x,-,rfl⟩:=m;rfl) ?_))
 go_ret;have q:=C8 d;have j:=Blk.setRow q (bs.map byte);have e:List.drop bs.length (madeCells #[Value.int IntKind.u8 0] bs.length).toList = []:=by
  rw [toList_madeCells_one];simp
 refine ⟨rfl,LC ?_ (QE _) (by unfold maxLen;omega),?_⟩
 ·rw [e,qM];exact j
 ·exact AN (Ac c) (QE _) _
theorem EF (d:Option Addr) (a:Nat) (bs:LU) (w:World) (g:bs.length <= 1048576) (f:0 < bs.length) (i:RowAt w d bs) :
 Calls prog 37 #[.slice d bs.length a] w fun e w' =>
  e = .returned (.slice (some ⟨w.heap.size,0,none⟩) bs.length bs.length) /\ AO w' w.heap.size (.slice (some ⟨w.heap.size,0,none⟩) bs.length bs.length) bs /\ Bl w w':=by
 obtain ⟨b,c,rfl,j⟩:=i.at f;exact T9 b c a bs w g f j
theorem Y4:∀ n:Nat,n < 256 -> 48 <= n -> n <= 57 -> (n - 48:Nat) = hexN n:=by decide +kernel
theorem Wm:∀ n:Nat,n < 256 -> 65 <= n -> (n - 55:Nat) = hexN n:=by decide +kernel
theorem YU (n:Nat) (w:World) (h:n < 256) (a:(48 <= n /\ n <= 57) \/ 65 <= n) :
 Calls prog 212 #[.int .u8 n] w fun e w'=>e = .returned (.int .u8 (hexN n:Nat)) /\ w' = w:=by
 rcases a with ⟨a,c⟩ | a
 ·have e:=Y4 n h a c;have b:Hid (n - 48 = hexN n):=e;clear e;go_enter func212,ntmps212;go_wp2;go_ret;exact ⟨CH (by rw [<- b.out];omega),rfl⟩
 ·have e:=Wm n h a;have b:Hid (n - 55 = hexN n):=e;clear e;go_enter func212,ntmps212;go_wp2;go_ret;exact ⟨CH (by rw [<- b.out];omega),rfl⟩
theorem ZV (k:Nat) (w:World) (a:k < 8):Calls prog 213 #[.int .i64 k] w fun e w'=>∃ L,e = .returned (.string L) /\ Hid (L.data.toList = (Ek.drop (64 * k)).take 64) /\ Bl w w':=by
 have:k = 0 \/ k = 1 \/ k = 2 \/ k = 3 \/ k = 4 \/ k = 5 \/ k = 6 \/ k = 7:=by omega
 rcases this with rfl | rfl | rfl | rfl | rfl | rfl | rfl | rfl
 all_goals
  go_enter func213,ntmps213;go_wp2;go_ret;exact ⟨_,rfl,by unfold Hid;kernel_rfl,(Below.refl _ _).alloc (QE _) _⟩
def AP (l:LU):Prop:=∀ b ∈ l,b.toNat <= 1
def AI (l:LU):Nat:=l.foldl (fun t b=>2 * t + b.toNat) 0
def nib (v:Nat):LU:=[UInt8.ofNat (v / 8 % 2),UInt8.ofNat (v / 4 % 2),UInt8.ofNat (v / 2 % 2),UInt8.ofNat (v % 2)]
theorem Jl (v:Nat):(nib v).length = 4:=rfl
def Jn (x:LU) (k:Nat):Nat:=Nl k (AI ((x.drop (6 * k)).take 6))
def CI (x:LU):Nat -> LU
 | 0=>[]
 | k + 1=>CI x k ++ nib (Jn x k)
theorem Gs (x:LU) (k:Nat):(CI x k).length = 4 * k:=by
 induction k with
 | zero=>rfl
 | succ k ih=>simp [CI,ih,Jl];omega
def Db (r key:LU):LU:=Ak (CI (AE (Ak r Ay) key) 8) (Dr pTab)
theorem six (x:LU) (k:Nat) (h:6 * k + 6 <= x.length):(x.drop (6 * k)).take 6 = [x.getD (6 * k) 0,x.getD (6 * k + 1) 0,x.getD (6 * k + 2) 0,x.getD (6 * k + 3) 0,x.getD (6 * k + 4) 0,x.getD (6 * k + 5) 0]:=by
 apply qL
 ·simp;omega
 ·intro i b a;simp only [Qn,qH] at a;have:i = 0 \/ i = 1 \/ i = 2 \/ i = 3 \/ i = 4 \/ i = 5:=by omega
  rcases this with rfl | rfl | rfl | rfl | rfl | rfl <;> simp [show 6 * k < x.length by omega,show 6 * k + 1 < x.length by omega,show 6 * k + 2 < x.length by omega,show 6 * k + 3 < x.length by omega,show 6 * k + 4 < x.length by omega,show 6 * k + 5 < x.length by omega]
theorem dX (a b c d e f:Nat) (_ha:a <= 1) (g:b <= 1) (k:c <= 1) (j:d <= 1) (l:e <= 1) (i:f <= 1) :
 (a * 2 + f) * 16 + (b * 8 + c * 4 + d * 2 + e) = 16 * ((2 * (2 * (2 * (2 * (2 * a + b) + c) + d) + e) + f) / 32 * 2 + (2 * (2 * (2 * (2 * (2 * a + b) + c) + d) + e) + f) % 2) + (2 * (2 * (2 * (2 * (2 * a + b) + c) + d) + e) + f) / 2 % 16:=by omega
theorem Lq:Ek.length = 512:=by kernel_rfl
theorem WZ:∀ i:Nat,i < 512 -> (48 <= (Ek.getD i 0).toNat /\ (Ek.getD i 0).toNat <= 57) \/ 65 <= (Ek.getD i 0).toNat:=by decide +kernel
theorem dZ (L:ByteArray) (k x:Nat) (l:x < L.size) (j:L.data.toList = (Ek.drop (64 * k)).take 64) (n:k < 8) (b:x < 64) (w:World) :
 Calls prog 212 #[.int .u8 (L[x].toNat:Int)] w fun e w'=>∃ d:Nat,e = .returned (.int .u8 d) /\ d < 16 /\ Hid (d = hexN (Ek.getD (64 * k + x) 0).toNat) /\ w' = w:=by
 have h:=MN (64 * k + x) (by omega);have f:=WZ (64 * k + x) (by omega);have i:L[x] = Ek.getD (64 * k + x) 0:=by
  have m:x < L.data.toList.length:=by simpa using l
  have g:L[x] = L.data.toList[x]:=rfl;rw [g];have c:L.data.toList[x]? = some (Ek.getD (64 * k + x) 0):=by
   rw [j,List.getElem?_take,if_pos b,List.getElem?_drop];have a:=Lq;rw [List.getElem?_eq_getElem (by rw [a];omega)];simp [a,show 64 * k + x < 512 by omega]
  rw [List.getElem?_eq_getElem m] at c;exact Option.some.inj c
 rw [i];refine (YU (Ek.getD (64 * k + x) 0).toNat w (QW _) f).mono ?_;rintro e w' ⟨rfl,rfl⟩;exact ⟨_,rfl,h,rfl,rfl⟩
theorem El {l:LU} {c:List Nat} (h:AP l):AP (Ak l c):=by
 intro b a;simp only [Ak,Qz] at a;obtain ⟨n,-,rfl⟩:=a
 by_cases hn:n - 1 < l.length
 ·rw [QA,List.getElem?_eq_getElem hn];exact h _ (Qd hn)
 ·rw [QA,List.getElem?_eq_none (by omega)];decide
theorem bP {a b:UInt8} (c:a.toNat <= 1) (d:b.toNat <= 1):(a ^^^ b).toNat <= 1:=by
 rw [Qs];have:=Qx (n:=1) (x:=a.toNat) (y:=b.toNat) (by omega) (by omega);omega
theorem MU {a b:LU} (f:AP a) (g:AP b):AP (AE a b):=by
 intro x d;obtain ⟨i,c,rfl⟩:=List.mem_iff_getElem.1 d;simp only [AE,List.getElem_zipWith];simp only [AE,List.length_zipWith] at c;exact bP (f _ (Qd (by omega))) (g _ (Qd (by omega)))
theorem WW {n wr:World} {G t:Nat} {X:LU} {k:Nat} (h:Blk n G t (X.map byte)) (s:X.length = 48) (o:AP X) (r:k < 8) (m:Bl n wr) :
 ∃ d l i g f c:Nat,wr.cell? ⟨G,6 * k,none⟩ = some (.int .u8 (d:Int)) /\ wr.cell? ⟨G,6 * k + 1,none⟩ = some (.int .u8 (l:Int)) /\ wr.cell? ⟨G,6 * k + 2,none⟩ = some (.int .u8 (i:Int)) /\ wr.cell? ⟨G,6 * k + 3,none⟩ = some (.int .u8 (g:Int)) /\ wr.cell? ⟨G,6 * k + 4,none⟩ = some (.int .u8 (f:Int)) /\ wr.cell? ⟨G,6 * k + 5,none⟩ = some (.int .u8 (c:Int)) /\
  Hid (AI ((X.drop (6 * k)).take 6) = 2 * (2 * (2 * (2 * (2 * d + l) + i) + g) + f) + c) /\ d <= 1 /\ l <= 1 /\ i <= 1 /\ g <= 1 /\ f <= 1 /\ c <= 1:=by
 have b:∀ j,j < 48 -> wr.cell? ⟨G,j,none⟩ = some (.int .u8 ((X.getD j 0).toNat:Int)):=by
  intro j q;rw [m.cell (p:=⟨G,j,none⟩) h.lt,h.cell j (by simp;omega)];simp [byte,show j < X.length by omega]
 have a:∀ j,j < 48 -> (X.getD j 0).toNat <= 1:=by
  intro j q;rw [QA,List.getElem?_eq_getElem (by omega)];exact o _ (Qd (by omega))
 refine ⟨_,_,_,_,_,_,b (6 * k) (by omega),b (6 * k + 1) (by omega),b (6 * k + 2) (by omega),b (6 * k + 3) (by omega),b (6 * k + 4) (by omega),b (6 * k + 5) (by omega),?_,a _ (by omega),a _ (by omega),a _ (by omega),a _ (by omega),a _ (by omega),a _ (by omega)⟩;unfold Hid;rw [six X k (by omega)];simp [AI]
theorem ZA {L:ByteArray} {k:Nat} (h:L.data.toList = (Ek.drop (64 * k)).take 64) (a:k < 8):L.size = 64:=by
 have e:L.size = L.data.toList.length:=by simp
 rw [e,h,QI,QN,Lq];omega
theorem AO.below {w w':World} {base:Nat} {v:Value} {l:LU} (h:AO w base v l) (a:Bl w w'):AO w' base v l :=
 World.ownsRow.kept h (grown_of_below a none) (by cases b:v.ownBlock <;> simp)
theorem AO.mono {w:World} {B base:Nat} {v:Value} {l:LU} (h:AO w base v l) (f:B <= base):AO w B v l:=by
 refine ⟨h.1,?_⟩;rcases h.2 with h | ⟨g,a,b,c,d,r⟩
 ·exact .inl h
 ·exact .inr ⟨g,a,b,c,by omega,r⟩
theorem O5 (w:World) (a b c d:Value) (t:TypeId):∀ j u,[a,b,c,d][j]? = some u -> (w.alloc (.cells #[a,b,c,d] t)).cell? ((⟨w.heap.size,0,none⟩:Addr).add j) = some u:=by
 intro j u f;rw [Go.WideShapes.add_plain,QZ,cell_of_row _ _ j _ t (0,0) (heap_alloc_new w _)];rw [<- f];simp
theorem aP:∀ d:Nat,d < 16 -> bits BinOp.and IntKind.u8 ((d:Int) / 8) 1 = ((d / 8 % 2:Nat):Int) /\ bits BinOp.and IntKind.u8 ((d:Int) / 4) 1 = ((d / 4 % 2:Nat):Int) /\ bits BinOp.and IntKind.u8 ((d:Int) / 2) 1 = ((d / 2 % 2:Nat):Int) /\ bits BinOp.and IntKind.u8 (d:Int) 1 = ((d % 2:Nat):Int):=by decide +kernel
theorem Hi (n:Nat) (h:n < 2):Value.int .u8 (n:Int) = byte (UInt8.ofNat n):=by
 unfold byte;rw [Qb]
 congr 1
 omega
theorem Yq (d:Nat) (h:d < 16):[Value.int .u8 (bits BinOp.and IntKind.u8 ((d:Int) / 8) 1),.int .u8 (bits BinOp.and IntKind.u8 ((d:Int) / 4) 1),.int .u8 (bits BinOp.and IntKind.u8 ((d:Int) / 2) 1),.int .u8 (bits BinOp.and IntKind.u8 (d:Int) 1)] = (nib d).map byte:=by
 obtain ⟨f,c,b,a⟩:=aP d h;rw [f,c,b,a,Hi _ (by omega),Hi _ (by omega),Hi _ (by omega),Hi _ (by omega)]
 rfl
theorem VO (ao ko:Option Addr) (ca ck:Nat) (r key:LU) (w:World) (B:r.length = 32) (y:key.length = 48) (a2:AP r) (a8:AP key) (hr:RowAt w ao r) (hk:RowAt w ko key) :
 Calls prog 181 #[.slice ao r.length ca,.slice ko key.length ck] w fun e w'=>∃ v,e = .returned v /\ AO w' w.heap.size v (Db r key) /\ Bl w w':=by
 have a7:(Ak r Ay).length = 48:=by simp [Ak,Dz]
 have a5:(Ak r Ay).length = key.length:=by rw [a7,y]
 have q:Hid ((Ak r Ay).length = key.length):=a5;have x:Hid (key.length = 48):=y;have b5:Hid (r.length = 32):=B;have N:∀ n ∈ Ay,1 <= n /\ n <= r.length:=by
  intro n hn;simp only [Ay,Qz,qp] at hn;obtain ⟨j,hj,rfl⟩:=hn;omega
 have a3:r.length <= 1048576:=by omega
 clear a7 a5 y B;go_enter func181,ntmps181;go_wp2_with fail;refine (d9 _).mono ?_;rintro e w1 ⟨v1,rfl,F,b⟩;obtain ⟨ae,ce,rfl,M⟩:=F.shape;go_wp2_with fail;refine (IO _ _ _ _ r Ay _ a3 (by rw [Dz];omega) N (hr.below b) M).mono ?_;rintro e w2 ⟨v2,rfl,O,o⟩;obtain ⟨ap,cp,rfl,A,-⟩:=O.own.shape;go_wp2_with fail;refine (H7 _ _ _ _ (Ak r Ay) key _ (by have:=q.out;have:=x.out;omega) q.out A ((hk.below b).below o)).mono ?_;rintro e i ⟨rfl,T,H⟩;go_wp2_with fail;have m:(Ak r Ay).length = 48:=by have:=q.out;have:=x.out;omega
 have D:(AE (Ak r Ay) key).length = 48:=by rw [AW _ _ q.out];exact m
 have a6:AP (AE (Ak r Ay) key):=MU (El a2) a8;have I:Blk i w2.heap.size 5 ((AE (Ak r Ay) key).map byte):=by
  have h:=T;unfold AO at h;rw [D] at h;rw [m] at h;exact C8 h
 rw [m];obtain ⟨X,hX⟩:=uX (AE (Ak r Ay) key);rw [<- hX] at D a6 I;have HX:Hid (X = AE (Ak r Ay) key):=hX;obtain ⟨G,hG⟩:=uX (w2.heap.size);rw [<- hG] at I ⊢;have bel3':Bl w i:=(b.trans (o.mono b.size)).trans (H.mono (QG b.size o.size));clear F O T b o H M A hr hk N hX hG a2 a8 m q x b5 a3;obtain ⟨i0,c8,d0,b9,b8⟩:=Qg Tryz.info5
 go_loopw [6,7,8,9,10,11] (fun v kk _ _ _ _ wr=>∃ k:Nat,k <= 8 /\ kk = .int .i64 k /\ AO wr i.heap.size v (CI X k) /\ Bl i wr) (fun _ kk _ _ _ _ _=>8 - (intOf kk).toNat)
 case atStart=>exact ⟨0,QU _,rfl,Qa _ _ _ _,Below.refl _ _⟩
 case round =>
  obtain ⟨k,e1,rfl,s,f⟩:=hrel
  by_cases hlt:k < 8
  ·obtain ⟨y0,Y,y2,V,Z,W,c0,c1,c2,c3,c4,c5,HY,d4,c9,c6,d3,c7,d2⟩:=WW I D a6 hlt f;have e2:(k:Int) < 8:=by omega
   go_wp2;go_quiet (fail);go_wp2;go_quiet (fail);go_wp2_with fail;refine (ZV k _ hlt).mono ?_;rintro e w4 ⟨L,rfl,HL,a⟩;have d6:L.size = 64:=ZA HL.out hlt;obtain ⟨z,d1,a0,a1⟩:∃ z:Nat,(((y0:Int) * 2 + (W:Int)) * 16 + ((Y:Int) * 8 + (y2:Int) * 4 + (V:Int) * 2 + (Z:Int))) = (z:Int) /\ z < 64 /\ Hid (z = (y0 * 2 + W) * 16 + (Y * 8 + y2 * 4 + V * 2 + Z)):=⟨(y0 * 2 + W) * 16 + (Y * 8 + y2 * 4 + V * 2 + Z),by omega,by omega,rfl⟩;have d5:(z:Int) < 64:=by omega
   go_wp2_with fail;refine (dZ L k z _ HL.out hlt a0 _).mono ?_;rintro e J ⟨d,rfl,b6,Hd,rfl⟩;have g:Bl wr J:=⟨a.os,a.tape,a.output,a.size,a.block⟩;have c:AO J i.heap.size u6 (CI X k):=s.below g;have t:Bl i J:=f.trans (g.mono f.size);have e0:(CI X k).length <= 32:=by rw [Gs];omega
   have b7:=t.size;clear a g s f c0 c1 c2 c3 c4 c5 d1 bel3';go_wp2_with (at_builtin;refine Qi _ rfl _ _ 22 rfl i.heap.size 5 i0 (.int .u8 0) 1 1 underlying22 c8 d0 b9 b8 rfl (by decide) _ _ _ rfl (c.alloc _) ⟨J.heap.size,0,none⟩ 4 4 [.int .u8 (bits BinOp.and IntKind.u8 ((d:Int) / 8) 1),.int .u8 (bits BinOp.and IntKind.u8 ((d:Int) / 4) 1),.int .u8 (bits BinOp.and IntKind.u8 ((d:Int) / 2) 1),.int .u8 (bits BinOp.and IntKind.u8 (d:Int) 1)] rfl rfl (O5 _ _ _ _ _ _) (by intro u hu;simp at hu;rcases hu with rfl | rfl | rfl | rfl <;> rfl) (by unfold maxLen;omega) (by omega) (by simp;omega) ?_;intro v1 w6 l p U)
   have R:AO w6 i.heap.size v1 (CI X (k + 1)) /\ Bl i w6:=by
    refine ⟨?_,(t.alloc b7 _).grown p (by simp;omega) (fun j hj=>(c.lt j hj).1)⟩;have hd:d = Jn X k:=by
     rw [Hd.out];unfold Jn Nl;rw [HY.out,a1.out,dX y0 Y y2 V Z W d4 c9 c6 d3 c7 d2,<- Nat.add_assoc]
    rw [Yq d b6] at l;unfold AO;show w6.ownsRow i.heap.size 5 1 v1 (CI X k ++ nib (Jn X k)).length ((CI X k ++ nib (Jn X k)).map byte);rw [<- hd,Qf,QC,Jl];exact l
   clear l p U c t Hd a1 HL HY;go_wp2;go_roundw
   case rel=>exact ⟨k + 1,by omega,by go_num,R.1,R.2⟩
   case measure=>simp [intOf];omega
  ·obtain rfl:k = 8:=by omega
   obtain ⟨ax,cx,rfl,b4,-⟩:=s.own.shape;have E:(CI X 8).length = 32:=Gs X 8;have C:Hid ((CI X 8).length = 32):=E;clear E;go_wp2_with fail;refine (dm _).mono ?_;rintro e w4 ⟨v4,rfl,b0,a⟩;obtain ⟨a4,c4,rfl,a9⟩:=b0.shape;go_wp2_with fail;refine (IO _ _ _ _ (CI X 8) (Dr pTab) _ (by have:=C.out;omega) (by decide) (by rw [C.out];decide) (b4.below a) a9).mono ?_;rintro e J ⟨v5,rfl,c,g⟩;go_wp2;go_ret;have b1:=bel3'.trans (f.mono bel3'.size);have b2:=b1.trans (a.mono b1.size);have b3:=b2.trans (g.mono b2.size);refine ⟨_,rfl,?_,b3⟩;have:Db r key = Ak (CI X 8) (Dr pTab):=by unfold Db;rw [<- HX.out]
   rw [this];exact c.mono b2.size
end Go.Proofs.YtbkokcjolanpeaaGreatDoor
