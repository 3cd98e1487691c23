import Derived.Test.YtbkokcjolanpeaaGreatDoorMkK
import Derived.Test.YtbkokcjolanpeaaGreatDoorMkL
import Derived.Test.YtbkokcjolanpeaaGreatDoorMkM
set_option maxRecDepth 100000
set_option maxHeartbeats 20000000
namespace Go.Proofs.YtbkokcjolanpeaaGreatDoor
open Go.RowKit Go.Proofs.Tryz Act
theorem XZ (a:List LU) (d:∀ b ∈ a,b.length = 16):∀ i,i < a.length * 16 -> a.flatten[i]? = some ((a.getD (i / 16) []).getD (i % 16) 0):=by
 induction a with
 | nil=>intro i f;simp at f
 | cons b l ih =>
   intro i f;have g:b.length = 16:=d b (by simp);rw [List.flatten_cons]
   by_cases h:i < 16
   ·rw [List.getElem?_append_left (by omega),show i / 16 = 0 from by omega,show i % 16 = i from by omega];have:i < b.length:=by omega
    simp [this]
   ·rw [List.getElem?_append_right (by omega),g,ih (fun c j=>d c (by simp [j])) (i - 16) (by simp at f;omega)];rw [show i / 16 = (i - 16) / 16 + 1 from by omega,show (i - 16) % 16 = i % 16 from by omega]
    rfl
theorem RP (a:List LU) (d:∀ b ∈ a,b.length = 16):a.flatten.length = a.length * 16:=by
 induction a with
 | nil=>rfl
 | cons b l ih=>rw [List.flatten_cons,QC,ih (fun c f=>d c (by simp [f])),d b (by simp),Qn];omega
theorem Nq (X:LU) (j:Nat) (h:j < X.length):(X.map byte)[j]? = some (byte (X.getD j 0)):=by simp [h]
theorem LB (a:List LU) (c:∀ b ∈ a,b.length = 16) (i:Nat) (d:i < a.length * 16):(a.flatten.map byte)[i]? = some (byte ((a.getD (i / 16) []).getD (i % 16) 0)):=by
 rw [List.getElem?_map,XZ a c i d];rfl
structure Ec (w:World) (base g cap:Nat) (cur:List Value) (bl:List LU):Prop where
 low:base <= g
 blk:Blk w g 88 cur
 len:bl.length <= cap
 max:cap <= maxLen
 size:cur.length = cap * 16
 row:cur.take (bl.length * 16) = bl.flatten.map byte
theorem OwnKQ.split {w:World} {base:Nat} {v:Value} {c:List LU} (h:OwnKQ w base v c) (n:0 < c.length):∃ g a b,v = .slice (some ⟨g,0,none⟩) c.length a /\ Ec w base g a b c:=by
 rcases h.2 with ⟨-,d⟩ | ⟨g,a,b,m,k,f,d,i,j,l⟩
 ·omega
 ·exact ⟨g,a,b.toList,m,k,f,d,i,by simpa using j,l⟩
theorem Ec.own {w:World} {base g c:Nat} {d:List Value} {a:List LU} (h:Ec w base g c d a) (f:∀ b ∈ a,b.length = 16):OwnKQ w base (.slice (some ⟨g,0,none⟩) a.length c) a :=
 ⟨by rw [QD,RP a f],.inr ⟨g,c,d.toArray,rfl,h.low,h.blk,h.len,h.max,by simpa using h.size,h.row⟩⟩
theorem DU {c:List LU} (a:∀ b ∈ c,b.length = 16) (k:Nat) (Y:LU) (f:Y.length = 16):∀ b ∈ c.set k Y,b.length = 16:=by
 intro b d;rcases List.mem_or_eq_of_mem_set d with h | h
 ·exact a b h
 ·rw [h,f]
theorem Ec.range {w:World} {base g i:Nat} {c:List Value} {a:List LU} (h:Ec w base g i c a) (d:∀ b ∈ a,b.length = 16) (k:Nat) (m:k < a.length):w.rangeAt g (k * 16) ((a.getD k []).map byte):=by
 intro j v l;have o:(a.getD k []).length = 16:=by
  rw [show a.getD k [] = a[k] from by simp [m]];exact d _ (Qd _)
 have r:j < 16:=by have:=(List.getElem?_eq_some_iff.1 l).1;rw [QD,o] at this;exact this
 have p:=h.size;have q:=h.len;have f:k * 16 + j < a.length * 16:=by omega
 have e:c[k * 16 + j]? = some v:=by
  have n:(c.take (a.length * 16))[k * 16 + j]? = c[k * 16 + j]?:=List.getElem?_take_of_lt f;rw [<- n,h.row,LB a d _ f,<- l,show (k * 16 + j) / 16 = k from by omega,show (k * 16 + j) % 16 = j from by omega,Nq _ j (by omega)]
 rw [h.blk.cell (k * 16 + j) (by omega),<- List.getElem?_eq_getElem,e]
theorem Ec.put {w w':World} {base g l:Nat} {d c:List Value} {a:List LU} (h:Ec w base g l d a) (f:∀ b ∈ a,b.length = 16) (k:Nat) (q:k < a.length) (Y:LU) (n:Y.length = 16) (p:Blk w' g 88 c) (u:c.length = d.length)
 (s:∀ i,c[i]? = if k * 16 <= i /\ i < k * 16 + 16 then (Y.map byte)[i - k * 16]? else d[i]?):Ec w' base g l c (a.set k Y):=by
 refine ⟨h.low,p,by rw [QQ];exact h.len,h.max,by rw [u];exact h.size,?_⟩;rw [QQ];apply qA;intro i;have j:=RP (a.set k Y) (DU f k Y n);rw [QQ] at j
 by_cases hi:i < a.length * 16
 ·rw [List.getElem?_take_of_lt hi,s,LB _ (DU f k Y n) i (by rw [QQ];exact hi)]
  by_cases hr:k * 16 <= i /\ i < k * 16 + 16
  ·rw [if_pos hr,show i / 16 = k from by omega,show i - k * 16 = i % 16 from by omega];have t:(a.set k Y).getD k [] = Y:=by rw [QA,List.getElem?_set_self q];rfl
   rw [t,Nq Y _ (by omega)]
  ·rw [if_neg hr];have r:(d.take (a.length * 16))[i]? = d[i]?:=List.getElem?_take_of_lt hi;rw [<- r,h.row,LB a f i hi];have m:¬ k = i / 16:=by omega
   have o:(a.set k Y).getD (i / 16) [] = a.getD (i / 16) []:=by
    rw [QA,QA,List.getElem?_set_ne m]
   rw [o]
 ·rw [List.getElem?_eq_none (by rw [QI];omega),List.getElem?_eq_none (by rw [QD,j];omega)]
theorem Ec.below {w w':World} {base g b:Nat} {a:List Value} {c:List LU} (h:Ec w base g b a c) (d:Bl w w'):Ec w' base g b a c:=⟨h.low,h.blk.below d h.blk.lt,h.len,h.max,h.size,h.row⟩
theorem Ec.whole {w w':World} {base g d:Nat} {a:List Value} {c:List LU} (h:Ec w base g d a c) (j:∀ b ∈ c,b.length = 16) (k:Nat) (m:k < c.length) (Y:LU) (f:Y.length = 16) (l:Blk w' g 88 (Iv a (k * 16) (Y.map byte))):Ec w' base g d (Iv a (k * 16) (Y.map byte)) (c.set k Y):=by
 have n:=h.size;have o:=h.len;refine h.put j k m Y f l (SA _ _ _) ?_;intro i;rw [PR _ _ _ _ (by rw [QD,f];omega),QD,f]
theorem Ec.one {w w':World} {base g f:Nat} {c:List Value} {a:List LU} (h:Ec w base g f c a) (d:∀ b ∈ a,b.length = 16) (k:Nat) (j:k < a.length) (r:Nat) (s:r < 16) (x:UInt8) (m:Blk w' g 88 (c.set (k * 16 + r) (byte x))):Ec w' base g f (c.set (k * 16 + r) (byte x)) (a.set k ((a.getD k []).set r x)):=by
 have p:=h.size;have q:=h.len;have o:(a.getD k []).length = 16:=by
  rw [show a.getD k [] = a[k] from by simp [j]];exact d _ (Qd _)
 refine h.put d k j _ (by rw [QQ,o]) m (by rw [QQ]) ?_;intro i
 by_cases hri:k * 16 <= i /\ i < k * 16 + 16
 ·rw [if_pos hri,qP]
  by_cases e:k * 16 + r = i
  ·subst e;rw [List.getElem?_set_self (by omega),show k * 16 + r - k * 16 = r from by omega,List.getElem?_set_self (by rw [QD];omega)]
  ·rw [List.getElem?_set_ne e,List.getElem?_set_ne (by omega)];have l:i < a.length * 16:=by omega
   have n:(c.take (a.length * 16))[i]? = c[i]?:=List.getElem?_take_of_lt l;rw [<- n,h.row,LB a d i l,show i / 16 = k from by omega,show i - k * 16 = i % 16 from by omega,Nq _ _ (by omega)]
 ·rw [if_neg hri,List.getElem?_set_ne (by omega)]
theorem Gn {w:World} {g t o n:Nat} {cs:List Value} (h:Blk w g t cs) (b:o + n <= cs.length):w.there g o n:=by
 intro j a;exact ⟨by rw [h.cell (o + j) (by omega)];rfl,h.free _⟩
def Jd (data:LU):LU:=(AM data).getD ((AM data).length - 1) []
def Cx (data a:LU):List LU :=
 if data.length % 16 = 0 /\ 0 < data.length then (AM data).set ((AM data).length - 1) (AE (Jd data) a)
 else (AM data).set ((AM data).length - 1) (AE ((Jd data).set (data.length % 16) 128) (Au a))
theorem Nv (data a:LU) (ao:Option Addr) (f9:Nat) (w:World) (hn:data.length <= 4096) (hc:data.length <= f9) (b2:a.length = 16) (hr:RowAt w ao data) :
 Calls prog 77 #[.slice ao data.length f9,.agg (a.map byte).toArray] w fun e w'=>∃ v,e = .returned v /\ OwnKQ w' w.heap.size v (Cx data a) /\ Bl w w':=by
 have f6:(a.map byte).length = 16:=by rw [QD,b2]
 have j:=EP data;have e0:=Cu data;have h4:=J3 data hn;have e9:=AK (fun (wx:World) (h:RowAt wx ao data)=>Xc data ao f9 wx hn hc h);have h6:=AK (fun (v:Value) (base:Nat) (wx:World) (hb:base <= wx.heap.size) (h:OwnKQ wx base v (chunksQ data (nBlocksQ data)))=>Tx v (chunksQ data (nBlocksQ data)) base wx (by rw [Cs];unfold nBlocksQ;omega) hb h);obtain ⟨N,hN⟩:=uX (data.length);have HN:=AK hN;rw [<- hN] at e9 ⊢;clear hN;go_enter func77,ntmps77;go_wp2_with fail;refine (e9.out _ (hr.below (At w _))).mono ?_;rintro e w1 ⟨v1,rfl,g6,b7⟩;go_wp2_with fail;refine (h6.out v1 _ w1 b7.size g6).mono ?_;rintro e V ⟨v2,rfl,c9,e6⟩;have c9:OwnKQ V (w.alloc (.cells (a.map byte).toArray 88)).heap.size v2 (AM data):=c9;have g7:=c9.mono (B:=w.heap.size + 1) (by simp);have I:Bl w V:=(AB (AB (At w _) b7) e6);have H:Blk V w.heap.size 88 (a.map byte):=((Blk.new w _ _).below b7 (by simp)).below e6 (by have:=b7.size;simp at this;omega);obtain ⟨g,a8,i6,rfl,i⟩:=g7.split e0;have HA:=AK (fun (h:N % 16 = 0 /\ 0 < N)=>show Cx data a = (AM data).set ((AM data).length - 1) (AE ((AM data).getD ((AM data).length - 1) []) a) from by unfold Cx;rw [<- HN.out,if_pos h];rfl);have b0:=AK (fun (h:¬ (N % 16 = 0 /\ 0 < N))=>show Cx data a = (AM data).set ((AM data).length - 1) (AE (((AM data).getD ((AM data).length - 1) []).set (N % 16) 128) (Au a)) from by unfold Cx;rw [<- HN.out,if_neg h];rfl);obtain ⟨bl,h3⟩:=uX (AM data);rw [<- h3] at j e0 h4 i HA b0 ⊢;obtain ⟨n,T⟩:∃ n,bl.length = n:=⟨_,rfl⟩;have g5:=i.len;rw [T] at e0 h4 HA b0 g5 ⊢;obtain ⟨m,j4,j3,j9,Hm⟩:∃ m:Nat,IntKind.i64.wrap ((n:Int) - 1) = (m:Int) /\ (m:Int) < (n:Int) /\ m < n /\ Hid (n - 1 = m):=⟨n - 1,by rw [QH];omega,by omega,by omega,rfl⟩;have W:m < bl.length:=by omega
 rw [Hm.out] at HA b0;obtain ⟨r,j7,h9,j6,Hr⟩:∃ r:Nat,Int.tmod (N:Int) 16 = (r:Int) /\ r < 16 /\ (r:Int) < 16 /\ Hid (r = N % 16):=⟨N % 16,by rw [Qk (by omega)];omega,by omega,by omega,rfl⟩;rw [<- Hr.out] at HA b0;have Z:N <= 4096:=by have:=HN.out;omega
 obtain ⟨X,hX⟩:∃ X,bl.getD m [] = X:=⟨_,rfl⟩;have z:X.length = 16:=by
  rw [<- hX,show bl.getD m [] = bl[m] from by simp [W]];exact j _ (Qd _)
 rw [hX] at HA b0;have j5:=i.low;clear g6 c9 g7 b7 e6 e9 h6 hr h3
 by_cases hA:r = 0 /\ 0 < N
 ·obtain ⟨rfl,i7⟩:=hA;have j0:(0:Int) < (N:Int):=by omega
  have HC:=AK (HA.out ⟨rfl,i7⟩);have R:(X.map byte).length = 16:=by rw [QD,z]
  have Z:=C6 X a z b2;have y:((AE X a).map byte).length = 16:=by rw [QD,Z]
  clear HA b0;have d:Hid (∀ {w'},Bl V w' -> w'.rangeAt w.heap.size 0 (a.map byte)):=fun h=>Ad (H.below h H.lt);go_upto_region 5 with fail
  refine QJ (S:=fun w'=>w'.rangeAt w.heap.size 0 (a.map byte)) (by kernel_rfl) (d.out (Below.refl _ _).drew) (fun b=>?_);refine tA 0 (.slice (some ⟨g,0,none⟩) n a8) b ?_;simp only [put,pS];refine tA 1 (.int .i64 m) b ?_;simp only [put,pS];refine tA 2 (.slice (some ⟨g,0,none⟩) n a8) b ?_;simp only [put,pS];refine tA 3 (.int .i64 m) b ?_;simp only [put,pS];refine tA 4 (.pointer (some ⟨g,m * 16,none⟩)) b ?_;simp only [put,pS];refine tB 6 (.agg (a.map byte).toArray) rfl (QY (by rfl) 88 _ rfl w.heap.size 0 rfl (a.map byte) _ (fun _ h=>h) underlying88 rfl (by rw [f6];kernel_rfl)) b ?_;simp only [put,pS];refine rdy1 5 (fun K c=>?_);rw [if_pos (by rfl)]
  try dsimp only [Act.put,List.getElem_toArray,List.getElem_cons_zero,List.getElem_cons_succ]
  try simp only [List.setIfInBounds_toArray,List.set_cons_succ,qw]
  have F:=(i.below (Below.refl V.heap.size V).drew).range j m W;rw [hX] at F;refine Dj (some 29) rfl 88 _ rfl g (m * 16) (by kernel_rfl) (X.map byte) _ F underlying88 rfl (by rw [R];kernel_rfl) ?_;refine c.out _ _ (d.out (Below.refl V.heap.size V).drew) (fun b=>?_);clear c K
  try dsimp only [put]
  refine rdy1 7 (fun K c=>?_);rw [if_pos (by rfl)]
  try dsimp only [Act.put,List.getElem_toArray,List.getElem_cons_zero,List.getElem_cons_succ]
  try simp only [List.setIfInBounds_toArray,List.set_cons_succ,qw]
  refine Bi (some 31) rfl 148 _ _ rfl 88 16 _ (X.map byte) (a.map byte) (by kernel_rfl) (by kernel_rfl) underlying148 Tryz.z16 R f6 (by omega) (by omega) ?_
  try dsimp only [put]
  obtain ⟨a9,c5⟩:=uX (World.alloc V.drew (.cells (X.map byte ++ a.map byte).toArray 88));have o:Below V.drew.heap.size V.drew a9:=by rw [c5];exact At _ _
  have b1:Blk a9 V.drew.heap.size 88 (X.map byte ++ a.map byte):=by rw [c5];exact Blk.new _ _ _
  have i5:=(Below.refl V.heap.size V).drew.size;have i4:=b1.lt;have U:=H.drew1.below o H.drew1.lt;have a0:=AB (Below.refl V.heap.size V).drew o;have a2:=(i.below (Below.refl V.heap.size V).drew).below o;rw [<- c5];clear c5;refine c.out _ _ (d.out a0) (fun b=>?_);clear c K
  try dsimp only [put]
  refine rdy1 8 (fun K c=>?_);go_simp;refine (Bt X a _ _ _ _ z b2 b1).mono ?_;rintro e f3 ⟨rfl,l⟩;have a1:=U.below l U.lt;have x:=b1.below l b1.lt;have a5:=AB a0 l;have D:=a2.below l;go_wp2_with fail;refine c.out _ _ (d.out a5) (fun b=>?_);clear c K
  try dsimp only [put]
  refine tA 9 (.pointer (some ⟨g,m * 16,none⟩)) b ?_;simp only [put,pS];refine rdy1 10 (fun K c=>?_);rw [if_pos (by rfl)];refine wp_store_mid 88 _ _ rfl g (m * 16) ((AE X a).map byte).toArray (by kernel_rfl) (by kernel_rfl) (Gn D.blk (by have:=D.size;have:=D.len;rw [Qo,y];omega)) (by rw [Qo,y];kernel_rfl) (AF _) ?_;obtain ⟨i2,g8,j1⟩:=Dw ((AE X a).map byte) _ (m * 16) D.blk;have h7:=D.whole j m W (AE X a) (by rw [<- QD (f:=byte),y]) i2;have i0:Bl w _:=(I.trans (a5.mono I.size)).grown g8 (by have:=I.size;have:=a5.size;omega) (by intro k hk;cases hk;omega)
  have h8:=(a1).grown g8 (by simp;omega);refine c.out _ _ (Ad h8) (fun b=>?_);clear c K
  try dsimp only [put]
  refine QM (by kernel_rfl) ?_ _;go_wp2_with fail;go_ret;refine ⟨_,rfl,?_,i0⟩;have q:=h7.own (DU j m _ Z);rw [QQ,T] at q;rw [HC.out];exact q.mono (by omega)
 ·have HC:=AK (b0.out hA);have f7:¬ ((r:Int) = 0 /\ (0:Int) < (N:Int)):=by omega
  have g9:m * 16 + r < i6.length:=by have:=i.size;omega
  have h5:=i.blk.free (m * 16 + r);obtain ⟨u,hu⟩:∃ u,V.cell? ⟨g,m * 16 + r,none⟩ = some u:=⟨_,i.blk.cell (m * 16 + r) g9⟩;have G:=i.one (w':=V.setCell ⟨g,m * 16 + r,none⟩ (.int .u8 128)) j m W r h9 128 (i.blk.set (m * 16 + r) (byte 128));rw [hX] at G;have c0:=H.other ⟨g,m * 16 + r,none⟩ (.int .u8 128) (by simp;omega);have c1:=I.setCell (p:=⟨g,m * 16 + r,none⟩) (by show w.heap.size <= g;omega) (.int .u8 128);have b6:=DU j m (X.set r 128) (by rw [QQ,z]);have d3:(X.set r 128).length = 16:=by rw [QQ,z]
  obtain ⟨Y,hY⟩:=uX (X.set r 128);obtain ⟨d2,d4⟩:=uX (bl.set m (X.set r 128));have c3:d2.length = n:=by rw [d4,QQ,T]
  have f5:d2.getD m [] = Y:=by rw [d4,QA,List.getElem?_set_self W,hY];rfl
  have f4:Hid (Cx data a = d2.set m (AE Y (Au a))):=AK (by rw [HC.out,d4,List.set_set,hY]);rw [<- d4] at G b6;rw [<- hY] at d3;clear HC HA b0 d4 hY
  by_cases hr0:r = 0
  ·have g0:((r:Int) == 0) = true:=by rw [hr0];rfl
   have j2:decide ((r:Int) = 0) = true:=by rw [hr0];rfl
   have j8:¬ ((0:Int) < (N:Int)):=by omega
   clear hr0 hA f7;go_upto_region 8 with fail
   obtain ⟨V2,d6⟩:=uX (V.setCell ⟨g,m * 16 + r,none⟩ (.int .u8 128));rw [<- d6] at G c0 c1 ⊢;clear d6 i H I hu h5 hX W z j T g5 g9 g0;obtain ⟨V,rfl⟩:=uX (V2);obtain ⟨X,rfl⟩:=uX (Y);obtain ⟨bl,rfl⟩:=uX (d2);have i:=G;have H:=c0;have I:=c1;have j:=b6;have hX:=f5;have z:=d3;have T:=c3;have W:m < bl.length:=by omega
   have HC:=f4;have R:(X.map byte).length = 16:=by rw [QD,z]
   have d0:((Au a).map byte).length = 16:=by rw [QD,BN]
   have Z:=C6 X (Au a) z (BN _);have y:((AE X (Au a)).map byte).length = 16:=by rw [QD,Z]
   clear G c0 c1 b6 f5 d3 c3 f4;have d:Hid (∀ {w'},Bl V w' -> w'.rangeAt w.heap.size 0 (a.map byte)):=fun h=>Ad (H.below h H.lt);refine QJ (S:=fun w'=>w'.rangeAt w.heap.size 0 (a.map byte)) (by kernel_rfl) (d.out (Below.refl _ _).drew) (fun b=>?_);refine tA 0 (.slice (some ⟨g,0,none⟩) n a8) b ?_;simp only [put,pS];refine tA 1 (.int .i64 m) b ?_;simp only [put,pS];refine tA 2 (.slice (some ⟨g,0,none⟩) n a8) b ?_;simp only [put,pS];refine tA 3 (.int .i64 m) b ?_;simp only [put,pS];refine tA 4 (.pointer (some ⟨g,m * 16,none⟩)) b ?_;simp only [put,pS];refine tB 6 (.agg (a.map byte).toArray) rfl (QY (by rfl) 88 _ rfl w.heap.size 0 rfl (a.map byte) _ (fun _ h=>h) underlying88 rfl (by rw [f6];kernel_rfl)) b ?_;simp only [put,pS];refine Qr (rs:=[5,7]) (by kernel_rfl) (by simp) ?_;refine AllReadyH.cons rfl (fun K c=>?_) (AllReadyH.cons rfl (fun K c=>?_) (AllReadyH.nil))
   ·rw [if_pos (by rfl)]
    try dsimp only [Act.put,List.getElem_toArray,List.getElem_cons_zero,List.getElem_cons_succ]
    try simp only [List.setIfInBounds_toArray,List.set_cons_succ,qw]
    have F:=(i.below (Below.refl V.heap.size V).drew).range j m W;rw [hX] at F;refine Dj (some 45) rfl 88 _ rfl g (m * 16) (by kernel_rfl) (X.map byte) _ F underlying88 rfl (by rw [R];kernel_rfl) ?_;refine c.out _ _ (d.out (Below.refl V.heap.size V).drew) (fun b=>?_);clear c K
    try dsimp only [put]
    refine rdy1 7 (fun K c=>?_);go_simp;refine (FH a _ b2).mono ?_;rintro e a9 ⟨rfl,o⟩;have U:=H.drew1.below o H.drew1.lt;have a0:=AB (Below.refl V.heap.size V).drew o;have a2:=(i.below (Below.refl V.heap.size V).drew).below o;go_wp2_with fail;refine c.out _ _ (d.out a0) (fun b=>?_);clear c K
    try dsimp only [put]
    refine rdy1 8 (fun K c=>?_);rw [if_pos (by rfl)]
    try dsimp only [Act.put,List.getElem_toArray,List.getElem_cons_zero,List.getElem_cons_succ]
    try simp only [List.setIfInBounds_toArray,List.set_cons_succ,qw]
    refine Bi (some 48) rfl 148 _ _ rfl 88 16 _ (X.map byte) ((Au a).map byte) (by kernel_rfl) (by kernel_rfl) underlying148 Tryz.z16 R d0 (by omega) (by omega) ?_
    try dsimp only [put]
    obtain ⟨f3,L⟩:=uX (World.alloc a9 (.cells (X.map byte ++ (Au a).map byte).toArray 88));have l:=uB L;have x:Blk f3 a9.heap.size 88 (X.map byte ++ (Au a).map byte):=by rw [L];exact Blk.new _ _ _
    have e5:=a0.size;have e3:=x.lt;have a1:=U.below l U.lt;have a5:=AB a0 l;have D:=a2.below l;rw [<- L];clear L;refine c.out _ _ (d.out a5) (fun b=>?_);clear c K
    try dsimp only [put]
    refine rdy1 9 (fun K c=>?_);go_simp;refine (Bt X (Au a) _ _ _ _ z (BN _) x).mono ?_;rintro e i8 ⟨rfl,E⟩;have e1:=a1.below E a1.lt;have h2:=x.below E x.lt;have b9:=AB a5 E;have s:=D.below E;go_wp2_with fail;refine c.out _ _ (d.out b9) (fun b=>?_);clear c K
    try dsimp only [put]
    refine tA 10 (.pointer (some ⟨g,m * 16,none⟩)) b ?_;simp only [put,pS];refine rdy1 11 (fun K c=>?_);rw [if_pos (by rfl)];refine wp_store_mid 88 _ _ rfl g (m * 16) ((AE X (Au a)).map byte).toArray (by kernel_rfl) (by kernel_rfl) (Gn s.blk (by have:=s.size;have:=s.len;rw [Qo,y];omega)) (by rw [Qo,y];kernel_rfl) (AF _) ?_;obtain ⟨f1,b5,i1⟩:=Dw ((AE X (Au a)).map byte) _ (m * 16) s.blk;have f0:=s.whole j m W (AE X (Au a)) (by rw [<- QD (f:=byte),y]) f1;have e7:Bl w _:=(I.trans (b9.mono I.size)).grown b5 (by have:=I.size;have:=b9.size;omega) (by intro k hk;cases hk;omega)
    have e2:=(e1).grown b5 (by simp;omega);refine c.out _ _ (Ad e2) (fun b=>?_);clear c K
    try dsimp only [put]
    refine QM (by kernel_rfl) ?_ _;go_wp2_with fail;go_ret;refine ⟨_,rfl,?_,e7⟩;have q:=f0.own (DU j m _ Z);rw [QQ,T] at q;rw [HC.out];exact q.mono (by omega)
   ·go_simp;refine (FH a _ b2).mono ?_;rintro e d5 ⟨rfl,M⟩;have b3:=H.drew1.below M H.drew1.lt;have a4:=AB (Below.refl V.heap.size V).drew M;have a7:=(i.below (Below.refl V.heap.size V).drew).below M;go_wp2_with fail;refine c.out _ _ (d.out a4) (fun b=>?_);clear c K
    try dsimp only [put]
    refine rdy1 5 (fun K c=>?_);rw [if_pos (by rfl)]
    try dsimp only [Act.put,List.getElem_toArray,List.getElem_cons_zero,List.getElem_cons_succ]
    try simp only [List.setIfInBounds_toArray,List.set_cons_succ,qw]
    have a6:=a7.range j m W;rw [hX] at a6;refine Dj (some 45) rfl 88 _ rfl g (m * 16) (by kernel_rfl) (X.map byte) _ a6 underlying88 rfl (by rw [R];kernel_rfl) ?_;refine c.out _ _ (d.out a4) (fun b=>?_);clear c K
    try dsimp only [put]
    refine rdy1 8 (fun K c=>?_);rw [if_pos (by rfl)]
    try dsimp only [Act.put,List.getElem_toArray,List.getElem_cons_zero,List.getElem_cons_succ]
    try simp only [List.setIfInBounds_toArray,List.set_cons_succ,qw]
    refine Bi (some 48) rfl 148 _ _ rfl 88 16 _ (X.map byte) ((Au a).map byte) (by kernel_rfl) (by kernel_rfl) underlying148 Tryz.z16 R d0 (by omega) (by omega) ?_
    try dsimp only [put]
    obtain ⟨f8,J⟩:=uX (World.alloc d5 (.cells (X.map byte ++ (Au a).map byte).toArray 88));have O:=uB J;have C:Blk f8 d5.heap.size 88 (X.map byte ++ (Au a).map byte):=by rw [J];exact Blk.new _ _ _
    have f2:=a4.size;have e8:=C.lt;have b4:=b3.below O b3.lt;have d1:=AB a4 O;have c2:=a7.below O;rw [<- J];clear J;refine c.out _ _ (d.out d1) (fun b=>?_);clear c K
    try dsimp only [put]
    refine rdy1 9 (fun K c=>?_);go_simp;refine (Bt X (Au a) _ _ _ _ z (BN _) C).mono ?_;rintro e i9 ⟨rfl,A⟩;have e4:=b4.below A b4.lt;have h1:=C.below A C.lt;have b8:=AB d1 A;have t:=c2.below A;go_wp2_with fail;refine c.out _ _ (d.out b8) (fun b=>?_);clear c K
    try dsimp only [put]
    refine tA 10 (.pointer (some ⟨g,m * 16,none⟩)) b ?_;simp only [put,pS];refine rdy1 11 (fun K c=>?_);rw [if_pos (by rfl)];refine wp_store_mid 88 _ _ rfl g (m * 16) ((AE X (Au a)).map byte).toArray (by kernel_rfl) (by kernel_rfl) (Gn t.blk (by have:=t.size;have:=t.len;rw [Qo,y];omega)) (by rw [Qo,y];kernel_rfl) (AF _) ?_;obtain ⟨c8,a3,h0⟩:=Dw ((AE X (Au a)).map byte) _ (m * 16) t.blk;have c6:=t.whole j m W (AE X (Au a)) (by rw [<- QD (f:=byte),y]) c8;have c7:Bl w _:=(I.trans (b8.mono I.size)).grown a3 (by have:=I.size;have:=b8.size;omega) (by intro k hk;cases hk;omega)
    have c4:=(e4).grown a3 (by simp;omega);refine c.out _ _ (Ad c4) (fun b=>?_);clear c K
    try dsimp only [put]
    refine QM (by kernel_rfl) ?_ _;go_wp2_with fail;go_ret;refine ⟨_,rfl,?_,c7⟩;have q:=c6.own (DU j m _ Z);rw [QQ,T] at q;rw [HC.out];exact q.mono (by omega)
  ·have i3:¬ ((r:Int) = 0):=by omega
   have g0:((r:Int) == 0) = false:=by simpa using i3
   clear hr0 hA f7;go_upto_region 8 with fail
   obtain ⟨V2,d6⟩:=uX (V.setCell ⟨g,m * 16 + r,none⟩ (.int .u8 128));rw [<- d6] at G c0 c1 ⊢;clear d6 i H I hu h5 hX W z j T g5 g9 g0;obtain ⟨V,rfl⟩:=uX (V2);obtain ⟨X,rfl⟩:=uX (Y);obtain ⟨bl,rfl⟩:=uX (d2);have i:=G;have H:=c0;have I:=c1;have j:=b6;have hX:=f5;have z:=d3;have T:=c3;have W:m < bl.length:=by omega
   have HC:=f4;have R:(X.map byte).length = 16:=by rw [QD,z]
   have d0:((Au a).map byte).length = 16:=by rw [QD,BN]
   have Z:=C6 X (Au a) z (BN _);have y:((AE X (Au a)).map byte).length = 16:=by rw [QD,Z]
   clear G c0 c1 b6 f5 d3 c3 f4;have d:Hid (∀ {w'},Bl V w' -> w'.rangeAt w.heap.size 0 (a.map byte)):=fun h=>Ad (H.below h H.lt);refine QJ (S:=fun w'=>w'.rangeAt w.heap.size 0 (a.map byte)) (by kernel_rfl) (d.out (Below.refl _ _).drew) (fun b=>?_);refine tA 0 (.slice (some ⟨g,0,none⟩) n a8) b ?_;simp only [put,pS];refine tA 1 (.int .i64 m) b ?_;simp only [put,pS];refine tA 2 (.slice (some ⟨g,0,none⟩) n a8) b ?_;simp only [put,pS];refine tA 3 (.int .i64 m) b ?_;simp only [put,pS];refine tA 4 (.pointer (some ⟨g,m * 16,none⟩)) b ?_;simp only [put,pS];refine tB 6 (.agg (a.map byte).toArray) rfl (QY (by rfl) 88 _ rfl w.heap.size 0 rfl (a.map byte) _ (fun _ h=>h) underlying88 rfl (by rw [f6];kernel_rfl)) b ?_;simp only [put,pS];refine Qr (rs:=[5,7]) (by kernel_rfl) (by simp) ?_;refine AllReadyH.cons rfl (fun K c=>?_) (AllReadyH.cons rfl (fun K c=>?_) (AllReadyH.nil))
   ·rw [if_pos (by rfl)]
    try dsimp only [Act.put,List.getElem_toArray,List.getElem_cons_zero,List.getElem_cons_succ]
    try simp only [List.setIfInBounds_toArray,List.set_cons_succ,qw]
    have F:=(i.below (Below.refl V.heap.size V).drew).range j m W;rw [hX] at F;refine Dj (some 45) rfl 88 _ rfl g (m * 16) (by kernel_rfl) (X.map byte) _ F underlying88 rfl (by rw [R];kernel_rfl) ?_;refine c.out _ _ (d.out (Below.refl V.heap.size V).drew) (fun b=>?_);clear c K
    try dsimp only [put]
    refine rdy1 7 (fun K c=>?_);go_simp;refine (FH a _ b2).mono ?_;rintro e a9 ⟨rfl,o⟩;have U:=H.drew1.below o H.drew1.lt;have a0:=AB (Below.refl V.heap.size V).drew o;have a2:=(i.below (Below.refl V.heap.size V).drew).below o;go_wp2_with fail;refine c.out _ _ (d.out a0) (fun b=>?_);clear c K
    try dsimp only [put]
    refine rdy1 8 (fun K c=>?_);rw [if_pos (by rfl)]
    try dsimp only [Act.put,List.getElem_toArray,List.getElem_cons_zero,List.getElem_cons_succ]
    try simp only [List.setIfInBounds_toArray,List.set_cons_succ,qw]
    refine Bi (some 48) rfl 148 _ _ rfl 88 16 _ (X.map byte) ((Au a).map byte) (by kernel_rfl) (by kernel_rfl) underlying148 Tryz.z16 R d0 (by omega) (by omega) ?_
    try dsimp only [put]
    obtain ⟨f3,L⟩:=uX (World.alloc a9 (.cells (X.map byte ++ (Au a).map byte).toArray 88));have l:=uB L;have x:Blk f3 a9.heap.size 88 (X.map byte ++ (Au a).map byte):=by rw [L];exact Blk.new _ _ _
    have e5:=a0.size;have e3:=x.lt;have a1:=U.below l U.lt;have a5:=AB a0 l;have D:=a2.below l;rw [<- L];clear L;refine c.out _ _ (d.out a5) (fun b=>?_);clear c K
    try dsimp only [put]
    refine rdy1 9 (fun K c=>?_);go_simp;refine (Bt X (Au a) _ _ _ _ z (BN _) x).mono ?_;rintro e i8 ⟨rfl,E⟩;have e1:=a1.below E a1.lt;have h2:=x.below E x.lt;have b9:=AB a5 E;have s:=D.below E;go_wp2_with fail;refine c.out _ _ (d.out b9) (fun b=>?_);clear c K
    try dsimp only [put]
    refine tA 10 (.pointer (some ⟨g,m * 16,none⟩)) b ?_;simp only [put,pS];refine rdy1 11 (fun K c=>?_);rw [if_pos (by rfl)];refine wp_store_mid 88 _ _ rfl g (m * 16) ((AE X (Au a)).map byte).toArray (by kernel_rfl) (by kernel_rfl) (Gn s.blk (by have:=s.size;have:=s.len;rw [Qo,y];omega)) (by rw [Qo,y];kernel_rfl) (AF _) ?_;obtain ⟨f1,b5,i1⟩:=Dw ((AE X (Au a)).map byte) _ (m * 16) s.blk;have f0:=s.whole j m W (AE X (Au a)) (by rw [<- QD (f:=byte),y]) f1;have e7:Bl w _:=(I.trans (b9.mono I.size)).grown b5 (by have:=I.size;have:=b9.size;omega) (by intro k hk;cases hk;omega)
    have e2:=(e1).grown b5 (by simp;omega);refine c.out _ _ (Ad e2) (fun b=>?_);clear c K
    try dsimp only [put]
    refine QM (by kernel_rfl) ?_ _;go_wp2_with fail;go_ret;refine ⟨_,rfl,?_,e7⟩;have q:=f0.own (DU j m _ Z);rw [QQ,T] at q;rw [HC.out];exact q.mono (by omega)
   ·go_simp;refine (FH a _ b2).mono ?_;rintro e d5 ⟨rfl,M⟩;have b3:=H.drew1.below M H.drew1.lt;have a4:=AB (Below.refl V.heap.size V).drew M;have a7:=(i.below (Below.refl V.heap.size V).drew).below M;go_wp2_with fail;refine c.out _ _ (d.out a4) (fun b=>?_);clear c K
    try dsimp only [put]
    refine rdy1 5 (fun K c=>?_);rw [if_pos (by rfl)]
    try dsimp only [Act.put,List.getElem_toArray,List.getElem_cons_zero,List.getElem_cons_succ]
    try simp only [List.setIfInBounds_toArray,List.set_cons_succ,qw]
    have a6:=a7.range j m W;rw [hX] at a6;refine Dj (some 45) rfl 88 _ rfl g (m * 16) (by kernel_rfl) (X.map byte) _ a6 underlying88 rfl (by rw [R];kernel_rfl) ?_;refine c.out _ _ (d.out a4) (fun b=>?_);clear c K
    try dsimp only [put]
    refine rdy1 8 (fun K c=>?_);rw [if_pos (by rfl)]
    try dsimp only [Act.put,List.getElem_toArray,List.getElem_cons_zero,List.getElem_cons_succ]
    try simp only [List.setIfInBounds_toArray,List.set_cons_succ,qw]
    refine Bi (some 48) rfl 148 _ _ rfl 88 16 _ (X.map byte) ((Au a).map byte) (by kernel_rfl) (by kernel_rfl) underlying148 Tryz.z16 R d0 (by omega) (by omega) ?_
    try dsimp only [put]
    obtain ⟨f8,J⟩:=uX (World.alloc d5 (.cells (X.map byte ++ (Au a).map byte).toArray 88));have O:=uB J;have C:Blk f8 d5.heap.size 88 (X.map byte ++ (Au a).map byte):=by rw [J];exact Blk.new _ _ _
    have f2:=a4.size;have e8:=C.lt;have b4:=b3.below O b3.lt;have d1:=AB a4 O;have c2:=a7.below O;rw [<- J];clear J;refine c.out _ _ (d.out d1) (fun b=>?_);clear c K
    try dsimp only [put]
    refine rdy1 9 (fun K c=>?_);go_simp;refine (Bt X (Au a) _ _ _ _ z (BN _) C).mono ?_;rintro e i9 ⟨rfl,A⟩;have e4:=b4.below A b4.lt;have h1:=C.below A C.lt;have b8:=AB d1 A;have t:=c2.below A;go_wp2_with fail;refine c.out _ _ (d.out b8) (fun b=>?_);clear c K
    try dsimp only [put]
    refine tA 10 (.pointer (some ⟨g,m * 16,none⟩)) b ?_;simp only [put,pS];refine rdy1 11 (fun K c=>?_);rw [if_pos (by rfl)];refine wp_store_mid 88 _ _ rfl g (m * 16) ((AE X (Au a)).map byte).toArray (by kernel_rfl) (by kernel_rfl) (Gn t.blk (by have:=t.size;have:=t.len;rw [Qo,y];omega)) (by rw [Qo,y];kernel_rfl) (AF _) ?_;obtain ⟨c8,a3,h0⟩:=Dw ((AE X (Au a)).map byte) _ (m * 16) t.blk;have c6:=t.whole j m W (AE X (Au a)) (by rw [<- QD (f:=byte),y]) c8;have c7:Bl w _:=(I.trans (b8.mono I.size)).grown a3 (by have:=I.size;have:=b8.size;omega) (by intro k hk;cases hk;omega)
    have c4:=(e4).grown a3 (by simp;omega);refine c.out _ _ (Ad c4) (fun b=>?_);clear c K
    try dsimp only [put]
    refine QM (by kernel_rfl) ?_ _;go_wp2_with fail;go_ret;refine ⟨_,rfl,?_,c7⟩;have q:=c6.own (DU j m _ Z);rw [QQ,T] at q;rw [HC.out];exact q.mono (by omega)
def ND (key:LU):LU:=Au (CW (AQ key) (AJ 16))
def Bf (key data:LU):LU:=FA (CW (AQ key)) (AJ 16) (Cx data (ND key)) (Cx data (ND key)).length
theorem Ex:(AJ 16).length = 16:=by simp [AJ]
theorem KV (data:LU):(Jd data).length = 16:=by
 have a:=Cu data;unfold Jd;rw [show (AM data).getD ((AM data).length - 1) [] = (AM data)[(AM data).length - 1] from by simp [show (AM data).length - 1 < (AM data).length from by omega]];exact EP data _ (Qd _)
theorem Oz (data a:LU) (c:a.length = 16):∀ b ∈ Cx data a,b.length = 16:=by
 unfold Cx
 split
 ·exact DU (EP data) _ _ (C6 _ _ (KV data) c)
 ·exact DU (EP data) _ _ (C6 _ _ (by rw [QQ];exact KV data) (BN _))
theorem KX (data a:LU):(Cx data a).length = (AM data).length:=by
 unfold Cx
 split <;> rw [QQ]
theorem Aw (key data:LU) (a:key.length = 16):(Bf key data).length = 16:=by
 unfold Bf;exact IT _ (fun x=>FJ _ x (BI key a)) _ Ex _ _
theorem KD (key data:LU) (Y W ck H:Nat) (X:Option Addr) (w:World) (g:key.length = 16) (hn:data.length <= 4096) (hc:data.length <= H) (rk:w.rangeAt Y W (key.map byte)) (rd:RowAt w X data) :
 Calls prog 31 #[.slice (some ⟨Y,W,none⟩) 16 ck,.slice X data.length H] w fun e w'=>∃ v,e = .returned v /\ Own w' w.heap.size v (Bf key data) /\ Bl w w':=by
 have hz:=(QO Tryz.zero93).1;have d2:=(QO Tryz.z16).1;have a8:(key.map byte).length = 16:=by rw [QD,g]
 have c8:((keysUpto key 11).map byte).length = 176:=by rw [QD,BS key g]
 have e1:=fun c (d:World)=>run_arrayAt (P:=prog) (w:=d) 88 5 16 (some ⟨Y,W,none⟩) 16 c underlying88 (QE _);have G:=AK (fun d=>NP key d g);have HE:=AK (fun r p o s (x:LU) (d:World) (hx:x.length = 16) (h:Tabs d r p o s)=>LV key x r p o s d g hx h.t1 h.t3);have A:∀ x,(CW (AQ key) x).length = 16:=fun x=>FJ _ x (BI key g);have a1:=A (AJ 16);have V:=AK (fun d=>FH (CW (AQ key) (AJ 16)) d a1);have q:=BN (CW (AQ key) (AJ 16));have u:=AK (fun (d:World) (h:RowAt d X data)=>Nv data (Au (CW (AQ key) (AJ 16))) X H d hn hc q h);have a:=Oz data (Au (CW (AQ key) (AJ 16))) q;have i:=KX data (Au (CW (AQ key) (AJ 16)));have a5:=Cu data;have c2:=J3 data hn;have t:Hid (Bf key data = FA (CW (AQ key)) (AJ 16) (Cx data (Au (CW (AQ key) (AJ 16)))) (Cx data (Au (CW (AQ key) (AJ 16)))).length):=AK rfl;have y:=Aw key data g;obtain ⟨MM,a3⟩:=uX (Bf key data);rw [<- a3] at t y ⊢;obtain ⟨f,hf⟩:=uX (CW (AQ key));rw [<- hf] at HE A a1 V q u a i t;obtain ⟨E0,I⟩:=uX (f (AJ 16));rw [<- I] at V q u a i t;obtain ⟨K1,a4⟩:=uX (Au E0);rw [<- a4] at V q u a i t;obtain ⟨l,a2⟩:=uX (Cx data K1);rw [<- a2] at u a i t;obtain ⟨n,T⟩:∃ n,l.length = n:=⟨_,rfl⟩;rw [T] at i t;have d5:0 < n:=by omega
 have b7:n <= 4096:=by omega
 have c5:=AK I;obtain ⟨D,hD⟩:=uX (data.length);have e2:¬ ((D:Int) > 4096):=by omega
 rw [<- hD] at u ⊢;have U:(MM.map byte).length = 16:=by rw [QD,y]
 clear a3 hf a4 a2 I a5 c2 i hD;go_enter func31,ntmps31;go_wp2_with (first
  | (refine Qw rfl 88 _ rfl Y W rfl (key.map byte) _ rk underlying88 rfl (by rw [a8];kernel_rfl) ?_)
  | (go_at_call 76;refine (G.out _).mono ?_;rintro e w1 ⟨r,p,o,s,rfl,g1,g2,g3,g4,R⟩;have z:=Cb ((keysUpto key 11).map byte) r p o s c8)
  | (refine store_blk rfl 93 _ _ rfl _ rfl rfl (Blk.new w1 _ _) (by rw [z];kernel_rfl) (by rw [z];exact E9) (JZ _ _ _ _ _) ?_;intro w2 J c3 e0;have l1:=R.size;have bx:Bl w1 w2:=((((Below.refl _ _).alloc (QE _) _).grown c3 (by simp) (by intro k g;cases g;exact QE _)));have b2:Bl w w2:=(R.trans (bx.mono l1));have mS:Tabs w2 r p o s:=(Tabs.below ⟨g1,g2,g3,g4⟩ bx);have b0:=rd.below b2)
  | (refine AL rfl 93 _ rfl _ rfl J underlying93 rfl (by rw [z];kernel_rfl) ?_)
  | (refine EN rfl 88 _ rfl ((AJ 16).map byte) (by kernel_rfl) ?_)
  | fail)
 refine (HE.out r p o s (AJ 16) w2 Ex mS).mono ?_;rintro e w3 ⟨rfl,O⟩;rw [<- c5.out];go_wp2_with fail;refine (V.out w3).mono ?_;rintro e w4 ⟨rfl,C⟩;have N:=AB O C;have b4:=AB b2 N;go_wp2_with fail;refine (u.out w4 (rd.below b4)).mono ?_;rintro e w5 ⟨v5,rfl,E,M⟩;obtain ⟨b3,a6,rfl,c4,b9⟩:=E.blks a;rw [T] at c4 ⊢;have F:=AB N M;have b5:=AB b2 F;have c6:=J.below F J.lt;have c0:=mS.below F;have Z:=AK (Ur f A (.agg (aesCells ((keysUpto key 11).map byte) r p o s).toArray) (AJ 16) Ex l a b3 n a6 T b7 w5 b9 (fun x d hx c9=>HE.out r p o s x d hx (c0.below c9)));have a9:=Ki f (AJ 16) l n;have b8:∀ b ∈ EZ f (AJ 16) l n,b.length = 16:=by
  intro b hb;simp only [EZ,Qz] at hb;obtain ⟨j,-,rfl⟩:=hb;exact IT f A _ Ex l _
 obtain ⟨m,d4,d3,c7,Hm⟩:∃ m:Nat,IntKind.i64.wrap ((n:Int) - 1) = (m:Int) /\ (m:Int) < (n:Int) /\ m < n /\ Hid (n = m + 1):=⟨n - 1,by rw [QH];omega,by omega,by omega,AK (by omega:n = n - 1 + 1)⟩;have HG:Hid ((EZ f (AJ 16) l n).getD m [] = MM):=AK (by
  rw [t.out];have e:(EZ f (AJ 16) l n).getD m [] = FA f (AJ 16) l (m + 1):=by simp [EZ,c7]
  rw [e,<- Hm.out])
 clear HE V u G O C M E N b4 mS b0;go_wp2_with (first
  | (refine AL rfl 93 _ rfl _ rfl c6 underlying93 rfl (by rw [z];kernel_rfl) ?_)
  | (refine EN rfl 88 _ rfl ((AJ 16).map byte) (by kernel_rfl) ?_)
  | fail)
 refine Z.out.mono ?_;rintro e w6 ⟨v6,rfl,L,a7⟩;obtain ⟨g6,d0,d1,rfl,B⟩:=L.split (by omega);have a0:=B.range b8 m (by omega);rw [HG.out] at a0;rw [a9];have b6:=AB b5 a7;clear L B Z;go_wp2_with (first
  | (refine Qw rfl 88 _ rfl g6 (m * 16) rfl (MM.map byte) _ a0 underlying88 rfl (by rw [U];kernel_rfl) ?_)
  | (refine store_blk rfl 88 _ _ rfl _ rfl rfl (Blk.new w6 _ _) (by rw [U];kernel_rfl) (by rw [U];exact AD _ _) (AF _) ?_;intro w7 c1 b1 d6))
 go_ret;have l6:=b6.size;exact ⟨_,rfl,E7 c1 (by omega) y (by unfold maxLen;omega),(b6.alloc (by omega) _).grown b1 (by simp;omega) (by intro k g;cases g;omega)⟩
def Bj (data:LU):Prop:=data.length % 16 = 0 /\ 0 < data.length
instance (data:LU):Decidable (Bj data):=inferInstanceAs (Decidable (_ /\ _))
def Cw (data:LU):LU:=if Bj data then data else data ++ [128] ++ AJ (15 - data.length % 16)
theorem Mj (data:LU):(AM data).length = if Bj data then data.length / 16 else data.length / 16 + 1:=by
 have e:(AM data).length = if (data.length + 15) / 16 = 0 then 1 else (data.length + 15) / 16:=by
  unfold AM EH;rw [Cs];unfold nBlocksQ
  split
  ·rfl
  ·rw [Cs]
 rw [e]
 by_cases h:Bj data
 ·rw [if_pos h];unfold Bj at h;rw [if_neg (by omega)];omega
 ·rw [if_neg h];unfold Bj at h
  by_cases h0:(data.length + 15) / 16 = 0
  ·rw [if_pos h0];omega
  ·rw [if_neg h0];omega
theorem Ft (data:LU):(Cw data).length = 16 * (AM data).length:=by
 rw [Mj];unfold Cw
 by_cases h:Bj data
 ·rw [if_pos h,if_pos h];unfold Bj at h;omega
 ·rw [if_neg h,if_neg h,QC,QC,List.length_singleton];simp only [AJ,List.length_replicate];omega
theorem RG (data:LU) (k:Nat) (a:k < (AM data).length):(AM data).getD k [] = Dt ((data.drop (16 * k)).take 16):=by
 unfold AM EH at a ⊢
 by_cases h0:(chunksQ data (nBlocksQ data)).length = 0
 ·rw [if_pos h0] at a ⊢;obtain rfl:k = 0:=by simpa using a
  have b:data = []:=by
   rw [Cs] at h0;unfold nBlocksQ at h0;exact List.length_eq_zero_iff.1 (by omega)
  subst b
  rfl
 ·rw [if_neg h0] at a ⊢;rw [Cs] at a;simp [chunksQ,I8,a]
theorem Z8 (data:LU) (k:Nat) (a:k + 1 < (AM data).length):((Cw data).drop (16 * k)).take 16 = (AM data).getD k []:=by
 rw [RG data k (by omega)];rw [Mj] at a;have b:16 * k + 16 <= data.length:=by split at a <;> omega
 have e:((Cw data).drop (16 * k)).take 16 = (data.drop (16 * k)).take 16:=by
  unfold Cw
  split
  ·rfl
  ·rw [QV,Qy (by omega),qT (by rw [QN];omega)]
 rw [e];unfold Dt;rw [QI,QN,show 16 - min 16 (data.length - 16 * k) = 0 from by omega];simp [AJ]
theorem WK (data:LU):(Cw data).drop (16 * ((AM data).length - 1)) = if Bj data then Jd data else (Jd data).set (data.length % 16) 128:=by
 have b:=Cu data;have c:=RG data ((AM data).length - 1) (by omega);unfold Jd;rw [c];rw [Mj] at b ⊢;unfold Cw
 by_cases h:Bj data
 ·rw [if_pos h] at b ⊢;rw [if_pos h,if_pos h];unfold Bj at h;have a:(data.drop (16 * (data.length / 16 - 1))).length = 16:=by rw [QN];omega
  unfold Dt;rw [QS (by omega),a];simp [AJ]
 ·rw [if_neg h] at b ⊢;rw [if_neg h,if_neg h,Nat.add_sub_cancel];have a:(data.drop (16 * (data.length / 16))).length = data.length % 16:=by rw [QN];omega
  rw [QV,Qy (by omega)];unfold Dt;rw [QS (by omega),a,qC _ _ (by omega),a,JF]
  congr 1
  rw [show 16 - data.length % 16 = (15 - data.length % 16) + 1 from by omega];simp [AJ,List.replicate_succ]
def Ez (data K:LU):LU:=if Bj data then K else Au K
theorem IS (data K:LU) (h:K.length = 16):(Ez data K).length = 16:=by
 unfold Ez
 split
 ·exact h
 ·exact BN _
def F3 (data K:LU):LU:=(Cw data).take (16 * ((AM data).length - 1)) ++ AE ((Cw data).drop (16 * ((AM data).length - 1))) (Ez data K)
theorem Ob (data:LU):((Cw data).drop (16 * ((AM data).length - 1))).length = 16:=by
 have:=Ft data;have:=Cu data;rw [QN];omega
theorem Pl (data K:LU) (h:K.length = 16):(F3 data K).length = 16 * (AM data).length:=by
 have b:=Ft data;have c:=Cu data;have a:=Ob data;unfold F3;rw [QC,AW _ _ (by rw [a,IS data K h]),a,QI];omega
theorem aB (data K:LU) (h:K.length = 16) (k:Nat) (b:k < (AM data).length):((F3 data K).drop (16 * k)).take 16 = (Cx data K).getD k []:=by
 have d:=Ft data;have a:=Ob data;have f:(AE ((Cw data).drop (16 * ((AM data).length - 1))) (Ez data K)).length = 16:=by rw [AW _ _ (by rw [a,IS data K h]),a]
 have c:Cx data K = (AM data).set ((AM data).length - 1) (AE ((Cw data).drop (16 * ((AM data).length - 1))) (Ez data K)):=by
  rw [WK];unfold Cx Ez
  by_cases hw:Bj data
  ·rw [if_pos hw,if_pos hw,if_pos (show data.length % 16 = 0 /\ 0 < data.length from hw)]
  ·rw [if_neg hw,if_neg hw,if_neg (show ¬ (data.length % 16 = 0 /\ 0 < data.length) from hw)]
 rw [c]
 by_cases e:k = (AM data).length - 1
 ·subst e;rw [QA,List.getElem?_set_self b];unfold F3;rw [List.drop_append,qE (by rw [QI];omega),qQ,QI,show 16 * ((AM data).length - 1) - min (16 * ((AM data).length - 1)) (Cw data).length = 0 from by omega,List.drop_zero,QS (by omega)]
  rfl
 ·rw [QA,List.getElem?_set_ne (fun h=>e h.symm),<- QA,<- Z8 data k (by omega)];unfold F3;rw [Qy (by rw [QI];omega),qT (by rw [QN,QI];omega),List.drop_take,List.take_take]
  congr 1
  omega
def chQ (f:LU -> LU) (a:LU):Nat -> LU
 | 0=>AJ 16
 | k + 1=>f (AE (chQ f a k) ((a.drop (16 * k)).take 16))
theorem dK (f:LU -> LU) (data K:LU) (h:K.length = 16) (k:Nat) (a:k <= (AM data).length):chQ f (F3 data K) k = FA f (AJ 16) (Cx data K) k:=by
 induction k with
 | zero=>rfl
 | succ k ih =>
   show f (AE (chQ f (F3 data K) k) (((F3 data K).drop (16 * k)).take 16)) = f (AE ((Cx data K).getD k []) (FA f (AJ 16) (Cx data K) k));rw [ih (by omega),aB data K h k (by omega),OM]
theorem ZX (key data:LU):Bf key data = chQ (CW (AQ key)) (F3 data (ND key)) (AM data).length:=by
 unfold Bf;rw [KX,dK _ data (ND key) (BN _) _ (QE _)]
end Go.Proofs.YtbkokcjolanpeaaGreatDoor
