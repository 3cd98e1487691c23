import Derived.Test.YtbkokcjolanpeaaGreatDoorMkUb
import Derived.Test.YtbkokcjolanpeaaGreatDoorMkV
set_option maxRecDepth 100000
set_option maxHeartbeats 20000000
namespace Go.Proofs.YtbkokcjolanpeaaGreatDoor
open Go.RowKit Go.Proofs.Tryz Act
def Gw (a key data b:LU):Int:=if Dp a key data = 0 /\ ¬ macL a key data = b then 6 else Dp a key data
theorem P3 (b key data d:LU) (A F D at_:Option Addr) (cm I M U:Nat) (T X:Addr) (w:World) (z:key.length <= I) (y:data.length <= M) (O:data.length <= 1048576) (Y:Sents w T X) (rm:RowAt w A b) (Z:RowAt w F key) (W:RowAt w D data) (V:RowAt w at_ d) :
 Calls prog 41 #[.slice A b.length cm,.slice F key.length I,.slice D data.length M,.slice at_ d.length U] w fun e w'=>e = .returned (.int .i64 (Gw b key data d)) /\ Bl w w':=by
 have x:=Aa (LY b key data A F D cm I M T X w z y O Y rm Z W);have g:Hid (Gw b key data d = (if Dp b key data = 0 /\ ¬ macL b key data = d then 6 else Dp b key data)):=rfl;have j:=Aa (fun (a1:Option Addr) (c1:Nat) (E:World) (h1:RowAt E a1 (macL b key data)) (h2:RowAt E at_ d)=>GF (macL b key data) d a1 at_ _ _ c1 U E rfl rfl h1 h2);obtain ⟨C,N⟩:=uX (Dp b key data);obtain ⟨L,B⟩:=uX (macL b key data);rw [<- N,<- B] at x g;rw [<- B] at j;obtain ⟨n1,t⟩:=uX (b.length);obtain ⟨n2,o⟩:=uX (key.length);obtain ⟨n3,m⟩:=uX (data.length);obtain ⟨n4,p⟩:=uX (d.length);rw [<- t,<- o,<- m] at x;rw [<- p] at j;rw [<- t,<- o,<- m,<- p];clear t o m p N B rm Z W Y z y O;go_enter func41,ntmps41;go_wp2_with fail;refine x.out.mono ?_;rintro e R ⟨v,rfl,n,i⟩;obtain ⟨a,c,rfl,k,-⟩:=n.shape;obtain ⟨l,hl⟩:=uX (L.length);rw [<- hl] at j ⊢;obtain ⟨H,f⟩:=uX (R.alloc (.cells #[.int .i64 C,.slice a l c] 68));have r:=uB f;have J:Blk H R.heap.size 68 [.int .i64 C,.slice a l c]:=by rw [f];exact Blk.new _ _ _
 have s:Bl w H:=i.trans (r.mono i.size);have G:=k.below r;have q:=V.below s;clear n k i r x hl V
 by_cases hC0:C = 0
 ·subst hC0;have u:=Aa (j.out a c H G q);have c0:=J.c 0;clear j G q J;go_wp2_with fail;rw [<- f];clear f;refine u.out.mono ?_;rintro e w2 ⟨rfl,a0⟩;subst w2
  by_cases heq:L = d
  ·rw [QK heq];rw [if_neg (by simp [heq])] at g;clear heq u;go_wp2_with fail;go_ret;exact ⟨by rw [g.out];rfl,s⟩
  ·rw [QT heq];rw [if_pos (by simp [heq])] at g;clear heq u;go_wp2_with fail;go_ret;exact ⟨by rw [g.out];rfl,s⟩
 ·have a2:(C == 0) = false:=by rw [QP];exact hC0
  rw [if_neg (by simp [hC0])] at g;rw [f] at s;clear f j G q J hC0;go_wp2_with fail;go_ret;exact ⟨by rw [g.out];rfl,s⟩
theorem O2 (b key data d:LU) (I N M at_:Option Addr) (cm T V Y:Nat) (w:World) (hm:b.length <= 1048576) (H:key.length <= T) (E:data.length <= V) (X:data.length <= 1048576) (rm:RowAt w I b) (rk:RowAt w N key) (rd:RowAt w M data) (Z:RowAt w at_ d) :
 Calls prog 39 #[.slice I b.length cm,.slice N key.length T,.slice M data.length V,.slice at_ d.length Y] w fun e w'=>e = .returned (.int .i64 (Gw b key data d)) /\ Bl w w':=by
 have A:=Aa (KP b key data I N M cm T V w hm H E X rm rk rd);have k:Hid (Gw b key data d = (if Dp b key data = 0 /\ ¬ macL b key data = d then 6 else Dp b key data)):=rfl;have g:=Aa (fun (a1:Option Addr) (c1:Nat) (s:World) (h1:RowAt s a1 (macL b key data))=>DC (macL b key data) a1 _ c1 s rfl h1);have j:=Aa (fun (s:World) (h2:RowAt s at_ d)=>DC d at_ _ Y s rfl h2);have f:=Aa (MP (macL b key data) d);obtain ⟨C,W⟩:=uX (Dp b key data);obtain ⟨L,J⟩:=uX (macL b key data);rw [<- W,<- J] at A k;rw [<- J] at g f;obtain ⟨D,F⟩:∃ x:ByteArray,x = ⟨d.toArray⟩:=⟨_,rfl⟩;obtain ⟨B,G⟩:∃ x:ByteArray,x = ⟨L.toArray⟩:=⟨_,rfl⟩;rw [<- F] at j f;rw [<- G] at g f;obtain ⟨n1,z⟩:=uX (b.length);obtain ⟨n2,r⟩:=uX (key.length);obtain ⟨n3,p⟩:=uX (data.length);obtain ⟨n4,t⟩:=uX (d.length);rw [<- z,<- r,<- p] at A;rw [<- t] at j;rw [<- z,<- r,<- p,<- t];clear z r p t W J rm rk rd H E X hm F G;go_enter func39,ntmps39;go_wp2_with fail;refine A.out.mono ?_;rintro e w1 ⟨v,rfl,q,m⟩;obtain ⟨a,c,rfl,o,-⟩:=q.shape;obtain ⟨l,hl⟩:=uX (L.length);rw [<- hl] at g ⊢;obtain ⟨R,i⟩:=uX (w1.alloc (.cells #[.int .i64 C,.slice a l c] 68));have y:=uB i;have n:Bl w R:=m.trans (y.mono m.size);have O:=o.below y;have u:=Z.below n;clear q o m y A hl Z
 by_cases hC0:C = 0
 ·subst hC0;have q1:=g.out a c R O;have q2:=j.out R u;rw [i] at q1 q2 n;clear g j O u i
  by_cases heq:L = d
  ·have U:(B.toList == D.toList) = true:=by rw [f.out];exact QK heq
   have e7:(B.toList != D.toList) = false:=by rw [bne,U];rfl
   rw [if_neg (by simp [heq])] at k;clear heq f;go_wp2_with fail;go_ret;exact ⟨by rw [k.out];rfl,n⟩
  ·have U:(B.toList == D.toList) = false:=by rw [f.out];exact QT heq
   have e7:(B.toList != D.toList) = true:=by rw [bne,U];rfl
   rw [if_pos (by simp [heq])] at k;clear heq f;go_wp2_with fail;go_ret;exact ⟨by rw [k.out];rfl,n⟩
 ·have a0:(C == 0) = false:=by rw [QP];exact hC0
  rw [if_neg (by simp [hC0])] at k;rw [i] at n;clear i g j O u hC0 f;go_wp2_with fail;go_ret;exact ⟨by rw [k.out];rfl,n⟩
theorem co {b:UInt8} (a:48 <= b.toNat) (c:b.toNat <= 57):dig b = true:=by simp [dig,a,c]
theorem F6 (s:ByteArray) (lo a:Nat) (w:World) (_hs:s.size <= maxLen) (g:a <= 1000) (_hl:lo <= 1000) :
 Calls prog 89 #[.string s,.int .i64 lo,.int .i64 a] w fun e w'=>e = .returned (.bool (decide (lo <= s.size) && decide (s.size <= a) && Bu s)) /\ w' = w:=by
 by_cases h1:s.size < lo
 ·go_enter func89,ntmps89;go_wp2;go_ret;exact ⟨by simp [show ¬ lo <= s.size from by omega],rfl⟩
 ·by_cases h2:a < s.size
  ·go_enter func89,ntmps89;go_wp2;go_ret;exact ⟨by simp [show ¬ s.size <= a from by omega],rfl⟩
  ·go_enter func89,ntmps89;go_wp2_with fail
   go_loopw [7] (fun i wr=>∃ k:Nat,k <= s.size /\ i = .int .i64 k /\ Hid (∀ j (b:j < s.size),j < k -> dig s[j] = true) /\ wr = w) (fun i _=>s.size - (intOf i).toNat)
   case atStart=>exact ⟨0,QU _,rfl,fun j _ h=>absurd h (Qj j),rfl⟩
   case round =>
    obtain ⟨k,l,rfl,c,d⟩:=hrel;subst d
    by_cases hlt:k < s.size
    ·by_cases ha:s[k].toNat < 48
     ·go_wp2_with fail;go_ret;exact ⟨by rw [LH k hlt (by simp [dig];omega)];simp,rfl⟩
     ·by_cases hb:57 < s[k].toNat
      ·go_wp2_with fail;go_ret;exact ⟨by rw [LH k hlt (by simp [dig];omega)];simp,rfl⟩
      ·go_wp2_with fail;go_roundw
       case rel =>
        refine ⟨k + 1,by omega,by go_num,?_,by trivial⟩;show ∀ j (b:j < s.size),j < k + 1 -> dig s[j] = true;intro j b f
        by_cases hjk2:j = k
        ·subst hjk2;exact co (by omega) (by omega)
        ·exact c.out j b (by omega)
       case measure=>simp [intOf];omega
    ·go_wp2_with fail;go_ret;exact ⟨by rw [P0 (fun j b=>c.out j b (by omega))];simp;omega,rfl⟩
theorem Sw (s:ByteArray) (w:World) (b:s.size <= maxLen) :
 Calls prog 171 #[.string s] w fun e w'=>e = .returned (.bool (decide (13 <= s.size) && decide (s.size <= 19) && Bu s)) /\ w' = w:=by
 go_enter func171,ntmps171;go_wp2_with (go_at_call 89;refine (F6 s 13 19 _ b (by omega) (by omega)).mono ?_;rintro e a ⟨rfl,c⟩;subst a)
 go_ret;exact ⟨rfl,rfl⟩
def Bh (a:Int):Int × Int:=if a = 2 then (4,2) else if a = 3 then (1,6) else if a = 11 then (1,6) else if a = 4 then (1,12) else if a = 7 then (1,10) else if a = 70 then (1,3) else if a = 37 then (2,12) else if a = 39 then (2,2) else if a = 41 then (2,8) else if a = 48 then (5,3) else if a = 52 then (3,8) else if a = 64 then (3,8) else if a = 128 then (3,8) else if a = 53 then (3,10) else (0,0)
theorem Dl (a:Int) (w:World):Calls prog 82 #[.int .i64 a] w fun e w'=>e = .returned (.tuple #[.int .i64 (Bh a).1,.int .i64 (Bh a).2]) /\ w' = w:=by
 by_cases h2:a = 2
 ·subst h2;go_enter func82,ntmps82;go_wp2;go_ret2;exact ⟨rfl,rfl⟩
 by_cases h3:a = 3
 ·subst h3;go_enter func82,ntmps82;go_wp2;go_ret2;exact ⟨rfl,rfl⟩
 by_cases h11:a = 11
 ·subst h11;go_enter func82,ntmps82;go_wp2;go_ret2;exact ⟨rfl,rfl⟩
 by_cases h4:a = 4
 ·subst h4;go_enter func82,ntmps82;go_wp2;go_ret2;exact ⟨rfl,rfl⟩
 by_cases h7:a = 7
 ·subst h7;go_enter func82,ntmps82;go_wp2;go_ret2;exact ⟨rfl,rfl⟩
 by_cases h70:a = 70
 ·subst h70;go_enter func82,ntmps82;go_wp2;go_ret2;exact ⟨rfl,rfl⟩
 by_cases h37:a = 37
 ·subst h37;go_enter func82,ntmps82;go_wp2;go_ret2;exact ⟨rfl,rfl⟩
 by_cases h39:a = 39
 ·subst h39;go_enter func82,ntmps82;go_wp2;go_ret2;exact ⟨rfl,rfl⟩
 by_cases h41:a = 41
 ·subst h41;go_enter func82,ntmps82;go_wp2;go_ret2;exact ⟨rfl,rfl⟩
 by_cases h48:a = 48
 ·subst h48;go_enter func82,ntmps82;go_wp2;go_ret2;exact ⟨rfl,rfl⟩
 by_cases h52:a = 52
 ·subst h52;go_enter func82,ntmps82;go_wp2;go_ret2;exact ⟨rfl,rfl⟩
 by_cases h64:a = 64
 ·subst h64;go_enter func82,ntmps82;go_wp2;go_ret2;exact ⟨rfl,rfl⟩
 by_cases h128:a = 128
 ·subst h128;go_enter func82,ntmps82;go_wp2;go_ret2;exact ⟨rfl,rfl⟩
 by_cases h53:a = 53
 ·subst h53;go_enter func82,ntmps82;go_wp2;go_ret2;exact ⟨rfl,rfl⟩
 have b:Bh a = (0,0):=by unfold Bh;rw [if_neg h2,if_neg h3,if_neg h11,if_neg h4,if_neg h7,if_neg h70,if_neg h37,if_neg h39,if_neg h41,if_neg h48,if_neg h52,if_neg h64,if_neg h128,if_neg h53]
 rw [b];have q:(a == 2) = false:=by rw [QP];exact h2
 have r:(a == 3) = false:=by rw [QP];exact h3
 have g:(a == 11) = false:=by rw [QP];exact h11
 have o:(a == 4) = false:=by rw [QP];exact h4
 have p:(a == 7) = false:=by rw [QP];exact h7
 have f:(a == 70) = false:=by rw [QP];exact h70
 have i:(a == 37) = false:=by rw [QP];exact h37
 have m:(a == 39) = false:=by rw [QP];exact h39
 have l:(a == 41) = false:=by rw [QP];exact h41
 have n:(a == 48) = false:=by rw [QP];exact h48
 have j:(a == 52) = false:=by rw [QP];exact h52
 have k:(a == 64) = false:=by rw [QP];exact h64
 have c:(a == 128) = false:=by rw [QP];exact h128
 have d:(a == 53) = false:=by rw [QP];exact h53
 clear b h2 h3 h11 h4 h7 h70 h37 h39 h41 h48 h52 h64 h128 h53;go_enter func82,ntmps82;go_wp2;go_ret2;exact ⟨rfl,rfl⟩
def Bv (l:LU) (k:Nat):Bool:=(l.getD (k / 8) 0).toNat.testBit (7 - k % 8)
theorem ZW (x i:Nat):((((x &&& 2 ^ i:Nat):Int)) != 0) = x.testBit i:=by
 cases h:x.testBit i with
 | true =>
   rw [qm];intro c;have a:x &&& 2 ^ i = 0:=by omega
   have b:(x &&& 2 ^ i).testBit i = true:=by rw [Nat.testBit_and,h,Nat.testBit_two_pow_self];rfl
   rw [a,Nat.zero_testBit] at b;cases b
 | false =>
   rw [qs];have a:x &&& 2 ^ i = 0:=by
    apply Nat.eq_of_testBit_eq;intro j;rw [Nat.testBit_and,Nat.zero_testBit,Nat.testBit_two_pow]
    by_cases hj:i = j
    ·subst hj;rw [h];rfl
    ·simp [hj]
   rw [a]
   rfl
theorem NE (l:LU) (I:Option Addr) (t k:Nat) (w:World) (hn:l.length <= 1048576) (hk:k < 8 * l.length) (F:RowAt w I l) :
 Calls prog 149 #[.slice I l.length t,.int .i64 ((k + 1:Nat):Int)] w fun e w'=>e = .returned (.bool (Bv l k)) /\ w' = w.drew:=by
 obtain ⟨n,A⟩:=uX (l.length);obtain ⟨j,H⟩:=uX (k / 8);obtain ⟨r,g⟩:=uX (k % 8);obtain ⟨x,p⟩:=uX ((l.getD j 0).toNat);obtain ⟨b,o,rfl,E⟩:=F.at (k:=j) (by omega);have D:=E j (by omega);rw [<- p] at D;have M:x < 256:=by rw [p];exact QW _
 obtain ⟨s,f⟩:=uX (2 ^ (7 - r));have v:s < 256:=by rw [f];exact QX (Nat.pow_lt_pow_right (by omega) (show 7 - r < 8 by omega)) (QE _)
 obtain ⟨y,i⟩:=uX (x &&& s);obtain ⟨c,d⟩:=uX (Bv l k);have T:Hid (Bv l k = c):=d.symm;have N:((y:Int) != 0) = c:=by
  rw [i,f,ZW,d,p,H,g]
  rfl
 have C:bits BinOp.and IntKind.u8 (x:Int) (s:Int) = (y:Int):=by rw [i];exact u8_and_nat x s M v
 obtain ⟨m,J⟩:=uX (k + 1);have a2:IntKind.i64.wrap ((m:Int) - 1) = (k:Int):=by rw [QH];omega
 have R:(k:Int) / 8 = (j:Int):=by omega
 have a0:(k:Int).tdiv 8 = (j:Int):=by rw [Int.tdiv_eq_ediv_of_nonneg (Int.natCast_nonneg _)];exact R
 have W:IntKind.i64.wrap (j:Int) = (j:Int):=by rw [QH];omega
 have u:(k:Int) % 8 = (r:Int):=by omega
 have G:(k:Int).tmod 8 = (r:Int):=by rw [Qk (Int.natCast_nonneg _)];exact u
 have X:j < n:=by omega
 have Y:(j:Int) < (n:Int):=by omega
 have a1:r < 8:=by omega
 have Z:(128:Int) / 2 ^ r = (s:Int):=by
  rw [f];clear f v i C N G u g;have:r = 0 \/ r = 1 \/ r = 2 \/ r = 3 \/ r = 4 \/ r = 5 \/ r = 6 \/ r = 7:=by omega
  rcases this with rfl | rfl | rfl | rfl | rfl | rfl | rfl | rfl <;> rfl
 rw [<- A,<- J];clear A H g p f i d J F E;go_enter func149,ntmps149;go_upto_region 1 with fail
 obtain ⟨V,q⟩:=uX (World.drew w);have U:V.cell? ⟨b,o + j,none⟩ = some (.int .u8 (x:Int)):=by rw [q];exact D
 have O:Hid (V = w.drew):=q;have B:Hid (∀ {P:Prop},P -> P):=fun h=>h;refine QJ (S:=fun z=>z.cell? ⟨b,o + j,none⟩ = some (.int .u8 (x:Int))) (by kernel_rfl) (by exact D) (fun a=>?_);rw [<- q] at a ⊢;clear q;refine tA 0 (.slice (some ⟨b,o,none⟩) n t) a ?_;simp only [put,pS];refine tA 1 (.int .i64 (m:Int)) a ?_;simp only [put,pS];refine tA 2 (.int .i64 (k:Int)) a ?_;simp only [put,pS];refine tA 3 (.int .i64 (j:Int)) a ?_;simp only [put,pS];refine tA 4 (.pointer (some ⟨b,o + j,none⟩)) a ?_;simp only [put,pS];refine tC 5 (.int .u8 (x:Int)) rfl (fun w1 h=>by have E:=h;go_simp) a ?_;simp only [put,pS];refine tA 6 (.int .i64 (m:Int)) a ?_;simp only [put,pS];refine tA 7 (.int .i64 (k:Int)) a ?_;simp only [put,pS];refine tA 8 (.int .i64 (r:Int)) a ?_;simp only [put,pS];refine tA 9 (.int .u8 (s:Int)) a ?_;simp only [put,pS];refine tA 10 (.int .u8 (y:Int)) a ?_;simp only [put,pS];refine tA 11 (.bool c) a ?_;simp only [put,pS];refine rdy1 12 (fun K L=>?_);go_simp;refine L.out _ _ (B.out U) (fun a=>?_);clear L K
 try dsimp only [put]
 refine QM (by kernel_rfl) ?_ _;go_wp2_with fail;go_ret;exact ⟨by rw [T.out];rfl,O.out⟩
theorem Ap (w:World) (a:Addr) (v:Value):w.grownBy (w.setCell a v) (some a.block) :=
 ⟨rfl,rfl,rfl,by simp,fun k _ b=>qv w a k v (fun e=>b (by rw [e]))⟩
theorem ES {w w':World} {r:Option Nat} (h:w.grownBy w' r):w.grownBy w'.drew r:=⟨h.os,h.tape,h.output,h.size,h.block⟩
theorem GQ (N a m d f:Nat) (i:Option Addr) (w:World) (t:m <= 4096) (u:a <= N) (h:N < a + m) (k:Blk w d 159 [.slice i N f,.int .i64 (a:Int)]) :
 Calls prog 88 #[.pointer (some ⟨d,0,none⟩),.int .i64 (m:Int)] w fun e w'=>e = .returned (.tuple #[.slice none 0 0,.bool false]) /\ w' = w.drew:=by
 have s:IntKind.i64.wrap ((N:Int) - (a:Int)) = (N:Int) - (a:Int):=by rw [QH];omega
 have r:(N:Int) - (a:Int) < (m:Int):=by omega
 go_enter func88,ntmps88;go_upto_region 1 with fail
 obtain ⟨V,g⟩:=uX (World.drew w);have q:Hid (V = w.drew):=g;have j:Blk V d 159 [.slice i N f,.int .i64 (a:Int)]:=by rw [g];exact k.drew1
 have l:V.cell? ⟨d,0,none⟩ = some (.slice i N f) /\ V.cell? ⟨d,1,none⟩ = some (.int .i64 (a:Int)):=⟨j.c 0,j.c 1⟩;have n:Hid (∀ {P:Prop},P -> P):=fun h=>h;refine QJ (S:=fun z=>z.cell? ⟨d,0,none⟩ = some (.slice i N f) /\ z.cell? ⟨d,1,none⟩ = some (.int .i64 (a:Int))) (by kernel_rfl) (by rw [<- g];exact l) (fun b=>?_);rw [<- g] at b ⊢;clear g k;refine tA 0 (.pointer (some ⟨d,0,none⟩)) b ?_;simp only [put,pS];refine tA 1 (.pointer (some ⟨d,0,none⟩)) b ?_;simp only [put,pS];refine tA 2 (.pointer (some ⟨d,0,none⟩)) b ?_;simp only [put,pS];refine tC 3 (.slice i N f) rfl (fun o h=>by have p:=h.1;go_simp) b ?_;simp only [put,pS];refine tA 4 (.int .i64 (N:Int)) b ?_;simp only [put,pS];refine tA 5 (.pointer (some ⟨d,0,none⟩)) b ?_;simp only [put,pS];refine tA 6 (.pointer (some ⟨d,0,none⟩)) b ?_;simp only [put,pS];refine tA 7 (.pointer (some ⟨d,1,none⟩)) b ?_;simp only [put,pS];refine tC 8 (.int .i64 (a:Int)) rfl (fun o h=>by have p:=h.2;go_simp) b ?_;simp only [put,pS];refine tA 9 (.int .i64 ((N:Int) - (a:Int))) b ?_;simp only [put,pS];refine tA 10 (.int .i64 (m:Int)) b ?_;simp only [put,pS];refine tA 11 (.bool true) b ?_;simp only [put,pS];refine QM (by kernel_rfl) ?_ _;go_wp2_with fail;go_ret2;exact ⟨rfl,q.out⟩
theorem I6 (w:World):Calls prog 51 #[] w fun e w'=>e = .returned (.slice (some ⟨w.heap.size,0,none⟩) 14 14) /\ Blk w' w.heap.size 118 tabCellsI /\ Bl w w':=by
 go_enter func51,ntmps51;go_wp2;go_ret;exact ⟨rfl,Blk.new w _ _,BR _ _⟩
end Go.Proofs.YtbkokcjolanpeaaGreatDoor
