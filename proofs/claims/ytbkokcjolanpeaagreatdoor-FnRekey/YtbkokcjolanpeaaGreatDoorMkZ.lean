import Derived.Test.YtbkokcjolanpeaaGreatDoorMkX
set_option maxRecDepth 100000
set_option maxHeartbeats 20000000
namespace Go.Proofs.YtbkokcjolanpeaaGreatDoor
open Go.RowKit Go.Proofs.Tryz Act
theorem VV (b:UInt8):BL b = dig b:=by unfold BL dig;simp
theorem V3 (l:LU):l.all BL = l.all dig:=by
 induction l with
 | nil=>rfl
 | cons a r ih=>rw [List.all_cons,List.all_cons,ih,VV]
theorem CA (s:Int) (K:Int) (n:Nat) (a:UInt8 -> Bool) (q:Bh s = (K,(n:Int))) (h:(K = 1 /\ a = BL) \/ (K = 2 /\ a = DN) \/ (K = 3 /\ a = Ba)) (data:LU) (A:Option Addr) (B:Nat) (w:World) (M:data.length <= 1048576) (u:RowAt w A data) :
 Calls prog 142 #[.int .i64 s,.slice A data.length B] w fun e w'=>e = .returned (.bool (Ag n n a data)) /\ w' = w:=by
 have x:=AA (fun (E:World)=>Dl s E);rw [q] at x;have J:¬ K = 0:=by omega
 have L:¬ K = 4:=by omega
 have I:¬ K = 5:=by omega
 obtain ⟨N,f⟩:=uX (data.length);have p:=AA f;have H:N <= 1048576:=by omega
 rw [<- f]
 by_cases hl:N = n
 ·have r:(N:Int) = (n:Int):=by omega
  have HF:Hid (Ag n n a data = data.all a):=by
   show _ = _;unfold Ag;rw [<- f,QK (by omega),Qp]
  have G:((N:Int) != (n:Int)) = false:=by rw [r];simp
  clear f q;subst hl;go_enter func142,ntmps142;go_wp2_with (go_at_call 82;refine (x.out _).mono ?_;rintro e w2 ⟨rfl,rfl⟩)
  go_loopw [33] (fun i wr=>∃ k:Nat,k <= N /\ i = .int .i64 (k:Int) /\ (data.take k).all a = true /\ wr = w2) (fun i _=>N - (intOf i).toNat)
  case atStart=>exact ⟨0,QU _,rfl,rfl,rfl⟩
  case round =>
   obtain ⟨k,q,rfl,c,D⟩:=hrel;subst D
   by_cases hlt:k < N
   ·have v:(k:Int) < (N:Int):=by omega
    obtain ⟨b,o,rfl,C⟩:=u.at (k:=k) (by rw [<- p.out];exact hlt);have F:=C k (by rw [<- p.out];exact hlt);have l:=AA (De a data k (by rw [<- p.out];exact hlt) c);have d:=AA (D5 a data k (by rw [<- p.out];exact hlt));obtain ⟨y,t⟩:=uX ((data.getD k 0).toNat);rw [<- t] at F;have g:=AA t;clear t C c u;rcases h with ⟨rfl,rfl⟩ | ⟨rfl,rfl⟩ | ⟨rfl,rfl⟩
    ·skip
     by_cases h1:y < 48
     ·have m:(y:Int) < 48:=by omega
      go_wp2_with fail;go_ret;exact ⟨by rw [HF.out,d.out (by unfold BL;rw [<- g.out];simp;omega)];rfl,rfl⟩
     ·have m:¬ (y:Int) < 48:=by omega
      by_cases h2:57 < y
      ·have j:(57:Int) < (y:Int):=by omega
       go_wp2_with fail;go_ret;exact ⟨by rw [HF.out,d.out (by unfold BL;rw [<- g.out];simp;omega)];rfl,rfl⟩
      ·have j:¬ (57:Int) < (y:Int):=by omega
       go_wp2_with fail;go_roundw
       case rel=>exact ⟨k + 1,by omega,by go_num,l.out.trans (by unfold BL;rw [<- g.out];simp;omega),by trivial⟩
       case measure=>simp [intOf];omega
    ·skip
     by_cases h1:y < 32
     ·have m:(y:Int) < 32:=by omega
      go_wp2_with fail;go_ret;exact ⟨by rw [HF.out,d.out (by unfold DN;rw [<- g.out];simp;omega)];rfl,rfl⟩
     ·have m:¬ (y:Int) < 32:=by omega
      by_cases h2:126 < y
      ·have j:(126:Int) < (y:Int):=by omega
       go_wp2_with fail;go_ret;exact ⟨by rw [HF.out,d.out (by unfold DN;rw [<- g.out];simp;omega)];rfl,rfl⟩
      ·have j:¬ (126:Int) < (y:Int):=by omega
       go_wp2_with fail;go_roundw
       case rel=>exact ⟨k + 1,by omega,by go_num,l.out.trans (by unfold DN;rw [<- g.out];simp;omega),by trivial⟩
       case measure=>simp [intOf];omega
    ·skip
     go_wp2_with fail;go_roundw
     case rel=>exact ⟨k + 1,by omega,by go_num,l.out.trans rfl,by trivial⟩
     case measure=>simp [intOf];omega
   ·have v:¬ ((k:Int) < (N:Int)):=by omega
    have z:data.all a = true:=by
     rw [QS (by rw [<- p.out];omega)] at c;exact c
    go_wp2_with fail;go_ret;exact ⟨by rw [HF.out,z];rfl,rfl⟩
 ·have r:¬ (N:Int) = (n:Int):=by omega
  have HF:Ag n n a data = false:=by
   unfold Ag;rw [<- f,QT (by omega),qJ]
  rw [HF];clear f q HF u;go_enter func142,ntmps142;go_wp2_with (go_at_call 82;refine (x.out _).mono ?_;rintro e w2 ⟨rfl,rfl⟩)
  go_ret;exact ⟨rfl,rfl⟩
theorem V9 (data:LU) (g:Option Addr) (d:Nat) (w:World) (p:data.length <= 1048576) (k:RowAt w g data) :
 Calls prog 142 #[.int .i64 2,.slice g data.length d] w fun e w'=>e = .returned (.bool (Ag 13 19 BL data)) /\ w' = w:=by
 have j:=AA (fun (f:World)=>Dl 2 f);rw [show Bh 2 = (4,2) from rfl] at j;have c:=Er data g data.length d w rfl k;have a:(⟨data.toArray⟩:ByteArray).size = data.length:=by simp [ByteArray.size]
 have b:=AA (fun (f:World)=>Sw ⟨data.toArray⟩ f (by rw [a];unfold maxLen;omega));rw [a,I7] at b;have HF:Hid (Ag 13 19 BL data = (decide (13 <= data.length) && decide (data.length <= 19) && data.all dig)):=by
  show _ = _;unfold Ag;rw [V3,Bool.decide_and]
 rw [show Ag 13 19 BL data = _ from HF];obtain ⟨q,l⟩:=uX ((decide (13 <= data.length) && decide (data.length <= 19) && data.all dig));rw [<- l] at b ⊢;obtain ⟨N,o⟩:=uX (data.length);rw [<- o] at c ⊢;obtain ⟨S,m⟩:∃ S:ByteArray,S = ⟨data.toArray⟩:=⟨_,rfl⟩;rw [<- m] at c b;clear o m l HF a k;go_enter func142,ntmps142;go_wp2_with (first | (go_at_call 82;refine (j.out _).mono ?_;rintro e w2 ⟨rfl,n⟩;subst n) | (go_at_call 171;refine (b.out _).mono ?_;rintro e r ⟨rfl,i⟩;subst i))
 go_ret;exact ⟨rfl,rfl⟩
theorem Sh (data:LU) (g:Option Addr) (c:Nat) (w:World) :
 Calls prog 142 #[.int .i64 48,.slice g data.length c] w fun e w'=>e = .returned (.bool (Ag 0 200 Ba data)) /\ w' = w:=by
 have d:=AA (fun (f:World)=>Dl 48 f);rw [show Bh 48 = (5,3) from rfl] at d;have a:data.all Ba = true:=by rw [Qt];intro x _;rfl
 have HF:Ag 0 200 Ba data = decide (data.length <= 200):=by unfold Ag;rw [a,Bool.and_true];simp
 rw [HF];obtain ⟨N,b⟩:=uX (data.length);rw [<- b];clear b HF a;go_enter func142,ntmps142;go_wp2_with (go_at_call 82;refine (d.out _).mono ?_;rintro e w2 ⟨rfl,rfl⟩)
 go_ret;exact ⟨by rw [show decide (N <= 200) = decide ((N:Int) <= 200) from decide_eq_decide.2 (by omega)];rfl,rfl⟩
theorem JS (f:Nat) (h:f ∈ tabNos) (data:LU) (b:Option Addr) (a:Nat) (w:World) (c:data.length <= 1048576) (d:RowAt w b data) :
 Calls prog 142 #[.int .i64 (f:Int),.slice b data.length a] w fun e w'=>e = .returned (.bool (Ag (kpL f) (kpM f) (Dc f) data)) /\ w' = w:=by
 simp only [tabNos,qx,qd,or_false] at h;rcases h with rfl | rfl | rfl | rfl | rfl | rfl | rfl | rfl | rfl | rfl | rfl | rfl | rfl | rfl
 ·exact V9 data b a w c d
 ·exact CA 3 1 6 BL rfl (.inl ⟨rfl,rfl⟩) data b a w c d
 ·exact CA 4 1 12 BL rfl (.inl ⟨rfl,rfl⟩) data b a w c d
 ·exact CA 7 1 10 BL rfl (.inl ⟨rfl,rfl⟩) data b a w c d
 ·exact CA 11 1 6 BL rfl (.inl ⟨rfl,rfl⟩) data b a w c d
 ·exact CA 37 2 12 DN rfl (.inr (.inl ⟨rfl,rfl⟩)) data b a w c d
 ·exact CA 39 2 2 DN rfl (.inr (.inl ⟨rfl,rfl⟩)) data b a w c d
 ·exact CA 41 2 8 DN rfl (.inr (.inl ⟨rfl,rfl⟩)) data b a w c d
 ·exact Sh data b a w
 ·exact CA 52 3 8 Ba rfl (.inr (.inr ⟨rfl,rfl⟩)) data b a w c d
 ·exact CA 53 3 10 Ba rfl (.inr (.inr ⟨rfl,rfl⟩)) data b a w c d
 ·exact CA 64 3 8 Ba rfl (.inr (.inr ⟨rfl,rfl⟩)) data b a w c d
 ·exact CA 70 1 3 BL rfl (.inl ⟨rfl,rfl⟩) data b a w c d
 ·exact CA 128 3 8 Ba rfl (.inr (.inr ⟨rfl,rfl⟩)) data b a w c d
end Go.Proofs.YtbkokcjolanpeaaGreatDoor
