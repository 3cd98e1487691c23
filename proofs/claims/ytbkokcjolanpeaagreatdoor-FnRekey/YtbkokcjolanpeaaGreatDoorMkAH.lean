import Derived.Test.YtbkokcjolanpeaaGreatDoorMkAB
import Derived.Test.YtbkokcjolanpeaaGreatDoorMkAD
set_option maxRecDepth 100000
set_option maxHeartbeats 20000000
namespace Go.Proofs.YtbkokcjolanpeaaGreatDoor
open Go.RowKit Go.Proofs.Tryz Act
theorem TO {data:LU} (h:dC data = 0):data.length <= 4096 /\ tyC data = 0 /\ mapC data = 0 /\ (∀ j,j < (BW data).length -> fc data (BW data) (mapE data) j = 0):=by
 unfold dC at h
 by_cases h1:4096 < data.length
 ·rw [if_pos h1] at h;omega
 rw [if_neg h1] at h
 by_cases h2:tyC data ≠ 0
 ·rw [if_pos h2] at h;exact absurd h h2
 rw [if_neg h2] at h
 by_cases h3:mapC data ≠ 0
 ·rw [if_pos h3] at h;exact absurd h h3
 rw [if_neg h3] at h;refine ⟨by omega,by omega,by omega,fun j a=>?_⟩
 by_cases h4:fc data (BW data) (mapE data) j = 0
 ·exact h4
 ·exfalso
  cases hb:bad data (BW data) (mapE data) with
  | none =>
    unfold bad at hb;rw [List.find?_eq_none] at hb;have:=hb j (List.mem_range.2 a);simp at this;exact h4 this
  | some i =>
    rw [hb] at h;unfold bad at hb;have:=List.find?_some hb;simp at this;exact this h
theorem Zi {data:LU} (a:mapC data = 0):mapE data <= data.length:=by
 have b:¬ data.length < Cr data:=by
  intro h
  revert a
  unfold mapC;rw [if_pos h];omega
 unfold mapE;rw [if_pos a];omega
theorem Q7 {data:LU} {a:List Nat} {b:Nat} (d:b <= data.length) (c:∀ j,j < a.length -> fc data a b j = 0):∀ i,i <= a.length -> decAt data a b i <= data.length
 | 0,_=>d
 | i + 1,hi=>by
   have g:=Q7 d c i (by omega);have f:=Nc (a.getD i 0) (data.drop (decAt data a b i)) (c i (by omega));rw [QN] at f;show decAt data a b i + fldE _ _ <= _;omega
theorem ZQ {data:LU} (h:dC data = 0):dA data <= data.length:=by
 obtain ⟨-,-,a,b⟩:=TO h;unfold dA;rw [if_pos h];cases hk:(BW data).length with
 | zero=>exact QU _
 | succ k =>
   show macP _ _ <= _;have c:=Q7 (Zi a) b k (by omega);unfold macP
   split <;> omega
def opB (a key data:LU):Bool:=decide (dC data = 0) && (decide (dA data ≠ 0) && decide (Gw a key (data.take (dA data)) (data.drop (dA data)) = 0))
theorem Ic (d key data:LU) (O J ad:Option Addr) (W N f:Nat) (x0 x1:Addr) (w:World) (hs:Sents w x0 x1) (a7:key.length <= N) (b0:data.length <= f) (hn:data.length <= 1048576) (rm:RowAt w O d) (rk:RowAt w J key) (rd:RowAt w ad data) :
 Calls prog 16 #[.slice O d.length W,.slice J key.length N,.slice ad data.length f] w fun e w'=>e = .returned (.bool (opB d key data)) /\ Bl w w':=by
 have HD:=AA (M7 data ad f w hn b0 rd);have s:=AA (fun h=>ZQ (data:=data) h);have g:Hid (opB d key data = (decide (dC data = 0) && (decide (dA data ≠ 0) && decide (Gw d key (data.take (dA data)) (data.drop (dA data)) = 0)))):=rfl;have t:=AA (fun (a4 a5:Option Addr) (c4 c5:Nat) (B:World) h2 h3 (I:Bl w B) r3 r4=>P3 d key (data.take (dA data)) (data.drop (dA data)) O J a4 a5 W N c4 c5 x0 x1 B a7 h2 h3 (hs.below I) (rm.below I) (rk.below I) r3 r4);obtain ⟨A,hA⟩:=uX (dA data);obtain ⟨Cn,hC⟩:=uX (dC data);obtain ⟨P,hP⟩:∃ q:Int,q = (dP data:Nat):=⟨_,rfl⟩;obtain ⟨M,hM⟩:=uX (dM data);rw [<- hA,<- hC,<- hP,<- hM] at HD;rw [<- hA,<- hC] at g s;rw [<- hA] at t;obtain ⟨n1,a0⟩:=uX (d.length);obtain ⟨n2,U⟩:=uX (key.length);obtain ⟨n3,F⟩:=uX (data.length);have R:=AA F;have a8:=AA rd;rw [<- a0,<- U,<- F];rw [<- a0,<- U] at t;rw [<- F] at HD s b0 hn;clear hA hC hP hM a0 U F rm rk a7 hs rd;go_enter func16,ntmps16;go_wp2_with fail;refine HD.out.mono ?_;rintro e m ⟨v,rfl,⟨vs,FX⟩,b1⟩;obtain ⟨X,cv,rfl⟩:=FX.shape;obtain ⟨Z,a3⟩:=uX ((dL data).length);rw [<- a3];obtain ⟨L,G⟩:=uX (m.alloc (Obj.cells #[.int .i64 (Cn:Int),.int .i64 P,.string M,.slice X Z cv,.int .i64 (A:Int)] 97));obtain ⟨l,Y⟩:=uX (m.heap.size);have z:=uK G Y;have x:Bl w L:=by rw [G];exact b1.trans ((BR _ _).mono b1.size)
 have a2:=AA G;have a6:=AA Y;clear G Y b1 FX a3 HD;go_upto_region 2 with fail
 rw [<- show L = _ from a2,<- show l = _ from a6];clear a2 a6;have d0:=z.c 0;have d4:=z.c 4
 by_cases hC0:Cn = 0
 ·subst hC0;rw [QK rfl,Qp] at g
  by_cases hA0:A = 0
  ·subst hA0;rw [QT (by omega),qJ] at g;clear t s;go_wp2_with fail;go_ret;exact ⟨by rw [g.out];rfl,x⟩
  ·rw [QK hA0,Qp] at g;have c0:=s.out rfl;have b4:¬ (A:Int) = 0:=by omega
   have b9:((A:Int) == 0) = false:=by rw [QP];exact b4
   obtain ⟨b,o,rfl,-⟩:=a8.out.at (k:=0) (by rw [<- R.out];omega);obtain ⟨E,a1⟩:∃ E,(f = A /\ E = o) \/ (¬ f = A /\ E = o + A):=by
    by_cases h:f = A
    ·exact ⟨o,.inl ⟨h,rfl⟩⟩
    ·exact ⟨o + A,.inr ⟨h,rfl⟩⟩
   have b2:=AA a1;have H:(data.take A).length = A:=by rw [QI,<- R.out];omega
   have a9:(data.drop A).length = n3 - A:=by rw [QN,<- R.out]
   have T:Hid (∀ B,Bl w B -> Calls prog 41 #[.slice O n1 W,.slice J n2 N,.slice (some ⟨b,o,none⟩) A f,.slice (some ⟨b,E,none⟩) (n3 - A) (f - A)] B fun e w'=>e = .returned (.int .i64 (Gw d key (data.take A) (data.drop A))) /\ Bl B w'):=by
    intro B I;have r:=a8.out.below I;have h:=t.out (some ⟨b,o,none⟩) (some ⟨b,E,none⟩) f (f - A) B (by rw [H];omega) (by rw [H];omega) I (RowAt.take r A) (by
     rcases a1 with ⟨h1,rfl⟩ | ⟨-,rfl⟩
     ·exact .inl (List.length_eq_zero_iff.1 (by omega))
     ·exact RowAt.drop r A)
    rw [H,a9] at h;exact h
   obtain ⟨K,j⟩:=uX (Gw d key (data.take A) (data.drop A));rw [<- j] at T g;have c3:(A:Int) <= (f:Int):=by omega
   have b6:(A:Int) <= (n3:Int):=by omega
   have b7:(n3:Int) <= (f:Int):=by omega
   clear j a1 H a9 t s
   by_cases hK0:K = 0
   ·subst hK0;rw [QK rfl] at g;go_upto_region 4 with fail
    clear d0 d4;obtain ⟨V,u⟩:=uX (World.drew L);have b3:Bl V V:=Below.refl _ _;have C:Bl L V:=by rw [u];exact (Below.refl _ _).drew
    have i:=x.trans (C.mono x.size);have D:=z.below C z.lt;have p:Hid (∀ {y},Bl V y -> Blk y l 97 [.int .i64 0,.int .i64 P,.string M,.slice X Z cv,.int .i64 (A:Int)]):=fun h=>D.below h D.lt;refine QJ (S:=fun y=>Blk y l 97 [.int .i64 0,.int .i64 P,.string M,.slice X Z cv,.int .i64 (A:Int)]) (by kernel_rfl) (by rw [<- u];exact D) (fun a=>?_);rw [<- u] at a ⊢;clear u C z x;refine tA 0 (.slice O n1 W) a ?_;simp only [put,pS];refine tA 1 (.slice J n2 N) a ?_;simp only [put,pS];refine tA 2 (.slice (some ⟨b,o,none⟩) n3 f) a ?_;simp only [put,pS];refine tA 3 (.pointer (some ⟨l,4,none⟩)) a ?_;simp only [put,pS];refine tC 4 (.int .i64 (A:Int)) rfl (fun m h=>by have hc:m.cell? ⟨l,4,none⟩ = some (.int .i64 (A:Int)):=h.c 4;go_simp) a ?_;simp only [put,pS];refine tA 5 (.slice (some ⟨b,o,none⟩) A f) a ?_;simp only [put,pS];refine tA 6 (.slice (some ⟨b,o,none⟩) n3 f) a ?_;simp only [put,pS];refine tA 7 (.pointer (some ⟨l,4,none⟩)) a ?_;simp only [put,pS];refine tC 8 (.int .i64 (A:Int)) rfl (fun m h=>by have hc:m.cell? ⟨l,4,none⟩ = some (.int .i64 (A:Int)):=h.c 4;go_simp) a ?_;simp only [put,pS];refine tC 9 (.slice (some ⟨b,E,none⟩) (n3 - A) (f - A)) rfl (fun m _=>by rcases b2.out with ⟨hx,hy⟩ | ⟨hx,hy⟩ <;> (rw [hy];go_simp)) a ?_;simp only [put,pS];refine rdy1 10 (fun K j=>?_);go_simp;refine (T.out _ i).mono ?_;rintro e b5 ⟨rfl,n⟩;go_wp2_with fail;refine j.out _ _ (p.out n) (fun a=>?_);clear j K
    try dsimp only [put]
    refine tA 11 (.bool true) a ?_;simp only [put,pS];refine rdy1 12 (fun K j=>?_);go_simp;refine j.out _ _ (p.out n) (fun a=>?_);clear j K
    try dsimp only [put]
    refine QM (by kernel_rfl) ?_ _;have bZ:=n;clear a;go_wp2_with fail;go_ret;exact ⟨by rw [g.out];rfl,i.trans (bZ.mono i.size)⟩
   ·rw [QT hK0] at g;have b8:(K == 0) = false:=by rw [QP];exact hK0
    go_upto_region 4 with fail
    clear d0 d4;obtain ⟨V,u⟩:=uX (World.drew L);have b3:Bl V V:=Below.refl _ _;have C:Bl L V:=by rw [u];exact (Below.refl _ _).drew
    have i:=x.trans (C.mono x.size);have D:=z.below C z.lt;have p:Hid (∀ {y},Bl V y -> Blk y l 97 [.int .i64 0,.int .i64 P,.string M,.slice X Z cv,.int .i64 (A:Int)]):=fun h=>D.below h D.lt;refine QJ (S:=fun y=>Blk y l 97 [.int .i64 0,.int .i64 P,.string M,.slice X Z cv,.int .i64 (A:Int)]) (by kernel_rfl) (by rw [<- u];exact D) (fun a=>?_);rw [<- u] at a ⊢;clear u C z x;refine tA 0 (.slice O n1 W) a ?_;simp only [put,pS];refine tA 1 (.slice J n2 N) a ?_;simp only [put,pS];refine tA 2 (.slice (some ⟨b,o,none⟩) n3 f) a ?_;simp only [put,pS];refine tA 3 (.pointer (some ⟨l,4,none⟩)) a ?_;simp only [put,pS];refine tC 4 (.int .i64 (A:Int)) rfl (fun m h=>by have hc:m.cell? ⟨l,4,none⟩ = some (.int .i64 (A:Int)):=h.c 4;go_simp) a ?_;simp only [put,pS];refine tA 5 (.slice (some ⟨b,o,none⟩) A f) a ?_;simp only [put,pS];refine tA 6 (.slice (some ⟨b,o,none⟩) n3 f) a ?_;simp only [put,pS];refine tA 7 (.pointer (some ⟨l,4,none⟩)) a ?_;simp only [put,pS];refine tC 8 (.int .i64 (A:Int)) rfl (fun m h=>by have hc:m.cell? ⟨l,4,none⟩ = some (.int .i64 (A:Int)):=h.c 4;go_simp) a ?_;simp only [put,pS];refine tC 9 (.slice (some ⟨b,E,none⟩) (n3 - A) (f - A)) rfl (fun m _=>by rcases b2.out with ⟨hx,hy⟩ | ⟨hx,hy⟩ <;> (rw [hy];go_simp)) a ?_;simp only [put,pS];refine rdy1 10 (fun K j=>?_);go_simp;refine (T.out _ i).mono ?_;rintro e b5 ⟨rfl,n⟩;go_wp2_with fail;refine j.out _ _ (p.out n) (fun a=>?_);clear j K
    try dsimp only [put]
    refine tA 11 (.bool false) a ?_;simp only [put,pS];refine rdy1 12 (fun K j=>?_);go_simp;refine j.out _ _ (p.out n) (fun a=>?_);clear j K
    try dsimp only [put]
    refine QM (by kernel_rfl) ?_ _;have bZ:=n;clear a;go_wp2_with fail;go_ret;exact ⟨by rw [g.out];rfl,i.trans (bZ.mono i.size)⟩
 ·rw [QT hC0,qJ] at g;have c1:((Cn:Int) == 0) = false:=by rw [QP];omega
  have c2:¬ (Cn:Int) = 0:=by omega
  clear t s;go_wp2_with fail;go_ret;exact ⟨by rw [g.out];rfl,x⟩
theorem UW (d key data:LU) (N I ad:Option Addr) (W L f:Nat) (w:World) (hm:d.length <= 1048576) (a7:key.length <= L) (b0:data.length <= f) (hn:data.length <= 1048576) (rm:RowAt w N d) (rk:RowAt w I key) (rd:RowAt w ad data) :
 Calls prog 14 #[.slice N d.length W,.slice I key.length L,.slice ad data.length f] w fun e w'=>e = .returned (.bool (opB d key data)) /\ Bl w w':=by
 have HD:=AA (TC data ad f w hn b0 rd);have s:=AA (fun h=>ZQ (data:=data) h);have g:Hid (opB d key data = (decide (dC data = 0) && (decide (dA data ≠ 0) && decide (Gw d key (data.take (dA data)) (data.drop (dA data)) = 0)))):=rfl;have t:=AA (fun (a4 a5:Option Addr) (c4 c5:Nat) (B:World) h2 h3 (R:Bl w B) r3 r4=>O2 d key (data.take (dA data)) (data.drop (dA data)) N I a4 a5 W L c4 c5 B hm a7 h2 h3 (rm.below R) (rk.below R) r3 r4);obtain ⟨A,hA⟩:=uX (dA data);obtain ⟨Cn,hC⟩:=uX (dC data);obtain ⟨P,hP⟩:∃ q:Int,q = (dP data:Nat):=⟨_,rfl⟩;obtain ⟨M,hM⟩:=uX (dM data);rw [<- hA,<- hC,<- hP,<- hM] at HD;rw [<- hA,<- hC] at g s;rw [<- hA] at t;obtain ⟨n1,a0⟩:=uX (d.length);obtain ⟨n2,U⟩:=uX (key.length);obtain ⟨n3,F⟩:=uX (data.length);have O:=AA F;have a8:=AA rd;rw [<- a0,<- U,<- F];rw [<- a0,<- U] at t;rw [<- F] at HD s b0 hn;clear hA hC hP hM a0 U F rm rk a7 rd;go_enter func14,ntmps14;go_wp2_with fail;refine HD.out.mono ?_;rintro e m ⟨v,rfl,⟨vs,FX⟩,b1⟩;obtain ⟨X,cv,rfl⟩:=FX.shape;obtain ⟨Z,a3⟩:=uX ((dL data).length);rw [<- a3];obtain ⟨J,G⟩:=uX (m.alloc (Obj.cells #[.int .i64 (Cn:Int),.int .i64 P,.string M,.slice X Z cv,.int .i64 (A:Int)] 97));obtain ⟨l,Y⟩:=uX (m.heap.size);have z:=uK G Y;have x:Bl w J:=by rw [G];exact b1.trans ((BR _ _).mono b1.size)
 have a2:=AA G;have a6:=AA Y;clear G Y b1 FX a3 HD;go_upto_region 2 with fail
 rw [<- show J = _ from a2,<- show l = _ from a6];clear a2 a6;have d0:=z.c 0;have d4:=z.c 4
 by_cases hC0:Cn = 0
 ·subst hC0;rw [QK rfl,Qp] at g
  by_cases hA0:A = 0
  ·subst hA0;rw [QT (by omega),qJ] at g;clear t s;go_wp2_with fail;go_ret;exact ⟨by rw [g.out];rfl,x⟩
  ·rw [QK hA0,Qp] at g;have c0:=s.out rfl;have b4:¬ (A:Int) = 0:=by omega
   have b9:((A:Int) == 0) = false:=by rw [QP];exact b4
   obtain ⟨b,o,rfl,-⟩:=a8.out.at (k:=0) (by rw [<- O.out];omega);obtain ⟨E,a1⟩:∃ E,(f = A /\ E = o) \/ (¬ f = A /\ E = o + A):=by
    by_cases h:f = A
    ·exact ⟨o,.inl ⟨h,rfl⟩⟩
    ·exact ⟨o + A,.inr ⟨h,rfl⟩⟩
   have b2:=AA a1;have H:(data.take A).length = A:=by rw [QI,<- O.out];omega
   have a9:(data.drop A).length = n3 - A:=by rw [QN,<- O.out]
   have T:Hid (∀ B,Bl w B -> Calls prog 39 #[.slice N n1 W,.slice I n2 L,.slice (some ⟨b,o,none⟩) A f,.slice (some ⟨b,E,none⟩) (n3 - A) (f - A)] B fun e w'=>e = .returned (.int .i64 (Gw d key (data.take A) (data.drop A))) /\ Bl B w'):=by
    intro B R;have r:=a8.out.below R;have h:=t.out (some ⟨b,o,none⟩) (some ⟨b,E,none⟩) f (f - A) B (by rw [H];omega) (by rw [H];omega) R (RowAt.take r A) (by
     rcases a1 with ⟨h1,rfl⟩ | ⟨-,rfl⟩
     ·exact .inl (List.length_eq_zero_iff.1 (by omega))
     ·exact RowAt.drop r A)
    rw [H,a9] at h;exact h
   obtain ⟨K,j⟩:=uX (Gw d key (data.take A) (data.drop A));rw [<- j] at T g;have c3:(A:Int) <= (f:Int):=by omega
   have b6:(A:Int) <= (n3:Int):=by omega
   have b7:(n3:Int) <= (f:Int):=by omega
   clear j a1 H a9 t s
   by_cases hK0:K = 0
   ·subst hK0;rw [QK rfl] at g;go_upto_region 4 with fail
    clear d0 d4;obtain ⟨V,u⟩:=uX (World.drew J);have b3:Bl V V:=Below.refl _ _;have C:Bl J V:=by rw [u];exact (Below.refl _ _).drew
    have i:=x.trans (C.mono x.size);have D:=z.below C z.lt;have p:Hid (∀ {y},Bl V y -> Blk y l 97 [.int .i64 0,.int .i64 P,.string M,.slice X Z cv,.int .i64 (A:Int)]):=fun h=>D.below h D.lt;refine QJ (S:=fun y=>Blk y l 97 [.int .i64 0,.int .i64 P,.string M,.slice X Z cv,.int .i64 (A:Int)]) (by kernel_rfl) (by rw [<- u];exact D) (fun a=>?_);rw [<- u] at a ⊢;clear u C z x;refine tA 0 (.slice N n1 W) a ?_;simp only [put,pS];refine tA 1 (.slice I n2 L) a ?_;simp only [put,pS];refine tA 2 (.slice (some ⟨b,o,none⟩) n3 f) a ?_;simp only [put,pS];refine tA 3 (.pointer (some ⟨l,4,none⟩)) a ?_;simp only [put,pS];refine tC 4 (.int .i64 (A:Int)) rfl (fun m h=>by have hc:m.cell? ⟨l,4,none⟩ = some (.int .i64 (A:Int)):=h.c 4;go_simp) a ?_;simp only [put,pS];refine tA 5 (.slice (some ⟨b,o,none⟩) A f) a ?_;simp only [put,pS];refine tA 6 (.slice (some ⟨b,o,none⟩) n3 f) a ?_;simp only [put,pS];refine tA 7 (.pointer (some ⟨l,4,none⟩)) a ?_;simp only [put,pS];refine tC 8 (.int .i64 (A:Int)) rfl (fun m h=>by have hc:m.cell? ⟨l,4,none⟩ = some (.int .i64 (A:Int)):=h.c 4;go_simp) a ?_;simp only [put,pS];refine tC 9 (.slice (some ⟨b,E,none⟩) (n3 - A) (f - A)) rfl (fun m _=>by rcases b2.out with ⟨hx,hy⟩ | ⟨hx,hy⟩ <;> (rw [hy];go_simp)) a ?_;simp only [put,pS];refine rdy1 10 (fun K j=>?_);go_simp;refine (T.out _ i).mono ?_;rintro e b5 ⟨rfl,n⟩;go_wp2_with fail;refine j.out _ _ (p.out n) (fun a=>?_);clear j K
    try dsimp only [put]
    refine tA 11 (.bool true) a ?_;simp only [put,pS];refine rdy1 12 (fun K j=>?_);go_simp;refine j.out _ _ (p.out n) (fun a=>?_);clear j K
    try dsimp only [put]
    refine QM (by kernel_rfl) ?_ _;have bZ:=n;clear a;go_wp2_with fail;go_ret;exact ⟨by rw [g.out];rfl,i.trans (bZ.mono i.size)⟩
   ·rw [QT hK0] at g;have b8:(K == 0) = false:=by rw [QP];exact hK0
    go_upto_region 4 with fail
    clear d0 d4;obtain ⟨V,u⟩:=uX (World.drew J);have b3:Bl V V:=Below.refl _ _;have C:Bl J V:=by rw [u];exact (Below.refl _ _).drew
    have i:=x.trans (C.mono x.size);have D:=z.below C z.lt;have p:Hid (∀ {y},Bl V y -> Blk y l 97 [.int .i64 0,.int .i64 P,.string M,.slice X Z cv,.int .i64 (A:Int)]):=fun h=>D.below h D.lt;refine QJ (S:=fun y=>Blk y l 97 [.int .i64 0,.int .i64 P,.string M,.slice X Z cv,.int .i64 (A:Int)]) (by kernel_rfl) (by rw [<- u];exact D) (fun a=>?_);rw [<- u] at a ⊢;clear u C z x;refine tA 0 (.slice N n1 W) a ?_;simp only [put,pS];refine tA 1 (.slice I n2 L) a ?_;simp only [put,pS];refine tA 2 (.slice (some ⟨b,o,none⟩) n3 f) a ?_;simp only [put,pS];refine tA 3 (.pointer (some ⟨l,4,none⟩)) a ?_;simp only [put,pS];refine tC 4 (.int .i64 (A:Int)) rfl (fun m h=>by have hc:m.cell? ⟨l,4,none⟩ = some (.int .i64 (A:Int)):=h.c 4;go_simp) a ?_;simp only [put,pS];refine tA 5 (.slice (some ⟨b,o,none⟩) A f) a ?_;simp only [put,pS];refine tA 6 (.slice (some ⟨b,o,none⟩) n3 f) a ?_;simp only [put,pS];refine tA 7 (.pointer (some ⟨l,4,none⟩)) a ?_;simp only [put,pS];refine tC 8 (.int .i64 (A:Int)) rfl (fun m h=>by have hc:m.cell? ⟨l,4,none⟩ = some (.int .i64 (A:Int)):=h.c 4;go_simp) a ?_;simp only [put,pS];refine tC 9 (.slice (some ⟨b,E,none⟩) (n3 - A) (f - A)) rfl (fun m _=>by rcases b2.out with ⟨hx,hy⟩ | ⟨hx,hy⟩ <;> (rw [hy];go_simp)) a ?_;simp only [put,pS];refine rdy1 10 (fun K j=>?_);go_simp;refine (T.out _ i).mono ?_;rintro e b5 ⟨rfl,n⟩;go_wp2_with fail;refine j.out _ _ (p.out n) (fun a=>?_);clear j K
    try dsimp only [put]
    refine tA 11 (.bool false) a ?_;simp only [put,pS];refine rdy1 12 (fun K j=>?_);go_simp;refine j.out _ _ (p.out n) (fun a=>?_);clear j K
    try dsimp only [put]
    refine QM (by kernel_rfl) ?_ _;have bZ:=n;clear a;go_wp2_with fail;go_ret;exact ⟨by rw [g.out];rfl,i.trans (bZ.mono i.size)⟩
 ·rw [QT hC0,qJ] at g;have c1:((Cn:Int) == 0) = false:=by rw [QP];omega
  have c2:¬ (Cn:Int) = 0:=by omega
  clear t s;go_wp2_with fail;go_ret;exact ⟨by rw [g.out];rfl,x⟩
theorem Bm.c5 {w:World} {B a:Nat} {P:Nat -> Prop} {s:SS} {c f b:Value} {d:List Nat} (h:Bm w B a P s c f b d):w.cell? ⟨a,5,none⟩ = some s.hnd:=h.blk.cell 5 (by simp [Fl])
def Hnd (w:World) (hnd:Value) (key:ByteArray) (f:Value):Prop:=∃ b a c n,hnd = .map (some b) /\ w.heap[b]? = some (Obj.map a c) /\ Instr.findNow .string (.string key) a.toList 0 = some (some (n,f))
theorem Hnd.sm {ts:List Nat} {w w':World} {hnd f:Value} {key:ByteArray} (h:Hnd w hnd key f) (k:Sm ts w w'):Hnd w' hnd key f:=by
 obtain ⟨a,g,c,n,i,d,b⟩:=h;exact ⟨a,g,c,n,i,k.stay a _ d (fun _ _ _ e=>by cases e),b⟩
theorem WG {w:World} {hnd f:Value} {key:ByteArray} (h:Hnd w hnd key f):(Instr.lookup 81 hnd (.string key) true).run prog w = .ok (.tuple #[f,.bool true]) w:=by
 obtain ⟨k,j,c,n,rfl,d,a⟩:=h;have g:∀ b,(Instr.checkKey b 10000 9 (.string key)).run prog w = .ok () w:=fun b=>by
  rw [show (10000:Nat) = 9999 + 1 from rfl,Instr.checkKey,Qe,qW underlying9]
  rfl
 have i:(Instr.findKey 9 (.string key) j.toList).run prog w = .ok (some (n,f)) w:=by
  unfold Instr.findKey;rw [Qe,qW underlying9 w];simp only [Result.andThen];rw [a]
  rfl
 unfold Instr.lookup;rw [Qe,qW underlying81 w];simp only [Result.andThen];rw [Qe,I9 d];simp only [Result.andThen];rw [Qe,ql];simp only [Result.andThen];rw [Qe,g];simp only [Result.andThen];rw [Qe,i]
 rfl
def Gj (l:List (Nat × LU)):List (Int × LU):=l.map fun p=>((p.1:Int),p.2)
theorem Dx (l:List (Nat × LU)):(Gj l).length = l.length:=by unfold Gj;simp
theorem Lu (l:List (Nat × LU)) (i:Nat) (a:i < l.length):(Gj l).getD i (0,[]) = (((l.getD i (0,[])).1:Int),(l.getD i (0,[])).2):=by
 unfold Gj;rw [QA,List.getElem?_map,QA,List.getElem?_eq_getElem a]
 rfl
theorem Uo {w:World} {lo:Nat} {v:Value} {l:List (Nat × LU)} {vs:List Value} (h:Fs w lo v l vs):Fv w v (Gj l) vs /\ Rws w (Gj l) vs:=by
 refine ⟨⟨by rw [Dx];exact h.len,by rw [Dx];exact EV h.row,fun i b=>?_⟩,fun i b=>?_⟩
 ·rw [Dx] at b ⊢;rw [Lu l i b];obtain ⟨j,f⟩:=fldCells_at l vs h.len i b;rcases h.row.2 with ⟨d,hz⟩ | ⟨g,c,k,d,-⟩
  ·omega
  ·have row:=h.row;subst d;exact ⟨g,0,c,rfl,by rw [QZ,row.cellAt (i * 2) (by omega),j],by rw [QZ,row.cellAt (i * 2 + 1) (by omega),f]⟩
 ·rw [Dx] at b;rw [Lu l i b];obtain ⟨a,c,e,r,-⟩:=(h.own i b).shape;exact ⟨a,c,e,r⟩
abbrev IX:List Value:=[.int .i64 0,.string ByteArray.empty,.slice none 0 0,.string ByteArray.empty,.slice none 0 0]
theorem Tryz.zeroAr:(prog.info? 219).map (fun i=>(i.zero,i.size)) = some (some (.agg IX.toArray),5):=by kernel_rfl
def tkW (c:Int) (W:List Ent):List Ent:=W.filter (fun e=>!decide (e.2.2.2.2 < c))
def tkL (c:Int) (W:List Ent):List (Int × Int × ByteArray):=(W.filter (fun e=>decide (e.2.2.2.2 < c))).map (fun e=>(68,e.1,e.2.1))
def PL (B:Nat) (v:Value):Nat -> Prop:=fun k=>B <= k /\ v.ownBlock ≠ some k
theorem Bm.clock {w:World} {B a:Nat} {P:Nat -> Prop} {s:SS} {d g c:Value} {f:List Nat} (h:Bm w B a P s d g c f) (k:Int):Bm (w.setCell ⟨a,6,none⟩ (.int .i64 k)) B a P { s with clock:=k } d g c f /\ Below B w (w.setCell ⟨a,6,none⟩ (.int .i64 k)) /\ Sm KT w (w.setCell ⟨a,6,none⟩ (.int .i64 k)):=by
 have b:=Sm.setCell (ts:=[84]) h.blk (by simp) 6 (.int .i64 k);exact ⟨⟨h.lo,h.blk.set 6 _,h.ents.sm b (by decide),Bd h.wrow b (by decide),Bd h.srow b (by decide),Bd h.lrow b (by decide),h.pS,h.pw,h.pv,h.pl⟩,(Below.refl _ _).setCell h.lo _,b.mono (by decide)⟩
theorem Xe (i:Nat) (l N:Int) (d:Value) (w:World) (Q:Ending -> World -> Prop) (h:Calls prog 74 #[.pointer (some ⟨i,0,none⟩),.int .i64 l,d] (w.alloc (Obj.cells #[.int .i64 1,.int .i64 l,.int .i64 N,d] 38)) Q) (j:∀ e w',Q e w' -> e = .returned (.tuple #[])) :
 Calls prog 28 #[.pointer (some ⟨i,0,none⟩),.agg #[.int .i64 1,.int .i64 l,.int .i64 N,d]] w Q:=by
 obtain ⟨W,f⟩:=uX (w.alloc (Obj.cells #[.int .i64 1,.int .i64 l,.int .i64 N,d] 38));obtain ⟨n,a⟩:=uX (w.heap.size);have b:=uK f a;rw [<- f] at h;have r:=b.c 0;have p:=b.c 1;have q:=b.c 3;have H:=AA h;have o:=AA j;have m:=AA f;have g:=AA a;clear h j f a b;go_enter func28,ntmps28;go_upto_region 1 with fail;rw [<- show W = _ from m,<- show n = _ from g];go_wp2_with fail;refine H.out.mono ?_;intro e w2 k;obtain rfl:=o.out _ _ k;go_wp2_with fail;go_end0;exact k
def G2 (w:World) (r:Nat) (a:Array MapEntry) (c:Nat) (key:ByteArray) (v:Value):World:={ w with heap:=w.heap.setIfInBounds r (.map (a.push { key:=.string key,val:=v,born:=c }) (c + 1)) }
theorem MA (r:Nat) (a:Array MapEntry) (c:Nat) (key:ByteArray) (v:Value) (w:World) (f:w.heap[r]? = some (.map a c)) (g:Instr.findNow .string (.string key) a.toList 0 = some none) :
 (Instr.mapUpdate 81 (.map (some r)) (.string key) v).run prog w = .ok () (G2 w r a c key v):=by
 have i:∀ b,(Instr.checkKey b 10000 9 (.string key)).run prog w = .ok () w:=fun b=>by
  rw [show (10000:Nat) = 9999 + 1 from rfl,Instr.checkKey,Qe,qW underlying9]
  rfl
 have d:(Instr.findKey 9 (.string key) a.toList).run prog w = .ok none w:=by
  unfold Instr.findKey;rw [Qe,qW underlying9 w];simp only [Result.andThen];rw [g]
  rfl
 unfold Instr.mapUpdate;rw [Qe,qW underlying81 w];simp only [Result.andThen];rw [Qe,I9 f];simp only [Result.andThen];rw [Qe,i];simp only [Result.andThen];rw [Qe,d];simp only [Result.andThen];simp [setObj,Sem.run,f,G2]
theorem Kr {w:World} {r:Nat} {a:Array MapEntry} {c:Nat} (key:ByteArray) (v:Value) (b:w.heap[r]? = some (.map a c)):(G2 w r a c key v).heap[r]? = some (.map (a.push { key:=.string key,val:=v,born:=c }) (c + 1)):=by
 unfold G2;have:=(Array.getElem?_eq_some_iff.1 b).1;simp [this]
theorem Hw {w:World} {r k:Nat} (a:Array MapEntry) (c:Nat) (key:ByteArray) (v:Value) (b:k ≠ r):(G2 w r a c key v).heap[k]? = w.heap[k]?:=by
 unfold G2;show (w.heap.setIfInBounds r _)[k]? = _;rw [Array.getElem?_setIfInBounds_ne (by omega)]
theorem Ve (w:World) (r:Nat) (a:Array MapEntry) (c:Nat) (key:ByteArray) (v:Value):(G2 w r a c key v).heap.size = w.heap.size:=by unfold G2;simp
def hFn (a F:Nat):Value:=.func (Fn.func F) #[.pointer (some ⟨a,0,none⟩)] #[]
def Ut (mst lnk rts a:Value) (room:Int) (b:Nat):SS:={ mst:=mst,lnk:=lnk,rts:=rts,room:=room,kys:=a,hnd:=.map (some b),clock:=0,drw:=.slice none 0 0,next:=1,W:=[],S:=[],L:=[] }
theorem JU {B:Nat} {a w:World} (h:Below B a w) {r:Nat} (d:B <= r) (b:Array MapEntry) (c:Nat) (key:ByteArray) (v:Value):Below B a (G2 w r b c key v) :=
 h.trans ⟨rfl,rfl,rfl,by rw [Ve];exact QE _,fun k f=>Hw b c key v (by omega)⟩
theorem Nt (x B A J:Option Addr) (nm D z y C v N O:Nat) (room:Int) (w:World) :
 Calls prog 27 #[.agg #[.slice x nm D,.slice B z y,.slice A C v,.int .i64 room],.slice J N O] w fun e w' =>
  ∃ b a,e = .returned (.pointer (some ⟨b,0,none⟩)) /\ Ses w' w.heap.size b (fun k=>w.heap.size <= k) (Ut (.slice x nm D) (.slice B z y) (.slice A C v) (.slice J N O) room a) /\ Hnd w' (.map (some a)) ⟨#[48,49,48,48]⟩ (hFn b 70) /\ (Hnd w' (.map (some a)) ⟨#[48,56,48,48]⟩ (hFn b 72) /\ ∃ j c,w'.heap[a]? = some (Obj.map j c) /\ Instr.findNow .string (.string ⟨#[48,57,48,48]⟩) j.toList 0 = some none) /\ Bl w w':=by
 obtain ⟨W,U⟩:=uX (w.alloc (Obj.cells #[.slice x nm D,.slice B z y,.slice A C v,.int .i64 room] 26));obtain ⟨gC,H⟩:=uX (w.heap.size);have kC:=uK U H;have Z:=uB U;obtain ⟨b,s⟩:=uX (W.heap.size);obtain ⟨G,r⟩:=uX (W.alloc (Obj.cells #[.slice x nm D,.slice B z y,.slice A C v,.int .i64 room,.slice J N O,.map none,.int .i64 0,.slice none 0 0,.int .i64 1,.slice none 0 0,.slice none 0 0,.slice none 0 0] 84));have k2:=uK r s;have V:Bl w G:=by rw [r];exact Z.alloc Z.size _
 have F:w.heap.size <= b:=by rw [s];exact Z.size
 obtain ⟨a,q⟩:=uX (G.heap.size);obtain ⟨M,m⟩:=uX (G.alloc (Obj.map #[] 0));have a3:(Instr.makeMap 81 none).run prog G = .ok (.map (some a)) M:=by rw [m,q];rfl
 have m3:M.heap[a]? = some (Obj.map #[] 0):=by rw [m,q];exact heap_alloc_new _ _
 have T:=k2.alloc (Obj.map #[] 0);rw [<- m] at T;have b3:Bl w M:=by rw [m];exact V.alloc V.size _
 have p:b ≠ a:=by have:=k2.lt;omega
 have L:w.heap.size <= a:=by rw [q];exact V.size
 obtain ⟨W4,n⟩:=uX (G2 M a #[] 0 ⟨#[48,49,48,48]⟩ (hFn b 70));have p4:=MA a #[] 0 ⟨#[48,49,48,48]⟩ (hFn b 70) M m3 rfl;have I:=Kr ⟨#[48,49,48,48]⟩ (hFn b 70) m3;rw [<- n] at p4 I;obtain ⟨Y,d⟩:∃ j:Array MapEntry,j = (#[]:Array MapEntry).push { key:=.string ⟨#[48,49,48,48]⟩,val:=hFn b 70,born:=0 }:=⟨_,rfl⟩;rw [<- d] at I;obtain ⟨W5,t⟩:=uX (G2 W4 a Y 1 ⟨#[48,49,49,48]⟩ (hFn b 71));have p5:=MA a Y 1 ⟨#[48,49,49,48]⟩ (hFn b 71) W4 I (by rw [d];rfl);have E:=Kr ⟨#[48,49,49,48]⟩ (hFn b 71) I;rw [<- t] at p5 E;obtain ⟨E5,f⟩:∃ j:Array MapEntry,j = Y.push { key:=.string ⟨#[48,49,49,48]⟩,val:=hFn b 71,born:=1 }:=⟨_,rfl⟩;rw [<- f] at E;obtain ⟨l,o⟩:=uX (G2 W5 a E5 2 ⟨#[48,56,48,48]⟩ (hFn b 72));have p6:=MA a E5 2 ⟨#[48,56,48,48]⟩ (hFn b 72) W5 E (by rw [f,d];rfl);have m6:=Kr ⟨#[48,56,48,48]⟩ (hFn b 72) E;rw [<- o] at p6 m6;have b4:Bl w W4:=by rw [n];exact JU b3 L _ _ _ _
 have b5:Bl w W5:=by rw [t];exact JU b4 L _ _ _ _
 have b6:Bl w l:=by rw [o];exact JU b5 L _ _ _ _
 have X:Blk l b 84 [.slice x nm D,.slice B z y,.slice A C v,.int .i64 room,.slice J N O,.map none,.int .i64 0,.slice none 0 0,.int .i64 1,.slice none 0 0,.slice none 0 0,.slice none 0 0]:=by
  unfold Blk at T ⊢;rw [o,Hw _ _ _ _ p,t,Hw _ _ _ _ p,n,Hw _ _ _ _ p];exact T
 have c5:=X.c 5;have f5:=X.free 5;have k7:=X.set 5 (.map (some a));have R:(l.setCell ⟨b,5,none⟩ (.map (some a))).heap[a]? = _:=(Below.heap_setCell l ⟨b,5,none⟩ (.map (some a)) a (Ne.symm p)).trans m6;have u:Hid (Ses (l.setCell ⟨b,5,none⟩ (.map (some a))) w.heap.size b (fun k=>w.heap.size <= k) (Ut (.slice x nm D) (.slice B z y) (.slice A C v) (.slice J N O) room a) /\ Hnd (l.setCell ⟨b,5,none⟩ (.map (some a))) (.map (some a)) ⟨#[48,49,48,48]⟩ (hFn b 70) /\ (Hnd (l.setCell ⟨b,5,none⟩ (.map (some a))) (.map (some a)) ⟨#[48,56,48,48]⟩ (hFn b 72) /\ ∃ j c,(l.setCell ⟨b,5,none⟩ (.map (some a))).heap[a]? = some (Obj.map j c) /\ Instr.findNow .string (.string ⟨#[48,57,48,48]⟩) j.toList 0 = some none) /\ Bl w (l.setCell ⟨b,5,none⟩ (.map (some a)))) :=
  ⟨⟨.slice none 0 0,.slice none 0 0,.slice none 0 0,[],F,k7,⟨rfl,fun i hi=>absurd hi (Qj i)⟩,Qa _ _ _ _,Qa _ _ _ _,Qa _ _ _ _,F,(fun g e=>by cases e),(fun g e=>by cases e),(fun g e=>by cases e)⟩,⟨a,_,_,0,rfl,R,by rw [f,d];rfl⟩,⟨⟨a,_,_,2,rfl,R,by rw [f,d];rfl⟩,_,_,R,by rw [f,d];rfl⟩,b6.setCell F _⟩
 have HW:=AA U;have a1:=AA r;have a2:=AA H;have a0:=AA s;clear U r H s q m n t o d f m3 I E m6 R k7 X T b3 b4 b5 b6 V;unfold hFn at p4 p5 p6;go_enter func27,ntmps27;go_upto_region 1 with fail
 rw [<- show W = _ from HW,<- show gC = _ from a2];go_upto_region 2 with (refine AL rfl 26 _ rfl gC rfl kC underlying26 rfl (by kernel_rfl) ?_)
 rw [<- show G = _ from a1,<- show b = _ from a0];go_wp2_with fail;go_ret;exact ⟨b,a,rfl,u.out.1,u.out.2.1,u.out.2.2.1,u.out.2.2.2⟩
end Go.Proofs.YtbkokcjolanpeaaGreatDoor
