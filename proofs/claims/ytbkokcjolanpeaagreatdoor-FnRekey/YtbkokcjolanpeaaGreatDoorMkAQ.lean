import Derived.Test.YtbkokcjolanpeaaGreatDoorMkAOb
import Derived.Test.YtbkokcjolanpeaaGreatDoorMkAP
set_option maxRecDepth 100000
set_option maxHeartbeats 5000000
namespace Go.Proofs.YtbkokcjolanpeaaGreatDoor
open Go.RowKit Go.Proofs.Tryz Act
theorem D9 {m k d:LU} (h:opB m k d = true):d.length <= 4096:=by
 unfold opB at h;rw [Qm] at h;exact (TO (JD h.1)).1
theorem MF (n u g:Nat):(keyQ n u g).length = 16:=by unfold keyQ;rw [QQ,QQ];rfl
theorem JV (n:Nat):DR n 2 1 = AY masterL (keyQ n 2 1) 2 1:=by
 unfold DR Mr;rw [if_pos (by unfold okW;exact ⟨rfl,MF n 2 1,by omega,by omega,by omega,by omega⟩),Int.toNat_natCast,Int.toNat_natCast]
def IW (b a c:LU) (i:Nat):LU :=
 [Ah masterL b ⟨#[48,56,48,48]⟩ (keyL a),Ah masterL b ⟨#[48,56,48,48]⟩ (keyL a),Ah masterL b ⟨#[48,57,48,48]⟩ Cm,Ah masterL a ⟨#[48,57,48,48]⟩ Cm,Ah masterL a ⟨#[48,56,48,48]⟩ (keyL c),Ah masterL b ⟨#[48,57,48,48]⟩ Cm,Ah masterL c ⟨#[48,56,48,48]⟩ (keyL a)].getD i []
def Nu (b:Bool) (i:Nat):Int:=[0,0,12,12,0,if b then 12 else 63,12].getD i 0
theorem km7 (M a b c g d k l f:LU) (j:M = masterL) (i:Nat):(kmD (msK M a b c g d k l f) i).D = IW a b c i:=by
 subst j
 match i with
 | 0=>rfl
 | 1=>rfl
 | 2=>rfl
 | 3=>rfl
 | 4=>rfl
 | 5=>rfl
 | 6=>rfl
 | n + 7=>rfl
theorem Ok (k a c:LU) (d b g:LU) (v:k = AY masterL d 2 1) (l:a = AY masterL b 2 2) (n:c = AY masterL g 2 3) (r:d.length = 16) (o:b.length = 16) (u:g.length = 16) (i:Nat) (z:i < 7):(IW k a c i).length <= 4096:=by
 have p:a.length = 36:=by rw [l];exact Bp _ _ _ _ rfl
 have t:c.length = 36:=by rw [n];exact Bp _ _ _ _ rfl
 obtain ⟨D,-,f⟩:=JM masterL d a 1 rfl r (by omega) p;obtain ⟨C,-,j⟩:=LF masterL d 1 rfl r (by omega);obtain ⟨B,-,q⟩:=LF masterL b 2 rfl o (by omega);obtain ⟨A,-,m⟩:=JM masterL b c 2 rfl o (by omega) t;obtain ⟨y,-,s⟩:=JM masterL g a 3 rfl u (by omega) p;rw [<- v] at f j;rw [<- l] at q m;rw [<- n] at s;have x:i = 0 \/ i = 1 \/ i = 2 \/ i = 3 \/ i = 4 \/ i = 5 \/ i = 6:=by omega
 rcases x with rfl | rfl | rfl | rfl | rfl | rfl | rfl
 ·exact D9 f
 ·exact D9 f
 ·exact D9 j
 ·exact D9 q
 ·exact D9 m
 ·exact D9 j
 ·exact D9 s
def cQ (l:Nat) (N:Nat -> Nat) (a:Nat -> Option Addr × Nat):List Value:=(List.range 7).flatMap fun i=>[.int .i64 1,.int .i64 (l:Int),.int .i64 0,.slice (a i).1 (N i) (a i).2]
theorem YJ {w:World} {d l:Nat} {b:List KM} {N:Nat -> Nat} {a:Nat -> Option Addr × Nat} (p:∀ i,i < 7 -> (kmD b i).D.length = N i) (g:b.length = 7) (k:Blk w d 38 (cQ l N a)):DA 4 w (some ⟨d,0,none⟩) ((List.range b.length).map (kmC l b a)):=by
 intro i c;rw [QD,qj] at c;rw [Nw l b a i c];rw [g] at c;rw [p i c];refine ⟨d,0,rfl,rfl,fun j n=>?_⟩;have f:=Nd (fun i=>[Value.int .i64 1,.int .i64 (l:Int),.int .i64 0,.slice (a i).1 (N i) (a i).2]) 4 (fun _=>rfl) (List.range 7) i (by rw [qj];exact c) j n;rw [List.getElem_range] at f;have m:=ZE k (i * 4 + j) (([Value.int .i64 1,.int .i64 (l:Int),.int .i64 0,.slice (a i).1 (N i) (a i).2]).getD j undef) (by
  show ((List.range 7).flatMap _)[i * 4 + j]? = _;rw [f];have o:j = 0 \/ j = 1 \/ j = 2 \/ j = 3:=by omega
  rcases o with rfl | rfl | rfl | rfl <;> rfl)
 rw [QZ] at m ⊢;exact m
theorem Wa {w:World} {c:Nat} {x0 x1:Addr} {gM:Nat} {X:Option Addr} {V:Nat} (H:Rm w c x0 x1 gM X V [] none) (l:Nat) (x:l < 3) (F u:LU) (U:F.length = 16) (E:u.length = 16) (g f b:LU) (T:g = DR l 2 1) (A:f = AY masterL F 2 2) (z:b = AY masterL u 2 3)
 (hn:opB masterL f (IW g f b 0) = false) (cl W:Nat) (N:Nat -> Nat) (hN:∀ i,i < 7 -> (IW g f b i).length = N i) (j:Nat -> Option Addr × Nat) (k:Blk w W 38 (cQ l N j)) (hr:∀ i,i < 7 -> RowAt w (j i).1 (IW g f b i) /\ N i <= (j i).2) :
 Calls prog 8 #[.agg #[.slice (some ⟨gM,0,none⟩) 16 16,.slice X 3 cl,.slice (some ⟨V,0,none⟩) 6 6,.int .i64 ((1 + c % 4:Nat):Int)],.slice (some ⟨W,0,none⟩) 7 7] w fun e w' =>
  (∃ (q C G cS cL Y:Nat) (d:Nat -> LU) (y:Nat -> Option Addr × Nat),e = .returned (.agg #[.int .i64 0,.slice (some ⟨q,0,none⟩) 4 cS,.slice (some ⟨C,0,none⟩) 7 cL,.int .i64 0,.slice (some ⟨G,0,none⟩) 3 Y]) /\ (∀ i,i < 4 -> w'.cell? ⟨q,i * 2 + 1,none⟩ = some (.slice (y i).1 (d i).length (y i).2) /\ RowAt w' (y i).1 (d i) /\ (d i).length <= (y i).2 /\ (d i).length <= 4096) /\ d 0 = d 1 /\ opB masterL g (d 0) = true /\ opB masterL f (d 2) = true /\ opB masterL b (d 3) = true /\
   (∀ i,i < 7 -> w'.cell? ⟨C,i * 3,none⟩ = some (.int .i64 (Nu (opB masterL b (IW g f b 5) || opB masterL f (IW g f b 5)) i))) /\ w'.cell? ⟨G,l,none⟩ = some (.int .i64 3)) /\ Bl w w':=by
 have t:=JV l;rw [<- T] at t;have r:=MF l 2 1;obtain ⟨m1,m2,m3,m4,m5,hS,hO⟩:=ok7 masterL (keyQ l 2 1) F u l rfl r U E (by rw [<- t,<- A];exact hn);rw [<- t,<- A,<- z] at hS hO;obtain ⟨Z,p⟩:=uX (msK masterL g f b m1 m2 m3 m4 m5);have m:Z.length = 7:=by rw [p];rfl
 have hD:∀ i,(kmD Z i).D = IW g f b i:=fun i=>by rw [p];exact km7 _ _ _ _ _ _ _ _ _ rfl i
 obtain ⟨QL,O,hQ,a9⟩:=H.lk.elt;have v:∀ i,i < 3 -> DE ((List.range 3).map (lkN c)) i = DR i 2 1:=fun i a=>by
  unfold DE;rw [GA c i a]
  rfl
 have hq:=XM masterL rfl ((List.range 3).map (lkN c)) (by rw [GG];omega) (by rw [GG];omega) (fun i a=>by rw [GG] at a;rw [GA c i a];exact cZ c i) (fun i a=>by rw [GG] at a;rw [v i a,JV i,Bp _ _ _ _ rfl];omega) QL qrN (by rw [O,GG]) I0 rfl (by decide) ((1 + c % 4:Nat):Int) (by omega) (by omega) a9 (by rw [O];exact dH)
  (some ⟨gM,0,none⟩) X (some ⟨V,0,none⟩) (some ⟨W,0,none⟩) 16 cl 6 7 x0 x1 l (by rw [GG];exact x) Z j (by omega) w H.hs H.hT H.rm H.lk hQ H.rt.elt (YJ (fun i a=>by rw [hD i];exact hN i a) m k) (fun i a=>by
   rw [m] at a;rw [hD i];exact ⟨(hr i a).1,by rw [hN i a];exact (hr i a).2,Ok g f b _ F u t A z r U E i a⟩) (fun i a=>by
   rw [v l x,<- T,p];exact hO i (by rw [m] at a;exact a))
 rw [GG,m,v l x,<- T] at hq;have L:=hS 7 (QE _);rw [<- p] at L;rw [L] at hq;refine hq.mono ?_;rintro e w' ⟨⟨B,Bg,aS,aL,aG,cS,cL,Y,S,rfl,rS,rL,rG,a5,o⟩,hb⟩;have a8:S.length = 4:=a5;rw [a8] at rS ⊢;obtain ⟨q,rfl,-,b3,a7⟩:=Uy rS (by omega);obtain ⟨C,rfl,-,b4,a4⟩:=Uy (n:=7) rL (by omega);obtain ⟨G,rfl,-,b2,a6⟩:=Uy rG (by omega);obtain ⟨a0,k0,s0,r0,l0⟩:=o 0 (by show (0:Nat) < 4;decide);obtain ⟨a1,k1,s1,r1,l1⟩:=o 1 (by show (1:Nat) < 4;decide);obtain ⟨a2,k2,s2,r2,l2⟩:=o 2 (by show (2:Nat) < 4;decide);obtain ⟨a3,k3,s3,r3,l3⟩:=o 3 (by show (3:Nat) < 4;decide);have s:opB masterL g (Da masterL g s9 0) = true:=by rw [t];exact Kx masterL _ 1 rfl r (by omega) 0 (.inl rfl)
 have I:opB masterL f (Da masterL f s9 0) = true:=by rw [A];exact Kx masterL _ 2 rfl U (by omega) 0 (.inl rfl)
 have J:opB masterL b (Da masterL b s9 12) = true:=by rw [z];exact Kx masterL _ 3 rfl E (by omega) 12 (.inr rfl)
 have sc:∀ i,i < 4 -> w'.cell? ⟨q,i * 2 + 1,none⟩ = some (S.getD i (0,undef)).2:=fun i a=>by
  rw [a7 (i * 2 + 1) (by omega),Nd Jj 2 (fun _=>rfl) S i (by omega) 1 (by omega),QA,List.getElem?_eq_getElem (show i < S.length by omega)]
  rfl
 refine ⟨⟨q,C,G,cS,cL,Y,fun i=>[Da masterL g s9 0,Da masterL g s9 0,Da masterL f s9 0,Da masterL b s9 12].getD i [],fun i=>[(a0,k0),(a1,k1),(a2,k2),(a3,k3)].getD i (none,0),rfl,fun i a=>?_,rfl,s,I,J,fun i a=>?_,?_⟩,hb⟩
 ·rw [sc i a];have h4:i = 0 \/ i = 1 \/ i = 2 \/ i = 3:=by omega
  rcases h4 with rfl | rfl | rfl | rfl
  ·rw [s0];exact ⟨rfl,r0,l0,D9 s⟩
  ·rw [s1];exact ⟨rfl,r1,l1,D9 s⟩
  ·rw [s2];exact ⟨rfl,r2,l2,D9 I⟩
  ·rw [s3];exact ⟨rfl,r3,l3,D9 J⟩
 ·have h:=a4 (i * 3) (by omega);rw [h];have h7:i = 0 \/ i = 1 \/ i = 2 \/ i = 3 \/ i = 4 \/ i = 5 \/ i = 6:=by omega
  rcases h7 with rfl | rfl | rfl | rfl | rfl | rfl | rfl <;> rfl
 ·rw [a6 l (by omega),List.getElem?_map];have R:=TQ ((List.range 3).map (lkN c)) l b l (by rw [GG];exact x);rw [if_pos rfl,QA] at R;have M:l < (kkN ((List.range 3).map (lkN c)) l b).length:=by rw [JO,GG];exact x
  rw [List.getElem?_eq_getElem M] at R;have b0:(kkN ((List.range 3).map (lkN c)) l b)[l] = b:=R;show Option.map (L7 masterL) ((kkN ((List.range 3).map (lkN c)) l b)[l]?) = _;rw [List.getElem?_eq_getElem M,b0];show some (Value.int .i64 (opG masterL b)) = _;rw [z,(Ff masterL u 3 rfl E (by omega)).2.2.2.1]
  rfl
theorem Yb {α:Type} (l:List α) (k:Nat) (v:α) (h:l[k]? = some v):l.set k v = l:=by
 induction l generalizing k with
 | nil=>simp at h
 | cons a l ih =>
   cases k with
   | zero=>simp at h;rw [qw,h]
   | succ k=>rw [List.set_cons_succ,ih k (by simpa using h)]
def FD (b:LU) (a n:Nat):LU:=(List.range n).map fun i=>b.getD (a + i) 0
theorem Gi (b:LU) (a n:Nat):(FD b a n).length = n:=by simp [FD]
theorem Yp (b:LU) (a n i:Nat) (h:i < n):(FD b a n)[i]'(by rw [Gi];exact h) = b.getD (a + i) 0:=by simp [FD]
theorem NJ (b:LU) (a n:Nat) (J:Option Addr) (L:Nat) (w:World) (T:b.length <= 1048576) (hs:a <= 1024) (Z:n <= 1024) (U:RowAt w J b) :
 Calls prog 11 #[.slice J b.length L,.int .i64 (a:Int),.int .i64 (n:Int)] w fun e w'=>e = .returned (.slice (some ⟨w.heap.size,0,none⟩) n n) /\ AO w' w.heap.size (.slice (some ⟨w.heap.size,0,none⟩) n n) (FD b a n) /\ Bl w w':=by
 obtain ⟨X,V,H,I,G⟩:=Qg Tryz.info5;have r:=Gi b a n;obtain ⟨m,A⟩:=uX (b.length);have v:=Aa A;rw [<- A] at T ⊢;clear A;go_enter func11,ntmps11;go_wp2_with (at_make;refine Qv _ rfl _ _ 22 rfl w.heap.size 5 X (.int .u8 0) 1 underlying22 V H I .i64 .i64 _ _ n rfl rfl rfl rfl (by rw [G];omega) (by unfold maxLen;omega) (QE _) ?_;intro W o j)
 have O:Blk W w.heap.size 5 (EK (FD b a n) 0):=by rw [KC,r,<- Cl];exact C8 o
 have D:=Ac j;clear o j
 go_loopw [8,13] (fun _ i wr=>∃ k:Nat,k <= n /\ i = .int .i64 k /\ Blk wr w.heap.size 5 (EK (FD b a n) k) /\ Bl w wr) (fun _ i _=>n - (intOf i).toNat)
 case atStart=>exact ⟨0,QU _,rfl,O,D⟩
 case round =>
  clear O D;obtain ⟨k,hk,rfl,f,d⟩:=hrel
  by_cases hlt:k < n
  ·have Y:(k:Int) < (n:Int):=by omega
   have y:=Lb (FD b a n) k (by omega);have c:=L3 (FD b a n) k (by omega);rw [Yp b a n k hlt] at c;obtain ⟨u,hu⟩:∃ u,wr.cell? ⟨w.heap.size,k,none⟩ = some u:=⟨_,f.cell k (by omega)⟩;have hf:=f.free k
   by_cases hin:a + k < m
   ·obtain ⟨g,C,rfl,B⟩:=U.at (k:=a + k) (by have:=v.out;omega);have z:wr.cell? ⟨g,C + (a + k),none⟩ = some (.int .u8 ((b.getD (a + k) 0).toNat:Int)):=(d.cell (RowAt.lt B (k:=a + k) (by have:=v.out;omega))).trans (B _ (by have:=v.out;omega));have t:=f.set k (byte (b.getD (a + k) 0));rw [c] at t;obtain ⟨x,E⟩:=uX (b.getD (a + k) 0);rw [<- E] at z t;obtain ⟨q,s⟩:=uX (a + k);rw [<- s] at z hin;have F:IntKind.i64.wrap ((a:Int) + (k:Int)) = (q:Int):=by rw [QH];omega
    have N:(q:Int) < (m:Int):=by omega
    have R:=d.setCell (p:=⟨w.heap.size,k,none⟩) (QE _) (byte x);clear E s c y f B;go_wp2;go_roundw
    case rel=>exact ⟨k + 1,by omega,by go_num,t,R⟩
    case measure=>simp [intOf];omega
   ·have hz:b.getD (a + k) 0 = 0:=by
     rw [QA,List.getElem?_eq_none (by have:=v.out;omega)];rfl
    have l:EK (FD b a n) (k + 1) = EK (FD b a n) k:=by
     rw [<- c,hz];have e:(EK (FD b a n) k)[k]? = some (byte 0):=by
      unfold EK;have M:((FD b a n).take k).length = k:=by rw [QI];omega
      rw [List.getElem?_append_right (by rw [QD,M];exact QE _),QD,M,JF];rw [List.getElem?_replicate,if_pos (by omega)];rfl
     exact Yb _ _ _ e
    rw [<- l] at f;obtain ⟨q,s⟩:=uX (a + k);rw [<- s] at hin;have F:IntKind.i64.wrap ((a:Int) + (k:Int)) = (q:Int):=by rw [QH];omega
    have N:¬ ((q:Int) < (m:Int)):=by omega
    clear s c y l hz;go_wp2;go_roundw
    case rel=>exact ⟨k + 1,by omega,by go_num,f,d⟩
    case measure=>simp [intOf];omega
  ·obtain rfl:k = n:=by omega
   go_wp2;go_ret;have e:=L6 (FD b a k);rw [r] at e;rw [e] at f;have:=LC f (QE _) (by rw [r];unfold maxLen;omega);rw [r] at this;exact ⟨rfl,this,d⟩
def pickN (b:LU) (i:Nat):Nat:=if b.length = 0 then 0 else (b.getD (i % b.length) 0).toNat
theorem SD (b:LU) (i:Nat) (l:Option Addr) (o:Nat) (w:World) (r:b.length <= 1048576) (B:i <= 1024) (j:RowAt w l b) :
 Calls prog 9 #[.slice l b.length o,.int .i64 (i:Int)] w fun e w'=>e = .returned (.int .i64 (pickN b i:Nat)) /\ w' = w:=by
 unfold pickN
 by_cases h0:b.length = 0
 ·rw [if_pos h0,h0];go_enter func9,ntmps9;go_wp2;go_ret;exact ⟨rfl,rfl⟩
 ·rw [if_neg h0];obtain ⟨m,d⟩:=uX (b.length);obtain ⟨q,c⟩:=uX (i % b.length);have a:q < b.length:=by rw [c];exact Nat.mod_lt _ (by omega)
  obtain ⟨g,s,rfl,p⟩:=j.at (k:=q) a;have n:=p q a;have y:Int.tmod (i:Int) (m:Int) = (q:Int):=by rw [Qk (by omega),c,d];exact (Int.natCast_emod i b.length).symm
  have v:(i:Int) % (m:Int) = (q:Int):=by rw [c,d];exact (Int.natCast_emod i b.length).symm
  rw [<- c];obtain ⟨x,f⟩:∃ x:Nat,x = (b.getD q 0).toNat:=⟨_,rfl⟩;have A:x < 256:=by rw [f];exact QW _
  rw [<- f] at n ⊢;rw [<- d] at h0 r a ⊢;have u:¬ ((m:Int) = 0):=by omega
  have t:(q:Int) < (m:Int):=by omega
  have z:IntKind.i64.wrap (x:Int) = (x:Int):=by rw [QH];omega
  clear f c d p j;go_enter func9,ntmps9;go_wp2;go_ret;exact ⟨rfl,rfl⟩
end Go.Proofs.YtbkokcjolanpeaaGreatDoor
