import Derived.Test.YtbkokcjolanpeaaGreatDoorMkRc
import Derived.Test.YtbkokcjolanpeaaGreatDoorMkAI
import Derived.Test.YtbkokcjolanpeaaGreatDoorMkAJ
set_option maxRecDepth 100000
set_option maxHeartbeats 10000000
namespace Go.Proofs.YtbkokcjolanpeaaGreatDoor
open Go.RowKit Go.Proofs.Tryz Act
theorem Kp.setRow (w:World) (g:Nat) (cs:Array Value):Kp (fun q=>q = g) w (w.setRow g cs):=fun i _ a=>setRow_other w g i _ a
theorem JK (w:World) (a b:Addr) (v:Value):(w.setCell a v).frozen? b = w.frozen? b:=World.frozen?_setCell w a b v
theorem Ses.stay {w w':World} {B b:Nat} {P:Nat -> Prop} {s:SS} (h:Ses w B b P s) (m:s.W = []) (k:Kp (fun q=>¬ P q) w w'):Ses w' B b P s:=by
 obtain ⟨f,l,d,j,h⟩:=h;refine ⟨f,l,d,j,h.lo,(k b h.blk.lt (fun e=>e h.pS)).trans h.blk,⟨h.ents.1,fun i c=>?_⟩,IZ h.wrow k (fun g a e=>e (h.pw g a)),IZ h.srow k (fun g a e=>e (h.pv g a)),IZ h.lrow k (fun g a e=>e (h.pl g a)),h.pS,h.pw,h.pv,h.pl⟩;rw [m] at c;exact absurd c (Qj i)
theorem Sd (s:SS) (g8:s.W = []) (w0:World) (r:Nat) (P:Nat -> Prop) (x0 x1:Addr) (am:Option Addr) (cm:Nat) (d:LU) (M:Mst w0 x0 x1 am d) (hm:s.mst = .slice am d.length cm) (l k nK cK:Nat) (f3:w0.heap.size <= k) (f0:s.kys = .slice (some ⟨k,0,none⟩) nK cK) (h9:l < nK) (O:Option Addr) (N:Nat) (o:LU) (a2:Option Addr) (c2:Nat) (k2:LU)
 (m:LU) (ab:Option Addr) (cb:Nat) (e5:m.length <= cb) (hf:Bb d m = true) (ht:BZ d m = true) (hu:opU d m = 2) (e8:∀ a,ab = some a -> ¬ P a.block /\ a.block ≠ k) (hG:0 <= opG d o /\ opG d o <= 255) (w:World) (b0:Bl w0 w) (h:Ses w w0.heap.size r P s) (K:KS w P k l O N o a2 c2 k2) (rb:RowAt w ab m) :
 Calls prog 129 #[.pointer (some ⟨r,0,none⟩),.int .i64 (l:Int),.slice ab m.length cb] w fun e w' =>
  (if opG d m = opG d o /\ BH d m = BH d o then e = .returned (.int .i64 0) /\ KS w' P k l O N o a2 c2 k2 else if opG d m = opG d o + 1 then e = .returned (.int .i64 0) /\ KS w' P k l ab cb m O N o else e = .returned (.int .i64 12) /\ KS w' P k l O N o a2 c2 k2) /\
  Ses w' w0.heap.size r P s /\ Below w0.heap.size w w' /\ Kp (fun q=>q = k) w w' /\ (∀ j,j ≠ l * 2 -> j ≠ l * 2 + 1 -> w'.cell? ⟨k,j,none⟩ = w.cell? ⟨k,j,none⟩):=by
 have hz:=(QO Tryz.zeroKI3).1;have c8:=AA (fun (y:World) (J:Bl w y)=>h.below J);obtain ⟨wv,sv,lv,ps,h⟩:=h;obtain ⟨n1,d0⟩:=uX (o.length);obtain ⟨nB,b3⟩:=uX (m.length);obtain ⟨nM,a5⟩:=uX (d.length);have c0:w.cell? ⟨r,0,none⟩ = some (.slice am nM cm):=by rw [a5,<- hm];exact h.c0
 obtain ⟨gN,b7⟩:=uX (w.heap.size);obtain ⟨W,hW⟩:=uX (w.alloc (Obj.cells #[.int .i64 2] 3));have bW:=uB hW;have kN:=uK hW b7;have b8:=b0.trans (bW.mono b0.size);have d4:=AA (Jq d m am ab cm cb x0 x1 [2] (by decide) hf ht ⟨0,by decide,by rw [hu];rfl⟩ gN W e5 (M.sents.below b8) (M.row.below b8) (rb.below bW) (fun i hi=>by
  obtain rfl:i = 0:=by simp at hi;omega
  exact kN.c 0))
 obtain ⟨nO,d6⟩:=uX ((BH d m).length);obtain ⟨X,f8⟩:=uX ((BH d o).length);obtain ⟨Ub,f7⟩:=uX (opU d m);obtain ⟨Gb,b6⟩:=uX (opG d m);obtain ⟨Uh,f6⟩:=uX (opU d o);obtain ⟨z,a9⟩:=uX (opG d o);rw [<- a5,<- b3,<- f7,<- b6,<- d6] at d4;have a4:=AA (fun (V:World) (y:World) (hv:Bl w V) (J:Bl V y)=>NC d o am O cm N x0 x1 y K.l1 (M.sents.below (b0.trans ((hv.trans (J.mono hv.size)).mono b0.size))) (M.row.below (b0.trans ((hv.trans (J.mono hv.size)).mono b0.size))) (K.r1.below (hv.trans (J.mono hv.size))));rw [<- a5,<- d0,<- f6,<- a9] at a4;rw [<- b6,<- a9,<- b3];rw [<- a9] at hG;have d2:=AA f8;have h3:=AA d6;have g7:=AA rb;have c5:=AA d0;have g9:=AA b3;have d3:Hid (∀ y,Bl w y -> y.cell? ⟨r,4,none⟩ = some (.slice (some ⟨k,0,none⟩) nK cK) /\ y.cell? ⟨r,0,none⟩ = some (.slice am nM cm)):=fun y J=>⟨by rw [<- f0];exact (h.sm (Sm.below J)).c4,by rw [a5,<- hm];exact (h.sm (Sm.below J)).c0⟩;have HK:=AA (fun (y:World) (J:Bl w y)=>K.below J);have h7:(l:Int) < (nK:Int):=by omega
 have HW:=AA hW;have e6:=AA b7;have i0:=AA b0;have g5:=b0.size;have h4:r < w.heap.size:=h.blk.lt;have b9:k < w.heap.size:=QF w _ K.e1;clear hW b7 f8 d6 d0 b3 a5 f7 b6 f6 a9 h K rb b0 b8 kN f0 hm hf ht hu;go_enter func129,ntmps129;go_wp2_with fail;rw [<- show W = _ from HW,<- show gN = _ from e6];clear HW e6 c0;refine d4.out.mono ?_;rintro e X1 ⟨⟨aO,cO,rfl,rO⟩,bO⟩;obtain ⟨gI,e4⟩:=uX (X1.heap.size);obtain ⟨X2,a8⟩:=uX (X1.alloc (Obj.cells #[.int .i64 Ub,.int .i64 Gb,.slice aO nO cO] 55));have G:=uB a8;have kI:=uK a8 e4;have b5:=bW.trans (bO.mono bW.size);have H:=b5.trans (G.mono b5.size);have RO:=AA (rO.below G);have e9:=AA a8;have f5:=AA e4;have c6:k < X2.heap.size:=QF X2 _ (HK.out X2 H).e1;have c9:r < X2.heap.size:=QX h4 H.size;have q4:=(d3.out X2 H).1;have q0:=(d3.out X2 H).2;have qe:=(HK.out X2 H).e1;rw [<- c5.out] at qe;clear a8 e4 rO G bO bW b5 d4;go_upto_region 4 with fail
 rw [<- show X2 = _ from e9,<- show gI = _ from f5];clear e9 f5;go_upto_region 5 with fail
 clear q4;obtain ⟨V,hV⟩:=uX (World.drew X2);have a3:Bl X2 V:=by rw [hV];exact (Below.refl _ _).drew
 have b4:Bl V V:=Below.refl _ _;have b1:=H.trans (a3.mono H.size);have d5:Hid (V.heap.size = X2.heap.size):=by show _ = _;rw [hV];rfl
 have u:Hid (∀ {x},Bl V x -> x.cell? ⟨r,0,none⟩ = some (.slice am nM cm) /\ x.cell? ⟨k,l * 2,none⟩ = some (.slice O n1 N)):=fun hx=>⟨(hx.cell (p:=⟨r,0,none⟩) (show r < _ by rw [d5.out];omega)).trans ((a3.cell (p:=⟨r,0,none⟩) c9).trans q0),(hx.cell (p:=⟨k,l * 2,none⟩) (show k < _ by rw [d5.out];omega)).trans ((a3.cell (p:=⟨k,l * 2,none⟩) c6).trans qe)⟩;have a4:=AA (fun (y:World) (J:Bl V y)=>a4.out V y b1 J);refine QJ (S:=fun x=>x.cell? ⟨r,0,none⟩ = some (.slice am nM cm) /\ x.cell? ⟨k,l * 2,none⟩ = some (.slice O n1 N)) (by kernel_rfl) (by rw [<- hV];exact u.out b4) (fun f=>?_);rw [<- hV] at f ⊢;clear hV q0 qe;refine tA 0 (.pointer (some ⟨r,0,none⟩)) f ?_;simp only [put,pS];refine tA 1 (.pointer (some ⟨r,0,none⟩)) f ?_;simp only [put,pS];refine tA 2 (.pointer (some ⟨r,0,none⟩)) f ?_;simp only [put,pS];refine tA 3 (.pointer (some ⟨r,0,none⟩)) f ?_;simp only [put,pS];refine tC 4 (.slice am nM cm) rfl (fun w1 h=>by have hc:=h.1;go_simp) f ?_;simp only [put,pS];refine tA 5 (.pointer (some ⟨k,l * 2,none⟩)) f ?_;simp only [put,pS];refine tA 6 (.pointer (some ⟨k,l * 2,none⟩)) f ?_;simp only [put,pS];refine tA 7 (.pointer (some ⟨k,l * 2,none⟩)) f ?_;simp only [put,pS];refine tC 8 (.slice O n1 N) rfl (fun w1 h=>by have hc:=h.2;go_simp) f ?_;simp only [put,pS];refine Qr (rs:=[9,11]) (by kernel_rfl) (by simp) ?_;refine AllReadyH.cons rfl (fun K t=>?_) (AllReadyH.cons rfl (fun K t=>?_) AllReadyH.nil)
 case' refine_1 =>
  go_simp;refine (a4.out V b4).mono ?_;rintro e U1 ⟨vU,rfl,U,bU⟩;obtain ⟨D,I,rfl,rH,R,-⟩:=U.shape;rw [<- d2.out];have c3:=fun (wx:World)=>Yk (Cy d o) Uh z D X I wx;clear U;go_wp2_with fail;refine t.out _ _ (u.out bU) (fun f=>?_);clear t K
  try dsimp only [put]
  refine tA 10 (.agg #[.int .i64 Uh,.int .i64 z,.slice D X I]) f ?_;simp only [put,pS];refine rdy1 11 (fun K t=>?_);go_simp;obtain ⟨U2,B⟩:=uX (World.alloc U1 (Obj.cells GI.toArray 55));obtain ⟨T,E⟩:=uX ((World.heap U1).size);have kQ:Blk U2 T 55 GI:=by rw [B,E];exact Blk.new _ _ _
  have G:Below (World.heap U1).size U1 U2:=by rw [B];exact CN _ _
  rw [<- B,<- E];have a0:=AA E;clear B E;have Z:=bU.trans (G.mono bU.size);refine t.out _ _ (u.out Z) (fun f=>?_);clear t K
  try dsimp only [put]
  refine rdy1 12 (fun K t=>?_);rw [if_pos (by rfl)];refine AR (cs:=[.int .i64 Uh,.int .i64 z,.slice D X I]) rfl 55 _ _ rfl T rfl rfl kQ (by kernel_rfl) rfl (by simp [Value.oneCell']) ?_;obtain ⟨Y,L⟩:=uX (World.setRow U2 T ([.int .i64 Uh,.int .i64 z,.slice D X I]:List Value).toArray);have kY:Blk Y T 55 [.int .i64 Uh,.int .i64 z,.slice D X I]:=by rw [L];exact Blk.setRow kQ _
  have rY:RowAt Y D (BH d o):=by rw [L];exact (rH.below G).kp (Kp.setRow U2 T _) (fun p hp e=>by obtain ⟨g,rfl,-,h2⟩:=R p hp;have:=a0.out;simp only at e;omega)
  have bY:Bl V Y:=by rw [L];exact AN Z (by have:=a0.out;have:=bU.size;omega) _
  rw [<- L];have KY:=AA kY;have RY:=AA rY;have BY:=AA bY;refine t.out _ _ (u.out bY) (fun f=>?_);clear t K
  try dsimp only [put]
  refine QM (by kernel_rfl) ?_ _;clear f L kY rY bY kQ G Z a0 rH R c3 bU
 case' refine_2 =>
  go_simp;obtain ⟨U2,B⟩:=uX (World.alloc V (Obj.cells GI.toArray 55));obtain ⟨T,E⟩:=uX ((World.heap V).size);have kQ:Blk U2 T 55 GI:=by rw [B,E];exact Blk.new _ _ _
  have G:Below (World.heap V).size V U2:=by rw [B];exact CN _ _
  rw [<- B,<- E];have a0:=AA E;clear B E;refine t.out _ _ (u.out G) (fun f=>?_);clear t K
  try dsimp only [put]
  refine rdy1 9 (fun K t=>?_);go_simp;refine (a4.out U2 G).mono ?_;rintro e U1 ⟨vU,rfl,U,bU⟩;obtain ⟨D,I,rfl,rH,R,-⟩:=U.shape;rw [<- d2.out];have c3:=fun (wx:World)=>Yk (Cy d o) Uh z D X I wx;clear U;go_wp2_with fail;have Z:=G.trans (bU.mono G.size);refine t.out _ _ (u.out Z) (fun f=>?_);clear t K
  try dsimp only [put]
  refine tA 10 (.agg #[.int .i64 Uh,.int .i64 z,.slice D X I]) f ?_;simp only [put,pS];refine rdy1 12 (fun K t=>?_);have d1:=kQ.below bU kQ.lt;rw [if_pos (by rfl)];refine AR (cs:=[.int .i64 Uh,.int .i64 z,.slice D X I]) rfl 55 _ _ rfl T rfl rfl d1 (by kernel_rfl) rfl (by simp [Value.oneCell']) ?_;obtain ⟨Y,L⟩:=uX (World.setRow U1 T ([.int .i64 Uh,.int .i64 z,.slice D X I]:List Value).toArray);have kY:Blk Y T 55 [.int .i64 Uh,.int .i64 z,.slice D X I]:=by rw [L];exact Blk.setRow d1 _
  have rY:RowAt Y D (BH d o):=by rw [L];exact rH.kp (Kp.setRow U1 T _) (fun p hp e=>by obtain ⟨g,rfl,h1,-⟩:=R p hp;have:=kQ.lt;simp only at e;omega)
  have bY:Bl V Y:=by rw [L];exact AN Z (by have:=a0.out;omega) _
  rw [<- L];have KY:=AA kY;have RY:=AA rY;have BY:=AA bY;refine t.out _ _ (u.out bY) (fun f=>?_);clear t K
  try dsimp only [put]
  refine QM (by kernel_rfl) ?_ _;clear f L kY rY bY kQ d1 G Z a0 rH R c3 bU
 all_goals
  have C:=b1.trans (BY.out.mono b1.size);have e0:=a3.trans (BY.out.mono a3.size);have f4:=kI.below e0 kI.lt;have i1:=f4.c 1;have i2:=f4.c 2;have q1:=KY.out.c 1;have q2:=KY.out.c 2;have n:=AA (HK.out Y C);have F:Hid (Ses Y w0.heap.size r P s /\ Below w0.heap.size w Y /\ Kp (fun q=>q = k) w Y /\ (∀ j,j ≠ l * 2 -> j ≠ l * 2 + 1 -> Y.cell? ⟨k,j,none⟩ = w.cell? ⟨k,j,none⟩)):=⟨c8.out Y C,C.mono g5,Kp.below C,fun j _ _=>C.cell (p:=⟨k,j,none⟩) b9⟩;have a6:=AA (GF (BH d m) (BH d o) aO D nO X cO I Y h3.out.symm d2.out.symm (RO.out.below e0) RY.out);clear BY KY RY RO a4 u b1 a3 e0 b4 H kI d5 c6 c9 c8 d3
  by_cases hg:Gb = z
  ·subst hg;have h8:¬ Gb = Gb + 1:=by omega
   by_cases hk:BH d m = BH d o
   ·rw [QK hk] at a6;go_wp2_with (go_at_call 96;refine a6.out.mono ?_;rintro e w6 ⟨rfl,e3⟩;subst e3)
    go_ret;exact ⟨⟨rfl,n.out⟩,F.out⟩
   ·rw [QT hk] at a6;go_wp2_with (go_at_call 96;refine a6.out.mono ?_;rintro e w6 ⟨rfl,e3⟩;subst e3)
    go_ret;exact ⟨⟨rfl,n.out⟩,F.out⟩
  ·have h5:(Gb == z) = false:=by simp [hg]
   clear a6
   by_cases hg1:Gb = z + 1
   ·subst hg1;have e1:=n.out.e1;have e2:=n.out.e2;have f1:=n.out.f1;have f2:=n.out.f2;rw [<- c5.out] at e1;obtain ⟨n2,e7⟩:=uX (k2.length);rw [<- e7] at e2;obtain ⟨Z1,v⟩:=uX (Y.setCell ⟨k,l * 2,none⟩ (.slice ab nB cb));have a7:∀ {a b:Nat},a ≠ b -> (⟨k,a,none⟩:Addr) ≠ ⟨k,b,none⟩:=fun h e=>by cases e;exact h rfl
    have z1:Z1.cell? ⟨k,l * 2,none⟩ = some (.slice ab nB cb):=by rw [v];exact World.cell?_setCell_same Y _ _ e1
    have z2:Z1.cell? ⟨k,l * 2 + 1,none⟩ = some (.slice a2 n2 c2):=by rw [v,World.cell?_setCell_other Y _ _ _ (a7 (by omega))];exact e2
    obtain ⟨Z2,A⟩:=uX (Z1.setCell ⟨k,l * 2 + 1,none⟩ (.slice O n1 N));have y1:Z2.cell? ⟨k,l * 2,none⟩ = some (.slice ab nB cb):=by rw [A,World.cell?_setCell_other Z1 _ _ _ (a7 (by omega))];exact z1
    have y2:Z2.cell? ⟨k,l * 2 + 1,none⟩ = some (.slice O n1 N):=by rw [A];exact World.cell?_setCell_same Z1 _ _ z2
    have kp:Kp (fun q=>q = k) Y Z2:=by rw [A,v];exact (Kp.setCell (P:=fun q=>q = k) Y rfl _ _).trans (by simp [World.setCell]) (Kp.setCell (P:=fun q=>q = k) _ rfl _ _)
    have g1:Z1.frozen? ⟨k,l * 2 + 1,none⟩ = false:=by rw [v];exact (JK Y _ _ _).trans f2
    have g0:Y.heap.size <= Z2.heap.size:=by rw [A,v];simp [World.setCell]
    have g6:Hid (KS Z2 P k l ab cb m O N o):=⟨by rw [<- g9.out];exact y1,by rw [<- c5.out];exact y2,by rw [A,v];exact (JK _ _ _ _).trans ((JK Y _ _ _).trans f1),by rw [A,v];exact (JK _ _ _ _).trans ((JK Y _ _ _).trans f2),e5,n.out.l1,(g7.out.below C).kp kp (fun a e=>(e8 a e).2),n.out.r1.kp kp (fun a e=>(n.out.p1 a e).2),e8,n.out.p1,n.out.pK⟩;have h0:Hid (Ses Z2 w0.heap.size r P s /\ Below w0.heap.size w Z2 /\ Kp (fun q=>q = k) w Z2 /\ (∀ j,j ≠ l * 2 -> j ≠ l * 2 + 1 -> Z2.cell? ⟨k,j,none⟩ = w.cell? ⟨k,j,none⟩)):=⟨F.out.1.stay g8 (kp.weak (fun q _ e=>by rw [e];exact n.out.pK)),by rw [A,v];exact (F.out.2.1.setCell f3 _).setCell f3 _,(Kp.below C).trans C.size kp,fun j h1 h2=>by rw [A,World.cell?_setCell_other Z1 _ _ _ (a7 (Ne.symm h2)),v,World.cell?_setCell_other Y _ _ _ (a7 (Ne.symm h1))];exact C.cell (p:=⟨k,j,none⟩) b9⟩;have h5:(z + 1 == z) = false:=by simp;omega
    have c7:=AA v;have f9:=AA A;clear v A y1 y2 kp g0 e7 n F;go_upto_region 10 with (first | (rw [<- show Z1 = _ from c7]) | fail)
    try rw [<- show Z1 = _ from c7]
    rw [<- show Z2 = _ from f9];clear c7 f9 z1 z2 g1 e1 e2 f1 f2;go_wp2_with fail;go_ret;exact ⟨⟨rfl,g6.out⟩,h0.out⟩
   ·have h6:(Gb == z + 1) = false:=by simp [hg1]
    go_wp2_with fail;go_ret;exact ⟨⟨rfl,n.out⟩,F.out⟩
structure FrZ (w:World) (v:Value) (L:List (Int × LU)) (Z:Nat -> Prop):Prop where
 sh:∃ ao cap,v = .slice ao L.length cap
 at_:∀ i,i < L.length -> ∃ g o cap ai ci,v = .slice (some ⟨g,o,none⟩) L.length cap /\ ¬ Z g /\ w.cell? ⟨g,o + i * 2,none⟩ = some (.int .i64 (L.getD i (0,[])).1) /\ w.cell? ⟨g,o + i * 2 + 1,none⟩ = some (.slice ai (L.getD i (0,[])).2.length ci) /\ RowAt w ai (L.getD i (0,[])).2 /\ (L.getD i (0,[])).2.length <= ci /\ ∀ p,ai = some p -> ¬ Z p.block
theorem FrZ.fr {w:World} {v:Value} {L:List (Int × LU)} {Z:Nat -> Prop} (h:FrZ w v L Z):Fr w v L:=⟨h.sh,fun i d=>by
 obtain ⟨g,o,a,f,c,e,-,j,b,r,-⟩:=h.at_ i d;exact ⟨g,o,a,f,c,e,j,b,r⟩⟩
theorem FrZ.kp {w w':World} {v:Value} {L:List (Int × LU)} {Y Z:Nat -> Prop} (h:FrZ w v L Z) (k:Kp Y w w') (b:∀ q,Y q -> Z q):FrZ w' v L Z:=⟨h.sh,fun i m=>by
 obtain ⟨g,o,c,n,j,e,z,p,d,r,l,q⟩:=h.at_ i m;exact ⟨g,o,c,n,j,e,z,k.cell p (fun y=>z (b _ y)),k.cell d (fun y=>z (b _ y)),r.kp k (fun a f y=>q a f (b _ y)),l,q⟩⟩
theorem FrZ.below {w w':World} {v:Value} {L:List (Int × LU)} {Z:Nat -> Prop} (h:FrZ w v L Z) (a:Bl w w'):FrZ w' v L Z:=h.kp (Kp.below (P:=fun _=>False) a) (fun _ e=>e.elim)
theorem FrZ.of {w:World} {lo:Nat} {v:Value} {l:List (Nat × LU)} {vs:List Value} {Z:Nat -> Prop} (h:Fs w lo v l vs) (hz:∀ k,lo <= k -> k < w.heap.size -> ¬ Z k):FrZ w v (Gj l) Z:=by
 obtain ⟨n,A⟩:=Uo h;refine ⟨n.sh,fun i b=>?_⟩;obtain ⟨g,o,s,e,m,f⟩:=n.at_ i b;rw [Dx] at b;rw [Lu l i b] at m ⊢;have d:=h.own i b;obtain ⟨a,c,y,r,j,-⟩:=d.shape;rw [y] at f d;refine ⟨g,o,s,a,c,e,?_,m,f,r,JH d,fun p t=>by obtain ⟨g',rfl,z,u⟩:=j p t;exact hz _ z u⟩;rcases h.row.2 with ⟨q,C⟩ | ⟨g',D,B,q,-⟩
 ·omega
 ·have x:g = g':=by rw [e] at q;simp only [Value.slice.injEq,Option.some.injEq,Addr.mk.injEq] at q;exact q.1.1
  have:=h.row.lt g (by rw [q,x];rfl);exact hz g this.1 this.2
theorem VH (n:Int) (u:ByteArray) (L:List (Int × LU)) (U:L.length <= 1048576) (B:FY n L = true) (v:Value) (Z:Nat -> Prop) (w:World) (F:FrZ w v L Z) :
 Calls prog 120 #[.agg #[.string u,v],.int .i64 n] w fun e w'=>(∃ a c,e = .returned (.slice a (A9 n L).length c) /\ RowAt w' a (A9 n L) /\ (A9 n L).length <= c /\ ∀ p,a = some p -> ¬ Z p.block) /\ Bl w w':=by
 obtain ⟨av,cv,rfl⟩:=F.fr.sh;obtain ⟨W,b⟩:=uX (w.alloc (Obj.cells #[.string u,.slice av L.length cv] 32));have x:=uB b;obtain ⟨D,d⟩:=uX (w.heap.size);have j:=uK b d;have m:=AA (Ke n u L U _ W (F.fr.below x));have HF:=AA (fun (y:World) (t:Bl w y)=>F.below t);have O:=AA (fun (y:World) (t:Bl W y)=>j.below t j.lt);obtain ⟨T,i⟩:=uX (L.length);have M:=AA i;rw [<- i] at m O j b ⊢;have N:=AA b;have s:=AA d;have I:=AA B;clear b F d i B;go_enter func120,ntmps120;go_upto_region 1 with fail;rw [<- show W = _ from N,<- show D = _ from s];clear N s;go_wp2_with (refine AL rfl 32 _ rfl D rfl j underlying32 rfl (by kernel_rfl) ?_)
 refine m.out.mono ?_;rintro e w2 ⟨⟨r,rfl,C⟩,z⟩;have J:=x.trans (z.mono x.size);have f:=Th C;rcases C with ⟨rfl,a3⟩ | ⟨k,G,rfl,E,H⟩
 ·rw [I.out] at f;simp at f
 ·obtain ⟨g,o,a0,Y,X,e,-,-,R,r,A,q⟩:=(HF.out w2 J).at_ k G;cases e
  have l:=Tb G E H;rw [<- l] at R r A;have c1:=(O.out _ z).c 1;have a1:(k:Int) < (T:Int):=by have:=M.out;omega
  have a2:¬ (k:Int) < 0:=by omega
  have V:=AA (And.intro r (And.intro A q));clear l E H r A q z f;go_wp2_with fail;go_ret;exact ⟨⟨Y,X,rfl,V.out⟩,J⟩
def KyR (w:World) (P:Nat -> Prop) (f l:Nat) (g:Option Addr) (i:Nat) (d:LU) (k:Option Addr) (j:Nat) (m a c:LU) (b:Nat):Prop :=
 if opG a c = opG a d /\ BH a c = BH a d then b = 0 /\ KS w P f l g i d k j m else if opG a c = opG a d + 1 then b = 0 /\ ∃ o n,KS w P f l o n c g i d else b = 12 /\ KS w P f l g i d k j m
theorem KyR.imp {w w':World} {P o:Nat -> Prop} {m l:Nat} {d:Option Addr} {i:Nat} {g:LU} {c:Option Addr} {b:Nat} {j a n:LU} {k:Nat} (h:KyR w P m l d i g c b j a n k) (f:∀ {d i g c b j},KS w P m l d i g c b j -> KS w' o m l d i g c b j):KyR w' o m l d i g c b j a n k:=by
 unfold KyR at h ⊢
 split
 ·rw [if_pos (by assumption)] at h;exact ⟨h.1,f h.2⟩
 ·rw [if_neg (by assumption)] at h
  split
  ·rw [if_pos (by assumption)] at h;obtain ⟨e,q,p,h⟩:=h;exact ⟨e,q,p,f h⟩
  ·rw [if_neg (by assumption)] at h;exact ⟨h.1,f h.2⟩
theorem KS.weak {w:World} {P c:Nat -> Prop} {g l:Nat} {i:Option Addr} {m:Nat} {j:LU} {f:Option Addr} {d:Nat} {n:LU} (h:KS w P g l i m j f d n) (b:∀ k,c k -> P k):KS w c g l i m j f d n :=
 ⟨h.e1,h.e2,h.f1,h.f2,h.l1,h.l2,h.r1,h.r2,fun a e=>⟨fun q=>(h.p1 a e).1 (b _ q),(h.p1 a e).2⟩,fun a e=>⟨fun q=>(h.p2 a e).1 (b _ q),(h.p2 a e).2⟩,fun q=>h.pK (b _ q)⟩
theorem R7 (s:SS) (G:s.W = []) (i:World) (o:Nat) (P:Nat -> Prop) (C D:Addr) (p:Option Addr) (F:Nat) (b:LU) (M:Mst i C D p b) (R:s.mst = .slice p b.length F) (l d r cK:Nat) (A:i.heap.size <= d) (H:s.kys = .slice (some ⟨d,0,none⟩) r cK) (B:l < r) (x:Option Addr) (v:Nat) (m:LU) (u:Option Addr) (t:Nat) (y:LU)
 (c:LU) (k:Option Addr) (n:Nat) (z:c.length <= n) (L:Bb b c = true) (U:BZ b c = true) (T:opU b c = 2) (E:∀ a,k = some a -> ¬ P a.block /\ a.block ≠ d) (N:0 <= opG b m /\ opG b m <= 255) (w:World) (J:Bl i w) (h:Ses w i.heap.size o P s) (K:KS w P d l x v m u t y) (O:RowAt w k c) :
 Calls prog 129 #[.pointer (some ⟨o,0,none⟩),.int .i64 (l:Int),.slice k c.length n] w fun e w' =>
  (∃ g:Nat,e = .returned (.int .i64 (g:Int)) /\ g < 100 /\ KyR w' P d l x v m u t y b c g) /\ Ses w' i.heap.size o P s /\ Below i.heap.size w w' /\ Kp (fun q=>q = d) w w' /\ (∀ j,j ≠ l * 2 -> j ≠ l * 2 + 1 -> w'.cell? ⟨d,j,none⟩ = w.cell? ⟨d,j,none⟩):=by
 refine (Sd s G i o P C D p F b M R l d r cK A H B x v m u t y c k n z L U T E N w J h K O).mono ?_;rintro e w' ⟨f,I⟩;refine ⟨?_,I⟩;unfold KyR
 split at f
 ·exact ⟨0,f.1,by omega,by rw [if_pos (by assumption)];exact ⟨rfl,f.2⟩⟩
 ·split at f
  ·exact ⟨0,f.1,by omega,by rw [if_neg (by assumption),if_pos (by assumption)];exact ⟨rfl,k,n,f.2⟩⟩
  ·exact ⟨12,f.1,by omega,by rw [if_neg (by assumption),if_neg (by assumption)];exact ⟨rfl,f.2⟩⟩
theorem PP (s:SS) (f1:s.W = []) (E:World) (R:Nat) (P:Nat -> Prop) (x0 x1:Addr) (am:Option Addr) (cm:Nat) (b:LU) (M:Mst E x0 x1 am b) (hm:s.mst = .slice am b.length cm) (l r nK cK:Nat) (f8:E.heap.size <= r) (d3:s.kys = .slice (some ⟨r,0,none⟩) nK cK) (f3:l < nK) (a1:Option Addr) (c1:Nat) (k1:LU) (a2:Option Addr) (c2:Nat) (k2:LU)
 (f:ByteArray) (e2:f.size <= 1048576) (key:LU) (D:Option Addr) (N:Nat) (f5:key.length <= N) (c9:∀ a,D = some a -> a.block ≠ r) (L:List (Int × LU)) (hL:L.length <= 1048576) (d2:FY 11 L = true) (e0:FY 48 L = true) (d0:A9 70 L = [49,48,49]) (A:LU) (a5:A = A9 48 L) (hf:Bb b A = true) (ht:BZ b A = true) (X:opU b A = 2) (hG:0 <= opG b k1 /\ opG b k1 <= 255)
 (v:Value) (w:World) (b0:Bl E w) (hP:∀ k,w.heap.size <= k -> P k) (h:Ses w E.heap.size R P s) (K:KS w P r l a1 c1 k1 a2 c2 k2) (F:FrZ w v L (fun q=>P q \/ q = r)) (rk:RowAt w D key) (f9:s.S.length <= 1000000) (e7:s.L.length <= 1000000) :
 Calls prog 72 #[.pointer (some ⟨R,0,none⟩),.agg #[.int .i64 (l:Int),.string ⟨#[48,56,48,48]⟩,v,.string f,.slice D key.length N]] w fun e w' =>
  e = .returned (.tuple #[]) /\ Below E.heap.size w w' /\ Kp (fun q=>P q \/ q = r) w w' /\ (∀ j,j ≠ l * 2 -> j ≠ l * 2 + 1 -> w'.cell? ⟨r,j,none⟩ = w.cell? ⟨r,j,none⟩) /\ ∃ (g:Nat) (a:Option Addr) (c:Nat),KyR w' (fun k=>P k /\ ∀ p,a = some p -> k ≠ p.block) r l a1 c1 k1 a2 c2 k2 b A g /\ Ses w' E.heap.size R (fun k=>P k /\ ∀ p,a = some p -> k ≠ p.block) { s with S:=s.S ++ [((l:Int),.slice a (Da b key f g).length c)],L:=s.L ++ [((g:Int),(l:Int),f)] } /\ RowAt w' a (Da b key f g) /\ (Da b key f g).length <= c /\ ∀ p,a = some p -> w.heap.size <= p.block /\ p.block < w'.heap.size:=by
 obtain ⟨B,C,rfl⟩:=F.fr.sh;obtain ⟨G,J⟩:=uX (L.length);obtain ⟨nk,a9⟩:=uX (key.length);obtain ⟨nb,b5⟩:=uX (A.length);obtain ⟨t,b6⟩:=uX (w.heap.size);obtain ⟨W,hW⟩:=uX (w.alloc (Obj.cells #[.int .i64 (l:Int),.string ⟨#[48,56,48,48]⟩,.slice B G C,.string f,.slice D nk N] 219));have T:=uB hW;have kA:=uK hW b6;obtain ⟨gN,a8⟩:=uX (W.heap.size);obtain ⟨W1,a3⟩:=uX (W.alloc (Obj.cells #[.int .i64 11,.int .i64 48] 3));have a0:=uB a3;have kN:=uK a3 a8;have m:=T.trans (a0.mono T.size);have Y:=AA (TS [11,48] (by decide) gN ⟨#[48,56,48,48]⟩ L hL _ W1 (F.fr.below m) (fun i hi=>by
  have f4:i = 0 \/ i = 1:=by simp at hi;omega
  rcases f4 with rfl | rfl
  ·exact kN.c 0
  ·exact kN.c 1))
 rw [show ([11,48]:List Int).all (fun n=>FY n L) = true from by simp [d2,e0],<- J] at Y;have Z:=AA (fun (y:World) (o:Bl w y)=>OX 70 ⟨#[48,56,48,48]⟩ L hL _ y (F.fr.below o));rw [d0,<- J] at Z;have b4:=AA (fun (y:World) (o:Bl w y)=>VH 48 ⟨#[48,56,48,48]⟩ L hL e0 _ _ y (F.below o));rw [<- a5,<- J,<- b5] at b4;have d5:=AA (fun (ab:Option Addr) (cb:Nat) e3 f0 (y:World) (o:Bl w y) rb=>R7 s f1 E R P x0 x1 am cm b M hm l r nK cK f8 d3 f3 a1 c1 k1 a2 c2 k2 A ab cb e3 hf ht X f0 hG y (b0.trans (o.mono b0.size)) (h.below o) (K.below o) rb);rw [<- b5] at d5;have d4:=AA (fun (g:Nat) (hc:g < 100) (y z:World) (o:Bl w y) (hb:Below E.heap.size y z) (hk:Kp (fun q=>q = r) y z) (hz:Ses z E.heap.size R P s)=>NR s E R P x0 x1 am cm b M hm (l:Int) g hc f e2 key D N f5 L hL d2 (.slice B L.length C) ⟨#[48,56,48,48]⟩ (.inl rfl) z ((b0.trans (o.mono b0.size)).trans hb) (fun k hk=>hP k (QG (QG o.size hb.size) hk)) hz (((F.below o).kp hk (fun q e=>.inr e)).fr) ((rk.below o).kp hk (fun a e=>c9 a e)) f9 e7);rw [<- J,<- a9] at d4;have I:=AA (fun (y:World) (o:Bl W y)=>kA.below o kA.lt);have g7:w.heap.size <= t:=by omega
 have b1:r < w.heap.size:=QF w _ K.e1;have e6:=b0.size;have e9:=K.pK;have HW:=AA hW;have d1:=AA a3;have c6:=AA b6;have c4:=AA a8;rw [<- a9,<- J];clear hW a3 b6 a8 h K F rk b0 kA kN J a9 b5 hm d3 e2 a5 d0 hf ht X hG c9;go_enter func72,ntmps72;go_upto_region 1 with fail
 rw [<- show W = _ from HW,<- show t = _ from c6];clear HW c6;have m1:=(I.out W (Below.refl _ _)).c 1;have m2:=(I.out W (Below.refl _ _)).c 2;go_wp2_with fail;rw [<- show W1 = _ from d1,<- show gN = _ from c4];clear d1 c4 m1 m2;refine Y.out.mono ?_;rintro e X2 ⟨rfl,b2⟩;have H:=a0.trans (b2.mono a0.size);have c3:=T.trans (H.mono T.size);have m1:=(I.out X2 H).c 1;have m2:=(I.out X2 H).c 2;clear Y b2 a0 m;go_wp2_with fail;refine (Z.out X2 c3).mono ?_;rintro e X3 ⟨⟨a7,c7,rfl,r7⟩,b3⟩;have f2:=DC [49,48,49] a7 3 c7 X3 rfl r7;have a4:=H.trans (b3.mono H.size);have g6:=T.trans (a4.mono T.size);clear Z m1 m2 r7 b3 H c3;go_upto_region 3 with fail
 obtain ⟨V,hV⟩:=uX (World.drew X3);have c8:Bl X3 V:=by rw [hV];exact (Below.refl _ _).drew
 have d6:=a4.trans (c8.mono a4.size);have c0:=T.trans (d6.mono T.size);have kV:=I.out V d6;have O:Hid (∀ {x},Blk x t 219 [.int .i64 (l:Int),.string ⟨#[48,56,48,48]⟩,.slice B G C,.string f,.slice D nk N] -> x.rangeAt t 0 [.int .i64 (l:Int),.string ⟨#[48,56,48,48]⟩,.slice B G C,.string f,.slice D nk N] /\ x.cell? ⟨t,0,none⟩ = some (.int .i64 (l:Int)) /\ x.rangeAt t 1 [.string ⟨#[48,56,48,48]⟩,.slice B G C]):=fun hx=>⟨Mi hx,hx.c 0,fun j u X=>by
  cases j with
  | zero=>simp at X;subst X;exact hx.c 1
  | succ j =>
    cases j with
    | zero=>simp at X;subst X;exact hx.c 2
    | succ j=>simp at X⟩
 refine QJ (S:=fun x=>x.rangeAt t 0 [.int .i64 (l:Int),.string ⟨#[48,56,48,48]⟩,.slice B G C,.string f,.slice D nk N] /\ x.cell? ⟨t,0,none⟩ = some (.int .i64 (l:Int)) /\ x.rangeAt t 1 [.string ⟨#[48,56,48,48]⟩,.slice B G C]) (by kernel_rfl) (by rw [<- hV];exact O.out kV) (fun d=>?_);rw [<- hV] at d ⊢;clear hV c8 a4 g6 f2 I;refine tA 0 (.pointer (some ⟨R,0,none⟩)) d ?_;simp only [put,pS];refine tB 1 (.agg ([.int .i64 (l:Int),.string ⟨#[48,56,48,48]⟩,.slice B G C,.string f,.slice D nk N]:List Value).toArray) rfl (QY (by rfl) 219 _ rfl t 0 rfl [.int .i64 (l:Int),.string ⟨#[48,56,48,48]⟩,.slice B G C,.string f,.slice D nk N] _ (fun _ h=>h.1) underlying219 rfl (by kernel_rfl)) d ?_;simp only [put,pS];refine tA 2 (.pointer (some ⟨R,0,none⟩)) d ?_;simp only [put,pS];refine tA 3 (.pointer (some ⟨t,0,none⟩)) d ?_;simp only [put,pS];refine tC 4 (.int .i64 (l:Int)) rfl (fun w1 h=>by have hc:=h.2.1;go_simp) d ?_;simp only [put,pS];refine tA 5 (.pointer (some ⟨t,1,none⟩)) d ?_;simp only [put,pS];refine tB 6 (.agg ([.string ⟨#[48,56,48,48]⟩,.slice B G C]:List Value).toArray) rfl (QY (by rfl) 32 _ rfl t 1 rfl [.string ⟨#[48,56,48,48]⟩,.slice B G C] _ (fun _ h=>h.2.2) underlying32 rfl (by kernel_rfl)) d ?_;simp only [put,pS];refine rdy1 7 (fun K U=>?_);go_simp;refine (b4.out V c0).mono ?_;rintro e U1 ⟨⟨ab,cb,rfl,rb,lb,qb⟩,b7⟩;have m:=c0.trans (b7.mono c0.size);have a6:=kV.below b7 kV.lt;have e8:=AA rb;have g0:=AA lb;have f6:Hid (∀ a,ab = some a -> ¬ P a.block /\ a.block ≠ r):=fun a e=>⟨fun q=>qb a e (.inl q),fun q=>qb a e (.inr q)⟩;clear rb lb qb b7;go_wp2_with fail;refine U.out _ _ (O.out a6) (fun d=>?_);clear U K
 try dsimp only [put]
 refine rdy1 8 (fun K U=>?_);go_simp;refine (d5.out ab cb g0.out f6.out U1 m e8.out).mono ?_;rintro e U2 ⟨⟨g,rfl,hc,o⟩,g5,b8,k8,x8⟩;have c5:Blk U2 t _ _:=(k8 t a6.lt (by omega)).trans a6;go_wp2_with fail;refine U.out _ _ (O.out c5) (fun d=>?_);clear U K
 try dsimp only [put]
 refine rdy1 9 (fun K U=>?_);go_simp;refine (d4.out g hc U1 U2 m b8 k8 g5).mono ?_;rintro e U3 ⟨rfl,b9,p9,s9,-,h9⟩;obtain ⟨aS,cS,e4,rS,f7,lS⟩:=h9 trivial;have e5:=c5.sm s9 (by decide);go_wp2_with fail;refine U.out _ _ (O.out e5) (fun d=>?_);clear U K
 try dsimp only [put]
 refine QM (by kernel_rfl) ?_ _;clear d;refine bodyPost_end (results_none rfl _ _ _) rfl ⟨rfl,(m.mono e6).trans (b8.trans b9),((Kp.below m).trans m.size (k8.weak (fun q _ e=>.inr e))).trans (QG m.size b8.size) (p9.weak (fun q _ e=>.inl e)),(fun j h1 h2=>(World.cell?_of_block (a:=⟨r,j,none⟩) (p9 r (QX b1 (QG m.size b8.size)) e9)).trans ((x8 j h1 h2).trans (m.cell (p:=⟨r,j,none⟩) b1))),g,aS,cS,o.imp (fun k=>(k.kp p9).weak (fun _ q=>q.1)),e4,rS,f7,fun p hp=>⟨QG (QG m.size b8.size) (lS p hp).1,(lS p hp).2⟩⟩
end Go.Proofs.YtbkokcjolanpeaaGreatDoor
