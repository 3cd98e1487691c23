import Derived.Test.YtbkokcjolanpeaaGreatDoorMkAK
set_option maxRecDepth 100000
set_option maxHeartbeats 20000000
namespace Go.Proofs.YtbkokcjolanpeaaGreatDoor
open Go.RowKit Go.Proofs.Tryz Act
def HL (w:World) (hnd:Value) (key:ByteArray) (d:Value) (a:Bool):Prop:=∃ f b c,hnd = .map (some f) /\ w.heap[f]? = some (Obj.map b c) /\ ((a = true /\ ∃ n,Instr.findNow .string (.string key) b.toList 0 = some (some (n,d))) \/ (a = false /\ Instr.findNow .string (.string key) b.toList 0 = some none /\ d = .nilFunc))
theorem HL.sm {ts:List Nat} {w w':World} {hnd d:Value} {key:ByteArray} {b:Bool} (h:HL w hnd key d b) (k:Sm ts w w'):HL w' hnd key d b:=by
 obtain ⟨a,i,c,j,g,f⟩:=h;exact ⟨a,i,c,j,k.stay a _ g (fun _ _ _ e=>by cases e),f⟩
theorem Tryz.zeroHf:(prog.info? 141).map (fun i=>(i.zero,i.size)) = some (some .nilFunc,1):=by kernel_rfl
theorem WV {w:World} {hnd f:Value} {key:ByteArray} {b:Bool} (h:HL w hnd key f b):(Instr.lookup 81 hnd (.string key) true).run prog w = .ok (.tuple #[f,.bool b]) w:=by
 obtain ⟨i,g,c,rfl,d,a⟩:=h;rcases a with ⟨rfl,n,a⟩ | ⟨rfl,a,rfl⟩
 ·exact WG ⟨i,g,c,n,rfl,d,a⟩
 ·have j:∀ b,(Instr.checkKey b 10000 9 (.string key)).run prog w = .ok () w:=fun b=>by
   rw [show (10000:Nat) = 9999 + 1 from rfl,Instr.checkKey,Qe,qW underlying9]
   rfl
  have k:(Instr.findKey 9 (.string key) g.toList).run prog w = .ok none w:=by
   unfold Instr.findKey;rw [Qe,qW underlying9 w];simp only [Result.andThen];rw [a]
   rfl
  unfold Instr.lookup;rw [Qe,qW underlying81 w];simp only [Result.andThen];rw [Qe,I9 d];simp only [Result.andThen];rw [Qe,ql];simp only [Result.andThen];rw [Qe,j];simp only [Result.andThen];rw [Qe,k];simp only [Result.andThen];rw [Qe,(QO Tryz.zeroHf).1 w]
  rfl
theorem OO (s:SS) (w0:World) (J:Nat) (P:Nat -> Prop) (x0 x1:Addr) (am:Option Addr) (cm:Nat) (o:LU) (M:Mst w0 x0 x1 am o) (hm:s.mst = .slice am o.length cm) (l gK nK cK:Nat) (d6:s.kys = .slice (some ⟨gK,0,none⟩) nK cK) (e7:l < nK) (a1:Option Addr) (c1:Nat) (k1:LU) (a2:Option Addr) (c2:Nat) (k2:LU)
 (data:LU) (ad:Option Addr) (cd:Nat) (e1:data.length <= cd) (hn:data.length <= 1048576) (hC:dC data = 0) (g:ByteArray) (d2:dM data = g) (L:List (Int × LU)) (c9:L = Gj (dL data)) (hL:L.length <= 1048576) (m:Bool) (fv:Value) (e4:m = true -> fv = .func (Fn.func 72) #[.pointer (some ⟨J,0,none⟩)] #[])
 (C:Option Addr) (E D:Nat) (e2:(if !opB o k1 data && opB o k2 data then Value.slice a2 k2.length c2 else .slice a1 k1.length c1) = .slice C D E) (right:Bool) (d1:(opB o k1 data || opB o k2 data) = right)
 (w:World) (b0:Bl w0 w) (h:Ses w w0.heap.size J P s) (K:KS w P gK l a1 c1 k1 a2 c2 k2) (rd:RowAt w ad data) (hH:HL w s.hnd g fv m) (Q:Ending -> World -> Prop) (hQ:∀ e w',Q e w' -> e = .returned (.tuple #[]))
 (hE:∀ (X1 Z:World) (v:Value) (vs:List Value),Bl w X1 -> Fs X1 w.heap.size v (dL data) vs -> Bl X1 Z ->
  (right = false -> Calls prog 118 #[.pointer (some ⟨J,0,none⟩),.agg #[.int .i64 (l:Int),.string g,v,.string ⟨(A9 11 L).toArray⟩,.slice C D E],.int .i64 63] Z Q) /\
  (right = true -> m = false -> Calls prog 118 #[.pointer (some ⟨J,0,none⟩),.agg #[.int .i64 (l:Int),.string g,v,.string ⟨(A9 11 L).toArray⟩,.slice C D E],.int .i64 12] Z Q) /\
  (right = true -> m = true -> Calls prog 72 #[.pointer (some ⟨J,0,none⟩),.agg #[.int .i64 (l:Int),.string g,v,.string ⟨(A9 11 L).toArray⟩,.slice C D E]] Z Q)) :
 Calls prog 74 #[.pointer (some ⟨J,0,none⟩),.int .i64 (l:Int),.slice ad data.length cd] w Q:=by
 have hz:=(QO Tryz.zeroAr).1;have e6:=b0.size;have HD:=AA (M7 data ad cd w hn e1 rd);rw [hC,d2] at HD;have a7:=AA (fun (y:World) (O:Bl w y)=>Vj s w0 J P x0 x1 am cm o M hm l gK nK cK d6 e7 a1 c1 k1 a2 c2 k2 data ad cd e1 hn y (b0.trans (O.mono e6)) (h.below O) (K.below O) (rd.below O));rw [e2,d1] at a7;obtain ⟨nD,a9⟩:=uX (data.length);obtain ⟨q,d3⟩:=uX (L.length);obtain ⟨p,hp⟩:=uX (dP data);obtain ⟨a,ha⟩:=uX (dA data);have e5:=AA d3;have c8:=AA c9;rw [<- a9,<- hp,<- ha] at HD;rw [<- a9] at a7;rw [<- a9];obtain ⟨wv,sv,lv,ps,h⟩:=h;have c0:=AA (fun (y:World) (O:Bl w y)=>h.sm (Sm.below O));have c3:=AA (fun (y:World) (O:Bl w y)=>hH.sm (ts:=[]) (Sm.below O));have HE:=AA hE;have HQ:=AA hQ;clear a9 d3 hp ha c9 h hH rd b0 hC d2 e2 d1 K hE hQ hm d6;go_enter func74,ntmps74;go_wp2_with fail;refine HD.out.mono ?_;rintro e X1 ⟨v,rfl,⟨vs,FS⟩,b1⟩;obtain ⟨t,x,hv⟩:=EV FS.row;have b5:(dL data).length = q:=by rw [e5.out,c8.out,Dx]
 rw [b5] at hv;subst hv;have b6:=AA FS;obtain ⟨gD,b9⟩:=uX (X1.heap.size);obtain ⟨X2,a6⟩:=uX (X1.alloc (Obj.cells #[.int .i64 0,.int .i64 (p:Int),.string g,.slice t q x,.int .i64 (a:Int)] 97));have b2:=uB a6;have kD:=uK a6 b9;have d0:=kD.c 0;have d4:=AA a6;have e3:=AA b9;clear a6 b9 FS b5 HD;go_upto_region 1 with fail
 rw [<- show X2 = _ from d4,<- show gD = _ from e3];clear d4 e3;go_upto_region 3 with fail
 have a5:=b1.trans (b2.mono b1.size);go_wp2_with fail;refine (a7.out X2 a5).mono ?_;rintro e X3 ⟨rfl,b3⟩;go_upto_region 4 with fail
 obtain ⟨V,hV⟩:=uX (World.drew X3);have a8:Bl X2 V:=by rw [hV];exact b3.drew
 have a3:Bl X1 V:=b2.trans (a8.mono b2.size);have c6:Bl w V:=a5.trans (a8.mono a5.size);have b8:=kD.below a8 kD.lt;have a4:=AA (fun (y:World) (O:Bl V y)=>OX 11 g L hL (.slice t q x) y (by
  have f:=Uo (b6.out.below (a3.trans (O.mono a3.size)));rw [<- c8.out] at f;exact f.1.fr f.2))
 have i:Hid (∀ {y},Bl V y -> y.rangeAt gD 2 [.string g,.slice t q x]):=fun O j u hu=>by
  have k:=b8.below O b8.lt
  cases j with
  | zero=>simp at hu;subst hu;exact k.c 2
  | succ j =>
    cases j with
    | zero=>simp at hu;subst hu;exact k.c 3
    | succ j=>simp at hu
 have H:Bl V V:=Below.refl _ _;have HV:=AA hV;clear hV a8 b2 b3 a5 kD b8 d0 a7;refine QJ (S:=fun y=>y.rangeAt gD 2 [.string g,.slice t q x]) (by kernel_rfl) (by rw [<- show V = _ from HV];exact i.out H) (fun b=>?_);rw [<- show V = _ from HV] at b ⊢;clear HV;refine tA 0 (.int .i64 (l:Int)) b ?_;simp only [put,pS];refine tA 1 (.pointer (some ⟨gD,2,none⟩)) b ?_;simp only [put,pS];refine tB 2 (.agg ([.string g,.slice t q x]:List Value).toArray) rfl (QY (by rfl) 32 _ rfl gD 2 rfl [.string g,.slice t q x] _ (fun _ h=>h) underlying32 rfl (by kernel_rfl)) b ?_;simp only [put,pS];refine tA 3 (.pointer (some ⟨gD,2,none⟩)) b ?_;simp only [put,pS];refine tB 4 (.agg ([.string g,.slice t q x]:List Value).toArray) rfl (QY (by rfl) 32 _ rfl gD 2 rfl [.string g,.slice t q x] _ (fun _ h=>h) underlying32 rfl (by kernel_rfl)) b ?_;simp only [put,pS];refine tA 7 (.slice C D E) b ?_;simp only [put,pS];refine Qr (rs:=[5,9]) (by kernel_rfl) (by simp) ?_;refine AllReadyH.cons rfl (fun K d=>?ga5) (AllReadyH.cons rfl (fun K d=>?ga9) (AllReadyH.nil))
 case' ga5 =>
  go_simp;refine (a4.out V H).mono ?_;rintro e N ⟨⟨aF,cF,rfl,rF⟩,bF⟩;obtain ⟨nF,W⟩:=uX ((A9 11 L).length);rw [<- W];have T:=AA W;have r:=H.trans (bF.mono H.size);clear W;go_wp2_with fail;refine d.out _ _ (i.out r) (fun b=>?_);clear d K
  try dsimp only [put]
  refine Qr (rs:=[6,9]) (by kernel_rfl) (by simp) ?_;refine AllReadyH.cons rfl (fun K d=>?gb6) (AllReadyH.cons rfl (fun K d=>?gb9) (AllReadyH.nil))
  case' gb6 =>
   have a0:=DC (A9 11 L) aF nF cF N T.out.symm rF;go_simp;refine d.out _ _ (i.out r) (fun b=>?_);clear d K
   try dsimp only [put]
   refine tA 8 (.agg ([.int .i64 (l:Int),.string g,.slice t q x,.string ⟨(A9 11 L).toArray⟩,.slice C D E]:List Value).toArray) b ?_;simp only [put,pS];refine rdy1 9 (fun K d=>?_);go_simp;obtain ⟨I,B⟩:=uX (World.alloc N (Obj.cells IX.toArray 219));obtain ⟨n,A⟩:=uX ((World.heap N).size);have U:Blk I n 219 IX:=by rw [B,A];exact Blk.new _ _ _
   have X:Below (World.heap N).size N I:=by rw [B];exact CN _ _
   have z:=r.trans (X.mono r.size);have G:V.heap.size <= n:=by rw [A];exact r.size
   rw [<- B,<- A];clear B A;refine d.out _ _ (i.out z) (fun b=>?_);clear d K
   try dsimp only [put]
   refine rdy1 10 (fun K d=>?_);rw [if_pos (by rfl)];refine AR (cs:=[.int .i64 (l:Int),.string g,.slice t q x,.string ⟨(A9 11 L).toArray⟩,.slice C D E]) rfl 219 _ _ rfl n rfl rfl U (by kernel_rfl) rfl (by simp [Value.oneCell']) ?_;obtain ⟨Y,F⟩:=uX (World.setRow I n ([.int .i64 (l:Int),.string g,.slice t q x,.string ⟨(A9 11 L).toArray⟩,.slice C D E]:List Value).toArray);have kY:Blk Y n 219 [.int .i64 (l:Int),.string g,.slice t q x,.string ⟨(A9 11 L).toArray⟩,.slice C D E]:=by rw [F];exact Blk.setRow U _
   have R:Bl V Y:=by rw [F];exact AN z G _
   rw [<- F];refine d.out _ _ (i.out R) (fun b=>?_);clear d K
   try dsimp only [put]
   refine QM (by kernel_rfl) ?_ _;clear b F U X z G rF bF r T a0
  case' gb9 =>
   go_simp;obtain ⟨I,B⟩:=uX (World.alloc N (Obj.cells IX.toArray 219));obtain ⟨n,A⟩:=uX ((World.heap N).size);have U:Blk I n 219 IX:=by rw [B,A];exact Blk.new _ _ _
   have X:Below (World.heap N).size N I:=by rw [B];exact CN _ _
   have z:=r.trans (X.mono r.size);have G:V.heap.size <= n:=by rw [A];exact r.size
   rw [<- B,<- A];clear B A;refine d.out _ _ (i.out z) (fun b=>?_);clear d K
   try dsimp only [put]
   refine rdy1 6 (fun K d=>?_);have a0:=DC (A9 11 L) aF nF cF I T.out.symm (rF.below X);go_simp;refine d.out _ _ (i.out z) (fun b=>?_);clear d K
   try dsimp only [put]
   refine tA 8 (.agg ([.int .i64 (l:Int),.string g,.slice t q x,.string ⟨(A9 11 L).toArray⟩,.slice C D E]:List Value).toArray) b ?_;simp only [put,pS];refine rdy1 10 (fun K d=>?_);rw [if_pos (by rfl)];refine AR (cs:=[.int .i64 (l:Int),.string g,.slice t q x,.string ⟨(A9 11 L).toArray⟩,.slice C D E]) rfl 219 _ _ rfl n rfl rfl U (by kernel_rfl) rfl (by simp [Value.oneCell']) ?_;obtain ⟨Y,F⟩:=uX (World.setRow I n ([.int .i64 (l:Int),.string g,.slice t q x,.string ⟨(A9 11 L).toArray⟩,.slice C D E]:List Value).toArray);have kY:Blk Y n 219 [.int .i64 (l:Int),.string g,.slice t q x,.string ⟨(A9 11 L).toArray⟩,.slice C D E]:=by rw [F];exact Blk.setRow U _
   have R:Bl V Y:=by rw [F];exact AN z G _
   rw [<- F];refine d.out _ _ (i.out R) (fun b=>?_);clear d K
   try dsimp only [put]
   refine QM (by kernel_rfl) ?_ _;clear b F U X z G rF bF r T a0
 case' ga9 =>
  go_simp;obtain ⟨I,B⟩:=uX (World.alloc V (Obj.cells IX.toArray 219));obtain ⟨n,A⟩:=uX ((World.heap V).size);have U:Blk I n 219 IX:=by rw [B,A];exact Blk.new _ _ _
  have X:Below (World.heap V).size V I:=by rw [B];exact CN _ _
  have z:=H.trans (X.mono H.size);have G:V.heap.size <= n:=by rw [A];exact H.size
  rw [<- B,<- A];clear B A;refine d.out _ _ (i.out z) (fun b=>?_);clear d K
  try dsimp only [put]
  refine rdy1 5 (fun K d=>?_);go_simp;refine (a4.out I z).mono ?_;rintro e N ⟨⟨aF,cF,rfl,rF⟩,bF⟩;obtain ⟨nF,W⟩:=uX ((A9 11 L).length);rw [<- W];have T:=AA W;have r:=z.trans (bF.mono z.size);clear W;go_wp2_with fail;refine d.out _ _ (i.out r) (fun b=>?_);clear d K
  try dsimp only [put]
  refine rdy1 6 (fun K d=>?_);have a0:=DC (A9 11 L) aF nF cF N T.out.symm rF;go_simp;refine d.out _ _ (i.out r) (fun b=>?_);clear d K
  try dsimp only [put]
  refine tA 8 (.agg ([.int .i64 (l:Int),.string g,.slice t q x,.string ⟨(A9 11 L).toArray⟩,.slice C D E]:List Value).toArray) b ?_;simp only [put,pS];refine rdy1 10 (fun K d=>?_);have c4:=U.below bF U.lt;rw [if_pos (by rfl)];refine AR (cs:=[.int .i64 (l:Int),.string g,.slice t q x,.string ⟨(A9 11 L).toArray⟩,.slice C D E]) rfl 219 _ _ rfl n rfl rfl c4 (by kernel_rfl) rfl (by simp [Value.oneCell']) ?_;obtain ⟨Y,F⟩:=uX (World.setRow N n ([.int .i64 (l:Int),.string g,.slice t q x,.string ⟨(A9 11 L).toArray⟩,.slice C D E]:List Value).toArray);have kY:Blk Y n 219 [.int .i64 (l:Int),.string g,.slice t q x,.string ⟨(A9 11 L).toArray⟩,.slice C D E]:=by rw [F];exact Blk.setRow c4 _
  have R:Bl V Y:=by rw [F];exact AN r G _
  rw [<- F];refine d.out _ _ (i.out R) (fun b=>?_);clear d K
  try dsimp only [put]
  refine QM (by kernel_rfl) ?_ _;clear b F U X z G rF bF r T a0;clear c4
 all_goals
  go_upto_region 5 with fail
  obtain ⟨Z,hZ⟩:=uX (World.drew Y);have b7:Bl V Z:=by rw [hZ];exact R.drew
  have kZ:Blk Z n 219 [.int .i64 (l:Int),.string g,.slice t q x,.string ⟨(A9 11 L).toArray⟩,.slice C D E]:=by rw [hZ];exact kY
  have b4:=c6.trans (b7.mono c6.size);have d5:=a3.trans (b7.mono a3.size);have c7:=AA (HE.out X1 Z (.slice t q x) vs b1 b6.out d5);have e0:Z.cell? ⟨J,5,none⟩ = some s.hnd /\ Z.cell? ⟨n,1,none⟩ = some (.string g) /\ HL Z s.hnd g fv m:=⟨(c0.out Z b4).c5,kZ.c 1,c3.out Z b4⟩;clear kY R b7 b4 d5 i H a4 HE c0 c3 b6 c6 a3 b1;refine QJ (S:=fun y=>y.cell? ⟨J,5,none⟩ = some s.hnd /\ y.cell? ⟨n,1,none⟩ = some (.string g) /\ HL y s.hnd g fv m) (by kernel_rfl) (by rw [<- hZ];exact e0) (fun b=>?_);rw [<- hZ] at b ⊢;clear hZ e0;refine tA 0 (.pointer (some ⟨J,0,none⟩)) b ?_;simp only [put,pS];refine tA 1 (.pointer (some ⟨J,0,none⟩)) b ?_;simp only [put,pS];refine tA 2 (.pointer (some ⟨J,5,none⟩)) b ?_;simp only [put,pS];refine tC 3 s.hnd rfl (fun w1 h=>by have hc:=h.1;go_simp) b ?_;simp only [put,pS];refine tA 4 (.pointer (some ⟨n,1,none⟩)) b ?_;simp only [put,pS];refine tA 5 (.pointer (some ⟨n,1,none⟩)) b ?_;simp only [put,pS];refine tC 6 (.string g) rfl (fun w1 h=>by have hc:=h.2.1;go_simp) b ?_;simp only [put,pS];refine tC 7 (.tuple #[fv,.bool m]) rfl (fun w1 h=>by have hc:=WV h.2.2;go_simp) b ?_;simp only [put,pS];refine tA 8 (.tuple #[fv,.bool m]) b ?_;simp only [put,pS];refine tA 9 fv b ?_;simp only [put,pS];refine tA 10 (.bool m) b ?_;simp only [put,pS];refine rdy1 11 (fun K d=>?_);go_simp;refine d.out _ _ b (fun b=>?_);clear d K
  try dsimp only [put]
  refine rdy1 12 (fun K d=>?_);go_simp;refine d.out _ _ b (fun b=>?_);clear d K
  try dsimp only [put]
  refine QM (by kernel_rfl) ?_ _;clear b;cases right
  ·go_wp2_with (refine AL rfl 219 _ rfl n rfl kZ underlying219 rfl (by kernel_rfl) ?_)
   refine (c7.out.1 (by trivial)).mono ?_;intro e w2 hq;obtain rfl:=HQ.out _ _ hq;go_wp2_with fail;go_end0;exact hq
  ·cases m
   ·go_wp2_with (refine AL rfl 219 _ rfl n rfl kZ underlying219 rfl (by kernel_rfl) ?_)
    refine (c7.out.2.1 (by trivial) (by trivial)).mono ?_;intro e w2 hq;obtain rfl:=HQ.out _ _ hq;go_wp2_with fail;go_end0;exact hq
   ·obtain rfl:=e4 rfl;go_wp2_with (refine AL rfl 219 _ rfl n rfl kZ underlying219 rfl (by kernel_rfl) ?_)
    refine (c7.out.2.2 (by trivial) (by trivial)).mono ?_;intro e w2 hq;obtain rfl:=HQ.out _ _ hq;go_wp2_with fail;go_end0;exact hq
def KO (w:World) (P:Nat -> Prop) (d l f:Nat) (b:Nat -> LU):Prop:=∀ i,i < f -> i ≠ l -> ∃ a c,w.cell? ⟨d,i * 2,none⟩ = some (.slice a (b i).length c) /\ w.cell? ⟨d,i * 2 + 1,none⟩ = some (.slice none 0 0) /\ (b i).length <= c /\ RowAt w a (b i) /\ ∀ p,a = some p -> ¬ P p.block /\ p.block ≠ d
theorem KO.next {w w':World} {P f:Nat -> Prop} {b l m:Nat} {g:Nat -> LU} (h:KO w P b l m g) (k:Kp (fun q=>P q \/ q = b) w w') (n:∀ j,j ≠ l * 2 -> j ≠ l * 2 + 1 -> w'.cell? ⟨b,j,none⟩ = w.cell? ⟨b,j,none⟩) (d:∀ q,f q -> P q):KO w' f b l m g:=fun i s v=>by
 obtain ⟨a,c,t,o,u,r,q⟩:=h i s v;exact ⟨a,c,(n _ (by omega) (by omega)).trans t,(n _ (by omega) (by omega)).trans o,u,r.kp k (fun p d z=>by
  rcases z with z | z
  ·exact (q p d).1 z
  ·exact (q p d).2 z),fun p e=>⟨fun z=>(q p e).1 (d _ z),(q p e).2⟩⟩
def KW (y:World) (B m b l q:Nat) (o:Nat -> LU) (d:Nat) (g:Obj) (s:SS) (now bef:LU) (DS:List LU):Prop:=∃ P n r j f,(∀ k,y.heap.size <= k -> P k) /\ Ses y B m P s /\ KS y P b l n r now j f bef /\ KO y P b l q o /\ (y.heap[d]? = some g /\ ¬ P d /\ d ≠ b) /\ s.S.length = DS.length /\
 ∀ i,i < DS.length -> ∃ a c,s.S.getD i (0,undef) = ((l:Int),.slice a (DS.getD i []).length c) /\ RowAt y a (DS.getD i []) /\ (DS.getD i []).length <= c /\ ∀ p,a = some p -> ¬ P p.block /\ p.block ≠ b
def F5 (a now bef data:LU):LU:=if !opB a now data && opB a bef data then bef else now
theorem Td {w:World} {P:Nat -> Prop} {m l:Nat} {j:Option Addr} {k:Nat} {c:LU} {g:Option Addr} {f:Nat} {d:LU} (K:KS w P m l j k c g f d) (b data:LU):∃ i n,(if !opB b c data && opB b d data then Value.slice g d.length f else .slice j c.length k) = .slice i (F5 b c d data).length n /\ (F5 b c d data).length <= n /\ RowAt w i (F5 b c d data) /\ ∀ a,i = some a -> a.block ≠ m:=by
 unfold F5
 split
 ·exact ⟨g,f,rfl,K.l2,K.r2,fun a e=>(K.p2 a e).2⟩
 ·exact ⟨j,k,rfl,K.l1,K.r1,fun a e=>(K.p1 a e).2⟩
structure Kc (w0:World) (x0 x1:Addr) (am:Option Addr) (cm:Nat) (master:LU) (gS l gK nK cK:Nat) (s:SS):Prop where
 M:Mst w0 x0 x1 am master
 hm:s.mst = .slice am master.length cm
 hgK:w0.heap.size <= gK
 hky:s.kys = .slice (some ⟨gK,0,none⟩) nK cK
 hto:l < nK
 W:s.W = []
structure Md (data:LU) (mt:ByteArray) (L:List (Int × LU)):Prop where
 hn:data.length <= 1048576
 C:dC data = 0
 M:dM data = mt
 hLd:L = Gj (dL data)
 hL:L.length <= 1048576
 h11:FY 11 L = true
 hst:(A9 11 L).length <= 1048576
theorem aJ {m:World} {I R:Addr} {H:Option Addr} {U:Nat} {b:LU} {n l o u cK:Nat} {s:SS} (C:Kc m I R H U b n l o u cK s) (X:Nat -> LU) (F:Nat) (J:Obj) (now bef:LU) (DS:List LU) (data:LU) (L:List (Int × LU)) (D:Md data ⟨#[48,57,48,48]⟩ L) (O:Option Addr) (W:Nat) (a3:data.length <= W) (w:World) (B:Bl m w) (h:KW w m.heap.size n o l u X F J s now bef DS) (rd:RowAt w O data) (hH:HL w s.hnd ⟨#[48,57,48,48]⟩ .nilFunc false) (a0:s.S.length <= 1000000) (a7:s.L.length <= 1000000) :
 Calls prog 74 #[.pointer (some ⟨n,0,none⟩),.int .i64 (l:Int),.slice O data.length W] w fun e w'=>e = .returned (.tuple #[]) /\ KW w' m.heap.size n o l u X F J { s with L:=s.L ++ [((if opB b now data || opB b bef data then 12 else 63),(l:Int),⟨(A9 11 L).toArray⟩)] } now bef DS /\ Below m.heap.size w w':=by
 obtain ⟨P,a1,c1,a2,c2,hP,hS,K,hO,x,hl,hD⟩:=h;obtain ⟨T,V,a5,a6,rk,-⟩:=Td K b data;have Y:o < w.heap.size:=QF w _ K.e1;have a8:=(Array.getElem?_eq_some_iff.1 x.1).1;refine OO s m n P I R H U b C.M C.hm l o u cK C.hky C.hto a1 c1 now a2 c2 bef data O W a3 D.hn D.C _ D.M L D.hLd D.hL false .nilFunc (fun e=>by cases e) T V _ a5 _ rfl w B hS K rd hH _ (fun e w' q=>q.1) ?_;intro E Z v vs b1 FS y;have g:=b1.trans (y.mono b1.size);have G:∀ k,Z.heap.size <= k -> P k /\ ¬ (w.heap.size <= k /\ k < E.heap.size):=fun k N=>⟨hP k (QG g.size N),fun q=>by have:=y.size;omega⟩;have a4:Ses Z m.heap.size n (fun k=>P k /\ ¬ (w.heap.size <= k /\ k < E.heap.size)) s:=(hS.weak (fun k _ q1 q2=>⟨q2,fun q=>by omega⟩)).below g;have key:∀ d:Nat,d < 100 -> Calls prog 118 #[.pointer (some ⟨n,0,none⟩),.agg #[.int .i64 (l:Int),.string ⟨#[48,57,48,48]⟩,v,.string ⟨(A9 11 L).toArray⟩,.slice T (F5 b now bef data).length V],.int .i64 (d:Int)] Z fun e w'=>e = .returned (.tuple #[]) /\ KW w' m.heap.size n o l u X F J { s with L:=s.L ++ [((d:Int),(l:Int),⟨(A9 11 L).toArray⟩)] } now bef DS /\ Below m.heap.size w w':=by
  intro d hc;refine (NR s m n (fun k=>P k /\ ¬ (w.heap.size <= k /\ k < E.heap.size)) I R H U b C.M C.hm (l:Int) d hc ⟨(A9 11 L).toArray⟩ D.hst (F5 b now bef data) T V a6 L D.hL D.h11 v _ (.inr rfl) Z (B.trans (g.mono B.size)) G a4 (by
   have f:=Uo (FS.below y);rw [<- D.hLd] at f;exact f.1.fr f.2) (rk.below g) a0 a7).mono ?_
  rintro e w' ⟨rfl,bw,kp,sm,h9,-⟩;have t:Kp (fun k=>P k /\ ¬ (w.heap.size <= k /\ k < E.heap.size)) w w':=(Kp.below g).trans g.size kp;exact ⟨rfl,⟨_,a1,c1,a2,c2,fun k N=>G k (QG sm.size N),h9 rfl,(K.weak (fun _ q=>q.1)).kp t,hO.next (t.weak (fun q _ z=>.inl z.1)) (fun j _ _=>World.cell?_of_block (a:=⟨o,j,none⟩) (t o Y (fun z=>K.pK z.1))) (fun _ q=>q.1),⟨(t F a8 (fun z=>x.2.1 z.1)).trans x.1,fun z=>x.2.1 z.1,x.2.2⟩,hl,fun i hi=>by
   obtain ⟨a,c,e,r,lc,q⟩:=hD i hi;exact ⟨a,c,e,r.kp t (fun p A z=>(q p A).1 z.1),lc,fun p A=>⟨fun z=>(q p A).1 z.1,(q p A).2⟩⟩⟩,(g.mono B.size).trans bw⟩
 cases ho:(opB b now data || opB b bef data)
 ·exact ⟨fun _=>key 63 (by omega),fun e=>(by cases e),fun e=>(by cases e)⟩
 ·exact ⟨fun e=>(by cases e),fun _ _=>key 12 (by omega),fun _ e=>(by cases e)⟩
def kyN (a now bef b:LU):(LU × LU) × Nat:=if opG a b = opG a now /\ BH a b = BH a now then ((now,bef),0) else if opG a b = opG a now + 1 then ((b,now),0) else ((now,bef),12)
theorem KyR.to {w:World} {P:Nat -> Prop} {m l:Nat} {d:Option Addr} {g:Nat} {f:LU} {k:Option Addr} {j:Nat} {i a b:LU} {c:Nat} (h:KyR w P m l d g f k j i a b c):c = (kyN a f i b).2 /\ ∃ p o r n,KS w P m l p o (kyN a f i b).1.1 r n (kyN a f i b).1.2:=by
 unfold KyR at h;unfold kyN
 split
 ·rw [if_pos (by assumption)] at h;exact ⟨h.1,d,g,k,j,h.2⟩
 ·rw [if_neg (by assumption)] at h
  split
  ·rw [if_pos (by assumption)] at h;obtain ⟨e,s,q,h⟩:=h;exact ⟨e,s,q,d,g,h⟩
  ·rw [if_neg (by assumption)] at h;exact ⟨h.1,d,g,k,j,h.2⟩
structure Mk (master now:LU) (L:List (Int × LU)):Prop where
 h48:FY 48 L = true
 h70:A9 70 L = [49,48,49]
 f:Bb master (A9 48 L) = true
 t:BZ master (A9 48 L) = true
 u:opU master (A9 48 L) = 2
 G:0 <= opG master now /\ opG master now <= 255
theorem Xg {o:World} {R V:Addr} {O:Option Addr} {Y:Nat} {b:LU} {n l m A cK:Nat} {s:SS} (C:Kc o R V O Y b n l m A cK s) (ks:Nat -> LU) (gM:Nat) (mo:Obj) (now bef:LU) (DS:List LU) (data:LU) (L:List (Int × LU)) (D:Md data ⟨#[48,56,48,48]⟩ L) (E:Mk b now L) (a8:(opB b now data || opB b bef data) = true) (U:Option Addr) (cd:Nat) (a5:data.length <= cd) (w:World) (I:Bl o w) (h:KW w o.heap.size n m l A ks gM mo s now bef DS) (rd:RowAt w U data) (hH:HL w s.hnd ⟨#[48,56,48,48]⟩ (hFn n 72) true) (a3:s.S.length <= 1000000) (b3:s.L.length <= 1000000) :
 Calls prog 74 #[.pointer (some ⟨n,0,none⟩),.int .i64 (l:Int),.slice U data.length cd] w fun e w'=>e = .returned (.tuple #[]) /\ (∃ x,KW w' o.heap.size n m l A ks gM mo { s with S:=s.S ++ [((l:Int),x)],L:=s.L ++ [(((kyN b now bef (A9 48 L)).2:Int),(l:Int),⟨(A9 11 L).toArray⟩)] } (kyN b now bef (A9 48 L)).1.1 (kyN b now bef (A9 48 L)).1.2 (DS ++ [Da b (F5 b now bef data) ⟨(A9 11 L).toArray⟩ (kyN b now bef (A9 48 L)).2])) /\ Below o.heap.size w w':=by
 obtain ⟨P,a1,c1,a2,c2,hP,hS,K,hO,y,hl,hD⟩:=h;obtain ⟨ak,ck,a9,b2,rk,b7⟩:=Td K b data;have a0:m < w.heap.size:=QF w _ K.e1;have b5:=(Array.getElem?_eq_some_iff.1 y.1).1;refine OO s o n P R V O Y b C.M C.hm l m A cK C.hky C.hto a1 c1 now a2 c2 bef data U cd a5 D.hn D.C _ D.M L D.hLd D.hL true _ (fun _=>rfl) ak ck _ a9 _ a8 w I hS K rd hH _ (fun e w' q=>q.1) ?_;intro J Z v vs b1 FS B;refine ⟨fun e=>(by cases e),fun _ e=>(by cases e),fun _ _=>?_⟩;have d:=b1.trans (B.mono b1.size);have N:∀ k,Z.heap.size <= k -> P k /\ ¬ (w.heap.size <= k /\ k < J.heap.size):=fun k T=>⟨hP k (QG d.size T),fun q=>by have:=B.size;omega⟩;have a6:Ses Z o.heap.size n (fun k=>P k /\ ¬ (w.heap.size <= k /\ k < J.heap.size)) s:=(hS.weak (fun k _ q1 q2=>⟨q2,fun q=>by omega⟩)).below d;have F:FrZ Z v L (fun q=>(P q /\ ¬ (w.heap.size <= q /\ q < J.heap.size)) \/ q = m):=by
  rw [D.hLd];exact (FrZ.of FS (fun k h1 X z=>by
   rcases z with z | z
   ·exact z.2 ⟨h1,X⟩
   ·omega)).below B
 refine (PP s C.W o n _ R V O Y b C.M C.hm l m A cK C.hgK C.hky C.hto a1 c1 now a2 c2 bef ⟨(A9 11 L).toArray⟩ D.hst (F5 b now bef data) ak ck b2 b7 L D.hL D.h11 E.h48 E.h70 (A9 48 L) rfl E.f E.t E.u E.G v Z (I.trans (d.mono I.size)) N a6 ((K.weak (fun _ q=>q.1)).below d) F (rk.below d) a3 b3).mono ?_;rintro e w' ⟨rfl,bw,kp,a7,b8,a,c,hy,b4,rS,b6,lS⟩;obtain ⟨rfl,d1,e1,d2,e2,KN⟩:=hy.to;have H:Kp (fun q=>(P q /\ ¬ (w.heap.size <= q /\ q < J.heap.size)) \/ q = m) w w':=(Kp.below d).trans d.size kp;have a4:Z.heap.size <= w'.heap.size:=bw.size;refine ⟨rfl,⟨_,_,d1,e1,d2,e2,fun k T=>⟨N k (QG a4 T),fun p g e=>by have:=(lS p g).2;omega⟩,b4,KN,hO.next (H.weak (fun q _ z=>z.imp (fun z=>z.1) id)) (fun j h1 X=>(a7 j h1 X).trans (d.cell (p:=⟨m,j,none⟩) a0)) (fun _ q=>q.1.1),⟨(H gM b5 (fun z=>z.elim (fun z=>y.2.1 z.1) y.2.2)).trans y.1,fun z=>y.2.1 z.1.1,y.2.2⟩,?_,fun i hi=>?_⟩,(d.mono I.size).trans bw⟩
 ·show (s.S ++ _).length = (DS ++ _).length;rw [QC,QC,hl]
  rfl
 ·rw [QC] at hi;have b9:i < DS.length + 1:=hi;show ∃ a' c',(s.S ++ [((l:Int),Value.slice a _ c)]).getD i (0,undef) = _ /\ _
  by_cases hc:i < DS.length
  ·rw [Az _ _ _ _ (by omega),Az _ _ _ _ hc];obtain ⟨a',c',e,r,lc,q⟩:=hD i hc;exact ⟨a',c',e,r.kp H (fun p g z=>by
    rcases z with z | z
    ·exact (q p g).1 z.1
    ·exact (q p g).2 z),lc,fun p g=>⟨fun z=>(q p g).1 z.1.1,(q p g).2⟩⟩
  ·rw [BG _ _ _ _ (by omega),BG _ _ _ _ (by omega)];exact ⟨a,c,rfl,rS,b6,fun p g=>⟨fun z=>z.2 p g rfl,by have:=(lS p g).1;have:=d.size;omega⟩⟩
def DA (a:Nat) (w:World) (b:Option Addr) (Q:List (List Value)):Prop:=∀ i,i < Q.length -> ∃ g o,b = some ⟨g,o,none⟩ /\ (Q.getD i []).length = a /\ ∀ j,j < a -> w.cell? ⟨g,o + i * a + j,none⟩ = some ((Q.getD i []).getD j undef)
theorem dz {l:List Value} (h:l.length = 2):∃ d c,l = [d,c]:=by
 match l,h with
 | [a,b],_=>exact ⟨a,b,rfl⟩
theorem dt {l:List Value} (h:l.length = 3):∃ f d g,l = [f,d,g]:=by
 match l,h with
 | [a,b,c],_=>exact ⟨a,b,c,rfl⟩
theorem dj {l:List Value} (h:l.length = 4):∃ g f j i,l = [g,f,j,i]:=by
 match l,h with
 | [a,b,c,d],_=>exact ⟨a,b,c,d,rfl⟩
theorem eH (Q:List (List Value)) (C:Q.length <= 1000) (a:Option Addr) (v:Nat) (w:World) (u:DA 3 w a Q) (j:∀ i,i < Q.length -> ∀ y,Bl w y -> Calls prog 60 #[.agg (Q.getD i []).toArray] y fun e w'=>e = .returned (.bool false) /\ Bl y w') :
 Calls prog 113 #[.slice a Q.length v,.func (Fn.func 60) #[] #[]] w fun e w'=>e = .returned (.int .i64 (-1)) /\ Bl w w':=by
 obtain ⟨n,m⟩:=uX (Q.length);have E:=AA m;rw [<- m] at C ⊢;have D:=AA u;have z:=AA j;clear j u m;go_enter func113,ntmps113;go_wp2_with fail
 go_loopw [8] (fun i wr=>∃ k:Nat,k <= n /\ i = .int .i64 (k:Int) /\ Bl w wr) (fun i _=>n - (intOf i).toNat)
 case atStart=>exact ⟨0,QU _,rfl,Below.refl _ _⟩
 case round =>
  obtain ⟨k,G,rfl,b⟩:=hrel
  by_cases hlt:k < n
  ·have q:(k:Int) < (n:Int):=by omega
   have l:k < Q.length:=by rw [<- E.out];exact hlt
   obtain ⟨g,o,rfl,d,c⟩:=D.out k l;obtain ⟨r,s,t,f⟩:∃ r s t,Q.getD k [] = [r,s,t]:=dt d;have I:wr.cell? ⟨g,o + k * 3,none⟩ = some r:=by
    have h:=(b.cell (p:=⟨g,o + k * 3 + 0,none⟩) (QF w _ (c 0 (by omega)))).trans (c 0 (by omega));rw [f] at h;exact h
   have H:wr.cell? ⟨g,o + k * 3 + 1,none⟩ = some s:=by
    have h:=(b.cell (p:=⟨g,o + k * 3 + 1,none⟩) (QF w _ (c 1 (by omega)))).trans (c 1 (by omega));rw [f] at h;exact h
   have F:wr.cell? ⟨g,o + k * 3 + 2,none⟩ = some t:=by
    have h:=(b.cell (p:=⟨g,o + k * 3 + 2,none⟩) (QF w _ (c 2 (by omega)))).trans (c 2 (by omega));rw [f] at h;exact h
   have B:=AA (z.out k l wr b);rw [f] at B;clear c d f;go_wp2_with (go_at_call 60;refine B.out.mono ?_;rintro e w2 ⟨rfl,x⟩;have A:=b.trans (x.mono b.size);clear x)
   go_roundw
   case rel=>exact ⟨k + 1,by omega,by go_num,A⟩
   case measure=>simp [intOf];omega
  ·have q:¬ (k:Int) < (n:Int):=by omega
   go_wp2_with fail;go_ret;exact ⟨rfl,b⟩
theorem eL (Q:List (List Value)) (j:Q.length <= 1000) (a:Option Addr) (c:Nat) (w:World) (g:DA 3 w a Q) (b:∀ i,i < Q.length -> ∀ y,Bl w y -> Calls prog 60 #[.agg (Q.getD i []).toArray] y fun e w'=>e = .returned (.bool false) /\ Bl y w') :
 Calls prog 59 #[.slice a Q.length c,.func (Fn.func 60) #[] #[]] w fun e w'=>e = .returned (.bool false) /\ Bl w w':=by
 have f:=AA (eH Q j a c w g b);obtain ⟨n,d⟩:=uX (Q.length);rw [<- d] at f ⊢;clear d b g j;go_enter func59,ntmps59;go_wp2_with fail;refine f.out.mono ?_;rintro e w2 ⟨rfl,k⟩;go_wp2_with fail;go_ret;exact ⟨rfl,k⟩
theorem eA (Q:List (List Value)) (C:Q.length <= 1000) (a:Option Addr) (u:Nat) (B:Nat) (w:World) (t:DA 2 w a Q) (j:∀ i,i < Q.length -> ∀ y,Bl w y -> Calls prog 63 #[.agg (Q.getD i []).toArray,.pointer (some ⟨B,0,none⟩)] y fun e w'=>e = .returned (.bool false) /\ Bl y w') :
 Calls prog 114 #[.slice a Q.length u,.func (Fn.func 63) #[] #[.pointer (some ⟨B,0,none⟩)]] w fun e w'=>e = .returned (.int .i64 (-1)) /\ Bl w w':=by
 obtain ⟨n,m⟩:=uX (Q.length);have E:=AA m;rw [<- m] at C ⊢;have D:=AA t;have x:=AA j;clear j t m;go_enter func114,ntmps114;go_wp2_with fail
 go_loopw [8] (fun i wr=>∃ k:Nat,k <= n /\ i = .int .i64 (k:Int) /\ Bl w wr) (fun i _=>n - (intOf i).toNat)
 case atStart=>exact ⟨0,QU _,rfl,Below.refl _ _⟩
 case round =>
  obtain ⟨k,F,rfl,b⟩:=hrel
  by_cases hlt:k < n
  ·have q:(k:Int) < (n:Int):=by omega
   have l:k < Q.length:=by rw [<- E.out];exact hlt
   obtain ⟨g,o,rfl,c,d⟩:=D.out k l;obtain ⟨r,s,f⟩:∃ r s,Q.getD k [] = [r,s]:=dz c;have H:wr.cell? ⟨g,o + k * 2,none⟩ = some r:=by
    have h:=(b.cell (p:=⟨g,o + k * 2 + 0,none⟩) (QF w _ (d 0 (by omega)))).trans (d 0 (by omega));rw [f] at h;exact h
   have G:wr.cell? ⟨g,o + k * 2 + 1,none⟩ = some s:=by
    have h:=(b.cell (p:=⟨g,o + k * 2 + 1,none⟩) (QF w _ (d 1 (by omega)))).trans (d 1 (by omega));rw [f] at h;exact h
   have A:=AA (x.out k l wr b);rw [f] at A;clear d c f;go_wp2_with (go_at_call 63;refine A.out.mono ?_;rintro e w2 ⟨rfl,v⟩;have z:=b.trans (v.mono b.size);clear v)
   go_roundw
   case rel=>exact ⟨k + 1,by omega,by go_num,z⟩
   case measure=>simp [intOf];omega
  ·have q:¬ (k:Int) < (n:Int):=by omega
   go_wp2_with fail;go_ret;exact ⟨rfl,b⟩
theorem eB (Q:List (List Value)) (k:Q.length <= 1000) (a:Option Addr) (c:Nat) (d:Nat) (w:World) (j:DA 2 w a Q) (b:∀ i,i < Q.length -> ∀ y,Bl w y -> Calls prog 63 #[.agg (Q.getD i []).toArray,.pointer (some ⟨d,0,none⟩)] y fun e w'=>e = .returned (.bool false) /\ Bl y w') :
 Calls prog 62 #[.slice a Q.length c,.func (Fn.func 63) #[] #[.pointer (some ⟨d,0,none⟩)]] w fun e w'=>e = .returned (.bool false) /\ Bl w w':=by
 have g:=AA (eA Q k a c d w j b);obtain ⟨n,f⟩:=uX (Q.length);rw [<- f] at g ⊢;clear f b j k;go_enter func62,ntmps62;go_wp2_with fail;refine g.out.mono ?_;rintro e w2 ⟨rfl,l⟩;go_wp2_with fail;go_ret;exact ⟨rfl,l⟩
theorem eJ (Q:List (List Value)) (E:Q.length <= 1000) (a:Option Addr) (x:Nat) (D:Nat) (w:World) (v:DA 4 w a Q) (j:∀ i,i < Q.length -> ∀ y,Bl w y -> Calls prog 67 #[.agg (Q.getD i []).toArray,.pointer (some ⟨D,0,none⟩)] y fun e w'=>e = .returned (.bool false) /\ Bl y w') :
 Calls prog 115 #[.slice a Q.length x,.func (Fn.func 67) #[] #[.pointer (some ⟨D,0,none⟩)]] w fun e w'=>e = .returned (.int .i64 (-1)) /\ Bl w w':=by
 obtain ⟨n,m⟩:=uX (Q.length);have G:=AA m;rw [<- m] at E ⊢;have F:=AA v;have A:=AA j;clear j v m;go_enter func115,ntmps115;go_wp2_with fail
 go_loopw [8] (fun i wr=>∃ k:Nat,k <= n /\ i = .int .i64 (k:Int) /\ Bl w wr) (fun i _=>n - (intOf i).toNat)
 case atStart=>exact ⟨0,QU _,rfl,Below.refl _ _⟩
 case round =>
  obtain ⟨k,I,rfl,b⟩:=hrel
  by_cases hlt:k < n
  ·have r:(k:Int) < (n:Int):=by omega
   have l:k < Q.length:=by rw [<- G.out];exact hlt
   obtain ⟨g,o,rfl,f,c⟩:=F.out k l;obtain ⟨s,t,u,q,d⟩:∃ s t u q,Q.getD k [] = [s,t,u,q]:=dj f;have L:wr.cell? ⟨g,o + k * 4,none⟩ = some s:=by
    have h:=(b.cell (p:=⟨g,o + k * 4 + 0,none⟩) (QF w _ (c 0 (by omega)))).trans (c 0 (by omega));rw [d] at h;exact h
   have J:wr.cell? ⟨g,o + k * 4 + 1,none⟩ = some t:=by
    have h:=(b.cell (p:=⟨g,o + k * 4 + 1,none⟩) (QF w _ (c 1 (by omega)))).trans (c 1 (by omega));rw [d] at h;exact h
   have H:wr.cell? ⟨g,o + k * 4 + 2,none⟩ = some u:=by
    have h:=(b.cell (p:=⟨g,o + k * 4 + 2,none⟩) (QF w _ (c 2 (by omega)))).trans (c 2 (by omega));rw [d] at h;exact h
   have d3:wr.cell? ⟨g,o + k * 4 + 3,none⟩ = some q:=by
    have h:=(b.cell (p:=⟨g,o + k * 4 + 3,none⟩) (QF w _ (c 3 (by omega)))).trans (c 3 (by omega));rw [d] at h;exact h
   have C:=AA (A.out k l wr b);rw [d] at C;clear c f d;go_wp2_with (go_at_call 67;refine C.out.mono ?_;rintro e w2 ⟨rfl,z⟩;have B:=b.trans (z.mono b.size);clear z)
   go_roundw
   case rel=>exact ⟨k + 1,by omega,by go_num,B⟩
   case measure=>simp [intOf];omega
  ·have r:¬ (k:Int) < (n:Int):=by omega
   go_wp2_with fail;go_ret;exact ⟨rfl,b⟩
theorem eF (Q:List (List Value)) (k:Q.length <= 1000) (a:Option Addr) (c:Nat) (d:Nat) (w:World) (j:DA 4 w a Q) (b:∀ i,i < Q.length -> ∀ y,Bl w y -> Calls prog 67 #[.agg (Q.getD i []).toArray,.pointer (some ⟨d,0,none⟩)] y fun e w'=>e = .returned (.bool false) /\ Bl y w') :
 Calls prog 66 #[.slice a Q.length c,.func (Fn.func 67) #[] #[.pointer (some ⟨d,0,none⟩)]] w fun e w'=>e = .returned (.bool false) /\ Bl w w':=by
 have g:=AA (eJ Q k a c d w j b);obtain ⟨n,f⟩:=uX (Q.length);rw [<- f] at g ⊢;clear f b j k;go_enter func66,ntmps66;go_wp2_with fail;refine g.out.mono ?_;rintro e w2 ⟨rfl,l⟩;go_wp2_with fail;go_ret;exact ⟨rfl,l⟩
theorem RT (f:Int) (h:f = 0 \/ f = 3) (w:World):Calls prog 61 #[.int .i64 f] w fun e w'=>e = .returned (.bool true) /\ w' = w:=by
 rcases h with rfl | rfl
 ·go_enter func61,ntmps61;go_wp2_with fail;go_ret;exact ⟨rfl,rfl⟩
 ·go_enter func61,ntmps61;go_wp2_with fail;go_ret;exact ⟨rfl,rfl⟩
theorem Mh (l n:Int) (a:0 <= l) (b:l < n) (w:World):Calls prog 65 #[.int .i64 l,.int .i64 n] w fun e w'=>e = .returned (.bool true) /\ w' = w:=by
 go_enter func65,ntmps65;go_wp2_with fail;go_ret;exact ⟨rfl,rfl⟩
theorem Pa (t:ByteArray) (g:0 < t.size) (i:t.size <= 19) (b:Bu t = true) (w:World):Calls prog 64 #[.string t] w fun e w'=>e = .returned (.bool true) /\ Bl w w':=by
 have a:=AA (FL t w);rw [b] at a;have f:(0:Int) < (t.size:Int):=by omega
 have d:(t.size:Int) <= 19:=by omega
 clear b;go_enter func64,ntmps64;go_wp2_with fail;refine a.out.mono ?_;rintro e w2 ⟨rfl,c⟩;go_wp2_with fail;go_ret;exact ⟨rfl,c⟩
theorem af (k d:Value) (f:Int) (h:f = 0 \/ f = 3) (w:World):Calls prog 60 #[.agg #[k,d,.int .i64 f]] w fun e w'=>e = .returned (.bool false) /\ Bl w w':=by
 obtain ⟨W,b⟩:=uX (w.alloc (Obj.cells #[k,d,.int .i64 f] 35));have o:=uB b;obtain ⟨n,a⟩:=uX (w.heap.size);have g:=uK b a;have p:=g.c 2;have HF:=AA (RT f h W);have m:=AA b;have l:=AA a;clear b a g h;go_enter func60,ntmps60;go_upto_region 1 with fail;rw [<- show W = _ from m,<- show n = _ from l];go_wp2_with fail;refine HF.out.mono ?_;rintro e w2 ⟨rfl,i⟩;have j:=i.symm;subst j;clear i;go_wp2_with fail;go_ret;exact ⟨rfl,o⟩
theorem Z9 (t:ByteArray) (u:0 < t.size) (r:t.size <= 19) (q:Bu t = true) (l:Int) (n:Nat) (z:0 <= l) (j:l < (n:Int)) (i:Nat) (B:Option Addr) (A:Nat) (w:World) (g:w.cell? ⟨i,1,none⟩ = some (.slice B n A)) :
 Calls prog 63 #[.agg #[.string t,.int .i64 l],.pointer (some ⟨i,0,none⟩)] w fun e w'=>e = .returned (.bool false) /\ Bl w w':=by
 obtain ⟨W,b⟩:=uX (w.alloc (Obj.cells #[.string t,.int .i64 l] 105));have x:=uB b;obtain ⟨F,a⟩:=uX (w.heap.size);have f:=uK b a;have G:=f.c 0;have k:=QF w _ g;have D:=AA (Pa t u r q W);have HL:=AA (fun (y:World)=>Mh l (n:Int) z j y);have E:=AA g;have C:=AA b;have s:=AA a;clear b a g q u r;go_enter func63,ntmps63;go_upto_region 1 with fail;rw [<- show W = _ from C,<- show F = _ from s];go_wp2_with fail;refine D.out.mono ?_;rintro e w2 ⟨rfl,o⟩;have d:=x.trans (o.mono x.size);have H:=(f.below o f.lt).c 1;have I:=(d.cell (p:=⟨i,1,none⟩) k).trans E.out;go_wp2_with fail;refine (HL.out _).mono ?_;rintro e J ⟨rfl,v⟩;have m:=v.symm;subst m;clear v;go_wp2_with fail;go_ret;exact ⟨rfl,d⟩
def ZB (n:Nat) (q:List Value):Prop:=∃ (a l N:Int) (c:Option Addr) (b d:Nat),q = [.int .i64 a,.int .i64 l,.int .i64 N,.slice c b d] /\ b <= 4096 /\ ((a = 1 /\ 0 <= l /\ l < (n:Int)) \/ (a = 2 /\ 0 <= N /\ N <= 1000))
theorem SU (n:Nat) (g l N:Int) (o:Option Addr) (f q:Nat) (hnd:f <= 4096) (h:(g = 1 /\ 0 <= l /\ l < (n:Int)) \/ (g = 2 /\ 0 <= N /\ N <= 1000)) (w:World):Calls prog 68 #[.agg #[.int .i64 g,.int .i64 l,.int .i64 N,.slice o f q],.int .i64 (n:Int)] w fun e w'=>e = .returned (.bool true) /\ Bl w w':=by
 obtain ⟨W,d⟩:=uX (w.alloc (Obj.cells #[.int .i64 g,.int .i64 l,.int .i64 N,.slice o f q] 38));have t:=uB d;obtain ⟨j,a⟩:=uX (w.heap.size);have b:=uK d a;have x:=b.c 0;have y:=b.c 1;have v:=b.c 2;have z:=b.c 3;have u:¬ (4096:Int) < (f:Int):=by omega
 have p:=AA d;have i:=AA a;clear d a b;rcases h with ⟨rfl,m,s⟩ | ⟨rfl,m,s⟩
 ·have HL:=AA (Mh l (n:Int) m s W);go_enter func68,ntmps68;go_upto_region 1 with fail
  rw [<- show W = _ from p,<- show j = _ from i];go_wp2_with fail;refine HL.out.mono ?_;rintro e A ⟨rfl,r⟩;have k:=r.symm;subst k;clear r;go_wp2_with fail;go_ret;exact ⟨rfl,t⟩
 ·go_enter func68,ntmps68;go_upto_region 1 with fail
  rw [<- show W = _ from p,<- show j = _ from i];go_wp2_with fail;go_ret;exact ⟨rfl,t⟩
theorem dD (n:Nat) (q:List Value) (h:ZB n q) (c:Nat) (w:World) (d:w.cell? ⟨c,0,none⟩ = some (.int .i64 (n:Int))) :
 Calls prog 67 #[.agg q.toArray,.pointer (some ⟨c,0,none⟩)] w fun e w'=>e = .returned (.bool false) /\ Bl w w':=by
 obtain ⟨m,l,N,r,j,k,rfl,hnd,g⟩:=h;obtain ⟨W,b⟩:=uX (w.alloc (Obj.cells #[.int .i64 m,.int .i64 l,.int .i64 N,.slice r j k] 38));have f:=uB b;obtain ⟨o,a⟩:=uX (w.heap.size);have s:=uK b a;have v:=(f.cell (p:=⟨c,0,none⟩) (QF w _ d)).trans d;have HE:=AA (SU n m l N r j k hnd g W);have t:=AA b;have i:=AA a;clear b a d g;go_enter func67,ntmps67;go_upto_region 1 with fail;rw [<- show W = _ from t,<- show o = _ from i];go_wp2_with (refine AL rfl 38 _ rfl o rfl s underlying38 rfl (by kernel_rfl) ?_)
 refine HE.out.mono ?_;rintro e w2 ⟨rfl,u⟩;go_wp2_with fail;go_ret;exact ⟨rfl,f.trans (u.mono f.size)⟩
theorem Rr (n:Nat) (Q:List (List Value)) (E:Q.length <= 60) (l:∀ i,i < Q.length -> ZB n (Q.getD i [])) (a:Option Addr) (k:Nat) (w:World) (t:DA 4 w a Q) :
 Calls prog 25 #[.slice a Q.length k,.int .i64 (n:Int)] w fun e w'=>e = .returned (.bool true) /\ Bl w w':=by
 obtain ⟨W,d⟩:=uX (w.alloc (Obj.cells #[.int .i64 (n:Int)] 3));have r:=uB d;obtain ⟨s,b⟩:=uX (w.heap.size);have B:=uK d b;have f:DA 4 W a Q:=fun i q=>by
  obtain ⟨g,o,e,G,x⟩:=t i q;exact ⟨g,o,e,G,fun j u=>(r.cell (p:=⟨g,o + i * 4 + j,none⟩) (QF w _ (x j u))).trans (x j u)⟩
 have z:=AA (eF Q (by omega) a k s W f (fun i q y C=>dD n _ (l i q) s y ((B.below C B.lt).c 0)));obtain ⟨m,v⟩:=uX (Q.length);rw [<- v] at z E ⊢;have H:(m:Int) <= 60:=by omega
 have F:=AA d;have A:=AA b;clear d b v t f l;go_enter func25,ntmps25;go_upto_region 1 with fail
 rw [<- show W = _ from F,<- show s = _ from A];go_wp2_with fail;refine z.out.mono ?_;rintro e w2 ⟨rfl,D⟩;go_wp2_with fail;go_ret;exact ⟨rfl,r.trans (D.mono r.size)⟩
end Go.Proofs.YtbkokcjolanpeaaGreatDoor
