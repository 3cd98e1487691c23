import Derived.Test.YtbkokcjolanpeaaGreatDoorMkJ
set_option maxRecDepth 100000
set_option maxHeartbeats 20000000
namespace Go.Proofs.YtbkokcjolanpeaaGreatDoor
open Go.RowKit Go.Proofs.Tryz Act
theorem LZ {P:Program} {ops:Array Oper} {rest:List Oper} {op:Oper} {a:Act} {w:World} {Q:Exit -> Act -> World -> Prop} (b:op.guard = none) (t:TypeId) (x y:Operand) (c:op.op = .buildSlice t 2 #[(0,x),(1,y)]) (e N:Nat) (z:Value) (A B:List Value) (m:a.eval x = .agg A.toArray) (g:a.eval y = .agg B.toArray)
 (l:P.underlying t = some (.slice e)) (hz:(P.info? e).map (fun i=>(i.zero,i.size)) = some (some z,N)) (f:A.length = N) (k:B.length = N) (j:0 < N) (n:N <= 1048576)
 (h:wpList P ops Q rest (a.put op.dst (.slice (some ⟨w.heap.size,0,none⟩) 2 2)) (w.alloc (.cells (A ++ B).toArray e))):wpList P ops Q (op :: rest) a w :=
 wpList_plain b fun _ d=>Bi op.dst rfl t x y c e N z A B m g l hz f k j n (d _ _ h)
theorem OW {w:World} {g t d j f k:Nat} {key:LU} (b:key.length = 16) (h:Blk w g t (aesCells ((keysUpto key 11).map byte) d j f k)) (r:Nat) (m:r < 11):w.rangeAt g (r * 16) ((AQ key r).map byte):=by
 intro i v c;have l:=BI key b r;have n:i < 16:=by have:=(List.getElem?_eq_some_iff.1 c).1;simpa [l] using this
 have a:=BS key b 11;rw [h.cell (r * 16 + i) (by rw [Cb _ _ _ _ _ (by rw [QD,a])];omega),<- List.getElem?_eq_getElem,<- c];unfold aesCells;rw [List.getElem?_append_left (by rw [QD,a];omega),List.getElem?_map,Kn key b 11 _ (by omega),show (r * 16 + i) / 16 = r from by omega,show (r * 16 + i) % 16 = i from by omega];have:i < (AQ key r).length:=by omega
 simp [this]
theorem Jt {w:World} {g t a c b d:Nat} {i:List Value} (f:i.length = 176) (h:Blk w g t (aesCells i a c b d)) (j:Nat) (k:j < 4):w.cell? ⟨g,176 + j,none⟩ = [fnS a,fnS c,fnM b,fnM d][j]?:=by
 rw [h.cell (176 + j) (by rw [Cb _ _ _ _ _ f];omega),<- List.getElem?_eq_getElem];unfold aesCells;rw [List.getElem?_append_right (by omega),f,show 176 + j - 176 = j from by omega]
theorem OJ {w:World} {g t b d c f:Nat} {i:List Value} (a:i.length = 176) (h:Blk w g t (aesCells i b d c f)) :
 w.cell? ⟨g,176,none⟩ = some (.func (.func 167) #[] #[.pointer (some ⟨b,0,none⟩)]) /\ w.cell? ⟨g,177,none⟩ = some (.func (.func 167) #[] #[.pointer (some ⟨d,0,none⟩)]) /\ w.cell? ⟨g,178,none⟩ = some (.func (.func 168) #[] #[.pointer (some ⟨c,0,none⟩)]) /\ w.cell? ⟨g,179,none⟩ = some (.func (.func 168) #[] #[.pointer (some ⟨f,0,none⟩)]) :=
 ⟨Jt a h 0 (by omega),Jt a h 1 (by omega),Jt a h 2 (by omega),Jt a h 3 (by omega)⟩
theorem C6 (A B:LU) (a:A.length = 16) (b:B.length = 16):(AE A B).length = 16:=by rw [AW _ _ (by omega),a]
theorem LV (key b:LU) (B S2 A S4:Nat) (w:World) (hk:key.length = 16) (hb:b.length = 16) (h1:Blk w B 240 (AT.map byte)) (h3:Blk w A 247 (A6 Bn)) :
 Calls prog 34 #[.agg (aesCells ((keysUpto key 11).map byte) B S2 A S4).toArray,.agg (b.map byte).toArray] w fun e w'=>e = .returned (.agg ((CW (AQ key) b).map byte).toArray) /\ Bl w w':=by
 have hz:=(QO Tryz.z16).1;have d3:(b.map byte).length = 16:=by rw [QD,hb]
 have b4:=AK (fun r=>BI key hk r);have d5:((keysUpto key 11).map byte).length = 176:=by rw [QD,BS key hk]
 have e5:=Cb ((keysUpto key 11).map byte) B S2 A S4 d5;have HR:=AK (fun (Y:World) (h:Blk Y w.heap.size 93 (aesCells ((keysUpto key 11).map byte) B S2 A S4)) (r:Nat) (hr:r < 11)=>OW hk h r hr);have HF:=AK (fun (Y:World) (h:Blk Y w.heap.size 93 (aesCells ((keysUpto key 11).map byte) B S2 A S4))=>OJ d5 h);obtain ⟨CC,c9⟩:=uX (aesCells ((keysUpto key 11).map byte) B S2 A S4);rw [<- c9] at HR HF e5 ⊢;clear c9;obtain ⟨W,hW⟩:=uX (((w.alloc (.cells CC.toArray 93)).alloc (.cells (b.map byte).toArray 88)).alloc (.cells (AC 16 .u8).toArray 88));have C0:Blk W w.heap.size 93 CC:=by rw [hW];exact ((Blk.new w _ _).alloc _).alloc _
 have C1:Blk W (w.heap.size + 1) 88 (b.map byte):=by rw [hW];exact (Blk.new2 w _ _ _).alloc _
 have C2:Blk W (w.heap.size + 1 + 1) 88 (AC 16 .u8):=by rw [hW];exact Blk.newAt _ _ _ _ (by simp)
 have bW:Bl w W:=by rw [hW];exact (((Below.refl _ _).alloc (QE _) _).alloc (by simp) _).alloc (by simp;omega) _
 have zW:Hid (W.heap.size = w.heap.size + 1 + 1 + 1):=AK (by rw [hW];simp);have T1:=h1.below bW h1.lt;have T3:=h3.below bW h3.lt;have l1:=h1.lt;have l3:=h3.lt;have b6:=b4.out 0;have c5:((AQ key 0).map byte).length = 16:=by rw [QD,b6]
 have r0:=HR.out W C0 0 (by omega);have d4:=C6 b (AQ key 0) hb b6;have b8:((AE b (AQ key 0)).map byte).length = 16:=by rw [QD,d4]
 have n2:Blk (W.alloc (.cells (b.map byte ++ (AQ key 0).map byte).toArray 88)) W.heap.size 88 (b.map byte ++ (AQ key 0).map byte):=Blk.new W _ _;go_enter func34,ntmps34;go_upto_region 1 with fail
 rw [<- hW];clear h1 h3 hW;go_wp2_with (first
  | (refine AL rfl 88 _ rfl _ rfl C1 underlying88 rfl (by rw [d3];kernel_rfl) ?_)
  | (refine Qw rfl 88 _ rfl w.heap.size 0 rfl ((AQ key 0).map byte) _ r0 underlying88 rfl (by rw [c5];kernel_rfl) ?_)
  | (refine LZ rfl 148 _ _ rfl 88 16 _ (b.map byte) ((AQ key 0).map byte) rfl rfl underlying148 Tryz.z16 d3 c5 (by omega) (by omega) ?_)
  | (go_at_call 32;refine (Bt b (AQ key 0) _ _ _ _ hb b6 n2).mono ?_;rintro e w3 ⟨rfl,b1⟩)
  | (refine store_blk rfl 88 _ _ rfl _ rfl rfl (Blk.new w3 _ _) (by rw [b8];kernel_rfl) (by rw [AD,b8]) (AF _) ?_;intro w4 c0 d2 e4))
 have z3:=b1.size;simp only [World.size_alloc] at z3;have b3:Bl W w4:=((((Below.refl _ W).alloc (QE _) _).trans (b1.mono (by simp))).alloc (by omega) _).grown d2 (by simp;omega) (by intro k hk;cases hk;omega)
 obtain ⟨s,d1⟩:=uX (w3.heap.size);rw [<- d1] at c0 z3 ⊢;have q0:=C0.below b3 C0.lt;have q2:=C2.below b3 C2.lt;have q1:=T1.below b3 T1.lt;have q3:=T3.below b3 T3.lt;have qb:=bW.trans (b3.mono bW.size);have e7:w.heap.size + 3 <= s:=by have:=zW.out;omega
 have e9:¬ B = s:=by have:=T1.lt;omega
 have e8:¬ A = s:=by have:=T3.lt;omega
 clear d2 e4 d1 b1 C0 C1 C2 T1 T3 bW b3 n2 r0 z3 zW d4 b8;go_wp2_with fail
 go_loopw [6] (fun i wr=>∃ k:Nat,k <= 9 /\ i = .int .i64 ((k + 1:Nat):Int) /\ Blk wr s 88 ((Dh (AQ key) b k).map byte) /\ Blk wr w.heap.size 93 CC /\ Blk wr (w.heap.size + 1 + 1) 88 (AC 16 .u8) /\ Blk wr B 240 (AT.map byte) /\ Blk wr A 247 (A6 Bn) /\ Bl w wr) (fun i _=>11 - (intOf i).toNat)
 case atStart=>exact ⟨0,by omega,rfl,c0,q0,q2,q1,q3,qb⟩
 case round =>
  clear c0 q0 q2 q1 q3 qb;obtain ⟨k,f0,rfl,kS,C,kR,k1,k3,I⟩:=hrel;have R:=En (AQ key) b hb b4.out k;have zb:=I.size
  by_cases hlt:k < 9
  ·obtain ⟨r,hr,c6⟩:∃ r:Nat,k + 1 = r /\ Hid (r = k + 1):=⟨_,rfl,rfl⟩;rw [hr];have f1:(r:Int) < 10:=by omega
   have f2:(r:Int) < 11:=by omega
   have e1:r < 11:=by omega
   have u:=b4.out r;have F:=AK (fun (Y:World) (h:Blk Y w.heap.size 93 CC)=>HR.out Y h r e1);have HN:Hid (Dh (AQ key) b (k + 1) = AE (Al Bn (AX 1 (Dh (AQ key) b k))) (AQ key r)):=AK (by rw [c6.out];rfl);obtain ⟨P,hP⟩:=uX (Dh (AQ key) b k);obtain ⟨d,a3⟩:=uX (AQ key r);rw [<- hP] at kS R HN;rw [<- a3] at u F HN;clear hP a3 hr;have b5:(P.map byte).length = 16:=by rw [QD,R]
   have a4:(d.map byte).length = 16:=by rw [QD,u]
   have c1:((Al Bn (AX 1 P)).map byte).length = 16:=by rw [QD,Ct]
   have c4:=C6 (Al Bn (AX 1 P)) d (Ct _ _) u;have U:((AE (Al Bn (AX 1 P)) d).map byte).length = 16:=by rw [QD,c4]
   have n:Hid (∀ {w'},Bl wr w' -> w'.cell? ⟨w.heap.size,178,none⟩ = some (.func (.func 168) #[] #[.pointer (some ⟨A,0,none⟩)]) /\ w'.rangeAt w.heap.size (r * 16) (d.map byte)):=fun h=>⟨(HF.out _ (C.below h C.lt)).2.2.1,F.out _ (C.below h C.lt)⟩;go_upto_region 5 with fail
   refine QJ (S:=fun w'=>w'.cell? ⟨w.heap.size,178,none⟩ = some (.func (.func 168) #[] #[.pointer (some ⟨A,0,none⟩)]) /\ w'.rangeAt w.heap.size (r * 16) (d.map byte)) (by kernel_rfl) (n.out (Below.refl _ _).drew) (fun a=>?_);refine tA 0 (.pointer (some ⟨w.heap.size,178,none⟩)) a ?_
   try dsimp only [put]
   refine tC 1 (.func (.func 168) #[] #[.pointer (some ⟨A,0,none⟩)]) rfl (fun w1 h=>by have hc:=h.1;go_simp) a ?_
   try dsimp only [put]
   refine tA 5 (.int .i64 r) a ?_
   try dsimp only [put]
   refine tA 6 (.pointer (some ⟨w.heap.size,0,none⟩)) a ?_
   try dsimp only [put]
   refine tA 7 (.pointer (some ⟨w.heap.size,r * 16,none⟩)) a ?_
   try dsimp only [put]
   refine tB 8 (.agg (d.map byte).toArray) rfl (QY (by rfl) 88 _ rfl w.heap.size (r * 16) rfl (d.map byte) _ (fun _ h=>h.2) underlying88 rfl (by rw [a4];kernel_rfl)) a ?_
   try dsimp only [put]
   refine rdy1 2 (fun K f=>?_);rw [if_pos (by rfl)];dsimp only [Act.put,List.getElem_toArray,List.getElem_cons_zero,List.getElem_cons_succ];simp only [List.setIfInBounds_toArray,List.set_cons_succ,List.set_cons_zero];have V:=Ad kS.drew1;refine Dj (some 19) rfl 88 _ rfl s 0 (by kernel_rfl) (P.map byte) _ V underlying88 rfl (by rw [b5];kernel_rfl) ?_;refine f.out _ _ (n.out (Below.refl wr.heap.size wr).drew) (fun a=>?_);clear f K
   try dsimp only [put]
   refine rdy1 3 (fun K f=>?_);go_simp;refine (DY 1 _ P _ (.inl rfl) rfl R).mono ?_;rintro e e6 ⟨rfl,l⟩;have a1:=C.drew1.below l C.drew1.lt;have t:=kR.drew1.below l kR.drew1.lt;have M:=kS.drew1.below l kS.drew1.lt;have z:=k1.drew1.below l k1.drew1.lt;have y:=k3.drew1.below l k3.drew1.lt;have a2:=AB (Below.refl wr.heap.size wr).drew l;go_wp2_with fail;refine f.out _ _ (n.out a2) (fun a=>?_);clear f K
   try dsimp only [put]
   refine rdy1 4 (fun K f=>?_);go_simp;refine (OZ Bn (AX 1 P) A _ Zo (A4 _ _) y).mono ?_;rintro e a0 ⟨rfl,j⟩;have a6:=a1.below j a1.lt;have x:=t.below j t.lt;have E:=M.below j M.lt;have O:=z.below j z.lt;have H:=y.below j y.lt;have L:=AB a2 j;go_wp2_with fail;refine f.out _ _ (n.out L) (fun a=>?_);clear f K
   try dsimp only [put]
   refine rdy1 9 (fun K f=>?_);rw [if_pos (by rfl)]
   try dsimp only [Act.put,List.getElem_toArray,List.getElem_cons_zero,List.getElem_cons_succ]
   try simp only [List.setIfInBounds_toArray,List.set_cons_succ,qw]
   refine Bi (some 26) rfl 148 _ _ rfl 88 16 _ ((Al Bn (AX 1 P)).map byte) (d.map byte) (by kernel_rfl) (by kernel_rfl) underlying148 Tryz.z16 c1 a4 (by omega) (by omega) ?_
   try dsimp only [put]
   obtain ⟨b9,p⟩:=uX (World.alloc a0 (.cells ((Al Bn (AX 1 P)).map byte ++ d.map byte).toArray 88));have m:=uB p;have o:Blk b9 a0.heap.size 88 ((Al Bn (AX 1 P)).map byte ++ d.map byte):=by rw [p];exact Blk.new _ _ _
   have b0:=L.size;have a8:=o.lt;have Z:=a6.below m a6.lt;have q:=x.below m x.lt;have J:=E.below m E.lt;have G:=O.below m O.lt;have N:=H.below m H.lt;have a5:=AB L m;rw [<- p];clear p;refine f.out _ _ (n.out a5) (fun a=>?_);clear f K
   try dsimp only [put]
   refine rdy1 10 (fun K f=>?_);go_simp;refine (Bt (Al Bn (AX 1 P)) d _ _ _ _ (Ct _ _) u o).mono ?_;rintro e d0 ⟨rfl,c⟩;have b7:=Z.below c Z.lt;have D:=q.below c q.lt;have b2:=J.below c J.lt;have c7:=G.below c G.lt;have c2:=N.below c N.lt;have c8:=o.below c o.lt;have a7:=AB a5 c;go_wp2_with fail;refine f.out _ _ (n.out a7) (fun a=>?_);clear f K
   try dsimp only [put]
   refine rdy1 11 (fun K f=>?_);rw [if_pos (by rfl)];refine AR (cs:=(AE (Al Bn (AX 1 P)) d).map byte) rfl 88 _ _ rfl s (by kernel_rfl) (by kernel_rfl) b2 (by rw [U];kernel_rfl) (by rw [U,b5]) (AF _) ?_;have e3:=Blk.setRow b2 ((AE (Al Bn (AX 1 P)) d).map byte);have T:=Blk.setRow_other (g':=s) (cs:=((AE (Al Bn (AX 1 P)) d).map byte).toArray) b7 (by omega);have X:=Blk.setRow_other (g':=s) (cs:=((AE (Al Bn (AX 1 P)) d).map byte).toArray) D (by omega);have e0:=Blk.setRow_other (g':=s) (cs:=((AE (Al Bn (AX 1 P)) d).map byte).toArray) c7 (by omega);have d6:=Blk.setRow_other (g':=s) (cs:=((AE (Al Bn (AX 1 P)) d).map byte).toArray) c2 (by omega);have a9:=AN (g:=s) (I.trans (a7.mono I.size)) (by omega) ((AE (Al Bn (AX 1 P)) d).map byte).toArray;refine f.out _ _ ⟨(HF.out _ T).2.2.1,F.out _ T⟩ (fun a=>?_);clear f K
   try dsimp only [put]
   refine QM (by kernel_rfl) ?_ _;have e2:Blk (World.setRow d0 s ((AE (Al Bn (AX 1 P)) d).map byte).toArray) s 88 ((Dh (AQ key) b (k + 1)).map byte):=by rw [HN.out];exact e3
   clear a;go_wp2;go_roundw
   case rel=>exact ⟨k + 1,by omega,by have:=c6.out;go_num,e2,T,X,e0,d6,a9⟩
   case measure=>have:=c6.out;simp [intOf];omega
  ·obtain rfl:k = 9:=by omega
   have u:=b4.out 10;have F:=AK (fun (Y:World) (h:Blk Y w.heap.size 93 CC)=>HR.out Y h 10 (by omega));have HN:Hid (CW (AQ key) b = AE ((AX 1 (Dh (AQ key) b 9)).map Av) (AQ key 10)):=AK rfl;obtain ⟨P,hP⟩:=uX (Dh (AQ key) b 9);obtain ⟨d,a3⟩:=uX (AQ key 10);rw [<- hP] at kS R HN;rw [<- a3] at u F HN;clear hP a3;have b5:(P.map byte).length = 16:=by rw [QD,R]
   have a4:(d.map byte).length = 16:=by rw [QD,u]
   have c3:((AX 1 P).map Av).length = 16:=by rw [QD,A4]
   have c1:(((AX 1 P).map Av).map byte).length = 16:=by rw [QD,c3]
   have c4:=C6 ((AX 1 P).map Av) d c3 u;have U:((AE ((AX 1 P).map Av) d).map byte).length = 16:=by rw [QD,c4]
   have n:Hid (∀ {w'},Bl wr w' -> w'.cell? ⟨w.heap.size,176,none⟩ = some (.func (.func 167) #[] #[.pointer (some ⟨B,0,none⟩)]) /\ w'.rangeAt w.heap.size 160 (d.map byte)):=fun h=>⟨(HF.out _ (C.below h C.lt)).1,F.out _ (C.below h C.lt)⟩;go_upto_region 6 with fail
   refine QJ (S:=fun w'=>w'.cell? ⟨w.heap.size,176,none⟩ = some (.func (.func 167) #[] #[.pointer (some ⟨B,0,none⟩)]) /\ w'.rangeAt w.heap.size 160 (d.map byte)) (by kernel_rfl) (n.out (Below.refl _ _).drew) (fun a=>?_);refine tA 0 (.pointer (some ⟨w.heap.size,176,none⟩)) a ?_
   try dsimp only [put]
   refine tC 1 (.func (.func 167) #[] #[.pointer (some ⟨B,0,none⟩)]) rfl (fun w1 h=>by have hc:=h.1;go_simp) a ?_
   try dsimp only [put]
   refine tA 5 (.pointer (some ⟨w.heap.size,0,none⟩)) a ?_
   try dsimp only [put]
   refine tA 6 (.pointer (some ⟨w.heap.size,160,none⟩)) a ?_
   try dsimp only [put]
   refine tB 7 (.agg (d.map byte).toArray) rfl (QY (by rfl) 88 _ rfl w.heap.size 160 rfl (d.map byte) _ (fun _ h=>h.2) underlying88 rfl (by rw [a4];kernel_rfl)) a ?_
   try dsimp only [put]
   refine rdy1 2 (fun K f=>?_);rw [if_pos (by rfl)];dsimp only [Act.put,List.getElem_toArray,List.getElem_cons_zero,List.getElem_cons_succ];simp only [List.setIfInBounds_toArray,List.set_cons_succ,List.set_cons_zero];have V:=Ad kS.drew1;refine Dj (some 30) rfl 88 _ rfl s 0 (by kernel_rfl) (P.map byte) _ V underlying88 rfl (by rw [b5];kernel_rfl) ?_;refine f.out _ _ (n.out (Below.refl wr.heap.size wr).drew) (fun a=>?_);clear f K
   try dsimp only [put]
   refine rdy1 3 (fun K f=>?_);go_simp;refine (DY 1 _ P _ (.inl rfl) rfl R).mono ?_;rintro e e6 ⟨rfl,l⟩;have a1:=C.drew1.below l C.drew1.lt;have t:=kR.drew1.below l kR.drew1.lt;have M:=kS.drew1.below l kS.drew1.lt;have z:=k1.drew1.below l k1.drew1.lt;have y:=k3.drew1.below l k3.drew1.lt;have a2:=AB (Below.refl wr.heap.size wr).drew l;go_wp2_with fail;refine f.out _ _ (n.out a2) (fun a=>?_);clear f K
   try dsimp only [put]
   refine rdy1 4 (fun K f=>?_);go_simp;refine (Lf AT (AX 1 P) B _ Bq (A4 _ _) z).mono ?_;rintro e a0 ⟨rfl,j⟩;have a6:=a1.below j a1.lt;have x:=t.below j t.lt;have E:=M.below j M.lt;have O:=z.below j z.lt;have H:=y.below j y.lt;have L:=AB a2 j;go_wp2_with fail;refine f.out _ _ (n.out L) (fun a=>?_);clear f K
   try dsimp only [put]
   refine rdy1 8 (fun K f=>?_);rw [if_pos (by rfl)]
   try dsimp only [Act.put,List.getElem_toArray,List.getElem_cons_zero,List.getElem_cons_succ]
   try simp only [List.setIfInBounds_toArray,List.set_cons_succ,qw]
   refine Bi (some 36) rfl 148 _ _ rfl 88 16 _ (((AX 1 P).map Av).map byte) (d.map byte) (by kernel_rfl) (by kernel_rfl) underlying148 Tryz.z16 c1 a4 (by omega) (by omega) ?_
   try dsimp only [put]
   obtain ⟨b9,p⟩:=uX (World.alloc a0 (.cells (((AX 1 P).map Av).map byte ++ d.map byte).toArray 88));have m:=uB p;have o:Blk b9 a0.heap.size 88 (((AX 1 P).map Av).map byte ++ d.map byte):=by rw [p];exact Blk.new _ _ _
   have b0:=L.size;have a8:=o.lt;have Z:=a6.below m a6.lt;have q:=x.below m x.lt;have J:=E.below m E.lt;have G:=O.below m O.lt;have N:=H.below m H.lt;have a5:=AB L m;rw [<- p];clear p;refine f.out _ _ (n.out a5) (fun a=>?_);clear f K
   try dsimp only [put]
   refine rdy1 9 (fun K f=>?_);go_simp;refine (Bt ((AX 1 P).map Av) d _ _ _ _ c3 u o).mono ?_;rintro e d0 ⟨rfl,c⟩;have b7:=Z.below c Z.lt;have D:=q.below c q.lt;have b2:=J.below c J.lt;have c7:=G.below c G.lt;have c2:=N.below c N.lt;have c8:=o.below c o.lt;have a7:=AB a5 c;go_wp2_with fail;refine f.out _ _ (n.out a7) (fun a=>?_);clear f K
   try dsimp only [put]
   refine rdy1 10 (fun K f=>?_);rw [if_pos (by rfl)];refine AR (cs:=(AE ((AX 1 P).map Av) d).map byte) rfl 88 _ _ rfl (w.heap.size + 1 + 1) (by kernel_rfl) (by kernel_rfl) D (by rw [U];kernel_rfl) (by rw [U,AD]) (AF _) ?_;have X:=Blk.setRow D ((AE ((AX 1 P).map Av) d).map byte);have T:=Blk.setRow_other (g':=(w.heap.size + 1 + 1)) (cs:=((AE ((AX 1 P).map Av) d).map byte).toArray) b7 (by omega);have a9:=AN (g:=(w.heap.size + 1 + 1)) (I.trans (a7.mono I.size)) (by omega) ((AE ((AX 1 P).map Av) d).map byte).toArray;refine f.out _ _ ⟨(HF.out _ T).1,F.out _ T⟩ (fun a=>?_);clear f K
   try dsimp only [put]
   refine QM (by kernel_rfl) ?_ _;go_wp2_with fail;exact Qc (v:=.agg ((AE ((AX 1 P).map Av) d).map byte).toArray) (AG results34 _ _ rfl X underlying88 rfl (by rw [U];kernel_rfl)) rfl ⟨by rw [HN.out],a9⟩
def Fz (f:UInt8 -> UInt8) (s:LU) (i:Nat):LU:=(s.take i).map f ++ s.drop i
theorem Kw (f:UInt8 -> UInt8) (s:LU):Fz f s 0 = s:=by simp [Fz]
theorem MX (f:UInt8 -> UInt8) (s:LU) (n:Nat) (h:s.length = n):Fz f s n = s.map f:=by
 unfold Fz;rw [QS (by omega),qE (by omega),qM]
theorem Iz (f:UInt8 -> UInt8) (s:LU) (i:Nat) (h:i <= s.length):(Fz f s i).length = s.length:=by
 simp [Fz];omega
theorem N8 (f:UInt8 -> UInt8) (s:LU) (i:Nat) (h:i < s.length):(Fz f s i).getD i 0 = s.getD i 0:=by
 unfold Fz;rw [QA,QA,List.getElem?_append_right (by simp;omega),List.getElem?_drop]
 congr 2
 simp;omega
theorem MD (f:UInt8 -> UInt8) (s:LU) (i:Nat) (h:i < s.length):(Fz f s i).set i (f (s.getD i 0)) = Fz f s (i + 1):=by
 unfold Fz;have b:((s.take i).map f).length = i:=by simp;omega
 have a:s.getD i 0 = s[i]:=by simp [h]
 rw [qC _ _ (by omega),b,JF,qg h,qw,B3 s i h,Qf,QV,a]
 rfl
theorem Et {w:World} {g t:Nat} {l:LU} (h:Blk w g t (l.map byte)):∀ i,i < l.length -> w.cell? ⟨g,0 + i,none⟩ = some (.int .u8 ((l.getD i 0).toNat:Int)):=fun i a=>by
 rw [QZ];exact BV h i a
theorem Fo (x y:LU) (g a c b o f:Nat) (w:World) (j:x.length = 16) (l:y.length = 16) (m:RowAt w (some ⟨g,a,none⟩) x) (k:RowAt w (some ⟨b,o,none⟩) y) :
 Calls prog 143 #[.slice (some ⟨g,a,none⟩) 16 c,.slice (some ⟨b,o,none⟩) 16 f] w fun e w'=>e = .returned (.slice (some ⟨w.heap.size,0,none⟩) 16 16) /\ Blk w' w.heap.size 5 ((AE x y).map byte) /\ Bl w w':=by
 have h:=H7 (some ⟨g,a,none⟩) (some ⟨b,o,none⟩) c f x y w (by omega) (by omega) m k;rw [j,l] at h;refine h.mono ?_;rintro e w' ⟨rfl,i,d⟩;refine ⟨rfl,?_,d⟩;have own':=By i (show (AE x y).length = 16 by rw [AW _ _ (by omega),j]);exact C8 own'
def stE (K:Nat -> LU) (b:LU) (k:Nat):LU:=if k <= 9 then Dh K b k else CW K b
def stD (K:Nat -> LU) (b:LU) (k:Nat):LU:=if k = 0 then b else DM K b (k - 1)
theorem VE (K:Nat -> LU) (b:LU) (c:b.length = 16) (a:∀ r,(K r).length = 16) (k:Nat):(stE K b k).length = 16:=by
 unfold stE
 split
 ·exact En K b c a k
 ·exact FJ K b a
theorem VM (K:Nat -> LU) (b:LU) (a:b.length = 16) (k:Nat):(stD K b k).length = 16:=by
 unfold stD
 split
 ·exact a
 ·exact D7 K b _
theorem Xp (K:Nat -> LU) (b:LU) (c:b.length = 16) (a:∀ r,(K r).length = 16) (k:Nat) (d:k < 9):stE K b (k + 1) = AE (DX FU (AX 1 ((stE K b k).map Av))) (K (k + 1)):=by
 unfold stE;rw [if_pos (by omega),if_pos (by omega),M9 K b c a k]
theorem Yo (K:Nat -> LU) (b:LU) (c:b.length = 16) (a:∀ r,(K r).length = 16):stE K b 10 = AE (AX 1 ((stE K b 9).map Av)) (K 10):=by
 unfold stE;rw [if_neg (by omega),if_pos (by omega),OV K b c a]
theorem We (K:Nat -> LU) (b:LU):stD K b 1 = (AX 3 (AE (stD K b 0) (K 10))).map BP:=by
 unfold stD;rw [if_neg (by omega),if_pos rfl]
 rfl
theorem Xy (K:Nat -> LU) (b:LU) (a:∀ r,(K r).length = 16) (k:Nat) (c:1 <= k):stD K b (k + 1) = (AX 3 (DX rowD (AE (stD K b k) (K (10 - k))))).map BP:=by
 unfold stD;rw [if_neg (by omega),if_neg (by omega),show k + 1 - 1 = k - 1 + 1 from by omega,Mt K b a (k - 1),show 9 - (k - 1) = 10 - k from by omega]
theorem OC (key b:LU) (ak:Option Addr) (bb bo ck C:Nat) (w:World) (U:key.length = 16) (T:b.length = 16) (rk:RowAt w ak key) (rb:RowAt w (some ⟨bb,bo,none⟩) b) :
 Calls prog 144 #[.slice ak 16 ck,.slice (some ⟨bb,bo,none⟩) 16 C,.bool false] w fun e w'=>∃ v,e = .returned v /\ AO w' w.heap.size v (CW (AQ key) b) /\ Bl w w':=by
 have p:=AS (fun r=>BI key U r);have HW:=AS (OE ak ck key w U rk);go_enter func144,ntmps144;go_wp2_with fail;refine HW.out.mono ?_;rintro e z ⟨v1,rfl,F,A⟩;obtain ⟨V,cW,c2,rfl,rW⟩:=BE F (K5 key U) (by omega);have a3:=rb.below A;have rK:Hid (∀ (wx:World),Bl z wx -> ∀ r,r < 11 -> RowAt wx (some ⟨V,16 * r,none⟩) (AQ key r)):=AS (fun wx h r hr=>by
  have:=(rW.below h).mid (n:=16) (16 * r)
  rwa [P6 key U r hr] at this)
 have c1:(16:Int) <= (cW:Int):=by omega
 clear HW F rW rb rk;go_wp2_with fail;refine (Fo b (AQ key 0) bb bo _ V 0 _ z T (p.out 0) a3 (rK.out z (Below.refl _ _) 0 (by omega))).mono ?_;rintro e w2 ⟨rfl,a0,I⟩;clear a3;go_wp2
 go_loopw [8,9,10,35] (fun v r _ _ wr=>∃ k G:Nat,k <= 10 /\ r = .int .i64 ((k + 1:Nat):Int) /\ v = .slice (some ⟨G,0,none⟩) 16 16 /\ z.heap.size <= G /\ Blk wr G 5 ((stE (AQ key) b k).map byte) /\ Bl z wr) (fun _ r _ _ _=>11 - (intOf r).toNat)
 case atStart=>exact ⟨0,z.heap.size,by omega,rfl,rfl,QE _,a0,I⟩
 case round =>
  clear a0 I;obtain ⟨k,G,b7,rfl,rfl,b0,d,f⟩:=hrel;have j:=VE (AQ key) b T p.out k
  by_cases hlt:k < 10
  ·obtain ⟨R,hR,u⟩:∃ R:Nat,k + 1 = R /\ Hid (R = k + 1):=⟨_,rfl,rfl⟩;rw [hR];have b9:(R:Int) <= 10:=by omega
   obtain ⟨s,hs⟩:=uX (stE (AQ key) b k);have HS:=AS hs;rw [<- hs] at d j;clear hR hs;go_wp2
   go_loopw [10,35] (fun _ c wr=>∃ i:Nat,i <= 16 /\ c = .int .i64 i /\ Blk wr G 5 ((Fz Av s i).map byte) /\ Bl z wr) (fun _ c _=>16 - (intOf c).toNat)
   case atStart=>exact ⟨0,by omega,rfl,by rw [Kw];exact d,f⟩
   case round =>
    clear d f;obtain ⟨i,b4,rfl,d,f⟩:=hrel;have b2:=Iz Av s i (by omega)
    by_cases hil:i < 16
    ·have c3:(i:Int) < 16:=by omega
     obtain ⟨x,lx,X⟩:∃ y:Nat,y < 256 /\ Hid (y = (s.getD i 0).toNat):=⟨_,QW _,rfl⟩;have hc:wr.cell? ⟨G,i,none⟩ = some (.int .u8 (x:Int)):=by rw [BV d i (by omega),N8 _ _ _ (by omega),X.out]
     have hf:=d.free i;have a5:=d.set i (byte (Av (s.getD i 0)));rw [<- qP,MD _ _ _ (by omega)] at a5;have HV:Hid (Value.int .u8 ((subI x:Nat):Int) = byte (Av (s.getD i 0))):=AS (by rw [X.out];rfl);clear d b2;go_wp2_with (go_at_call 174;refine (ZM x _ lx).mono ?_;rintro e w' ⟨rfl,c0⟩;subst w')
     go_roundw
     case rel =>
      rw [HV.out];exact ⟨i + 1,by omega,by go_num,a5,f.setCell b0 _⟩
     case measure=>simp [intOf];omega
    ·obtain rfl:i = 16:=by omega
     rw [MX Av s 16 j] at d;have a8:(s.map Av).length = 16:=by rw [QD,j]
     have Y:=AS (Kj 1 1 (s.map Av) G 0 16 wr (.inl rfl) rfl a8 (Et d));go_wp2_with fail;refine Y.out.mono ?_;rintro e l ⟨rfl,o,J⟩;have m:=f.trans (J.mono f.size);have a9:=f.size;obtain ⟨G3,a4⟩:=uX (wr.heap.size);rw [<- a4] at o a9 ⊢;clear Y J d f a4;obtain ⟨B,h1,L⟩:∃ a:Nat,IntKind.i64.wrap (16 * (R:Int)) = (a:Int) /\ Hid (a = 16 * (k + 1)):=⟨16 * R,by rw [QH];omega,AS (by rw [u.out])⟩;obtain ⟨D,h2,H2⟩:∃ a:Nat,IntKind.i64.wrap ((B:Int) + 16) = (a:Int) /\ Hid (a = 16 * (k + 1) + 16):=⟨16 * (k + 1) + 16,by have:=L.out;rw [QH];omega,rfl⟩;have q1:(B:Int) <= (D:Int):=by have:=L.out;have:=H2.out;omega
     have q2:(D:Int) <= (cW:Int):=by have:=H2.out;omega
     have q3:D - B = 16:=by have:=L.out;have:=H2.out;omega
     have q4:B <= D:=by omega
     have q5:D <= cW:=by omega
     have Z:=p.out (k + 1)
     by_cases h9:k < 9
     ·have a7:(R:Int) < 10:=by have:=u.out;omega
      have W:Blk (l.alloc (.cells #[.int .u8 2,.int .u8 3,.int .u8 1,.int .u8 1] 5)) l.heap.size 5 (FU.map byte):=Blk.new l _ _;have HM:=AS (RL FU (AX 1 (s.map Av)) G3 0 16 l.heap.size 0 4 (l.alloc (.cells #[.int .u8 2,.int .u8 3,.int .u8 1,.int .u8 1] 5)) (A4 _ _) rfl (Et (o.alloc _)) (Et W));have b3':=m.alloc m.size (.cells #[.int .u8 2,.int .u8 3,.int .u8 1,.int .u8 1] 5);go_wp2_with fail;refine HM.out.mono ?_;rintro e w5 ⟨rfl,H,E⟩;have O:=b3'.trans (E.mono b3'.size);have a6:=b3'.size;obtain ⟨G5,t⟩:=uX ((l.alloc (.cells #[.int .u8 2,.int .u8 3,.int .u8 1,.int .u8 1] 5)).heap.size);rw [<- t] at H a6;have b8:=AS t;have N:=AS (fun C=>Fo (DX FU (AX 1 (s.map Av))) (AQ key (k + 1)) G5 0 16 V B C w5 (Ix _ _) Z (Ai H) (by rw [L.out];exact rK.out w5 O (k + 1) (by omega)));have HE:Hid (stE (AQ key) b (k + 1) = AE (DX FU (AX 1 (s.map Av))) (AQ key (k + 1))):=AS (by rw [Xp (AQ key) b T p.out k h9,HS.out]);simp only [World.size_alloc] at t ⊢;rw [<- t];clear t HM W o m b3' E;go_wp2_with fail;refine (N.out _).mono ?_;rintro e w6 ⟨rfl,q,g⟩;rw [<- HE.out] at q;have b6:=O.trans (g.mono O.size);have M:=O.size;clear N H O g;go_wp2;go_roundw
      case rel=>exact ⟨k + 1,w5.heap.size,by omega,by have:=u.out;go_num,rfl,M,q,b6⟩
      case measure=>have:=u.out;simp [intOf];omega
     ·obtain rfl:k = 9:=by omega
      have a7:¬ (R:Int) < 10:=by have:=u.out;omega
      have N:=AS (fun C=>Fo (AX 1 (s.map Av)) (AQ key (9 + 1)) G3 0 16 V B C l (A4 _ _) Z (Ai o) (by rw [L.out];exact rK.out l m (9 + 1) (by omega)));have HE:Hid (stE (AQ key) b (9 + 1) = AE (AX 1 (s.map Av)) (AQ key (9 + 1))):=AS (by rw [show 9 + 1 = 10 from rfl,Yo (AQ key) b T p.out,HS.out]);go_wp2_with fail;refine (N.out _).mono ?_;rintro e w6 ⟨rfl,q,g⟩;rw [<- HE.out] at q;have b6:=m.trans (g.mono m.size);have M:=m.size;clear N o m g;go_wp2;go_roundw
      case rel=>exact ⟨9 + 1,l.heap.size,by omega,by have:=u.out;go_num,rfl,M,q,b6⟩
      case measure=>have:=u.out;simp [intOf];omega
  ·obtain rfl:k = 10:=by omega
   have HE:Hid (stE (AQ key) b 10 = CW (AQ key) b):=AS (by unfold stE;rw [if_neg (by omega)]);have b1:=A.size;go_wp2;go_ret;rw [HE.out] at d j;refine ⟨_,rfl,?_,A.trans (f.mono b1)⟩;have:=LC d (show w.heap.size <= G by omega) (by rw [j];unfold maxLen;omega);rw [j] at this;exact this
theorem V0 (key b:LU) (ab:Option Addr) (gW cW T:Nat) (w:World) (hk:key.length = 16) (hb:b.length = 16) (d4:176 <= cW) (rW:RowAt w (some ⟨gW,0,none⟩) (NT key)) (rb:RowAt w ab b) :
 Calls prog 173 #[.slice (some ⟨gW,0,none⟩) 176 cW,.slice ab 16 T] w fun e w'=>∃ v,e = .returned v /\ AO w' w.heap.size v (Is (AQ key) b) /\ Bl w w':=by
 have M:=AS (fun r=>BI key hk r);have HB:=AS (fun (t:World) (h:RowAt t ab b)=>EF ab T b t (by omega) (by omega) h);rw [hb] at HB;have e1:=Bq;go_enter func173,ntmps173;go_wp2_with fail;refine (Ou _).mono ?_;rintro e J ⟨v1,rfl,a4,A⟩;obtain ⟨gT,cT,d6,rfl,a3⟩:=BE a4 Bq (by omega);have b7:=rb.below A;have b6:=rW.below A;have rK:Hid (∀ (t:World),Bl J t -> ∀ r,r < 11 -> RowAt t (some ⟨gW,16 * r,none⟩) (AQ key r)):=AS (fun t h r hr=>by
  have:=(b6.below h).mid (n:=16) (16 * r)
  rwa [P6 key hk r hr] at this)
 have rT:Hid (∀ (t:World),Bl J t -> ∀ i,i < 256 -> t.cell? ⟨gT,0 + i,none⟩ = some (.int .u8 ((AT.getD i 0).toNat:Int))):=AS (fun t h i hi=>by
  obtain ⟨b0,o0,e0,hc⟩:=(a3.below h).at (show 0 < AT.length by omega);cases e0
  exact hc i (by omega))
 clear a4 a3 rb rW b6;go_wp2_with fail;refine (HB.out _ b7).mono ?_;rintro e w2 ⟨rfl,a8,a5⟩;have b1:=C8 (By a8 hb);clear HB b7 a8;go_wp2
 go_loopw [6,7,8,34] (fun v r _ _ wr=>∃ k G:Nat,k <= 10 /\ r = .int .i64 ((10 - k:Nat):Int) /\ v = .slice (some ⟨G,0,none⟩) 16 16 /\ J.heap.size <= G /\ Blk wr G 5 ((stD (AQ key) b k).map byte) /\ Bl J wr) (fun _ r _ _ _=>(intOf r).toNat)
 case atStart=>exact ⟨0,J.heap.size,by omega,rfl,rfl,QE _,b1,a5⟩
 case round =>
  clear b1 a5;obtain ⟨k,G,d1,rfl,rfl,d5,d,f⟩:=hrel;have N:=VM (AQ key) b hb k
  by_cases hlt:k < 10
  ·obtain ⟨R,hR,q⟩:∃ R:Nat,10 - k = R /\ Hid (R = 10 - k):=⟨_,rfl,rfl⟩;rw [hR];have d3:(1:Int) <= (R:Int):=by omega
   obtain ⟨R1,d2,O⟩:∃ r:Nat,IntKind.i64.wrap ((R:Int) - 1) = (r:Int) /\ Hid (r = R - 1):=⟨R - 1,by rw [QH];omega,rfl⟩;obtain ⟨s,hs⟩:=uX (stD (AQ key) b k);have HS:=AS hs;rw [<- hs] at d N;clear hR hs;obtain ⟨a1,h1,H1⟩:∃ a:Nat,IntKind.i64.wrap (16 * (R:Int)) = (a:Int) /\ Hid (a = 16 * R):=⟨16 * R,by have:=q.out;rw [QH];omega,rfl⟩;obtain ⟨V,h2,H2⟩:∃ a:Nat,IntKind.i64.wrap ((a1:Int) + 16) = (a:Int) /\ Hid (a = 16 * R + 16):=⟨16 * R + 16,by have:=q.out;have:=H1.out;rw [QH];omega,rfl⟩;have q1:(a1:Int) <= (V:Int):=by have:=H1.out;have:=H2.out;omega
   have q2:(V:Int) <= (cW:Int):=by have:=H2.out;have:=q.out;omega
   have q3:V - a1 = 16:=by have:=H1.out;have:=H2.out;omega
   have q4:a1 <= V:=by omega
   have q5:V <= cW:=by omega
   have c4:=M.out R;have HX:=AS (fun T=>Fo s (AQ key R) G 0 16 gW a1 T wr N c4 (Ai d) (by rw [H1.out];exact rK.out wr f R (by have:=q.out;omega)));go_wp2_with fail;refine (HX.out _).mono ?_;rintro e u ⟨rfl,g,z⟩;have E:=f.trans (z.mono f.size);have c5:=f.size;obtain ⟨G3,b8⟩:=uX (wr.heap.size);rw [<- b8] at g c5 ⊢;have a6:(AE s (AQ key R)).length = 16:=by rw [AW _ _ (by omega),N]
   obtain ⟨X,hX⟩:=uX (AE s (AQ key R));have b9:=AS hX;rw [<- hX] at g a6;clear HX z d f b8 hX
   by_cases h0:k = 0
   ·subst h0;have c1:¬ (R:Int) < 10:=by have:=q.out;omega
    have C:=AS (Kj 3 3 X G3 0 16 u (.inr rfl) rfl a6 (Et g));have HE:Hid (stD (AQ key) b (0 + 1) = (AX 3 X).map BP):=AS (by rw [show 0 + 1 = 1 from rfl,We,b9.out,HS.out,q.out]);go_wp2_with fail;refine C.out.mono ?_;rintro e w5 ⟨rfl,j,m⟩;have b5:=E.trans (m.mono E.size);have l:=E.size;obtain ⟨H,D⟩:=uX (u.heap.size);rw [<- D] at j l ⊢;obtain ⟨Z,I⟩:=uX (AX 3 X);have a0:Z.length = 16:=by rw [I];exact A4 _ _
    rw [<- I] at j HE;clear C g E m D I;obtain ⟨B,p⟩:=uX (0 + 1);rw [<- p] at HE;have F:Hid (B = 0 + 1 /\ B <= 10 /\ R = 10 - B + 1):=AS ⟨p,by omega,by have:=q.out;omega⟩;clear p;go_wp2
    go_loopw [8,34] (fun _ c wr=>∃ i:Nat,i <= 16 /\ c = .int .i64 i /\ Blk wr H 5 ((Fz BP Z i).map byte) /\ Bl J wr) (fun _ c _=>16 - (intOf c).toNat)
    case atStart=>exact ⟨0,by omega,rfl,by rw [Kw];exact j,b5⟩
    case round =>
     clear j b5;obtain ⟨i,c0,rfl,d,f⟩:=hrel;have a7:=Iz BP Z i (by omega)
     by_cases hil:i < 16
     ·have c6:(i:Int) < 16:=by omega
      obtain ⟨x,lx,W⟩:∃ y:Nat,y < 256 /\ Hid (y = (Z.getD i 0).toNat):=⟨_,QW _,rfl⟩;have hc:wr.cell? ⟨H,i,none⟩ = some (.int .u8 (x:Int)):=by rw [BV d i (by omega),N8 _ _ _ (by omega),W.out]
      have hf:=d.free i;have o:=d.set i (byte (BP (Z.getD i 0)));rw [<- qP,MD _ _ _ (by omega)] at o;obtain ⟨y,hy,HY⟩:∃ y:Nat,(invTab.getD x 0).toNat = y /\ Hid (Value.int .u8 (y:Int) = byte (BP (Z.getD i 0))):=⟨_,rfl,AS (by rw [W.out];rfl)⟩;have HU:=AS (OH gT 0 cT x wr lx (rT.out wr f));rw [hy] at HU;clear d a7 hy;go_wp2_with (go_at_call 206;refine HU.out.mono ?_;rintro e w' ⟨rfl,c3⟩;subst w')
      go_roundw
      case rel =>
       rw [HY.out];exact ⟨i + 1,by omega,by go_num,o,f.setCell l _⟩
      case measure=>simp [intOf];omega
     ·obtain rfl:i = 16:=by omega
      rw [MX BP Z 16 a0,<- HE.out] at d;go_wp2;go_roundw
      case rel=>exact ⟨B,H,F.out.2.1,by have:=F.out;have:=O.out;go_num,rfl,l,d,f⟩
      case measure=>have:=F.out;have:=O.out;simp [intOf];omega
   ·have c1:(R:Int) < 10:=by have:=q.out;omega
    have a9:Blk (u.alloc (.cells #[.int .u8 14,.int .u8 11,.int .u8 13,.int .u8 9] 5)) u.heap.size 5 (rowD.map byte):=Blk.new u _ _;have HM:=AS (RL rowD X G3 0 16 u.heap.size 0 4 (u.alloc (.cells #[.int .u8 14,.int .u8 11,.int .u8 13,.int .u8 9] 5)) a6 rfl (Et (g.alloc _)) (Et a9));have b3':=E.alloc E.size (.cells #[.int .u8 14,.int .u8 11,.int .u8 13,.int .u8 9] 5);go_wp2_with fail;refine HM.out.mono ?_;rintro e w4 ⟨rfl,Y,U⟩;have b4:=b3'.trans (U.mono b3'.size);have c9:=b3'.size;obtain ⟨G4,L⟩:=uX ((u.alloc (.cells #[.int .u8 14,.int .u8 11,.int .u8 13,.int .u8 9] 5)).heap.size);rw [<- L] at Y c9;have C:=AS (Kj 3 3 (DX rowD X) G4 0 16 w4 (.inr rfl) rfl (Ix _ _) (Et Y));have HE:Hid (stD (AQ key) b (k + 1) = (AX 3 (DX rowD X)).map BP):=AS (by rw [Xy (AQ key) b M.out k (by omega),b9.out,HS.out,q.out]);simp only [World.size_alloc] at L ⊢;rw [<- L];clear L HM a9 g E b3' U;go_wp2_with fail;refine C.out.mono ?_;rintro e w5 ⟨rfl,j,m⟩;have b5:=b4.trans (m.mono b4.size);have l:=b4.size;obtain ⟨H,D⟩:=uX (w4.heap.size);rw [<- D] at j l ⊢;obtain ⟨Z,I⟩:=uX (AX 3 (DX rowD X));have a0:Z.length = 16:=by rw [I];exact A4 _ _
    rw [<- I] at j HE;clear C Y b4 m D I;obtain ⟨B,p⟩:=uX (k + 1);rw [<- p] at HE;have F:Hid (B = k + 1 /\ B <= 10 /\ R = 10 - B + 1):=AS ⟨p,by omega,by have:=q.out;omega⟩;clear p;go_wp2
    go_loopw [8,34] (fun _ c wr=>∃ i:Nat,i <= 16 /\ c = .int .i64 i /\ Blk wr H 5 ((Fz BP Z i).map byte) /\ Bl J wr) (fun _ c _=>16 - (intOf c).toNat)
    case atStart=>exact ⟨0,by omega,rfl,by rw [Kw];exact j,b5⟩
    case round =>
     clear j b5;obtain ⟨i,c0,rfl,d,f⟩:=hrel;have a7:=Iz BP Z i (by omega)
     by_cases hil:i < 16
     ·have c6:(i:Int) < 16:=by omega
      obtain ⟨x,lx,W⟩:∃ y:Nat,y < 256 /\ Hid (y = (Z.getD i 0).toNat):=⟨_,QW _,rfl⟩;have hc:wr.cell? ⟨H,i,none⟩ = some (.int .u8 (x:Int)):=by rw [BV d i (by omega),N8 _ _ _ (by omega),W.out]
      have hf:=d.free i;have o:=d.set i (byte (BP (Z.getD i 0)));rw [<- qP,MD _ _ _ (by omega)] at o;obtain ⟨y,hy,HY⟩:∃ y:Nat,(invTab.getD x 0).toNat = y /\ Hid (Value.int .u8 (y:Int) = byte (BP (Z.getD i 0))):=⟨_,rfl,AS (by rw [W.out];rfl)⟩;have HU:=AS (OH gT 0 cT x wr lx (rT.out wr f));rw [hy] at HU;clear d a7 hy;go_wp2_with (go_at_call 206;refine HU.out.mono ?_;rintro e w' ⟨rfl,c3⟩;subst w')
      go_roundw
      case rel =>
       rw [HY.out];exact ⟨i + 1,by omega,by go_num,o,f.setCell l _⟩
      case measure=>simp [intOf];omega
     ·obtain rfl:i = 16:=by omega
      rw [MX BP Z 16 a0,<- HE.out] at d;go_wp2;go_roundw
      case rel=>exact ⟨B,H,F.out.2.1,by have:=F.out;have:=O.out;go_num,rfl,l,d,f⟩
      case measure=>have:=F.out;have:=O.out;simp [intOf];omega
  ·obtain rfl:k = 10:=by omega
   have d0:(16:Int) <= (cW:Int):=by omega
   have c7:=M.out 0;have HX:=AS (fun T=>Fo (stD (AQ key) b 10) (AQ key 0) G 0 16 gW 0 T wr N c7 (Ai d) (rK.out wr f 0 (by omega)));have HE:Hid (AE (stD (AQ key) b 10) (AQ key 0) = Is (AQ key) b):=AS (by unfold stD;rw [if_neg (by omega)];rfl);have b2:=LQ (AQ key) b M.out;have c8:=A.size;have c2:=f.size;go_wp2_with fail;refine (HX.out _).mono ?_;rintro e u ⟨rfl,g,z⟩;rw [HE.out] at g;go_wp2_with fail;go_ret;refine ⟨_,rfl,?_,A.trans ((f.trans (z.mono c2)).mono c8)⟩;have:=LC g (show w.heap.size <= wr.heap.size by omega) (by rw [b2];unfold maxLen;omega);rw [b2] at this;exact this
theorem Vu (key a:LU) (i:Option Addr) (j g p l:Nat) (w:World) (d:key.length = 16) (r:a.length = 16) (x:RowAt w i key) (t:RowAt w (some ⟨j,g,none⟩) a) :
 Calls prog 144 #[.slice i 16 p,.slice (some ⟨j,g,none⟩) 16 l,.bool true] w fun e w'=>∃ v,e = .returned v /\ AO w' w.heap.size v (Is (AQ key) a) /\ Bl w w':=by
 have o:=AS (OE i p key w d x);go_enter func144,ntmps144;go_wp2_with fail;refine o.out.mono ?_;rintro e s ⟨A,rfl,c,b⟩;obtain ⟨q,y,n,rfl,z⟩:=BE c (K5 key d) (by omega);have m:=t.below b;have u:=AS (V0 key a (some ⟨j,g,none⟩) q y l s d r n z m);clear o c;go_wp2_with fail;refine u.out.mono ?_;rintro e w2 ⟨B,rfl,k,f⟩;go_wp2_with fail;go_ret;exact ⟨_,rfl,k.mono b.size,b.trans (f.mono b.size)⟩
end Go.Proofs.YtbkokcjolanpeaaGreatDoor
