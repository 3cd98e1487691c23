import Derived.Test.YtbkokcjolanpeaaGreatDoorMkVb
import Derived.Test.YtbkokcjolanpeaaGreatDoorMkW
set_option maxRecDepth 100000
set_option maxHeartbeats 20000000
namespace Go.Proofs.YtbkokcjolanpeaaGreatDoor
open Go.RowKit Go.Proofs.Tryz Act
def A5 (a:LU) (k:Nat):List Nat:=(List.range k).filter (fun i=>decide (2 <= i) && Bv a (i - 1))
theorem Im (a:LU):A5 a 2 = []:=by
 unfold A5;simp [List.range_succ]
theorem Oa (a:LU) (k:Nat) (b:2 <= k) (h:Bv a (k - 1) = true):A5 a (k + 1) = A5 a k ++ [k]:=by
 unfold A5;rw [List.range_succ,List.filter_append];simp [h,b]
theorem PS (a:LU) (k:Nat) (h:Bv a (k - 1) = false):A5 a (k + 1) = A5 a k:=by
 unfold A5;rw [List.range_succ,List.filter_append];simp [h]
theorem OT (a:LU) (k n:Nat) (c:2 <= k) (h:Bv a (k - 1) = true) (b:k < n):k ∈ A5 a n:=by
 unfold A5;rw [List.mem_filter,qp];exact ⟨b,by simp [h,c]⟩
theorem Fx (a:LU) (k:Nat):(A5 a k).length <= k:=by
 unfold A5;exact QG (List.length_filter_le _ _) (by simp)
def Eb (l:List Nat):Nat:=l.getLastD 0
theorem F4 (l:List Nat) (x:Nat):Eb (l ++ [x]) = x:=by unfold Eb;simp
def C9 (l:List Nat):Bool:=l.all (fun n=>decide (n ∈ tabNos))
theorem G9 (l:List Nat) (x:Nat):C9 (l ++ [x]) = (C9 l && decide (x ∈ tabNos)):=by unfold C9;simp
theorem Rw (l:List Nat) (x:Nat) (h:x ∈ l) (a:x ∉ tabNos):C9 l = false:=by
 unfold C9;rw [List.all_eq_false];exact ⟨x,h,by simpa using a⟩
def FN (a:Nat):Value:=IB (tabNos.idxOf a)
def Es (l:List Nat):List Value:=l.flatMap (fun (n:Nat)=>[.int .i64 (n:Int),FN n])
theorem Sj (l:List Nat) (x:Nat):Es (l ++ [x]) = Es l ++ [.int .i64 (x:Int),FN x]:=by unfold Es;simp
def Cr (data:LU):Nat:=if Bv (data.drop 4) 0 = true then 20 else 12
def DL (data:LU):List Nat:=A5 ((data.drop 4).take (Cr data - 4)) (8 * (Cr data - 4) + 1)
def mapC (data:LU):Nat:=if data.length < Cr data then 1 else if C9 (DL data) = false then 3 else if 12 < Cr data /\ Eb (DL data) <= 64 then 3 else 0
def BW (data:LU):List Nat:=if mapC data = 0 then DL data else []
def mapE (data:LU):Nat:=if mapC data = 0 then Cr data else 0
theorem Kz (a:Nat) (h:a ∈ tabNos):tabNos.idxOf a < 14 /\ tabNos.getD (tabNos.idxOf a) 0 = a:=by
 have b:tabNos.idxOf a < tabNos.length:=List.idxOf_lt_length_of_mem h;refine ⟨b,?_⟩;rw [QA,List.getElem?_eq_getElem b];exact List.getElem_idxOf b
theorem ON (a:Nat) (h:a ∈ tabNos):(FN a).oneCell' = true:=by
 have h':=(Kz a h).1;unfold FN
 match tabNos.idxOf a,h' with
 | 0,_ | 1,_ | 2,_ | 3,_ | 4,_ | 5,_ | 6,_ | 7,_ | 8,_ | 9,_ | 10,_ | 11,_ | 12,_ | 13,_=>rfl
theorem Tryz.infoFR:(prog.info? 118).map (fun i=>(i.zero,i.size,i.bytes)) = some (some (.agg #[.int .i64 0,.nilIface]),2,24):=by kernel_rfl
theorem Ng (data:LU) (b:Option Addr) (a:Nat) (w:World) (h:data.length < 12) :
 Calls prog 93 #[.slice b data.length a] w fun e w'=>e = .returned (.tuple #[.slice none 0 0,.int .i64 0,.int .i64 1]) /\ w' = w:=by
 obtain ⟨N,c⟩:=uX (data.length);rw [<- c];have f:¬ (12:Int) <= (N:Int):=by omega
 have d:(N:Int) < 12:=by omega
 go_enter func93,ntmps93;go_wp2_with fail;go_ret3;exact ⟨rfl,rfl⟩
theorem Am {w w':World} {base e size n:Nat} {v:Value} {a:List Value} (h:w.ownsRow base e size v n a) (b:Bl w w'):w'.ownsRow base e size v n a :=
 World.ownsRow.kept h (grown_of_below b none) (by cases c:v.ownBlock <;> simp)
theorem ownR_mono {w:World} {B base e size n:Nat} {v:Value} {d:List Value} (h:w.ownsRow base e size v n d) (k:B <= base):w.ownsRow B e size v n d:=by
 obtain ⟨f,a⟩:=h;refine ⟨f,?_⟩;rcases a with a | ⟨g,b,c,i,j,rest⟩
 ·exact .inl a
 ·exact .inr ⟨g,b,c,i,by omega,rest⟩
theorem Be {w:World} {g t:Nat} {cs:List Value} (h:Blk w g t cs):∀ j u,cs[j]? = some u -> w.cell? ((⟨g,0,none⟩:Addr).add j) = some u:=by
 intro j u b;obtain ⟨a,c⟩:=List.getElem?_eq_some_iff.1 b;rw [qZ,QZ,h.cell j a,c]
theorem Ol (data:LU) (b o s:Nat) (w:World) (f1:12 <= data.length) (hn:data.length <= 4096) (e8:data.length <= s) (hr:RowAt w (some ⟨b,o,none⟩) data) :
 Calls prog 93 #[.slice (some ⟨b,o,none⟩) data.length s] w fun e w'=>∃ v,e = .returned (.tuple #[v,.int .i64 (mapE data:Nat),.int .i64 (mapC data:Nat)]) /\ w'.ownsRow w.heap.size 118 2 v (BW data).length (Es (BW data)) /\ Bl w w':=by
 obtain ⟨i0,hi,e4,d4,d3⟩:=Qg Tryz.infoFR;obtain ⟨N,hN⟩:=uX (data.length);have a2:(data.drop 4).length = N - 4:=by rw [QN,hN]
 have T:=AA (NE (data.drop 4) (some ⟨b,o + 4,none⟩) (s - 4) 0 w (by omega) (by omega) (RowAt.drop hr 4));rw [a2] at T;obtain ⟨q,hq⟩:=uX (Bv (data.drop 4) 0);rw [<- hq] at T;obtain ⟨E,hE⟩:=uX (Cr data);have b8:E = if q = true then 20 else 12:=by rw [hE,hq];rfl
 obtain ⟨m,hm⟩:=uX (E - 4);obtain ⟨a,R⟩:=uX ((data.drop 4).take m);have j:Hid (mapC data = (if N < E then 1 else if C9 (A5 a (8 * m + 1)) = false then 3 else if 12 < E /\ Eb (A5 a (8 * m + 1)) <= 64 then 3 else 0) /\ BW data = (if mapC data = 0 then A5 a (8 * m + 1) else []) /\ mapE data = (if mapC data = 0 then E else 0)):=by
  have e:DL data = A5 a (8 * m + 1):=by unfold DL;rw [R,hm,hE]
  refine ⟨?_,?_,?_⟩
  ·unfold mapC;rw [e,<- hE,<- hN]
  ·unfold BW;rw [e]
  ·unfold mapE;rw [<- hE]
 obtain ⟨RC,b7⟩:=uX (mapC data);obtain ⟨RN,c0⟩:=uX (BW data);obtain ⟨RE,c5⟩:=uX (mapE data);rw [<- b7,<- c0,<- c5] at j ⊢;have HQ:=AA b8;have HN:=AA hN;have hI:(12:Int) <= (N:Int):=by omega
 have g0:(4:Int) <= (N:Int):=by omega
 have f3:¬ s = 4:=by omega
 rw [<- hN];clear b7 c0 c5 hN hE hq b8;go_enter func93,ntmps93;go_upto_if 18 with (refine T.out.mono ?_;rintro e w1 ⟨rfl,rfl⟩)
 clear T;go_cut [3] (fun e c=>e = .int .i64 (E:Int) /\ c = w.drew)
 case first =>
  cases q
  ·have l:=HQ.out;rw [if_neg (by decide)] at l;subst l;go_wp2_with fail;go_meet
   case rel=>exact ⟨rfl,rfl⟩
  ·have l:=HQ.out;rw [if_pos rfl] at l;subst l;go_wp2_with fail;go_meet
   case rel=>exact ⟨rfl,rfl⟩
 case rest =>
  obtain ⟨rfl,a8⟩:=hcut;have bc:Bl w wc:=by rw [a8];exact (Below.refl _ _).drew
  have rc:=hr.below bc;clear a8 hr
  by_cases hlt:N < E
  ·rw [if_pos hlt] at j;obtain ⟨t,d,f⟩:=j.out;rw [t] at d f;rw [if_neg (by decide)] at d f;subst t d f;have e3:(N:Int) < (E:Int):=by omega
   go_wp2_with fail;go_ret3;exact ⟨_,rfl,Qa _ _ _ _,bc⟩
  rw [if_neg hlt] at j;have e3:¬ (N:Int) < (E:Int):=by omega
  have f4:E = 12 \/ E = 20:=by have:=HQ.out;cases q <;> simp at this <;> omega
  have f5:(E:Int) <= (s:Int):=by have:=HN.out;omega
  have f6:(4:Int) <= (E:Int):=by omega
  have c3:=AA (fun (c:World)=>I6 c);have c4:RowAt wc (some ⟨b,o + 4,none⟩) a:=by rw [R];exact (RowAt.drop rc 4).take m
  have d2:a.length = m:=by rw [R,QI,a2];omega
  clear R rc a2;go_upto_region 8 with (go_at_call 51;refine (c3.out _).mono ?_;rintro e I ⟨rfl,J,bT⟩)
  rw [<- hm];have a4:=AA hm;obtain ⟨gT,b4⟩:=uX (wc.heap.size);rw [<- b4] at J ⊢;have D:=bc.trans (bT.mono bc.size);have rT:=c4.below bT;have f8:=J.lt;have g6:m = 8 \/ m = 16:=by omega
  have hM:IntKind.i64.wrap (8 * (m:Int)) = ((8 * m:Nat):Int):=by rw [QH];omega
  obtain ⟨M,b5⟩:=uX (8 * m);rw [<- b5] at hM j;have b3:Hid (∀ (k:Nat) (c:World),1 <= k -> k <= M -> RowAt c (some ⟨b,o + 4,none⟩) a -> Calls prog 149 #[.slice (some ⟨b,o + 4,none⟩) m (s - 4),.int .i64 (k:Int)] c fun e w'=>e = .returned (.bool (Bv a (k - 1))) /\ w' = c.drew):=by
   intro k c h1 h2 h3;have h:=NE a (some ⟨b,o + 4,none⟩) (s - 4) (k - 1) c (by omega) (by omega) h3;rw [d2,show k - 1 + 1 = k from by omega] at h;exact h
  have a9:=AA (fun (i:Nat) (c:World) (h:Blk c gT 118 tabCellsI)=>Mq i gT c h);have b0:Hid (∀ {x:World},Bl I x -> Blk x gT 118 tabCellsI /\ RowAt x (some ⟨b,o + 4,none⟩) a):=fun h=>⟨J.below h J.lt,rT.below h⟩;have e0:Hid (∀ {x:World},Bl I x -> ∀ i,i ∈ tabNos -> x.cell? ⟨gT,tabNos.idxOf i * 2,none⟩ = some (.int .i64 (i:Int)) /\ x.cell? ⟨gT,tabNos.idxOf i * 2 + 1,none⟩ = some (FN i)):=by
   intro x hx i e5;obtain ⟨h1,h2⟩:=Kz i e5;have e:=NX _ h1;have kx:=J.below hx J.lt;have l1:tabNos.idxOf i * 2 < tabCellsI.length:=by show _ < 28;omega
   have l2:tabNos.idxOf i * 2 + 1 < tabCellsI.length:=by show _ < 28;omega
   rw [List.getElem?_eq_getElem l1,List.getElem?_eq_getElem l2] at e;exact ⟨(kx.cell _ l1).trans (by rw [e.1,h2]),(kx.cell _ l2).trans e.2⟩
  have g5:M <= 128:=by omega
  have f9:2 <= M:=by omega
  clear J rT c4 bT bc b4 c3 hm b5;go_wp2_with fail
  go_loopw [2,3,7,8] (fun nv en V i wr=>∃ k:Nat,2 <= k /\ en = .int .i64 (E:Int) /\ k <= M + 1 /\ i = .int .i64 (k:Int) /\ V = .int .i64 (Eb (A5 a k):Nat) /\ wr.ownsRow I.heap.size 118 2 nv (A5 a k).length (Es (A5 a k)) /\ Hid (C9 (A5 a k) = true) /\ Bl I wr) (fun _ _ _ i _=>M + 1 - (intOf i).toNat)
  case atStart=>exact ⟨2,QE _,rfl,by omega,rfl,by rw [Im];rfl,by rw [Im];exact Qa _ _ _ _,by rw [Im];exact (rfl:C9 [] = true),Below.refl _ _⟩
  case round =>
   rename_i nv _ _ _
   obtain ⟨k,b1,rfl,f2,rfl,rfl,r,W,B⟩:=hrel;have c9:=Fx a k
   by_cases hle:k <= M
   ·have d0:(k:Int) <= (M:Int):=by omega
    have G:=AA (b3.out k wr (by omega) hle (b0.out B).2);have HY:=AA (Oa a k b1);have F:=AA (PS a k);have U:=AA (fun n=>OT a k n b1);obtain ⟨bt,b6⟩:=uX (Bv a (k - 1));rw [<- b6] at G HY F U;clear b6;obtain ⟨L,hL⟩:=uX (A5 a k);rw [<- hL] at r W HY F c9 ⊢;obtain ⟨V,y⟩:=uX (Eb L);rw [<- y];have e7:=AA y;clear hL y;cases bt
    ·have e:=F.out rfl;have a0:=AA e;clear F HY U e;go_wp2_with (refine G.out.mono ?_;rintro e w1 ⟨rfl,rfl⟩)
     go_roundw
     case rel=>exact ⟨k + 1,by omega,rfl,by omega,by go_num,by rw [a0.out,e7.out],by rw [a0.out];exact r,by rw [a0.out];exact W,B.drew⟩
     case measure=>simp [intOf];omega
    ·have Z:=AA (HY.out rfl);have c8:=AA (U.out (M + 1) rfl (by omega));clear F HY U;have A:=AA (fun (c:World) (h:Bl I c)=>a9.out k c (b0.out h).1)
     by_cases hin:k ∈ tabNos
     ·obtain ⟨e6,-⟩:=Kz k hin;have C:EQ k = (tabNos.idxOf k:Int):=by unfold EQ;rw [if_pos hin]
      rw [C] at A;have O:=AA (fun (c:World) (h:Bl I c)=>e0.out h k hin);have c6:=ON k hin;obtain ⟨ix,Y⟩:=uX (tabNos.idxOf k);obtain ⟨kv,H⟩:=uX (FN k);rw [<- Y] at A O e6;rw [<- H] at O c6;have d6:=AA H;have d5:=AA hin;clear Y C H hin;have e9:(ix:Int) < 14:=by omega
      have f0:¬ (ix:Int) < 0:=by omega
      go_wp2_with fail;refine G.out.mono ?_;rintro e w1 ⟨rfl,rfl⟩;have p:=B.drew;go_wp2_with fail;refine (A.out _ p).mono ?_;rintro e w2 ⟨rfl,X⟩;have z:=p.trans (X.mono p.size);have a6:=Am r.drew X;obtain ⟨c1,c2⟩:=O.out w2 z;have e1:=z.alloc z.size (Obj.cells #[.int .i64 (k:Int),kv] 118);have f7:=z.size;clear G A O a9 b3 p X r B;go_wp2_with (at_builtin;refine Qi _ rfl _ _ 111 rfl I.heap.size 118 i0 (.agg #[.int .i64 0,.nilIface]) 2 24 underlying111 hi e4 d4 d3 rfl (by decide) _ _ _ rfl (a6.alloc _) ⟨w2.heap.size,0,none⟩ 1 1 [.int .i64 (k:Int),kv] rfl rfl (Be (Blk.new w2 118 #[.int .i64 (k:Int),kv])) (by intro u hu;simp at hu;rcases hu with rfl | rfl <;> first | rfl | exact c6) (by unfold maxLen;omega) (by omega) (by simp;omega) ?_;intro v5 w5 c7 a7 _)
      have e2:=e1.grown a7 (by simp;omega) (fun g hg=>(a6.lt g hg).1);go_roundw
      case rel=>exact ⟨k + 1,by omega,rfl,by omega,by go_num,by rw [Z.out,F4],by rw [Z.out,QC,Sj,<- d6.out];exact c7,by rw [Z.out];exact (G9 _ _).trans (by rw [W.out,QK d5.out];rfl),e2⟩
      case measure=>simp [intOf];omega
     ·have C:EQ k = -1:=by unfold EQ;rw [if_neg hin]
      rw [C] at A;have hf:=Rw _ k c8.out hin;rw [if_pos hf] at j;obtain ⟨t,d,f⟩:=j.out;rw [t] at d f;rw [if_neg (by decide)] at d f;subst t d f;clear C hf hin;go_wp2_with fail;refine G.out.mono ?_;rintro e w1 ⟨rfl,rfl⟩;have p:=B.drew;go_wp2_with fail;refine (A.out _ p).mono ?_;rintro e w2 ⟨rfl,X⟩;have z:=p.trans (X.mono p.size);go_wp2_with fail;go_ret3;exact ⟨_,rfl,Qa _ _ _ _,D.trans (z.mono D.size)⟩
   ·have d0:¬ (k:Int) <= (M:Int):=by omega
    have a1:k = M + 1:=by omega
    rw [a1] at r W ⊢;rw [if_neg (by rw [W.out];decide)] at j;obtain ⟨L,hL⟩:=uX (A5 a (M + 1));rw [<- hL] at r j ⊢;obtain ⟨V,y⟩:=uX (Eb L);rw [<- y] at j ⊢;have a5:=ownR_mono r D.size;have a3:=AA (And.intro a5 (D.trans (B.mono D.size)));clear hL y r a5 a1 W
    by_cases hbig:12 < E /\ V <= 64
    ·rw [if_pos hbig] at j;obtain ⟨t,d,f⟩:=j.out;rw [t] at d f;rw [if_neg (by decide)] at d f;subst t d f;have b9:(8:Int) < (m:Int):=by have:=a4.out;omega
     have d1:(V:Int) <= 64:=by omega
     go_wp2_with fail;go_ret3;exact ⟨_,rfl,Qa _ _ _ _,a3.out.2⟩
    ·rw [if_neg hbig] at j;obtain ⟨t,d,f⟩:=j.out;rw [t] at d f;rw [if_pos rfl] at d f;subst t d;have r4:=f.symm;subst r4
     by_cases l:12 < E
     ·have b9:(8:Int) < (m:Int):=by have:=a4.out;omega
      have d1:¬ (V:Int) <= 64:=by omega
      go_wp2_with fail;go_ret3;exact ⟨_,rfl,a3.out⟩
     ·have b9:¬ (8:Int) < (m:Int):=by have:=a4.out;omega
      go_wp2_with fail;go_ret3;exact ⟨_,rfl,a3.out⟩
theorem Pw (data:LU) (b o a:Nat) (w:World) (f:data.length <= 4096) (c:data.length <= a) (i:RowAt w (some ⟨b,o,none⟩) data) :
 Calls prog 93 #[.slice (some ⟨b,o,none⟩) data.length a] w fun e w'=>∃ v,e = .returned (.tuple #[v,.int .i64 (mapE data:Nat),.int .i64 (mapC data:Nat)]) /\ w'.ownsRow w.heap.size 118 2 v (BW data).length (Es (BW data)) /\ Bl w w':=by
 by_cases h12:12 <= data.length
 ·exact Ol data b o a w h12 f c i
 ·refine (Ng data _ a w (by omega)).mono ?_;rintro e w' ⟨rfl,rfl⟩;have d:mapC data = 1:=by
   unfold mapC;rw [if_pos];unfold Cr
   split <;> omega
  have j:BW data = []:=by unfold BW;rw [d];rfl
  have g:mapE data = 0:=by unfold mapE;rw [d];rfl
  rw [d,j,g];exact ⟨_,rfl,Qa _ _ _ _,Below.refl _ _⟩
def szN (s:LU):Nat:=if s.all dig = true then numL s else 0
def sdN (l m:Nat) (s:LU):Bool:=s.all dig && decide (l <= numL s /\ numL s <= m)
theorem I7 (s:LU):Bu ⟨s.toArray⟩ = s.all dig:=by unfold Bu;simp
theorem JI (d:Nat) (k:d <= 3) (s:LU) (f:s.length = d):szN s <= 1000:=by
 unfold szN
 split
 ·rename_i h
  unfold numL
  match s,f,h with
  | [],_,_=>simp
  | [a],_,h =>
    simp at h;have:=FF h;simp;omega
  | [a,b],_,h =>
    simp at h;have i:=FF h.1;have g:=FF h.2;simp;omega
  | [a,b,c],_,h =>
    simp at h;have i:=FF h.1;have g:=FF h.2.1;have j:=FF h.2.2;simp;omega
  | _ :: _ :: _ :: _ :: _,f,_=>simp at f;omega
 ·omega
theorem EC (n:Nat) (b:n <= 1000):Kd 182 (.agg #[.int .i64 (n:Int)]) (.int .i64 (n:Int)) 292 0 n n BL (fun _=>n) (fun _=>true) :=
 { mE:=Ie (n:Int),cF:=fun _=>by kernel_rfl,HE:=fun w=>EB (n:Int) w,HF:=fun data d a w f c=>L1 n data d a w f c,HS:=fun s w _=>IU n _ w,d3:=by omega,z:=fun _ _=>b }
theorem IF (n:Nat) (b:n <= 1000):Kd 185 (.agg #[.int .i64 (n:Int)]) (.int .i64 (n:Int)) 292 0 n n DN (fun _=>n) (fun _=>true) :=
 { mE:=J6 (n:Int),cF:=fun _=>by kernel_rfl,HE:=fun w=>EB (n:Int) w,HF:=fun data d a w f c=>Nz n data d a w f c,HS:=fun s w _=>IU n _ w,d3:=by omega,z:=fun _ _=>b }
theorem FO (n:Nat) (b:n <= 1000):Kd 190 (.agg #[.int .i64 (n:Int)]) (.int .i64 (n:Int)) 292 0 n n Ba (fun _=>n) (fun _=>true) :=
 { mE:=I3 (n:Int),cF:=fun _=>by kernel_rfl,HE:=fun w=>EB (n:Int) w,HF:=fun data d a w f c=>M6 n data d a w f c,HS:=fun s w _=>IU n _ w,d3:=by omega,z:=fun _ _=>b }
theorem NQ (d l m:Nat) (b:0 < d) (f:d <= 3) (s:LU) (w:World) (c:s.length = d):Calls prog 150 #[.agg #[.int .i64 (d:Int),.int .i64 (l:Int),.int .i64 (m:Int)],.string ⟨s.toArray⟩] w fun e w'=>e = .returned (.tuple #[.int .i64 (szN s:Int),.bool (sdN l m s)]) /\ Bl w w':=by
 have hz:(⟨s.toArray⟩:ByteArray).size = d:=by rw [<- c];simp [ByteArray.size]
 refine (Nm d l m ⟨s.toArray⟩ w b (by omega) (by omega)).mono ?_;rintro e w' ⟨rfl,a⟩;refine ⟨?_,a⟩;rw [I7];show Ending.returned (Value.tuple #[.int .i64 (if s.all dig = true then (numL s:Int) else 0),.bool (sdN l m s)]) = _;unfold szN
 split <;> rfl
theorem L8 (d l m:Nat) (i:0 < d) (a:d <= 3):Kd 179 (.agg #[.int .i64 (d:Int),.int .i64 (l:Int),.int .i64 (m:Int)]) (.agg #[.int .i64 (d:Int),.int .i64 (l:Int),.int .i64 (m:Int)]) 290 d l m BL szN (sdN l m) :=
 { mE:=G7 (d:Int) (l:Int) (m:Int),cF:=fun _=>by kernel_rfl,HE:=fun w=>E6 (d:Int) (l:Int) (m:Int) w,HF:=fun data g c w j f=>Ks d l m data g c w j f,HS:=fun s w b=>NQ d l m i a s w b,d3:=a,z:=fun s b=>JI d a s b }
theorem Ms (d l m:Nat) (i:0 < d) (a:d <= 3):Kd 188 (.agg #[.int .i64 (d:Int),.int .i64 (l:Int),.int .i64 (m:Int)]) (.agg #[.int .i64 (d:Int),.int .i64 (l:Int),.int .i64 (m:Int)]) 290 d l m Ba szN (sdN l m) :=
 { mE:=ID (d:Int) (l:Int) (m:Int),cF:=fun _=>by kernel_rfl,HE:=fun w=>E6 (d:Int) (l:Int) (m:Int) w,HF:=fun data g c w j f=>LM d l m data g c w j f,HS:=fun s w b=>NQ d l m i a s w b,d3:=a,z:=fun s b=>JI d a s b }
def kpD (a:Nat):Nat:=if a = 2 then 2 else if a = 48 then 3 else 0
def kpL (a:Nat):Nat:=if a = 2 then 13 else if a = 48 then 0 else (Bh (a:Int)).2.toNat
def kpM (a:Nat):Nat:=if a = 2 then 19 else if a = 48 then 200 else (Bh (a:Int)).2.toNat
def Dc (a:Nat):UInt8 -> Bool:=if (Bh (a:Int)).1 = 2 then DN else if (Bh (a:Int)).1 = 1 \/ (Bh (a:Int)).1 = 4 then BL else Ba
def kpS (a:Nat) (s:LU):Nat:=if a = 2 \/ a = 48 then szN s else kpL a
def kpB (a:Nat) (s:LU):Bool:=if a = 2 \/ a = 48 then sdN (kpL a) (kpM a) s else true
def fldC (a:Nat) (rest:LU):Nat:=fC (kpD a) (kpL a) (kpM a) (Dc a) (kpS a) (kpB a) rest
def EM (a:Nat) (rest:LU):LU:=fD (kpD a) (kpL a) (kpM a) (Dc a) (kpS a) (kpB a) rest
def fldE (a:Nat) (rest:LU):Nat:=fE (kpD a) (kpL a) (kpM a) (Dc a) (kpS a) (kpB a) rest
theorem ZR (a:Nat) (h:a ∈ tabNos):∃ T x r b,FN a = .iface T x /\ Kd T x r b (kpD a) (kpL a) (kpM a) (Dc a) (kpS a) (kpB a):=by
 simp only [tabNos,qx,qd,or_false] at h;rcases h with rfl | rfl | rfl | rfl | rfl | rfl | rfl | rfl | rfl | rfl | rfl | rfl | rfl | rfl
 ·exact ⟨_,_,_,_,rfl,L8 2 13 19 (by omega) (by omega)⟩
 ·exact ⟨_,_,_,_,rfl,EC 6 (by omega)⟩
 ·exact ⟨_,_,_,_,rfl,EC 12 (by omega)⟩
 ·exact ⟨_,_,_,_,rfl,EC 10 (by omega)⟩
 ·exact ⟨_,_,_,_,rfl,EC 6 (by omega)⟩
 ·exact ⟨_,_,_,_,rfl,IF 12 (by omega)⟩
 ·exact ⟨_,_,_,_,rfl,IF 2 (by omega)⟩
 ·exact ⟨_,_,_,_,rfl,IF 8 (by omega)⟩
 ·exact ⟨_,_,_,_,rfl,Ms 3 0 200 (by omega) (by omega)⟩
 ·exact ⟨_,_,_,_,rfl,FO 8 (by omega)⟩
 ·exact ⟨_,_,_,_,rfl,FO 10 (by omega)⟩
 ·exact ⟨_,_,_,_,rfl,FO 8 (by omega)⟩
 ·exact ⟨_,_,_,_,rfl,EC 3 (by omega)⟩
 ·exact ⟨_,_,_,_,rfl,FO 8 (by omega)⟩
theorem Pf (a:Nat) (h:a ∈ tabNos) (rest:LU) (b o c:Nat) (w:World) (f:rest.length <= 4096) (d:rest.length <= c) (g:RowAt w (some ⟨b,o,none⟩) rest) :
 Calls prog 94 #[FN a,.slice (some ⟨b,o,none⟩) rest.length c] w fun e w'=>∃ v,e = .returned (.tuple #[v,.int .i64 (fldE a rest:Nat),.int .i64 (fldC a rest:Nat)]) /\ Own w' w.heap.size v (EM a rest) /\ Bl w w':=by
 obtain ⟨T,x,r,i,e,K⟩:=ZR a h;rw [e];exact Ov K rest b o c w f d g
theorem Og (s:ByteArray) (w:World):Calls prog 50 #[.string s] w fun e w'=>e = .returned (.bool (decide (s.size = 4) && Bu s)) /\ Bl w w':=by
 have b:=AA (fun (c:World)=>FL s c);obtain ⟨q,a⟩:=uX (Bu s);rw [<- a] at b ⊢;clear a
 by_cases h:s.size = 4
 ·have d:(s.size:Int) = 4:=by omega
  rw [QK h];go_enter func50,ntmps50;go_wp2_with (refine (b.out _).mono ?_;rintro e w2 ⟨rfl,f⟩)
  go_ret;exact ⟨by rw [Qp];rfl,f⟩
 ·have d:¬ (s.size:Int) = 4:=by omega
  rw [QT h];go_enter func50,ntmps50;go_wp2_with fail;go_ret;exact ⟨rfl,Below.refl _ _⟩
def tyC (data:LU):Nat:=if data.length < 4 then 1 else if (data.take 4).all dig = true then 0 else 2
theorem PD (data:LU) (p:Option Addr) (a:Nat) (w:World) (y:data.length <= 4096) (v:data.length <= a) (g:RowAt w p data) :
 Calls prog 92 #[.slice p data.length a] w fun e w'=>e = .returned (.int .i64 (tyC data:Nat)) /\ Bl w w':=by
 obtain ⟨N,i⟩:=uX (data.length)
 by_cases h4:N < 4
 ·have c:tyC data = 1:=by unfold tyC;rw [if_pos (by omega)]
  have u:(N:Int) < 4:=by omega
  rw [c,<- i];clear g i;go_enter func92,ntmps92;go_wp2_with fail;go_ret;exact ⟨rfl,Below.refl _ _⟩
 ·have u:¬ (N:Int) < 4:=by omega
  obtain ⟨b,o,rfl,-⟩:=g.at (k:=0) (by omega);have n:(data.take 4).length = 4:=by rw [QI];omega
  have j:=fun (f:World) (h:RowAt f (some ⟨b,o,none⟩) data)=>Er (data.take 4) (some ⟨b,o,none⟩) 4 a f n (RowAt.take h 4);have t:=j w g;have d:=AA (fun (f:World)=>Og ⟨(data.take 4).toArray⟩ f);have l:(⟨(data.take 4).toArray⟩:ByteArray).size = 4:=by rw [show (⟨(data.take 4).toArray⟩:ByteArray).size = (data.take 4).length from by simp [ByteArray.size]];exact n
  rw [l,I7] at d;have c:tyC data = if (data.take 4).all dig = true then 0 else 2:=by unfold tyC;rw [if_neg (by omega)]
  obtain ⟨q,r⟩:=uX ((data.take 4).all dig);rw [<- r] at d c;obtain ⟨S,s⟩:∃ S:ByteArray,S = ⟨(data.take 4).toArray⟩:=⟨_,rfl⟩;rw [<- s] at d t;have x:(4:Int) <= (a:Int):=by omega
  rw [c,<- i];clear j g r s i l n c;cases q
  ·go_enter func92,ntmps92;go_wp2_with (go_at_call 50;refine (d.out _).mono ?_;rintro e w2 ⟨rfl,m⟩)
   go_ret;exact ⟨rfl,m⟩
  ·go_enter func92,ntmps92;go_wp2_with (go_at_call 50;refine (d.out _).mono ?_;rintro e w2 ⟨rfl,m⟩)
   go_ret;exact ⟨rfl,m⟩
def macP (a at_:Nat):Nat:=if a = 64 \/ a = 128 then at_ else 0
theorem RZ (a at_:Nat) (w:World):Calls prog 95 #[.int .i64 (a:Int),.int .i64 (at_:Int)] w fun e w'=>e = .returned (.int .i64 (macP a at_:Nat)) /\ w' = w:=by
 by_cases h1:a = 64
 ·subst h1;go_enter func95,ntmps95;go_wp2;go_ret;exact ⟨rfl,rfl⟩
 ·have c:¬ (a:Int) = 64:=by omega
  by_cases h2:a = 128
  ·subst h2;go_enter func95,ntmps95;go_wp2;go_ret;exact ⟨rfl,rfl⟩
  ·have b:¬ (a:Int) = 128:=by omega
   have f:((a:Int) == 64) = false:=by rw [QP];exact c
   have d:((a:Int) == 128) = false:=by rw [QP];exact b
   have e:macP a at_ = 0:=by unfold macP;rw [if_neg (by omega)]
   rw [e];go_enter func95,ntmps95;go_wp2;go_ret;exact ⟨rfl,rfl⟩
end Go.Proofs.YtbkokcjolanpeaaGreatDoor
