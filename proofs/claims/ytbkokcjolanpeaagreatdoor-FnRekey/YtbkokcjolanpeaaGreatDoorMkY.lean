import Derived.Test.YtbkokcjolanpeaaGreatDoorMkX
set_option maxRecDepth 100000
set_option maxHeartbeats 20000000
namespace Go.Proofs.YtbkokcjolanpeaaGreatDoor
open Go.RowKit Go.Proofs.Tryz Act
def decAt (data:LU) (a:List Nat) (b:Nat):Nat -> Nat
 | 0=>b
 | i + 1=>decAt data a b i + fldE (a.getD i 0) (data.drop (decAt data a b i))
def fc (data:LU) (a:List Nat) (b i:Nat):Nat:=fldC (a.getD i 0) (data.drop (decAt data a b i))
def Dv (data:LU) (a:List Nat) (b i:Nat):List (Nat × LU):=(List.range i).map (fun j=>(a.getD j 0,EM (a.getD j 0) (data.drop (decAt data a b j))))
theorem OL (data:LU) (a:List Nat) (b i:Nat):Dv data a b (i + 1) = Dv data a b i ++ [(a.getD i 0,EM (a.getD i 0) (data.drop (decAt data a b i)))]:=by
 unfold Dv;rw [List.range_succ,Qf];rfl
theorem Lo (data:LU) (a:List Nat) (b i:Nat):(Dv data a b i).length = i:=by unfold Dv;simp
def bad (data:LU) (a:List Nat) (b:Nat):Option Nat:=(List.range a.length).find? (fun j=>decide (fc data a b j ≠ 0))
theorem Tw (p:Nat -> Bool) (n i:Nat) (d:i < n) (c:∀ j,j < i -> p j = false) (b:p i = true):(List.range n).find? p = some i:=by
 induction n with
 | zero=>omega
 | succ n ih =>
   rw [List.range_succ,List.find?_append]
   by_cases h:i < n
   ·rw [ih h];rfl
   ·obtain rfl:i = n:=by omega
    have:(List.range i).find? p = none:=by
     rw [List.find?_eq_none];intro x a;rw [qp] at a;rw [c x a];decide
    rw [this];simp [b]
theorem UO (p:Nat -> Bool) (n:Nat) (b:∀ j,j < n -> p j = false):(List.range n).find? p = none:=by
 rw [List.find?_eq_none];intro x a;rw [qp] at a;rw [b x a];decide
theorem Rg (data:LU) (a:List Nat) (b i:Nat) (d:i < a.length) (g:∀ j,j < i -> fc data a b j = 0) (c:fc data a b i ≠ 0):bad data a b = some i :=
 Tw _ _ _ d (fun j f=>by rw [QT];simp [g j f]) (by rw [QK];exact c)
theorem Fc (data:LU) (a:List Nat) (b:Nat) (d:∀ j,j < a.length -> fc data a b j = 0):bad data a b = none :=
 UO _ _ (fun j c=>by rw [QT];simp [d j c])
def dE (data:LU):Nat:=decAt data (BW data) (mapE data) (BW data).length
def dC (data:LU):Nat:=if 4096 < data.length then 5 else if tyC data ≠ 0 then tyC data else if mapC data ≠ 0 then mapC data else match bad data (BW data) (mapE data) with
 | some i=>fc data (BW data) (mapE data) i
 | none=>if dE data < data.length then 5 else 0
def dP (data:LU):Nat:=if 4096 < data.length then 4096 else if tyC data ≠ 0 then 0 else if mapC data ≠ 0 then 4 else match bad data (BW data) (mapE data) with
 | some i=>decAt data (BW data) (mapE data) i
 | none=>if dE data < data.length then dE data else 0
def dM (data:LU):ByteArray:=if dC data = 0 then ⟨(data.take 4).toArray⟩ else ByteArray.empty
def dL (data:LU):List (Nat × LU):=if dC data = 0 then Dv data (BW data) (mapE data) (BW data).length else []
def macLI (data:LU) (a:List Nat) (b:Nat):Nat -> Nat
 | 0=>0
 | i + 1=>macP (a.getD i 0) (decAt data a b i)
def dA (data:LU):Nat:=if dC data = 0 then macLI data (BW data) (mapE data) (BW data).length else 0
def fldCells (L:List (Nat × LU)) (vs:List Value):List Value:=(List.zip L vs).flatMap (fun (p:(Nat × LU) × Value)=>[.int .i64 (p.1.1:Int),p.2])
theorem J8 (L:List (Nat × LU)) (vs:List Value) (h:vs.length = L.length) (p:Nat × LU) (v:Value):fldCells (L ++ [p]) (vs ++ [v]) = fldCells L vs ++ [.int .i64 (p.1:Int),v]:=by
 unfold fldCells;rw [List.zip_append h.symm];simp
theorem fldCells_length (L:List (Nat × LU)):∀ (vs:List Value),vs.length = L.length -> (fldCells L vs).length = L.length * 2:=by
 induction L with
 | nil=>intro vs h;obtain rfl:vs = []:=List.length_eq_zero_iff.1 h;rfl
 | cons p r ih =>
   intro vs h
   cases vs with
   | nil=>simp at h
   | cons v t =>
     have:=ih t (by simpa using h);unfold fldCells at this ⊢;simp only [List.zip_cons_cons,List.flatMap_cons,QC,Qn,qH];omega
structure Fs (w:World) (lo:Nat) (v:Value) (L:List (Nat × LU)) (vs:List Value):Prop where
 len:vs.length = L.length
 row:w.ownsRow lo 29 2 v L.length (fldCells L vs)
 own:∀ i,i < L.length -> Own w lo (vs.getD i undef) (L.getD i (0,[])).2
 sep:∀ i j,i < j -> j < L.length -> ∀ g,(vs.getD i undef).ownBlock = some g -> (vs.getD j undef).ownBlock ≠ some g
 ap:∀ i,i < L.length -> ∀ g,(vs.getD i undef).ownBlock = some g -> v.ownBlock ≠ some g
def FsX (w:World) (lo:Nat) (v:Value) (L:List (Nat × LU)):Prop:=∃ vs,Fs w lo v L vs
theorem Fs.nil (w:World) (lo:Nat):Fs w lo (.slice none 0 0) [] [] :=
 ⟨rfl,Qa _ _ _ _,fun i h=>absurd h (Qj i),fun _ j _ h=>absurd h (Qj j),fun i h=>absurd h (Qj i)⟩
theorem Fs.below {w w':World} {lo:Nat} {v:Value} {L:List (Nat × LU)} {vs:List Value} (h:Fs w lo v L vs) (a:Bl w w'):Fs w' lo v L vs :=
 ⟨h.len,Am h.row a,fun i b=>(h.own i b).below a,h.sep,h.ap⟩
theorem Fs.mono {w:World} {B lo:Nat} {v:Value} {L:List (Nat × LU)} {vs:List Value} (h:Fs w lo v L vs) (a:B <= lo):Fs w B v L vs :=
 ⟨h.len,ownR_mono h.row a,fun i b=>(h.own i b).monoI a,h.sep,h.ap⟩
theorem Fp {w:World} {base:Nat} {v:Value} {l:LU} (h:Own w base v l):∀ k,v.ownBlock = some k -> base <= k /\ k < w.heap.size:=by
 obtain ⟨t,h⟩:=h;exact h.lt
theorem Fs.set {w:World} {lo:Nat} {v:Value} {L:List (Nat × LU)} {vs:List Value} (h:Fs w lo v L vs) {a:Addr} (b:a.block < lo) (u:Value):Fs (w.setCell a u) lo v L vs :=
 ⟨h.len,qY h.row b u,fun i c=>by obtain ⟨t,q⟩:=h.own i c;exact ⟨t,qY q b u⟩,h.sep,h.ap⟩
theorem Az {α:Type} (l:List α) (x d:α) (i:Nat) (h:i < l.length):(l ++ [x]).getD i d = l.getD i d:=by
 simp [List.getD_eq_getElem?_getD,List.getElem?_append_left h]
theorem BG {α:Type} (l:List α) (x d:α) (i:Nat) (h:i = l.length):(l ++ [x]).getD i d = x:=by
 subst h;simp [List.getD_eq_getElem?_getD]
theorem Fs.snoc {w w2 r:World} {lo m:Nat} {v l x:Value} {L:List (Nat × LU)} {vs:List Value} {p:Nat × LU} (h:Fs w lo v L vs) (E:w.heap.size <= m)
 (k:Own w2 m x p.2) (A:Bl w w2) (D:lo <= w.heap.size) (c:w2.grownBy r v.ownBlock) (s:r.ownsRow lo 29 2 l (L.length + 1) (fldCells L vs ++ [.int .i64 (p.1:Int),x]))
 (q:l.ownBlock = v.ownBlock \/ ∃ g,l.ownBlock = some g /\ w2.heap.size <= g):Fs r lo l (L ++ [p]) (vs ++ [x]):=by
 have y:=h.row.lt;have t:=Fp k;have o:∀ i,i < L.length -> ∀ g,(vs.getD i undef).ownBlock = some g -> g < w.heap.size:=fun i b g a=>(Fp (h.own i b) g a).2;have f:=h.len;refine ⟨by simp [f],?_,?_,?_,?_⟩
 ·rw [QC,J8 _ _ f];exact s
 ·intro i b;rw [QC] at b
  by_cases hc:i < L.length
  ·rw [Az _ _ _ _ hc,Az _ _ _ _ (by omega)];refine ((h.own i hc).below A).grown c ?_;cases hb:(vs.getD i undef).ownBlock with
   | none=>exact .inl rfl
   | some g=>exact .inr (fun e=>h.ap i hc g hb e.symm)
  ·have n:i = L.length:=by simp at b;omega
   rw [BG _ _ _ _ n,BG _ _ _ _ (by omega)];refine (k.monoI (by omega)).grown c ?_
   cases hb:x.ownBlock with
   | none=>exact .inl rfl
   | some g=>exact .inr (fun e=>by have:=(y g e.symm).2;have:=(t g hb).1;omega)
 ·intro i j B u g a;rw [QC] at u
  by_cases hc:j < L.length
  ·rw [Az _ _ _ _ (by omega)] at a;rw [Az _ _ _ _ (by omega)];exact h.sep i j B hc g a
  ·have C:j = L.length:=by simp at u;omega
   rw [Az _ _ _ _ (by omega)] at a;rw [BG _ _ _ _ (by omega)];intro e;have:=o i (by omega) g a;have:=(t g e).1;omega
 ·intro i b g a;rw [QC] at b
  by_cases hc:i < L.length
  ·rw [Az _ _ _ _ (by omega)] at a;rcases q with e | ⟨g',e,z⟩
   ·rw [e];exact h.ap i hc g a
   ·rw [e];intro d;cases d
    have:=o i hc g a;have:=A.size;omega
  ·have n:i = L.length:=by simp at b;omega
   rw [BG _ _ _ _ (by omega)] at a;have F:=t g a;rcases q with e | ⟨g',e,z⟩
   ·rw [e];intro d;have:=(y g d).2;omega
   ·rw [e];intro d;cases d;omega
theorem O3 (l:List Nat):(Es l).length = l.length * 2:=by
 induction l with
 | nil=>rfl
 | cons a r ih=>unfold Es at ih ⊢;simp only [List.flatMap_cons,QC,Qn,qH];omega
theorem VT (l:List Nat):∀ i,i < l.length -> (Es l)[i * 2]? = some (.int .i64 (l.getD i 0:Nat)) /\ (Es l)[i * 2 + 1]? = some (FN (l.getD i 0)):=by
 induction l with
 | nil=>intro i h;simp at h
 | cons a r ih =>
   intro i h
   cases i with
   | zero=>exact ⟨rfl,rfl⟩
   | succ i =>
     have:=ih i (by simpa using h);rw [show (i + 1) * 2 = i * 2 + 1 + 1 from by omega];exact this
theorem Nc (a:Nat) (rest:LU) (h:fldC a rest = 0):fldE a rest <= rest.length:=by
 unfold fldE fE;unfold fldC at h;rw [if_pos h];unfold fC at h
 split at h
 ·omega
 ·split at h
  ·omega
  ·split at h
   ·omega
   ·omega
theorem az {a:Value} (h:a.oneCell' = true) (n:Int):(([.int .i64 n,a]:List Value).toArray).all (·.oneCell') = true:=by
 rw [List.all_toArray];simp only [List.all_cons,List.all_nil,h,Bool.and_true]
 rfl
theorem BK {w:World} {base e size n:Nat} {v:Value} {d:List Value} (h:w.ownsRow base e size v n d):∃ a c,v = .slice a n c:=by
 rcases h.2 with ⟨b,hz⟩ | ⟨g,c,f,b,-⟩
 ·exact ⟨none,0,by rw [b,hz]⟩
 ·exact ⟨_,c,b⟩
abbrev JG:List Value:=[.int .i64 0,.int .i64 0,.string ByteArray.empty,.slice none 0 0,.int .i64 0]
theorem Tryz.zeroDc:(prog.info? 97).map (fun i=>(i.zero,i.size)) = some (some (.agg JG.toArray),5):=by kernel_rfl
theorem Tryz.infoFd:(prog.info? 29).map (fun i=>(i.zero,i.size,i.bytes)) = some (some (.agg #[.int .i64 0,.slice none 0 0]),2,32):=by kernel_rfl
theorem Tr {data:LU} (h:dC data ≠ 0):dM data = ByteArray.empty /\ dL data = [] /\ dA data = 0:=by
 unfold dM dL dA;rw [if_neg h,if_neg h,if_neg h];exact ⟨rfl,rfl,rfl⟩
theorem M7 (data:LU) (ao:Option Addr) (q:Nat) (w:World) (hn:data.length <= 1048576) (g6:data.length <= q) (hr:RowAt w ao data) :
 Calls prog 40 #[.slice ao data.length q] w fun e w'=>∃ v,e = .returned (.agg #[.int .i64 (dC data:Nat),.int .i64 (dP data:Nat),.string (dM data),v,.int .i64 (dA data:Nat)]) /\ FsX w' w.heap.size v (dL data) /\ Bl w w':=by
 have hz:=(QO Tryz.zeroDc).1;obtain ⟨i0,hi,m9,l4,l3⟩:=Qg Tryz.infoFd;obtain ⟨N,Y⟩:=uX (data.length);obtain ⟨W,hW⟩:=uX (w.alloc (.cells JG.toArray 97));have kR:Blk W w.heap.size 97 JG:=by rw [hW];exact Blk.new _ _ _
 have bW:Bl w W:=by rw [hW];exact (Below.refl _ _).alloc (QE _) _
 have HW:=AA hW;clear hW;have T:Hid (∀ (t y:World) (c p:Nat),dC data = c -> c ≠ 0 -> dP data = p -> Bl w t -> t.grownBy y (some w.heap.size) -> y.heap.size = t.heap.size -> ∃ v,Ending.returned (.agg #[.int .i64 (c:Int),.int .i64 (p:Int),.string ByteArray.empty,.slice none 0 0,.int .i64 0]) = .returned (.agg #[.int .i64 (dC data:Nat),.int .i64 (dP data:Nat),.string (dM data),v,.int .i64 (dA data:Nat)]) /\ FsX y w.heap.size v (dL data) /\ Bl w y):=by
  intro t y c p M h2 h3 h4 h5 h6;obtain ⟨e1,e2,e3⟩:=Tr (by rw [M];exact h2);refine ⟨.slice none 0 0,?_,?_,h4.grown h5 h4.size (fun k hk=>by cases hk;omega)⟩
  ·rw [M,h3,e1,e3];rfl
  ·rw [e2];exact ⟨[],Fs.nil _ _⟩
 by_cases hbig:4096 < N
 ·have e1:dC data = 5:=by unfold dC;rw [if_pos (by omega)]
  have e2:dP data = 4096:=by unfold dP;rw [if_pos (by omega)]
  have hI:(4096:Int) < (N:Int):=by omega
  rw [<- Y];clear hr Y;go_enter func40,ntmps40;go_upto_region 1 with fail
  rw [<- show W = _ from HW];clear HW;go_wp2_with (refine store_blk rfl 97 _ _ rfl w.heap.size rfl rfl kR (by kernel_rfl) rfl (by kernel_rfl) ?_;intro y z l F)
  exact Qc (v:=.agg [.int .i64 5,.int .i64 4096,.string ByteArray.empty,.slice none 0 0,.int .i64 0].toArray) (AG results40 _ _ rfl z underlying97 rfl (by kernel_rfl)) rfl (T.out W y 5 4096 e1 (by decide) e2 bW l F)
 have hI:¬ (4096:Int) < (N:Int):=by omega
 have G:=AA (fun (t:World) (h:RowAt t ao data)=>PD data ao q t (by omega) g6 h);have rW:=hr.below bW
 by_cases hty:tyC data ≠ 0
 ·have e1:dC data = tyC data:=by unfold dC;rw [if_neg (by omega),if_pos hty]
  have e2:dP data = 0:=by unfold dP;rw [if_neg (by omega),if_pos hty]
  obtain ⟨c,hc⟩:=uX (tyC data);rw [<- hc] at G hty e1;rw [<- Y] at G ⊢;have m3:¬ (c:Int) = 0:=by omega
  clear hr Y hc;go_enter func40,ntmps40;go_upto_region 1 with fail
  rw [<- show W = _ from HW];clear HW;go_wp2_with fail;refine (G.out _ rW).mono ?_;rintro e w2 ⟨rfl,R⟩;have h9:=kR.below R kR.lt;go_wp2_with (refine store_blk rfl 97 _ _ rfl w.heap.size rfl rfl h9 (by kernel_rfl) rfl (by kernel_rfl) ?_;intro y z l F)
  exact Qc (v:=.agg [.int .i64 (c:Int),.int .i64 0,.string ByteArray.empty,.slice none 0 0,.int .i64 0].toArray) (AG results40 _ _ rfl z underlying97 rfl (by kernel_rfl)) rfl (T.out w2 y c 0 e1 hty e2 (bW.trans (R.mono bW.size)) l F)
 have b8:tyC data = 0:=by omega
 have h4:4 <= N:=by
  unfold tyC at b8
  by_cases h:data.length < 4
  ·rw [if_pos h] at b8;omega
  ·omega
 obtain ⟨b,o,rfl,-⟩:=hr.at (k:=0) (by omega);have J:=AA (fun (t:World) (h:RowAt t (some ⟨b,o,none⟩) data)=>Pw data b o q t (by omega) g6 h);rw [b8] at G
 by_cases A:mapC data ≠ 0
 ·have e1:dC data = mapC data:=by unfold dC;rw [if_neg (by omega),if_neg (by omega),if_pos A]
  have e2:dP data = 4:=by unfold dP;rw [if_neg (by omega),if_neg (by omega),if_pos A]
  obtain ⟨c,hc⟩:=uX (mapC data);rw [<- hc] at J A e1;rw [<- Y] at G J ⊢;have m3:¬ (c:Int) = 0:=by omega
  clear hr Y hc;go_enter func40,ntmps40;go_upto_region 1 with fail
  rw [<- show W = _ from HW];clear HW;go_wp2_with fail;refine (G.out _ rW).mono ?_;rintro e w2 ⟨rfl,R⟩;have c8:=rW.below R;go_wp2_with fail;refine (J.out _ c8).mono ?_;rintro e w3 ⟨v3,rfl,-,b3⟩;have a6:=R.trans (b3.mono R.size);have h9:=kR.below a6 kR.lt;go_wp2_with (refine store_blk rfl 97 _ _ rfl w.heap.size rfl rfl h9 (by kernel_rfl) rfl (by kernel_rfl) ?_;intro y z l F)
  exact Qc (v:=.agg [.int .i64 (c:Int),.int .i64 4,.string ByteArray.empty,.slice none 0 0,.int .i64 0].toArray) (AG results40 _ _ rfl z underlying97 rfl (by kernel_rfl)) rfl (T.out w3 y c 4 e1 A e2 (bW.trans (a6.mono bW.size)) l F)
 have a1:mapC data = 0:=by omega
 rw [a1] at J;obtain ⟨d,C⟩:=uX (BW data);obtain ⟨E,hE⟩:=uX (mapE data);have j0:∀ i,i < d.length -> d.getD i 0 ∈ tabNos:=by
  intro i hi;have H:C9 (DL data) = true:=by
   cases h:C9 (DL data) with
   | true=>rfl
   | false =>
     exfalso
     revert a1
     unfold mapC;rw [if_pos h]
     split <;> omega
  have e:d = DL data:=by rw [C];unfold BW;rw [if_pos a1]
  rw [QA,List.getElem?_eq_getElem hi];unfold C9 at H;rw [Qt] at H;have:=H d[i] (by rw [<- e];exact Qd hi)
  simpa using this
 have n3:E <= N:=by
  have p7:¬ data.length < Cr data:=by
   intro h
   revert a1
   unfold mapC;rw [if_pos h];omega
  rw [hE];unfold mapE;rw [if_pos a1];omega
 have b5:Hid ((∀ i,i < d.length -> (∀ j,j < i -> fc data d E j = 0) -> fc data d E i ≠ 0 -> dC data = fc data d E i /\ dP data = decAt data d E i) /\ ((∀ j,j < d.length -> fc data d E j = 0) -> (decAt data d E d.length < N -> dC data = 5 /\ dP data = decAt data d E d.length) /\ (¬ decAt data d E d.length < N -> dC data = 0 /\ dP data = 0 /\ dM data = ⟨(data.take 4).toArray⟩ /\ dL data = Dv data d E d.length /\ dA data = macLI data d E d.length))):=by
  have eC:dC data = match bad data d E with | some i=>fc data d E i | none=>if decAt data d E d.length < N then 5 else 0:=by
   rw [C,hE,Y];unfold dC;rw [if_neg (by omega),if_neg (by omega),if_neg (by omega)];rfl
  have eP:dP data = match bad data d E with | some i=>decAt data d E i | none=>if decAt data d E d.length < N then decAt data d E d.length else 0:=by
   rw [C,hE,Y];unfold dP;rw [if_neg (by omega),if_neg (by omega),if_neg (by omega)];rfl
  refine ⟨fun i hi M h2=>?_,fun M=>⟨fun h2=>?_,fun h2=>?_⟩⟩
  ·rw [eC,eP,Rg data d E i hi M h2];exact ⟨rfl,rfl⟩
  ·rw [eC,eP,Fc data d E M];simp only;rw [if_pos h2,if_pos h2];exact ⟨rfl,rfl⟩
  ·have e0:dC data = 0:=by rw [eC,Fc data d E M];simp only;rw [if_neg h2]
   refine ⟨e0,?_,?_,?_,?_⟩
   ·rw [eP,Fc data d E M];simp only;rw [if_neg h2]
   ·unfold dM;rw [if_pos e0]
   ·unfold dL;rw [if_pos e0,C,hE]
   ·unfold dA;rw [if_pos e0,C,hE]
 rw [<- C,<- hE] at J;rw [<- Y] at G J ⊢;have j6:=AA j0;have HN:=AA Y;have p2:E <= 20:=by rw [hE];unfold mapE Cr;split <;> (try split) <;> omega
 have n6:d.length <= 129:=by
  have M:d = DL data:=by rw [C];unfold BW;rw [if_pos a1]
  rw [M];unfold DL;refine QG (Fx _ _) ?_;unfold Cr
  split <;> omega
 clear C hE Y j0 a1 b8 hr A hty;have k0:(data.take 4).length = 4:=by have:=HN.out;rw [QI];omega
 have h0:=AA (fun (t:World) (h:RowAt t (some ⟨b,o,none⟩) data)=>Er (data.take 4) (some ⟨b,o,none⟩) 4 q t k0 (RowAt.take h 4));obtain ⟨S4,j3⟩:∃ s:ByteArray,s = ⟨(data.take 4).toArray⟩:=⟨_,rfl⟩;rw [<- j3] at h0 b5;clear j3 k0;have p0:(4:Int) <= (q:Int):=by have:=HN.out;omega
 go_enter func40,ntmps40;go_upto_region 1 with fail
 rw [<- show W = _ from HW];clear HW;go_wp2_with fail;refine (G.out _ rW).mono ?_;rintro e w2 ⟨rfl,R⟩;have c8:=rW.below R;go_wp2_with fail;refine (J.out _ c8).mono ?_;rintro e w3 ⟨v3,rfl,b9,b3⟩;have a6:=R.trans (b3.mono R.size);have c0:=kR.below a6 kR.lt;have j8:=c8.below b3;have a2:=bW.trans (a6.mono bW.size);have m7:=h0.out w3 j8;clear kR rW c8 R b3 a6 bW G J h0;go_upto_region 10 with fail
 obtain ⟨X,hX⟩:=uX (w3.alloc (Obj.cells #[.string S4,.slice none 0 0] 32));rw [<- hX];obtain ⟨D,c6⟩:=uX (w3.heap.size);rw [<- c6];have kM:=uK hX c6;have n1:=uB hX;have p3:X.heap.size = D + 1:=by rw [hX,c6];simp
 obtain ⟨n,c7⟩:=uX (d.length);have k4:∃ f8 ra,v3 = .slice ra n f8:=by
  rcases b9.2 with ⟨hv,hz⟩ | ⟨g,c,l7,hv,-⟩
  ·exact ⟨0,none,by rw [hv,c7,hz]⟩
  ·exact ⟨c,_,by rw [hv,c7]⟩
 have h7:Hid (∀ {x:World},Bl w3 x -> ∀ i,i < n -> ∃ gR cR,v3 = .slice (some ⟨gR,0,none⟩) n cR /\ x.cell? ⟨gR,i * 2,none⟩ = some (.int .i64 (d.getD i 0:Nat)) /\ x.cell? ⟨gR,i * 2 + 1,none⟩ = some (FN (d.getD i 0))):=by
  intro x hx i H;have ox:=Am b9 hx;rcases b9.2 with ⟨hv,hz⟩ | ⟨g,c,l7,hv,-⟩
  ·omega
  ·rw [hv] at ox;have o9:(Es d).length = d.length * 2:=O3 d;have c1:=ox.cellAt (i * 2) (by omega);have c2:=ox.cellAt (i * 2 + 1) (by omega);obtain ⟨q1,q2⟩:=VT d i (by omega);exact ⟨g,c,by rw [hv,c7],by rw [c1,q1],by rw [c2,q2]⟩
 obtain ⟨f8,ra,o2⟩:=k4;subst o2;have o5:=kM.lt;have j5:D = w3.heap.size:=c6;have f0:=AA j5;have q0:N <= 4096:=by omega
 have o7:n <= 4096:=by
  have M:d.length <= 8 * (20 - 4) + 1:=n6;omega
 have p6:N <= q:=by have:=HN.out;omega
 have e5:=AA c7;clear hX c6 b9 m7 c7 j5;go_wp2_with fail
 go_loopw [5,8,40] (fun at_ mc i wr=>∃ (k:Nat) (v:Value) (vs:List Value),k <= n /\ i = .int .i64 (k:Int) /\ at_ = .int .i64 (decAt data d E k:Nat) /\ mc = .int .i64 (macLI data d E k:Nat) /\ Hid (∀ j,j < k -> fc data d E j = 0) /\ decAt data d E k <= N /\ Blk wr D 32 [.string S4,v] /\ Fs wr (D + 1) v (Dv data d E k) vs /\ Bl w3 wr) (fun _ _ i _=>n - (intOf i).toNat)
 case atStart=>exact ⟨0,_,[],QU _,rfl,rfl,rfl,fun j h=>absurd h (Qj j),n3,kM,Fs.nil _ _,n1⟩
 case round =>
  obtain ⟨k,v,vs,hk,rfl,rfl,rfl,g9,j4,a0,FS,a9⟩:=hrel
  by_cases hlt:k < n
  ·have l0:(k:Int) < (n:Int):=by omega
   obtain ⟨gR,cR,e3,c1,c2⟩:=h7.out a9 k hlt;simp only [Value.slice.injEq] at e3;obtain ⟨rfl,-,rfl⟩:=e3;have H:=j6.out k (by have:=e5.out;omega);have B:Hid (decAt data d E (k + 1) = decAt data d E k + fldE (d.getD k 0) (data.drop (decAt data d E k)) /\ macLI data d E (k + 1) = macP (d.getD k 0) (decAt data d E k) /\ Dv data d E (k + 1) = Dv data d E k ++ [(d.getD k 0,EM (d.getD k 0) (data.drop (decAt data d E k)))] /\ fc data d E k = fldC (d.getD k 0) (data.drop (decAt data d E k))):=⟨rfl,rfl,OL _ _ _ _,rfl⟩;obtain ⟨mc,A⟩:=uX (macLI data d E k);obtain ⟨a,ha⟩:=uX (decAt data d E k);obtain ⟨I,j1⟩:=uX (d.getD k 0);rw [<- A];rw [<- ha] at j4 B ⊢;rw [<- j1] at c1 c2 H B;have i7:(data.drop a).length = N - a:=by have:=HN.out;rw [QN];omega
   have d0:=Nc I (data.drop a);have f4:=AA (fun (oA:Nat) (t:World) (h:RowAt t (some ⟨b,oA,none⟩) (data.drop a))=>Pf I H (data.drop a) b oA (q - a) t (by omega) (by omega) h);obtain ⟨kv,f2⟩:=uX (FN I);obtain ⟨fe,a8⟩:=uX (fldE I (data.drop a));obtain ⟨fv,L⟩:=uX (fldC I (data.drop a));obtain ⟨HD,g5⟩:=uX (EM I (data.drop a));rw [<- f2,<- a8,<- L,<- g5,i7] at f4;rw [<- a8,<- L,<- g5] at B;rw [<- a8,<- L,i7] at d0;rw [<- f2] at c2;have m8:=AA ha;have n9:kv.oneCell' = true:=by rw [f2];exact ON I H
   clear f2 a8 L g5 j1 ha A H;obtain ⟨oA,i1⟩:∃ oA,(q = a /\ oA = o) \/ (¬ q = a /\ oA = o + a):=by
    by_cases h:q = a
    ·exact ⟨o,.inl ⟨h,rfl⟩⟩
    ·exact ⟨o + a,.inr ⟨h,rfl⟩⟩
   have o0:=AA i1;have RA:Hid (∀ {x},Bl wr x -> RowAt x (some ⟨b,oA,none⟩) (data.drop a)):=by
    intro x hx;have r:=(j8.below a9).below hx;rcases i1 with ⟨M,rfl⟩ | ⟨-,rfl⟩
    ·exact .inl (List.length_eq_zero_iff.1 (by omega))
    ·exact RowAt.drop r a
   clear i1;have o6:(0:Int) <= (a:Int):=by omega
   have o3:(a:Int) <= (N:Int):=by omega
   go_upto_region 14 with (refine store_blk rfl 118 _ _ rfl wr.heap.size rfl rfl (Blk.new wr 118 #[.int .i64 0,.nilIface]) (by kernel_rfl) rfl (az n9 _) ?_;intro w4 kU g4 s4)
   obtain ⟨gU,g8⟩:=uX (wr.heap.size);rw [<- g8] at kU ⊢;have b4:Bl wr w4:=(BR wr _).grown g4 (by simp) (fun k hk=>by cases hk;exact QE _);have i4:w4.heap.size = wr.heap.size + 1:=by rw [s4];simp
   have n0:=AA g8;clear g4 s4 c1 c2 g8;obtain ⟨V,hV⟩:=uX (World.drew w4);have e4:Bl wr V:=by rw [hV];exact b4.drew
   have bV:Bl w4 V:=by rw [hV];exact (Below.refl _ _).drew
   have a4:=kU.below bV kU.lt;have p5:V.heap.size = wr.heap.size + 1:=by rw [hV];exact i4
   have Z:Hid (∀ {x},Bl V x -> Blk x gU 118 [.int .i64 (I:Int),kv]):=fun h=>a4.below h a4.lt;refine QJ (S:=fun x=>Blk x gU 118 [.int .i64 (I:Int),kv]) (by kernel_rfl) (by rw [<- hV];exact a4) (fun f=>?_);rw [<- hV] at f ⊢;clear hV bV i4 kU;refine tA 0 (.pointer (some ⟨gU,1,none⟩)) f ?_;simp only [put,pS];refine tC 1 kv rfl (fun w1 h=>by have hc:w1.cell? ⟨gU,1,none⟩ = some kv:=h.c 1;go_simp) f ?_;simp only [put,pS];refine tA 2 (.slice (some ⟨b,o,none⟩) N q) f ?_;simp only [put,pS];refine tA 3 (.int .i64 (a:Int)) f ?_;simp only [put,pS];refine tC 4 (.slice (some ⟨b,oA,none⟩) (N - a) (q - a)) rfl (fun w1 _=>by rcases o0.out with ⟨hx,hy⟩ | ⟨hx,hy⟩ <;> (rw [hy];go_simp)) f ?_;simp only [put,pS];refine rdy1 5 (fun K U=>?_);go_simp;refine (f4.out _ _ (RA.out e4)).mono ?_;rintro e b0 ⟨p9,rfl,e8,e7⟩;have a3:=e7;obtain ⟨ah,ch,rfl,-,-,-,-⟩:=e8.shape;go_wp2_with fail;refine U.out _ _ (Z.out a3) (fun f=>?_);clear U K
   try dsimp only [put]
   refine tA 6 (.tuple #[.slice ah HD.length ch,.int .i64 (fe:Int),.int .i64 (fv:Int)]) f ?_;simp only [put,pS];refine tA 7 (.slice ah HD.length ch) f ?_;simp only [put,pS];refine tA 8 (.int .i64 (fe:Int)) f ?_;simp only [put,pS];refine tA 9 (.int .i64 (fv:Int)) f ?_;simp only [put,pS];refine rdy1 10 (fun K U=>?_);go_simp;refine U.out _ _ (Z.out a3) (fun f=>?_);clear U K
   try dsimp only [put]
   refine rdy1 11 (fun K U=>?_);go_simp;refine U.out _ _ (Z.out a3) (fun f=>?_);clear U K
   try dsimp only [put]
   refine rdy1 12 (fun K U=>?_);go_simp;refine U.out _ _ (Z.out a3) (fun f=>?_);clear U K
   try dsimp only [put]
   refine QM (by kernel_rfl) ?_ _;clear f;have b1:Bl wr b0:=e4.trans (a3.mono e4.size);have f1:=a0.below b1 a0.lt;have e9:=a4.below a3 a4.lt;have f3:=a9.trans (b1.mono a9.size);have m4:=c0.below f3 c0.lt;have l2:=a2.trans (f3.mono a2.size);have p8:=a0.lt;clear a4 a0 c0 Z e7 f4 RA h7
   by_cases L:fv = 0
   ·subst L;have a8:=d0 rfl;have n5:IntKind.i64.wrap ((a:Int) + (fe:Int)) = ((a + fe:Nat):Int):=by rw [QH];omega
    obtain ⟨A2,j2⟩:=uX (a + fe);rw [<- j2] at n5 B;have k1:A2 <= N:=by omega
    have a7:=FS.row.lt;have i8:(Dv data d E k).length = k:=Lo _ _ _ _;have d6:=(Am FS.row b1);rw [i8] at d6;have k9:=n0.out;have k8:some D ≠ v.ownBlock:=fun e=>by have:=(a7 D e.symm).1;omega
    have l1:some gU ≠ v.ownBlock:=fun e=>by have:=(a7 gU e.symm).2;omega
    have l5:some gU ≠ some D:=fun e=>by have e2:=Option.some.inj e;omega
    have m1:=f1.c 1;have u0:=e9.c 0;obtain ⟨w6,c9⟩:=uX (b0.alloc (Obj.cells #[.int .i64 (I:Int),.slice ah HD.length ch] 29));have k6:Blk w6 b0.heap.size 29 [.int .i64 (I:Int),.slice ah HD.length ch]:=by rw [c9];exact Blk.new _ _ _
    have b6:=uB c9;have o8:w6.heap.size = b0.heap.size + 1:=by rw [c9];simp
    have k5:=Am d6 b6;have l8:=f1.below b6 f1.lt;have n8:=e9.below b6 e9.lt;have k7:=e8.below b6;have j9:=b1.trans (b6.mono b1.size);have j7:=f3.trans (b6.mono f3.size);have o1:=AA c9;have n4:=AA (fun (t:World)=>RZ I a t);have m6:D + 1 <= w6.heap.size:=by have:=j9.size;omega
    clear j2 a8 d0 c9 d6 f1 e9 b6 k9;go_wp2_with (first
     | (at_builtin;(rw [<- show w6 = _ from o1];refine Qq _ rfl _ _ 30 rfl (D + 1) 29 i0 (.agg #[.int .i64 0,.slice none 0 0]) 2 32 underlying30 hi m9 l4 l3 rfl (by decide) _ _ _ rfl k5 ⟨b0.heap.size,0,none⟩ 1 1 [.int .i64 (I:Int),.slice ah HD.length ch] rfl rfl (Be k6) (by intro u hu;simp at hu;rcases hu with rfl | rfl <;> rfl) (by unfold maxLen;omega) (by omega) m6 ?_;intro v5 w5 f5 O _ k2;obtain ⟨a5,c5,rfl⟩:=BK f5;have g7:=l8.grown O k8;have n2:=n8.grown O l1;have mf:=g7.free 1;have p1:=g7.c 1;have u05:=(n2.grown (Ap w5 ⟨D,1,none⟩ (.slice a5 (k + 1) c5)) l5).c 0))
     | (go_at_call 95;refine (n4.out _).mono ?_;rintro e w8 ⟨rfl,rfl⟩))
    have p4:=f0.out;have m5:=FS.snoc (m:=V.heap.size) (w2:=w6) (x:=.slice ah HD.length ch) (p:=(I,HD)) e4.size k7 j9 (by omega) O (by rw [i8];exact f5) (k2.imp id (fun e=>⟨_,e,QE _⟩));have l9:=m5.set (a:=⟨D,1,none⟩) (by show D < D + 1;omega) (.slice a5 (k + 1) c5);have l6:=g7.set 1 (.slice a5 (k + 1) c5);have i5:=j7.grown O j7.size (fun g hg=>by have:=(a7 g hg).1;omega);have m2:=i5.grown (Ap w5 ⟨D,1,none⟩ (.slice a5 (k + 1) c5)) i5.size (fun g hg=>by cases hg;show _ <= D;omega);go_roundw
    case rel=>exact ⟨k + 1,_,_,by omega,by go_num,by rw [B.out.1],by rw [B.out.2.1],fun j hj=>by
     by_cases hjk:j = k
     ·rw [hjk];exact B.out.2.2.2
     ·exact g9.out j (by omega),by rw [B.out.1];exact k1,l6,by rw [B.out.2.2.1];exact l9,m2⟩
    case measure=>simp [intOf];omega
   ·have o4:¬ (fv:Int) = 0:=by omega
    have f7:=b5.out.1 k (by have:=e5.out;omega) g9.out (by rw [B.out.2.2.2];exact L);rw [B.out.2.2.2,<- m8.out] at f7;go_wp2_with (refine store_blk rfl 97 _ _ rfl w.heap.size rfl rfl m4 (by kernel_rfl) rfl (by kernel_rfl) ?_;intro y z l F)
    exact Qc (v:=.agg [.int .i64 (fv:Int),.int .i64 (a:Int),.string ByteArray.empty,.slice none 0 0,.int .i64 0].toArray) (AG results40 _ _ rfl z underlying97 rfl (by kernel_rfl)) rfl (T.out b0 y fv a f7.1 L f7.2 l2 l F)
  ·have l0:¬ (k:Int) < (n:Int):=by omega
   obtain rfl:k = n:=by omega
   obtain ⟨e6,c3⟩:=b5.out.2 (fun j hj=>g9.out j (by have:=e5.out;omega));rw [<- e5.out] at e6 c3;have f6:=c0.below a9 c0.lt;have h8:=a2.trans (a9.mono a2.size);have a7:=FS.row.lt;obtain ⟨av,cv,rfl⟩:=BK FS.row;obtain ⟨nv,i3⟩:=uX ((Dv data d E k).length);have i6:=AA FS;rw [<- i3] at a0 a7 i6;obtain ⟨mc,A⟩:=uX (macLI data d E k);obtain ⟨a,ha⟩:=uX (decAt data d E k);rw [<- ha] at j4 e6 c3 ⊢;rw [<- A] at c3 ⊢;have g0:=AA e6;have f9:=AA c3;have m0:=a0.c 0;have m1:=a0.c 1;clear A ha e6 c3 i3 FS h7 j6 b5
   by_cases hend:a < N
   ·have i2:(a:Int) < (N:Int):=by omega
    have i9:=AA (g0.out hend);clear g0 f9;go_wp2_with (refine store_blk rfl 97 _ _ rfl w.heap.size rfl rfl f6 (by kernel_rfl) rfl (by kernel_rfl) ?_;intro y z l F)
    exact Qc (v:=.agg [.int .i64 5,.int .i64 (a:Int),.string ByteArray.empty,.slice none 0 0,.int .i64 0].toArray) (AG results40 _ _ rfl z underlying97 rfl (by kernel_rfl)) rfl (T.out wr y 5 a i9.out.1 (by decide) i9.out.2 h8 l F)
   ·have i2:¬ (a:Int) < (N:Int):=by omega
    obtain ⟨d1,d2,d3,d4,d5⟩:=f9.out hend;have c4:=AA (And.intro d1 (And.intro d2 (And.intro d3 (And.intro d4 d5))));clear g0 f9 d1 d2 d3 d4 d5;go_wp2_with (refine store_blk rfl 97 _ _ rfl w.heap.size rfl rfl f6 (by kernel_rfl) rfl (by kernel_rfl) ?_;intro y z l F)
    have k3:w.heap.size <= D + 1:=by have:=f0.out;have:=a2.size;omega
    have n7:FsX y w.heap.size (.slice av nv cv) (dL data):=by
     rw [c4.out.2.2.2.1];have F0:=i6.out;have q3:=f6.lt;refine ⟨_,Fs.mono ⟨F0.len,World.ownsRow.kept F0.row l ?_,fun i hi=>(F0.own i hi).grown l ?_,F0.sep,F0.ap⟩ k3⟩
     ·cases hb:(Value.slice av nv cv).ownBlock with
      | none=>exact .inl rfl
      | some g=>exact .inr (fun e=>by cases e;have:=(a7 _ hb).1;have:=f0.out;have:=a2.size;omega)
     ·cases hb:(vs.getD i undef).ownBlock with
      | none=>exact .inl rfl
      | some g=>exact .inr (fun e=>by cases e;have:=(Fp (F0.own i hi) _ hb).1;have:=f0.out;have:=a2.size;omega)
    have b7:=h8.grown l h8.size (fun g hg=>by cases hg;exact QE _);exact Qc (v:=.agg [.int .i64 0,.int .i64 0,.string S4,.slice av nv cv,.int .i64 (mc:Int)].toArray) (AG results40 _ _ rfl z underlying97 rfl (by kernel_rfl)) rfl ⟨_,by rw [c4.out.1,c4.out.2.1,c4.out.2.2.1,c4.out.2.2.2.2];rfl,n7,b7⟩
theorem GT (N a m f b o t g:Nat) (w:World) (Y:N <= 4096) (h:a + m <= N) (r:N <= g) (v:(g = a /\ t = o) \/ (¬ g = a /\ t = o + a)) (B:Blk w f 159 [.slice (some ⟨b,o,none⟩) N g,.int .i64 (a:Int)]) :
 Calls prog 88 #[.pointer (some ⟨f,0,none⟩),.int .i64 (m:Int)] w fun e w'=>e = .returned (.tuple #[.slice (some ⟨b,t,none⟩) m (g - a),.bool true]) /\ Blk w' f 159 [.slice (some ⟨b,o,none⟩) N g,.int .i64 ((a + m:Nat):Int)] /\ w.grownBy w' (some f):=by
 have T:IntKind.i64.wrap ((N:Int) - (a:Int)) = (N:Int) - (a:Int):=by rw [QH];omega
 have R:¬ ((N:Int) - (a:Int) < (m:Int)):=by omega
 obtain ⟨q,D⟩:=uX (a + m);have J:IntKind.i64.wrap ((a:Int) + (m:Int)) = (q:Int):=by rw [QH];omega
 have I:IntKind.i64.wrap ((q:Int) - (m:Int)) = (a:Int):=by rw [QH];omega
 have L:(q:Int) <= (g:Int):=by omega
 have M:(a:Int) <= (q:Int):=by omega
 have U:(q:Int) - (a:Int) = (m:Int):=by omega
 have O:q - a = m:=by omega
 have E:=AA v;clear v;rw [<- D];clear D;go_enter func88,ntmps88;go_upto_region 1 with fail
 obtain ⟨V,n⟩:=uX (World.drew w);have s:Blk V f 159 [.slice (some ⟨b,o,none⟩) N g,.int .i64 (a:Int)]:=by rw [n];exact B.drew1
 have H:Hid (w.grownBy V (some f)):=by rw [n];exact ES (grown_of_below (Below.refl _ _) _)
 have G:V.cell? ⟨f,0,none⟩ = some (.slice (some ⟨b,o,none⟩) N g) /\ V.cell? ⟨f,1,none⟩ = some (.int .i64 (a:Int)):=⟨s.c 0,s.c 1⟩;have W:=G.2;have X:=s.free 1;have y:Hid (∀ {P:Prop},P -> P):=fun h=>h;refine QJ (S:=fun z=>z.cell? ⟨f,0,none⟩ = some (.slice (some ⟨b,o,none⟩) N g) /\ z.cell? ⟨f,1,none⟩ = some (.int .i64 (a:Int))) (by kernel_rfl) (by rw [<- n];exact G) (fun d=>?_);rw [<- n] at d ⊢;clear n B;refine tA 0 (.pointer (some ⟨f,0,none⟩)) d ?_;simp only [put,pS];refine tA 1 (.pointer (some ⟨f,0,none⟩)) d ?_;simp only [put,pS];refine tA 2 (.pointer (some ⟨f,0,none⟩)) d ?_;simp only [put,pS];refine tC 3 (.slice (some ⟨b,o,none⟩) N g) rfl (fun l h=>by have r:=h.1;go_simp) d ?_;simp only [put,pS];refine tA 4 (.int .i64 (N:Int)) d ?_;simp only [put,pS];refine tA 5 (.pointer (some ⟨f,0,none⟩)) d ?_;simp only [put,pS];refine tA 6 (.pointer (some ⟨f,0,none⟩)) d ?_;simp only [put,pS];refine tA 7 (.pointer (some ⟨f,1,none⟩)) d ?_;simp only [put,pS];refine tC 8 (.int .i64 (a:Int)) rfl (fun l h=>by have r:=h.2;go_simp) d ?_;simp only [put,pS];refine tA 9 (.int .i64 ((N:Int) - (a:Int))) d ?_;simp only [put,pS];refine tA 10 (.int .i64 (m:Int)) d ?_;simp only [put,pS];refine tA 11 (.bool false) d ?_;simp only [put,pS];refine QM (by kernel_rfl) ?_ _;clear d y;go_upto_region 4 with fail
 obtain ⟨k,i⟩:=uX (World.drew (World.setCell V ⟨f,1,none⟩ (.int .i64 (q:Int))));have u:Blk k f 159 [.slice (some ⟨b,o,none⟩) N g,.int .i64 (q:Int)]:=by rw [i];exact (s.set 1 (.int .i64 (q:Int))).drew1
 have g2:w.grownBy k (some f):=by rw [i];exact ES (grown_trans (H.out) (Ap V ⟨f,1,none⟩ _))
 have x:k.cell? ⟨f,0,none⟩ = some (.slice (some ⟨b,o,none⟩) N g) /\ k.cell? ⟨f,1,none⟩ = some (.int .i64 (q:Int)):=⟨u.c 0,u.c 1⟩;have F:Hid (Blk k f 159 [.slice (some ⟨b,o,none⟩) N g,.int .i64 (q:Int)] /\ w.grownBy k (some f)):=⟨u,g2⟩;have j:Hid (∀ {P:Prop},P -> P):=fun h=>h;refine QJ (S:=fun z=>z.cell? ⟨f,0,none⟩ = some (.slice (some ⟨b,o,none⟩) N g) /\ z.cell? ⟨f,1,none⟩ = some (.int .i64 (q:Int))) (by kernel_rfl) (by rw [<- i];exact x) (fun d=>?_);rw [<- i] at d ⊢;clear i u g2;refine tA 0 (.pointer (some ⟨f,0,none⟩)) d ?_;simp only [put,pS];refine tA 1 (.pointer (some ⟨f,0,none⟩)) d ?_;simp only [put,pS];refine tA 2 (.pointer (some ⟨f,0,none⟩)) d ?_;simp only [put,pS];refine tC 3 (.slice (some ⟨b,o,none⟩) N g) rfl (fun l h=>by have r:=h.1;go_simp) d ?_;simp only [put,pS];refine tA 4 (.pointer (some ⟨f,0,none⟩)) d ?_;simp only [put,pS];refine tA 5 (.pointer (some ⟨f,0,none⟩)) d ?_;simp only [put,pS];refine tA 6 (.pointer (some ⟨f,1,none⟩)) d ?_;simp only [put,pS];refine tC 7 (.int .i64 (q:Int)) rfl (fun l h=>by have r:=h.2;go_simp) d ?_;simp only [put,pS];refine tA 8 (.int .i64 (m:Int)) d ?_;simp only [put,pS];refine tA 9 (.int .i64 (a:Int)) d ?_;simp only [put,pS];refine tA 10 (.pointer (some ⟨f,0,none⟩)) d ?_;simp only [put,pS];refine tA 11 (.pointer (some ⟨f,0,none⟩)) d ?_;simp only [put,pS];refine tA 12 (.pointer (some ⟨f,1,none⟩)) d ?_;simp only [put,pS];refine tC 13 (.int .i64 (q:Int)) rfl (fun l h=>by have r:=h.2;go_simp) d ?_;simp only [put,pS];refine tC 14 (.slice (some ⟨b,t,none⟩) m (g - a)) rfl (fun l _=>by rcases E.out with ⟨C,A⟩ | ⟨C,A⟩ <;> (try subst C) <;> (rw [A];go_simp)) d ?_;simp only [put,pS];refine rdy1 15 (fun K p=>?_);go_simp;refine p.out _ _ (j.out x) (fun d=>?_);clear p K
 try dsimp only [put]
 refine rdy1 16 (fun K p=>?_);go_simp;refine p.out _ _ (j.out x) (fun d=>?_);clear p K
 try dsimp only [put]
 refine QM (by kernel_rfl) ?_ _;go_wp2_with fail;go_ret2;exact ⟨rfl,F.out.1,F.out.2⟩
end Go.Proofs.YtbkokcjolanpeaaGreatDoor
