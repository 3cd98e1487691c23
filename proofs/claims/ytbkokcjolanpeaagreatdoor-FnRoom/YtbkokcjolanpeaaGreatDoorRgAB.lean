import Derived.Test.YtbkokcjolanpeaaGreatDoorRgAA
import Derived.Laws.CopyOwn
namespace Go.Proofs.YtbkokcjolanpeaaGreatDoor
open Go.RowKit
theorem fldCells_at (L:List (Nat × List UInt8)):∀ (vs:List Value),vs.length = L.length → ∀ i,i < L.length → (fldCells L vs)[i * 2]? = some (.int .i64 ((L.getD i (0,[])).1:Nat)) ∧ (fldCells L vs)[i * 2 + 1]? = some (vs.getD i undef):=by
 induction L with
 | nil=>intro vs _ i h;simp at h
 | cons p r ih =>
   intro vs h i hi
   cases vs with
   | nil=>simp at h
   | cons v t =>
     cases i with
     | zero=>exact ⟨rfl,rfl⟩
     | succ i =>
       have:=ih t (by simpa using h) i (by simpa using hi)
       rw [show (i + 1) * 2 = i * 2 + 1 + 1 from by omega]
       exact this
theorem Fs.at {w:World} {lo:Nat} {v:Value} {L:List (Nat × List UInt8)} {vs:List Value} (h:Fs w lo v L vs) {i:Nat} (hi:i < L.length) :
   ∃ g c ai ci,v = .slice (some ⟨g,0,none⟩) L.length c ∧ w.cell? ⟨g,i * 2,none⟩ = some (.int .i64 ((L.getD i (0,[])).1:Nat)) ∧ w.cell? ⟨g,i * 2 + 1,none⟩ = some (.slice ai (L.getD i (0,[])).2.length ci) ∧ RowAt w ai (L.getD i (0,[])).2 ∧ vs.getD i undef = .slice ai (L.getD i (0,[])).2.length ci ∧ lo ≤ g ∧ (∀ j,w.frozen? ⟨g,j,none⟩ = false):=by
 have row:=h.row
 obtain ⟨c1,c2⟩:=fldCells_at L vs h.len i hi
 obtain ⟨ai,ci,e,r,-,-,-⟩:=(h.own i hi).shape
 rcases row.2 with ⟨hv,hz⟩ | ⟨g,c,cur,hv,hg,hrest⟩
 · omega
 · subst hv
   refine ⟨g,c,ai,ci,rfl,?_,?_,r,e,hg,fun j=>row.frozenAt j⟩
   · rw [row.cellAt (i * 2) (by omega),c1]
   · rw [row.cellAt (i * 2 + 1) (by omega),c2,e]
theorem Fs.shape {w:World} {lo:Nat} {v:Value} {L:List (Nat × List UInt8)} {vs:List Value} (h:Fs w lo v L vs):∃ a c,v = .slice a L.length c:=ownR_shape h.row
theorem below_drewN (w:World) (m:Nat):Below w.heap.size w (w.drewN m):=⟨rfl,rfl,rfl,Nat.le_refl _,fun _ _=>rfl⟩
def markF:List (Nat × List UInt8) → Nat → List (Nat × List UInt8)
 | [],_=>[]
 | p :: r,k=>(k,marks (k + 1) p.2.length) :: markF r (k + 1 + p.2.length)
def markN:List (Nat × List UInt8) → Nat → Nat
 | [],k=>k
 | p :: r,k=>markN r (k + 1 + p.2.length)
theorem markF_length (L:List (Nat × List UInt8)):∀ k,(markF L k).length = L.length:=by
 induction L with
 | nil=>intro k;rfl
 | cons p r ih=>intro k;show (markF r _).length + 1 = r.length + 1;rw [ih]
theorem markF_snoc (L:List (Nat × List UInt8)) (p:Nat × List UInt8):∀ k,markF (L ++ [p]) k = markF L k ++ [(markN L k,marks (markN L k + 1) p.2.length)]:=by
 induction L with
 | nil=>intro k;rfl
 | cons q r ih=>intro k;show _ :: markF (r ++ [p]) _ = _;rw [ih];rfl
theorem markN_snoc (L:List (Nat × List UInt8)) (p:Nat × List UInt8):∀ k,markN (L ++ [p]) k = markN L k + 1 + p.2.length:=by
 induction L with
 | nil=>intro k;rfl
 | cons q r ih=>intro k;show markN (r ++ [p]) _ = _;rw [ih];rfl
def mkAt (L:List (Nat × List UInt8)) (k i:Nat):List (Nat × List UInt8):=markF (L.take i) k ++ L.drop i
theorem mkAt_length (L:List (Nat × List UInt8)) (k i:Nat):(mkAt L k i).length = L.length:=by
 unfold mkAt;rw [List.length_append,markF_length,List.length_take,List.length_drop];omega
theorem mkAt_zero (L:List (Nat × List UInt8)) (k:Nat):mkAt L k 0 = L:=rfl
theorem mkAt_all (L:List (Nat × List UInt8)) (k:Nat):mkAt L k L.length = markF L k:=by unfold mkAt;simp
theorem mkAt_get (L:List (Nat × List UInt8)) (k i:Nat) (hi:i < L.length):(mkAt L k i).getD i (0,[]) = L.getD i (0,[]):=by
 unfold mkAt
 rw [List.getD_eq_getElem?_getD,List.getElem?_append_right (by rw [markF_length,List.length_take];omega),markF_length,List.length_take,show i - min i L.length = 0 from by omega,List.getElem?_drop,Nat.add_zero,← List.getD_eq_getElem?_getD]
theorem mkAt_step (L:List (Nat × List UInt8)) (k i:Nat) (hi:i < L.length):(mkAt L k i).set i (markN (L.take i) k,marks (markN (L.take i) k + 1) (L.getD i (0,[])).2.length) = mkAt L k (i + 1) ∧ markN (L.take (i + 1)) k = markN (L.take i) k + 1 + (L.getD i (0,[])).2.length:=by
 have e:L.take (i + 1) = L.take i ++ [L.getD i (0,[])]:=by rw [List.take_succ_eq_append_getElem hi,List.getD_eq_getElem?_getD,List.getElem?_eq_getElem hi];rfl
 have hl:(markF (L.take i) k).length = i:=by rw [markF_length,List.length_take];omega
 refine ⟨?_,by rw [e,markN_snoc]⟩
 unfold mkAt
 rw [e,markF_snoc,List.drop_eq_getElem_cons hi,List.set_append_right _ _ (by omega),hl,Nat.sub_self,List.set_cons_zero,List.append_assoc]
 rfl
theorem fldCells_set (L:List (Nat × List UInt8)):∀ (vs:List Value),vs.length = L.length → ∀ i,i < L.length → ∀ p:Nat × List UInt8,fldCells (L.set i p) vs = (fldCells L vs).set (i * 2) (.int .i64 (p.1:Int)):=by
 induction L with
 | nil=>intro vs _ i h;simp at h
 | cons q r ih =>
   intro vs h i hi p
   cases vs with
   | nil=>simp at h
   | cons v t =>
     cases i with
     | zero=>rfl
     | succ i =>
       have:=ih t (by simpa using h) i (by simpa using hi) p
       rw [show (i + 1) * 2 = i * 2 + 1 + 1 from by omega]
       show Value.int .i64 (q.1:Int) :: v :: fldCells (r.set i p) t = _
       rw [this]
       rfl
theorem getD_set_self {α:Type} (l:List α) (i:Nat) (x d:α) (h:i < l.length):(l.set i x).getD i d = x:=by simp [List.getD_eq_getElem?_getD,h]
theorem getD_set_ne {α:Type} (l:List α) (i j:Nat) (x d:α) (h:i ≠ j):(l.set i x).getD j d = l.getD j d:=by simp [List.getD_eq_getElem?_getD,List.getElem?_set_ne h]
theorem Fs.putNo {w:World} {lo g n c:Nat} {L:List (Nat × List UInt8)} {vs:List Value} (h:Fs w lo (.slice (some ⟨g,0,none⟩) n c) L vs) (i k:Nat) (hi:i < L.length) :
   Fs (w.setCell ⟨g,i * 2,none⟩ (.int .i64 (k:Int))) lo (.slice (some ⟨g,0,none⟩) n c) (L.set i (k,(L.getD i (0,[])).2)) vs:=by
 have hob:(Value.slice (some ⟨g,0,none⟩) n c).ownBlock = some g:=rfl
 obtain ⟨x,y,e⟩:=h.shape
 have en:n = L.length:=by simp only [Value.slice.injEq] at e;exact e.2.1
 refine ⟨by rw [List.length_set];exact h.len,?_,?_,fun a b hab hb=>?_,fun a ha=>?_⟩
 · rw [List.length_set,fldCells_set L vs h.len i hi]
   have row:=h.row
   subst en
   exact (row.stored (i * 2) _).1
 · intro j hj
   rw [List.length_set] at hj
   have e2:((L.set i (k,(L.getD i (0,[])).2)).getD j (0,[])).2 = (L.getD j (0,[])).2:=by
     by_cases hij:i = j
     · subst hij;rw [getD_set_self _ _ _ _ hi]
     · rw [getD_set_ne _ _ _ _ _ hij]
   rw [e2]
   obtain ⟨t,q⟩:=h.own j hj
   refine ⟨t,ownsRow_setCell_other q ?_ _⟩
   intro ex
   exact h.ap j hj g ex hob
 · rw [List.length_set] at hb;exact h.sep a b hab hb
 · rw [List.length_set] at ha;exact h.ap a ha
theorem Fs.putData {w w':World} {lo:Nat} {v:Value} {L:List (Nat × List UInt8)} {vs:List Value} (h:Fs w lo v L vs) (i:Nat) (hi:i < L.length) (d:List UInt8) (hown:Own w' lo (vs.getD i undef) d) (hg:w.grownBy w' (vs.getD i undef).ownBlock) :
   Fs w' lo v (L.set i ((L.getD i (0,[])).1,d)) vs:=by
 refine ⟨by rw [List.length_set];exact h.len,?_,?_,fun a b hab hb=>?_,fun a ha=>?_⟩
 · have e:fldCells (L.set i ((L.getD i (0,[])).1,d)) vs = fldCells L vs:=by
     rw [fldCells_set L vs h.len i hi]
     have c:=(fldCells_at L vs h.len i hi).1
     obtain ⟨hlt,hc⟩:=List.getElem?_eq_some_iff.1 c
     rw [← hc,List.set_getElem_self]
   rw [List.length_set,e]
   refine World.ownsRow.kept h.row hg ?_
   cases hb:v.ownBlock with
   | none=>exact .inl rfl
   | some k=>exact .inr (fun e=>h.ap i hi k e.symm hb)
 · intro j hj
   rw [List.length_set] at hj
   by_cases hij:i = j
   · subst hij;rw [getD_set_self _ _ _ _ hi];exact hown
   · rw [getD_set_ne _ _ _ _ _ hij]
     refine (h.own j hj).grown hg ?_
     cases hb:(vs.getD j undef).ownBlock with
     | none=>exact .inl rfl
     | some k =>
       refine .inr (fun e=>?_)
       rcases Nat.lt_or_gt_of_ne hij with hlt | hlt
       · exact h.sep i j hlt hj k e.symm hb
       · exact h.sep j i hlt hi k hb e.symm
 · rw [List.length_set] at hb;exact h.sep a b hab hb
 · rw [List.length_set] at ha;exact h.ap a ha
structure Under (v:Value) (vs:List Value) (n hi:Nat):Prop where
 v:∀ g,v.ownBlock = some g → g < hi
 vs:∀ i,i < n → ∀ g,(vs.getD i undef).ownBlock = some g → g < hi
theorem Fs.under {w:World} {lo:Nat} {v:Value} {L:List (Nat × List UInt8)} {vs:List Value} (h:Fs w lo v L vs):Under v vs L.length w.heap.size :=
 ⟨fun g hg=>(h.row.lt g hg).2,fun i hi g hg=>(own_lt (h.own i hi) g hg).2⟩
namespace Z
def fldCells (L:List (Int × List UInt8)) (vs:List Value):List Value:=(List.zip L vs).flatMap (fun (p:(Int × List UInt8) × Value)=>[.int .i64 (p.1.1:Int),p.2])
theorem fldCells_length (L:List (Int × List UInt8)):∀ (vs:List Value),vs.length = L.length → (fldCells L vs).length = L.length * 2:=by
 induction L with
 | nil=>intro vs h;obtain rfl:vs = []:=List.length_eq_zero_iff.1 h;rfl
 | cons p r ih =>
   intro vs h
   cases vs with
   | nil=>simp at h
   | cons v t =>
     have:=ih t (by simpa using h)
     unfold fldCells at this ⊢
     simp only [List.zip_cons_cons,List.flatMap_cons,List.length_append,List.length_cons,List.length_nil]
     omega
structure Fs (w:World) (lo:Nat) (v:Value) (L:List (Int × List UInt8)) (vs:List Value):Prop where
 len:vs.length = L.length
 row:w.ownsRow lo 29 2 v L.length (fldCells L vs)
 own:∀ i,i < L.length → Own w lo (vs.getD i undef) (L.getD i (0,[])).2
 sep:∀ i j,i < j → j < L.length → ∀ g,(vs.getD i undef).ownBlock = some g → (vs.getD j undef).ownBlock ≠ some g
 ap:∀ i,i < L.length → ∀ g,(vs.getD i undef).ownBlock = some g → v.ownBlock ≠ some g
theorem Fs.below {w w':World} {lo:Nat} {v:Value} {L:List (Int × List UInt8)} {vs:List Value} (h:Fs w lo v L vs) (hb:Below w.heap.size w w'):Fs w' lo v L vs :=
 ⟨h.len,ownR_below h.row hb,fun i hi=>(h.own i hi).below hb,h.sep,h.ap⟩
theorem Fs.mono {w:World} {B lo:Nat} {v:Value} {L:List (Int × List UInt8)} {vs:List Value} (h:Fs w lo v L vs) (hB:B ≤ lo):Fs w B v L vs :=
 ⟨h.len,ownR_mono h.row hB,fun i hi=>(h.own i hi).monoI hB,h.sep,h.ap⟩
theorem Fs.set {w:World} {lo:Nat} {v:Value} {L:List (Int × List UInt8)} {vs:List Value} (h:Fs w lo v L vs) {a:Addr} (ha:a.block < lo) (u:Value):Fs (w.setCell a u) lo v L vs :=
 ⟨h.len,ownsRow_setCell_below h.row ha u,fun i hi=>by obtain ⟨t,q⟩:=h.own i hi;exact ⟨t,ownsRow_setCell_below q ha u⟩,h.sep,h.ap⟩
theorem fldCells_at (L:List (Int × List UInt8)):∀ (vs:List Value),vs.length = L.length → ∀ i,i < L.length → (fldCells L vs)[i * 2]? = some (.int .i64 (L.getD i (0,[])).1) ∧ (fldCells L vs)[i * 2 + 1]? = some (vs.getD i undef):=by
 induction L with
 | nil=>intro vs _ i h;simp at h
 | cons p r ih =>
   intro vs h i hi
   cases vs with
   | nil=>simp at h
   | cons v t =>
     cases i with
     | zero=>exact ⟨rfl,rfl⟩
     | succ i =>
       have:=ih t (by simpa using h) i (by simpa using hi)
       rw [show (i + 1) * 2 = i * 2 + 1 + 1 from by omega]
       exact this
theorem Fs.at {w:World} {lo:Nat} {v:Value} {L:List (Int × List UInt8)} {vs:List Value} (h:Fs w lo v L vs) {i:Nat} (hi:i < L.length) :
   ∃ g c ai ci,v = .slice (some ⟨g,0,none⟩) L.length c ∧ w.cell? ⟨g,i * 2,none⟩ = some (.int .i64 (L.getD i (0,[])).1) ∧ w.cell? ⟨g,i * 2 + 1,none⟩ = some (.slice ai (L.getD i (0,[])).2.length ci) ∧ RowAt w ai (L.getD i (0,[])).2 ∧ vs.getD i undef = .slice ai (L.getD i (0,[])).2.length ci ∧ lo ≤ g ∧ (∀ j,w.frozen? ⟨g,j,none⟩ = false):=by
 have row:=h.row
 obtain ⟨c1,c2⟩:=fldCells_at L vs h.len i hi
 obtain ⟨ai,ci,e,r,-,-,-⟩:=(h.own i hi).shape
 rcases row.2 with ⟨hv,hz⟩ | ⟨g,c,cur,hv,hg,hrest⟩
 · omega
 · subst hv
   refine ⟨g,c,ai,ci,rfl,?_,?_,r,e,hg,fun j=>row.frozenAt j⟩
   · rw [row.cellAt (i * 2) (by omega),c1]
   · rw [row.cellAt (i * 2 + 1) (by omega),c2,e]
theorem Fs.shape {w:World} {lo:Nat} {v:Value} {L:List (Int × List UInt8)} {vs:List Value} (h:Fs w lo v L vs):∃ a c,v = .slice a L.length c:=ownR_shape h.row
def markF:List (Int × List UInt8) → Nat → List (Int × List UInt8)
 | [],_=>[]
 | p :: r,k=>((k:Int),marks (k + 1) p.2.length) :: markF r (k + 1 + p.2.length)
def markN:List (Int × List UInt8) → Nat → Nat
 | [],k=>k
 | p :: r,k=>markN r (k + 1 + p.2.length)
theorem markF_length (L:List (Int × List UInt8)):∀ k,(markF L k).length = L.length:=by
 induction L with
 | nil=>intro k;rfl
 | cons p r ih=>intro k;show (markF r _).length + 1 = r.length + 1;rw [ih]
theorem markF_snoc (L:List (Int × List UInt8)) (p:Int × List UInt8):∀ k,markF (L ++ [p]) k = markF L k ++ [(((markN L k:Nat):Int),marks (markN L k + 1) p.2.length)]:=by
 induction L with
 | nil=>intro k;rfl
 | cons q r ih=>intro k;show _ :: markF (r ++ [p]) _ = _;rw [ih];rfl
theorem markN_snoc (L:List (Int × List UInt8)) (p:Int × List UInt8):∀ k,markN (L ++ [p]) k = markN L k + 1 + p.2.length:=by
 induction L with
 | nil=>intro k;rfl
 | cons q r ih=>intro k;show markN (r ++ [p]) _ = _;rw [ih];rfl
def mkAt (L:List (Int × List UInt8)) (k i:Nat):List (Int × List UInt8):=markF (L.take i) k ++ L.drop i
theorem mkAt_length (L:List (Int × List UInt8)) (k i:Nat):(mkAt L k i).length = L.length:=by
 unfold mkAt;rw [List.length_append,markF_length,List.length_take,List.length_drop];omega
theorem mkAt_zero (L:List (Int × List UInt8)) (k:Nat):mkAt L k 0 = L:=rfl
theorem mkAt_all (L:List (Int × List UInt8)) (k:Nat):mkAt L k L.length = markF L k:=by unfold mkAt;simp
theorem mkAt_get (L:List (Int × List UInt8)) (k i:Nat) (hi:i < L.length):(mkAt L k i).getD i (0,[]) = L.getD i (0,[]):=by
 unfold mkAt
 rw [List.getD_eq_getElem?_getD,List.getElem?_append_right (by rw [markF_length,List.length_take];omega),markF_length,List.length_take,show i - min i L.length = 0 from by omega,List.getElem?_drop,Nat.add_zero,← List.getD_eq_getElem?_getD]
theorem mkAt_step (L:List (Int × List UInt8)) (k i:Nat) (hi:i < L.length):(mkAt L k i).set i (((markN (L.take i) k:Nat):Int),marks (markN (L.take i) k + 1) (L.getD i (0,[])).2.length) = mkAt L k (i + 1) ∧ markN (L.take (i + 1)) k = markN (L.take i) k + 1 + (L.getD i (0,[])).2.length:=by
 have e:L.take (i + 1) = L.take i ++ [L.getD i (0,[])]:=by rw [List.take_succ_eq_append_getElem hi,List.getD_eq_getElem?_getD,List.getElem?_eq_getElem hi];rfl
 have hl:(markF (L.take i) k).length = i:=by rw [markF_length,List.length_take];omega
 refine ⟨?_,by rw [e,markN_snoc]⟩
 unfold mkAt
 rw [e,markF_snoc,List.drop_eq_getElem_cons hi,List.set_append_right _ _ (by omega),hl,Nat.sub_self,List.set_cons_zero,List.append_assoc]
 rfl
theorem fldCells_set (L:List (Int × List UInt8)):∀ (vs:List Value),vs.length = L.length → ∀ i,i < L.length → ∀ p:Int × List UInt8,fldCells (L.set i p) vs = (fldCells L vs).set (i * 2) (.int .i64 (p.1:Int)):=by
 induction L with
 | nil=>intro vs _ i h;simp at h
 | cons q r ih =>
   intro vs h i hi p
   cases vs with
   | nil=>simp at h
   | cons v t =>
     cases i with
     | zero=>rfl
     | succ i =>
       have:=ih t (by simpa using h) i (by simpa using hi) p
       rw [show (i + 1) * 2 = i * 2 + 1 + 1 from by omega]
       show Value.int .i64 (q.1:Int) :: v :: fldCells (r.set i p) t = _
       rw [this]
       rfl
theorem Fs.putNo {w:World} {lo g n c:Nat} {L:List (Int × List UInt8)} {vs:List Value} (h:Fs w lo (.slice (some ⟨g,0,none⟩) n c) L vs) (i k:Nat) (hi:i < L.length) :
   Fs (w.setCell ⟨g,i * 2,none⟩ (.int .i64 (k:Int))) lo (.slice (some ⟨g,0,none⟩) n c) (L.set i ((k:Int),(L.getD i (0,[])).2)) vs:=by
 have hob:(Value.slice (some ⟨g,0,none⟩) n c).ownBlock = some g:=rfl
 obtain ⟨x,y,e⟩:=h.shape
 have en:n = L.length:=by simp only [Value.slice.injEq] at e;exact e.2.1
 refine ⟨by rw [List.length_set];exact h.len,?_,?_,fun a b hab hb=>?_,fun a ha=>?_⟩
 · rw [List.length_set,fldCells_set L vs h.len i hi]
   have row:=h.row
   subst en
   exact (row.stored (i * 2) _).1
 · intro j hj
   rw [List.length_set] at hj
   have e2:((L.set i ((k:Int),(L.getD i (0,[])).2)).getD j (0,[])).2 = (L.getD j (0,[])).2:=by
     by_cases hij:i = j
     · subst hij;rw [getD_set_self _ _ _ _ hi]
     · rw [getD_set_ne _ _ _ _ _ hij]
   rw [e2]
   obtain ⟨t,q⟩:=h.own j hj
   refine ⟨t,ownsRow_setCell_other q ?_ _⟩
   intro ex
   exact h.ap j hj g ex hob
 · rw [List.length_set] at hb;exact h.sep a b hab hb
 · rw [List.length_set] at ha;exact h.ap a ha
theorem Fs.putData {w w':World} {lo:Nat} {v:Value} {L:List (Int × List UInt8)} {vs:List Value} (h:Fs w lo v L vs) (i:Nat) (hi:i < L.length) (d:List UInt8) (hown:Own w' lo (vs.getD i undef) d) (hg:w.grownBy w' (vs.getD i undef).ownBlock) :
   Fs w' lo v (L.set i ((L.getD i (0,[])).1,d)) vs:=by
 refine ⟨by rw [List.length_set];exact h.len,?_,?_,fun a b hab hb=>?_,fun a ha=>?_⟩
 · have e:fldCells (L.set i ((L.getD i (0,[])).1,d)) vs = fldCells L vs:=by
     rw [fldCells_set L vs h.len i hi]
     have c:=(fldCells_at L vs h.len i hi).1
     obtain ⟨hlt,hc⟩:=List.getElem?_eq_some_iff.1 c
     rw [← hc,List.set_getElem_self]
   rw [List.length_set,e]
   refine World.ownsRow.kept h.row hg ?_
   cases hb:v.ownBlock with
   | none=>exact .inl rfl
   | some k=>exact .inr (fun e=>h.ap i hi k e.symm hb)
 · intro j hj
   rw [List.length_set] at hj
   by_cases hij:i = j
   · subst hij;rw [getD_set_self _ _ _ _ hi];exact hown
   · rw [getD_set_ne _ _ _ _ _ hij]
     refine (h.own j hj).grown hg ?_
     cases hb:(vs.getD j undef).ownBlock with
     | none=>exact .inl rfl
     | some k =>
       refine .inr (fun e=>?_)
       rcases Nat.lt_or_gt_of_ne hij with hlt | hlt
       · exact h.sep i j hlt hj k e.symm hb
       · exact h.sep j i hlt hi k hb e.symm
 · rw [List.length_set] at hb;exact h.sep a b hab hb
 · rw [List.length_set] at ha;exact h.ap a ha
theorem Fs.under {w:World} {lo:Nat} {v:Value} {L:List (Int × List UInt8)} {vs:List Value} (h:Fs w lo v L vs):Under v vs L.length w.heap.size :=
 ⟨fun g hg=>(h.row.lt g hg).2,fun i hi g hg=>(own_lt (h.own i hi) g hg).2⟩
theorem markN_append (A B:List (Int × List UInt8)):∀ k,markN (A ++ B) k = markN B (markN A k):=by
 induction A with
 | nil=>intro k;rfl
 | cons q r ih=>intro k;show markN (r ++ B) _ = _;rw [ih];rfl
theorem markN_ge (L:List (Int × List UInt8)):∀ k,k ≤ markN L k:=by
 induction L with
 | nil=>intro k;exact Nat.le_refl _
 | cons q r ih=>intro k;have h:=ih (k + 1 + q.2.length);show k ≤ markN r _;omega
theorem markN_take (L:List (Int × List UInt8)) (k i:Nat):markN (L.take i) k ≤ markN L k:=by
 have h:=markN_append (L.take i) (L.drop i) k
 rw [List.take_append_drop] at h
 rw [h]
 exact markN_ge _ _
end Z
def setLI (l:List UInt8) (k:Nat):List UInt8:=l.set (k / 8) (UInt8.ofNat ((l.getD (k / 8) 0).toNat ||| 2 ^ (7 - k % 8)))
theorem setLI_length (l:List UInt8) (k:Nat):(setLI l k).length = l.length:=by unfold setLI;simp
set_option maxRecDepth 100000 in
set_option maxHeartbeats 2000000 in
theorem setBit_any (l:List UInt8) (b cap t k:Nat) (w:World) (hn:l.length ≤ 1048576) (hk:k < 8 * l.length) (kB:Blk w b t (l.map byte)) :
   Calls Tryz.prog 54 #[.slice (some ⟨b,0,none⟩) l.length cap,.int .i64 ((k + 1:Nat):Int)] w fun e w'=>e = .returned (.tuple #[]) ∧ Blk w' b t ((setLI l k).map byte) ∧ w.grownBy w' (some b) ∧ w'.heap.size = w.heap.size:=by
 obtain ⟨n,hnl⟩:∃ n,n = l.length:=⟨_,rfl⟩
 obtain ⟨j,hj⟩:∃ j,j = k / 8:=⟨_,rfl⟩
 obtain ⟨r,hr8⟩:∃ r,r = k % 8:=⟨_,rfl⟩
 obtain ⟨x,hx⟩:∃ x,x = (l.getD j 0).toNat:=⟨_,rfl⟩
 have hx8:x < 256:=by rw [hx];exact UInt8.toNat_lt _
 obtain ⟨s,hs⟩:∃ s,s = 2 ^ (7 - r):=⟨_,rfl⟩
 have hs8:s < 256:=by rw [hs];exact Nat.lt_of_lt_of_le (Nat.pow_lt_pow_right (by omega) (show 7 - r < 8 by omega)) (Nat.le_refl _)
 obtain ⟨y,hy⟩:∃ y,y = x ||| s:=⟨_,rfl⟩
 have hor:bits BinOp.or IntKind.u8 (x:Int) (s:Int) = (y:Int):=by rw [hy];exact u8_or_nat x s hx8 hs8
 obtain ⟨m,hm⟩:∃ m,m = k + 1:=⟨_,rfl⟩
 have hwm:IntKind.i64.wrap ((m:Int) - 1) = (k:Int):=by rw [IntKind.wrap_i64];omega
 have hq:(k:Int) / 8 = (j:Int):=by omega
 have hqt:(k:Int).tdiv 8 = (j:Int):=by rw [Int.tdiv_eq_ediv_of_nonneg (Int.natCast_nonneg _)];exact hq
 have hwj:IntKind.i64.wrap (j:Int) = (j:Int):=by rw [IntKind.wrap_i64];omega
 have hm8:(k:Int) % 8 = (r:Int):=by omega
 have hmt:(k:Int).tmod 8 = (r:Int):=by rw [Int.tmod_eq_emod_of_nonneg (Int.natCast_nonneg _)];exact hm8
 have hjn:j < n:=by omega
 have hjI:(j:Int) < (n:Int):=by omega
 have hr7:r < 8:=by omega
 have hsh:(128:Int) / 2 ^ r = (s:Int):=by
   rw [hs]
   clear hs hs8 hy hor hmt hm8 hr8
   have:r = 0 ∨ r = 1 ∨ r = 2 ∨ r = 3 ∨ r = 4 ∨ r = 5 ∨ r = 6 ∨ r = 7:=by omega
   rcases this with rfl | rfl | rfl | rfl | rfl | rfl | rfl | rfl <;> rfl
 have cW:w.cell? ⟨b,j,none⟩ = some (.int .u8 (x:Int)):=by
   rw [kB.cell j (by rw [List.length_map];omega)]
   have hjl:j < l.length:=by omega
   rw [List.getElem_map,hx,List.getD_eq_getElem?_getD,List.getElem?_eq_getElem hjl]
   rfl
 have fW:=kB.free j
 have HFIN:Hid ((l.map byte).set j (.int .u8 (y:Int)) = (setLI l k).map byte):=by
   show _ = _
   unfold setLI
   rw [List.map_set,← hj,← hx,← hr8,← hs,← hy]
   congr 1
   unfold byte
   rw [UInt8.toNat_ofNat']
   have hyb:y < 256:=by rw [hy];exact Nat.or_lt_two_pow (n:=8) hx8 hs8
   rw [Nat.mod_eq_of_lt hyb]
 rw [← hnl,← hm]
 clear hnl hj hr8 hx hs hy hm
 go_enter Tryz.func54,Tryz.ntmps54
 go_upto_region 0 with fail
 obtain ⟨V,hV⟩:∃ V,V = World.drew w:=⟨_,rfl⟩
 have kV:Blk V b t (l.map byte):=by rw [hV];exact kB.drew1
 have cV:V.cell? ⟨b,j,none⟩ = some (.int .u8 (x:Int)):=by rw [hV];exact cW
 have fV:V.frozen? ⟨b,j,none⟩ = false:=by rw [hV];exact fW
 have gV:w.grownBy V (some b):=by rw [hV];exact grown_drewT (grown_of_below (Below.refl _ _) _)
 have sV:V.heap.size = w.heap.size:=by rw [hV];rfl
 have keep:Hid (∀ {P:Prop},P → True):=fun _=>trivial
 refine wp_region_held_drew (S:=fun _=>True) (by kernel_rfl) trivial (fun hHeld=>?_)
 rw [← hV]
 clear hV
 refine tkA (i:=0) (v:=(.slice (some ⟨b,0,none⟩) n cap)) rfl hHeld ?_
 try dsimp only [Act.put]
 refine tkA (i:=1) (v:=(.int .i64 (m:Int))) rfl hHeld ?_
 dsimp only [Act.put,List.getElem_toArray,List.getElem_cons_zero,List.getElem_cons_succ]
 simp only [List.setIfInBounds_toArray,List.set_cons_succ,List.set_cons_zero]
 refine tkA (i:=2) (v:=(.int .i64 (k:Int))) rfl hHeld ?_
 try dsimp only [Act.put]
 refine tkA (i:=3) (v:=(.int .i64 (j:Int))) rfl hHeld ?_
 dsimp only [Act.put,List.getElem_toArray,List.getElem_cons_zero,List.getElem_cons_succ]
 simp only [List.setIfInBounds_toArray,List.set_cons_succ,List.set_cons_zero]
 refine tkA (i:=4) (v:=(.pointer (some ⟨b,j,none⟩))) rfl hHeld ?_
 try dsimp only [Act.put]
 refine tkA (i:=6) (v:=(.int .i64 (m:Int))) rfl hHeld ?_
 dsimp only [Act.put,List.getElem_toArray,List.getElem_cons_zero,List.getElem_cons_succ]
 simp only [List.setIfInBounds_toArray,List.set_cons_succ,List.set_cons_zero]
 refine tkA (i:=7) (v:=(.int .i64 (k:Int))) rfl hHeld ?_
 try dsimp only [Act.put]
 refine tkA (i:=8) (v:=(.int .i64 (r:Int))) rfl hHeld ?_
 dsimp only [Act.put,List.getElem_toArray,List.getElem_cons_zero,List.getElem_cons_succ]
 simp only [List.setIfInBounds_toArray,List.set_cons_succ,List.set_cons_zero]
 refine tkA (i:=9) (v:=(.int .u8 (s:Int))) rfl hHeld ?_
 try dsimp only [Act.put]
 refine rdy1 5 (fun K hK=>?_)
 go_simp
 refine hK.out _ _ (keep.out cV) (fun hHeld=>?_)
 clear hK K
 try dsimp only [Act.put]
 refine tkA (i:=10) (v:=(.int .u8 (y:Int))) rfl hHeld ?_
 dsimp only [Act.put,List.getElem_toArray,List.getElem_cons_zero,List.getElem_cons_succ]
 simp only [List.setIfInBounds_toArray,List.set_cons_succ,List.set_cons_zero]
 refine tkA (i:=11) (v:=(.pointer (some ⟨b,j,none⟩))) rfl hHeld ?_
 try dsimp only [Act.put]
 refine rdy1 12 (fun K hK=>?_)
 go_simp
 refine hK.out _ _ (keep.out cV) (fun hHeld=>?_)
 clear hK K
 try dsimp only [Act.put]
 refine wpAnyH_done (by kernel_rfl) ?_ _
 have kF:=kV.set j (.int .u8 (y:Int))
 rw [show (l.map byte).set j (.int .u8 (y:Int)) = _ from HFIN] at kF
 refine bodyPost_end (results_none rfl _ _ _) rfl ⟨rfl,kF,grown_trans gV (grown_setCellT V ⟨b,j,none⟩ (.int .u8 (y:Int))),?_⟩
 rw [← sV]
 simp
end Go.Proofs.YtbkokcjolanpeaaGreatDoor
