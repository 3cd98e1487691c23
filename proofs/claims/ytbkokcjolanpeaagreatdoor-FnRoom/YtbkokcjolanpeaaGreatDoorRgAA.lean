import Derived.Test.YtbkokcjolanpeaaGreatDoorRgZ
import Derived.Maps.AppendAt
namespace Go.Proofs.YtbkokcjolanpeaaGreatDoor
open Go.RowKit
def decAt (data:List UInt8) (nos:List Nat) (a0:Nat):Nat → Nat
 | 0=>a0
 | i + 1=>decAt data nos a0 i + fldE (nos.getD i 0) (data.drop (decAt data nos a0 i))
def fc (data:List UInt8) (nos:List Nat) (a0 i:Nat):Nat:=fldC (nos.getD i 0) (data.drop (decAt data nos a0 i))
def decF (data:List UInt8) (nos:List Nat) (a0 i:Nat):List (Nat × List UInt8):=(List.range i).map (fun j=>(nos.getD j 0,fldD (nos.getD j 0) (data.drop (decAt data nos a0 j))))
theorem decF_succ (data:List UInt8) (nos:List Nat) (a0 i:Nat):decF data nos a0 (i + 1) = decF data nos a0 i ++ [(nos.getD i 0,fldD (nos.getD i 0) (data.drop (decAt data nos a0 i)))]:=by
 unfold decF;rw [List.range_succ,List.map_append];rfl
theorem decF_length (data:List UInt8) (nos:List Nat) (a0 i:Nat):(decF data nos a0 i).length = i:=by unfold decF;simp
def bad (data:List UInt8) (nos:List Nat) (a0:Nat):Option Nat:=(List.range nos.length).find? (fun j=>decide (fc data nos a0 j ≠ 0))
theorem find_first (p:Nat → Bool) (n i:Nat) (hi:i < n) (h1:∀ j,j < i → p j = false) (h2:p i = true):(List.range n).find? p = some i:=by
 induction n with
 | zero=>omega
 | succ n ih =>
   rw [List.range_succ,List.find?_append]
   by_cases h:i < n
   · rw [ih h];rfl
   · obtain rfl:i = n:=by omega
     have:(List.range i).find? p = none:=by
       rw [List.find?_eq_none]
       intro x hx
       rw [List.mem_range] at hx
       rw [h1 x hx];decide
     rw [this]
     simp [h2]
theorem find_noneI (p:Nat → Bool) (n:Nat) (h1:∀ j,j < n → p j = false):(List.range n).find? p = none:=by
 rw [List.find?_eq_none]
 intro x hx
 rw [List.mem_range] at hx
 rw [h1 x hx];decide
theorem bad_some (data:List UInt8) (nos:List Nat) (a0 i:Nat) (hi:i < nos.length) (h1:∀ j,j < i → fc data nos a0 j = 0) (h2:fc data nos a0 i ≠ 0):bad data nos a0 = some i :=
 find_first _ _ _ hi (fun j hj=>by rw [decide_eq_false];simp [h1 j hj]) (by rw [decide_eq_true];exact h2)
theorem bad_none (data:List UInt8) (nos:List Nat) (a0:Nat) (h1:∀ j,j < nos.length → fc data nos a0 j = 0):bad data nos a0 = none :=
 find_noneI _ _ (fun j hj=>by rw [decide_eq_false];simp [h1 j hj])
def dE (data:List UInt8):Nat:=decAt data (mapN data) (mapE data) (mapN data).length
def dC (data:List UInt8):Nat:=if 4096 < data.length then 5 else if tyC data ≠ 0 then tyC data else if mapC data ≠ 0 then mapC data else match bad data (mapN data) (mapE data) with
 | some i=>fc data (mapN data) (mapE data) i
 | none=>if dE data < data.length then 5 else 0
def dP (data:List UInt8):Nat:=if 4096 < data.length then 4096 else if tyC data ≠ 0 then 0 else if mapC data ≠ 0 then 4 else match bad data (mapN data) (mapE data) with
 | some i=>decAt data (mapN data) (mapE data) i
 | none=>if dE data < data.length then dE data else 0
def dM (data:List UInt8):ByteArray:=if dC data = 0 then ⟨(data.take 4).toArray⟩ else ByteArray.empty
def dL (data:List UInt8):List (Nat × List UInt8):=if dC data = 0 then decF data (mapN data) (mapE data) (mapN data).length else []
def macLI (data:List UInt8) (nos:List Nat) (a0:Nat):Nat → Nat
 | 0=>0
 | i + 1=>macP (nos.getD i 0) (decAt data nos a0 i)
def dA (data:List UInt8):Nat:=if dC data = 0 then macLI data (mapN data) (mapE data) (mapN data).length else 0
def fldCells (L:List (Nat × List UInt8)) (vs:List Value):List Value:=(List.zip L vs).flatMap (fun (p:(Nat × List UInt8) × Value)=>[.int .i64 (p.1.1:Int),p.2])
theorem fldCells_snoc (L:List (Nat × List UInt8)) (vs:List Value) (h:vs.length = L.length) (p:Nat × List UInt8) (v:Value):fldCells (L ++ [p]) (vs ++ [v]) = fldCells L vs ++ [.int .i64 (p.1:Int),v]:=by
 unfold fldCells
 rw [List.zip_append h.symm]
 simp
theorem fldCells_length (L:List (Nat × List UInt8)):∀ (vs:List Value),vs.length = L.length → (fldCells L vs).length = L.length * 2:=by
 induction L with
 | nil=>intro vs h;obtain rfl:vs = []:=List.length_eq_zero_iff.1 h;rfl
 | cons p r ih =>
   intro vs h
   cases vs with
   | nil=>simp at h
   | cons v t =>
     have:=ih t (by simpa using h)
     unfold fldCells at this ⊢
     simp only [List.zip_cons_cons,List.flatMap_cons,List.length_append,List.length_cons,List.length_nil]
     omega
structure Fs (w:World) (lo:Nat) (v:Value) (L:List (Nat × List UInt8)) (vs:List Value):Prop where
 len:vs.length = L.length
 row:w.ownsRow lo 29 2 v L.length (fldCells L vs)
 own:∀ i,i < L.length → Own w lo (vs.getD i undef) (L.getD i (0,[])).2
 sep:∀ i j,i < j → j < L.length → ∀ g,(vs.getD i undef).ownBlock = some g → (vs.getD j undef).ownBlock ≠ some g
 ap:∀ i,i < L.length → ∀ g,(vs.getD i undef).ownBlock = some g → v.ownBlock ≠ some g
def FsX (w:World) (lo:Nat) (v:Value) (L:List (Nat × List UInt8)):Prop:=∃ vs,Fs w lo v L vs
theorem Fs.nil (w:World) (lo:Nat):Fs w lo (.slice none 0 0) [] [] :=
 ⟨rfl,World.ownsRow_nil _ _ _ _,fun i h=>absurd h (Nat.not_lt_zero i),fun _ j _ h=>absurd h (Nat.not_lt_zero j),fun i h=>absurd h (Nat.not_lt_zero i)⟩
theorem Fs.below {w w':World} {lo:Nat} {v:Value} {L:List (Nat × List UInt8)} {vs:List Value} (h:Fs w lo v L vs) (hb:Below w.heap.size w w'):Fs w' lo v L vs :=
 ⟨h.len,ownR_below h.row hb,fun i hi=>(h.own i hi).below hb,h.sep,h.ap⟩
theorem Fs.mono {w:World} {B lo:Nat} {v:Value} {L:List (Nat × List UInt8)} {vs:List Value} (h:Fs w lo v L vs) (hB:B ≤ lo):Fs w B v L vs :=
 ⟨h.len,ownR_mono h.row hB,fun i hi=>(h.own i hi).monoI hB,h.sep,h.ap⟩
theorem own_lt {w:World} {base:Nat} {v:Value} {l:List UInt8} (h:Own w base v l):∀ k,v.ownBlock = some k → base ≤ k ∧ k < w.heap.size:=by
 obtain ⟨t,h⟩:=h
 exact h.lt
theorem Fs.set {w:World} {lo:Nat} {v:Value} {L:List (Nat × List UInt8)} {vs:List Value} (h:Fs w lo v L vs) {a:Addr} (ha:a.block < lo) (u:Value):Fs (w.setCell a u) lo v L vs :=
 ⟨h.len,ownsRow_setCell_below h.row ha u,fun i hi=>by obtain ⟨t,q⟩:=h.own i hi;exact ⟨t,ownsRow_setCell_below q ha u⟩,h.sep,h.ap⟩
theorem getD_left {α:Type} (l:List α) (x d:α) (i:Nat) (h:i < l.length):(l ++ [x]).getD i d = l.getD i d:=by
 simp [List.getD_eq_getElem?_getD,List.getElem?_append_left h]
theorem getD_last {α:Type} (l:List α) (x d:α) (i:Nat) (h:i = l.length):(l ++ [x]).getD i d = x:=by
 subst h;simp [List.getD_eq_getElem?_getD]
theorem Fs.snoc {w w2 w5:World} {lo m:Nat} {v v5 x:Value} {L:List (Nat × List UInt8)} {vs:List Value} {p:Nat × List UInt8} (h:Fs w lo v L vs) (hm:w.heap.size ≤ m)
   (own2:Own w2 m x p.2) (bw:Below w.heap.size w w2) (hlo:lo ≤ w.heap.size) (hgrow:w2.grownBy w5 v.ownBlock) (row5:w5.ownsRow lo 29 2 v5 (L.length + 1) (fldCells L vs ++ [.int .i64 (p.1:Int),x]))
   (hat:v5.ownBlock = v.ownBlock ∨ ∃ g,v5.ownBlock = some g ∧ w2.heap.size ≤ g):Fs w5 lo v5 (L ++ [p]) (vs ++ [x]):=by
 have hv:=h.row.lt
 have hx:=own_lt own2
 have hi0:∀ i,i < L.length → ∀ g,(vs.getD i undef).ownBlock = some g → g < w.heap.size:=fun i hi g hg=>(own_lt (h.own i hi) g hg).2
 have hlen:=h.len
 refine ⟨by simp [hlen],?_,?_,?_,?_⟩
 · rw [List.length_append,fldCells_snoc _ _ hlen];exact row5
 · intro i hi
   rw [List.length_append] at hi
   by_cases hc:i < L.length
   · rw [getD_left _ _ _ _ hc,getD_left _ _ _ _ (by omega)]
     refine ((h.own i hc).below bw).grown hgrow ?_
     cases hb:(vs.getD i undef).ownBlock with
     | none=>exact .inl rfl
     | some g=>exact .inr (fun e=>h.ap i hc g hb e.symm)
   · have hiL:i = L.length:=by simp at hi;omega
     rw [getD_last _ _ _ _ hiL,getD_last _ _ _ _ (by omega)]
     refine (own2.monoI (by omega)).grown hgrow ?_
     cases hb:x.ownBlock with
     | none=>exact .inl rfl
     | some g=>exact .inr (fun e=>by have:=(hv g e.symm).2;have:=(hx g hb).1;omega)
 · intro i j hij hj g hg
   rw [List.length_append] at hj
   by_cases hc:j < L.length
   · rw [getD_left _ _ _ _ (by omega)] at hg
     rw [getD_left _ _ _ _ (by omega)]
     exact h.sep i j hij hc g hg
   · have hjL:j = L.length:=by simp at hj;omega
     rw [getD_left _ _ _ _ (by omega)] at hg
     rw [getD_last _ _ _ _ (by omega)]
     intro e
     have:=hi0 i (by omega) g hg
     have:=(hx g e).1
     omega
 · intro i hi g hg
   rw [List.length_append] at hi
   by_cases hc:i < L.length
   · rw [getD_left _ _ _ _ (by omega)] at hg
     rcases hat with e | ⟨g',e,hg'⟩
     · rw [e];exact h.ap i hc g hg
     · rw [e];intro e2;cases e2
       have:=hi0 i hc g hg
       have:=bw.size
       omega
   · have hiL:i = L.length:=by simp at hi;omega
     rw [getD_last _ _ _ _ (by omega)] at hg
     have h1:=hx g hg
     rcases hat with e | ⟨g',e,hg'⟩
     · rw [e];intro e2;have:=(hv g e2).2;omega
     · rw [e];intro e2;cases e2;omega
theorem rulesC_length (l:List Nat):(rulesC l).length = l.length * 2:=by
 induction l with
 | nil=>rfl
 | cons a r ih=>unfold rulesC at ih ⊢;simp only [List.flatMap_cons,List.length_append,List.length_cons,List.length_nil];omega
theorem rulesC_at (l:List Nat):∀ i,i < l.length → (rulesC l)[i * 2]? = some (.int .i64 (l.getD i 0:Nat)) ∧ (rulesC l)[i * 2 + 1]? = some (kindV (l.getD i 0)):=by
 induction l with
 | nil=>intro i h;simp at h
 | cons a r ih =>
   intro i h
   cases i with
   | zero=>exact ⟨rfl,rfl⟩
   | succ i =>
     have:=ih i (by simpa using h)
     rw [show (i + 1) * 2 = i * 2 + 1 + 1 from by omega]
     exact this
theorem fldE_le (no:Nat) (rest:List UInt8) (h:fldC no rest = 0):fldE no rest ≤ rest.length:=by
 unfold fldE fE
 unfold fldC at h
 rw [if_pos h]
 unfold fC at h
 split at h
 · omega
 · split at h
   · omega
   · split at h
     · omega
     · omega
theorem two_one {kv:Value} (h:kv.oneCell' = true) (n:Int):(([.int .i64 n,kv]:List Value).toArray).all (·.oneCell') = true:=by
 rw [List.all_toArray]
 simp only [List.all_cons,List.all_nil,h,Bool.and_true]
 rfl
theorem ownR_shape {w:World} {base e size n:Nat} {v:Value} {xs:List Value} (h:w.ownsRow base e size v n xs):∃ a c,v = .slice a n c:=by
 rcases h.2 with ⟨hv,hz⟩ | ⟨g,c,cur,hv,-⟩
 · exact ⟨none,0,by rw [hv,hz]⟩
 · exact ⟨_,c,hv⟩
abbrev zeroDc:List Value:=[.int .i64 0,.int .i64 0,.string ByteArray.empty,.slice none 0 0,.int .i64 0]
theorem Tryz.zeroDc:(Tryz.prog.info? 97).map (fun i=>(i.zero,i.size)) = some (some (.agg zeroDc.toArray),5):=by kernel_rfl
theorem Tryz.infoFd:(Tryz.prog.info? 29).map (fun i=>(i.zero,i.size,i.bytes)) = some (some (.agg #[.int .i64 0,.slice none 0 0]),2,32):=by kernel_rfl
theorem bad_end {data:List UInt8} (h:dC data ≠ 0):dM data = ByteArray.empty ∧ dL data = [] ∧ dA data = 0:=by
 unfold dM dL dA
 rw [if_neg h,if_neg h,if_neg h]
 exact ⟨rfl,rfl,rfl⟩
set_option maxRecDepth 100000 in
set_option maxHeartbeats 4000000 in
theorem decode_any (data:List UInt8) (ao:Option Addr) (cap:Nat) (w:World) (hn:data.length ≤ 1048576) (hcap:data.length ≤ cap) (hr:RowAt w ao data) :
   Calls Tryz.prog 40 #[.slice ao data.length cap] w fun e w'=>∃ v,e = .returned (.agg #[.int .i64 (dC data:Nat),.int .i64 (dP data:Nat),.string (dM data),v,.int .i64 (dA data:Nat)]) ∧ FsX w' w.heap.size v (dL data) ∧ Below w.heap.size w w':=by
 have hz:=(zero_of_info Tryz.zeroDc).1
 obtain ⟨i0,hi,hz0,hz1,hz2⟩:=info_parts Tryz.infoFd
 obtain ⟨N,hN⟩:∃ N,N = data.length:=⟨_,rfl⟩
 obtain ⟨W,hW⟩:∃ x,x = w.alloc (.cells zeroDc.toArray 97):=⟨_,rfl⟩
 have kR:Blk W w.heap.size 97 zeroDc:=by rw [hW];exact Blk.new _ _ _
 have bW:Below w.heap.size w W:=by rw [hW];exact (Below.refl _ _).alloc (Nat.le_refl _) _
 have HW:=hideT hW
 clear hW
 have HEND:Hid (∀ (wx w7:World) (c p:Nat),dC data = c → c ≠ 0 → dP data = p → Below w.heap.size w wx → wx.grownBy w7 (some w.heap.size) → w7.heap.size = wx.heap.size → ∃ v,Ending.returned (.agg #[.int .i64 (c:Int),.int .i64 (p:Int),.string ByteArray.empty,.slice none 0 0,.int .i64 0]) = .returned (.agg #[.int .i64 (dC data:Nat),.int .i64 (dP data:Nat),.string (dM data),v,.int .i64 (dA data:Nat)]) ∧ FsX w7 w.heap.size v (dL data) ∧ Below w.heap.size w w7):=by
   intro wx w7 c p h1 h2 h3 h4 h5 h6
   obtain ⟨e1,e2,e3⟩:=bad_end (by rw [h1];exact h2)
   refine ⟨.slice none 0 0,?_,?_,h4.grown h5 h4.size (fun k hk=>by cases hk;omega)⟩
   · rw [h1,h3,e1,e3];rfl
   · rw [e2];exact ⟨[],Fs.nil _ _⟩
 by_cases hbig:4096 < N
 · have e1:dC data = 5:=by unfold dC;rw [if_pos (by omega)]
   have e2:dP data = 4096:=by unfold dP;rw [if_pos (by omega)]
   have hI:(4096:Int) < (N:Int):=by omega
   rw [← hN]
   clear hr hN
   go_enter Tryz.func40,Tryz.ntmps40
   go_upto_region 1 with fail
   rw [← show W = _ from HW]
   clear HW
   go_wp2_with (refine store_blk rfl 97 _ _ rfl w.heap.size rfl rfl kR (by kernel_rfl) rfl (by kernel_rfl) ?_;intro w7 hb7 hg7 hs7)
   exact bodyPost_ret (v:=.agg [.int .i64 5,.int .i64 4096,.string ByteArray.empty,.slice none 0 0,.int .i64 0].toArray) (results_blk Tryz.results40 _ _ rfl hb7 Tryz.underlying97 rfl (by kernel_rfl)) rfl (HEND.out W w7 5 4096 e1 (by decide) e2 bW hg7 hs7)
 have hI:¬ (4096:Int) < (N:Int):=by omega
 have HTY:=hideT (fun (wx:World) (h:RowAt wx ao data)=>typeCode_any data ao cap wx (by omega) hcap h)
 have rW:=hr.below bW
 by_cases hty:tyC data ≠ 0
 · have e1:dC data = tyC data:=by unfold dC;rw [if_neg (by omega),if_pos hty]
   have e2:dP data = 0:=by unfold dP;rw [if_neg (by omega),if_pos hty]
   obtain ⟨c,hc⟩:∃ c,c = tyC data:=⟨_,rfl⟩
   rw [← hc] at HTY hty e1
   rw [← hN] at HTY ⊢
   have hcI:¬ (c:Int) = 0:=by omega
   clear hr hN hc
   go_enter Tryz.func40,Tryz.ntmps40
   go_upto_region 1 with fail
   rw [← show W = _ from HW]
   clear HW
   go_wp2_with fail
   refine (HTY.out _ rW).mono ?_
   rintro e w2 ⟨rfl,b2⟩
   have kR2:=kR.below b2 kR.lt
   go_wp2_with (refine store_blk rfl 97 _ _ rfl w.heap.size rfl rfl kR2 (by kernel_rfl) rfl (by kernel_rfl) ?_;intro w7 hb7 hg7 hs7)
   exact bodyPost_ret (v:=.agg [.int .i64 (c:Int),.int .i64 0,.string ByteArray.empty,.slice none 0 0,.int .i64 0].toArray) (results_blk Tryz.results40 _ _ rfl hb7 Tryz.underlying97 rfl (by kernel_rfl)) rfl (HEND.out w2 w7 c 0 e1 hty e2 (bW.trans (b2.mono bW.size)) hg7 hs7)
 have hty0:tyC data = 0:=by omega
 have h4:4 ≤ N:=by
   unfold tyC at hty0
   by_cases h:data.length < 4
   · rw [if_pos h] at hty0;omega
   · omega
 obtain ⟨b,o,rfl,-⟩:=hr.at (k:=0) (by omega)
 have HRM:=hideT (fun (wx:World) (h:RowAt wx (some ⟨b,o,none⟩) data)=>readMaps_any data b o cap wx (by omega) hcap h)
 rw [hty0] at HTY
 by_cases hmc:mapC data ≠ 0
 · have e1:dC data = mapC data:=by unfold dC;rw [if_neg (by omega),if_neg (by omega),if_pos hmc]
   have e2:dP data = 4:=by unfold dP;rw [if_neg (by omega),if_neg (by omega),if_pos hmc]
   obtain ⟨c,hc⟩:∃ c,c = mapC data:=⟨_,rfl⟩
   rw [← hc] at HRM hmc e1
   rw [← hN] at HTY HRM ⊢
   have hcI:¬ (c:Int) = 0:=by omega
   clear hr hN hc
   go_enter Tryz.func40,Tryz.ntmps40
   go_upto_region 1 with fail
   rw [← show W = _ from HW]
   clear HW
   go_wp2_with fail
   refine (HTY.out _ rW).mono ?_
   rintro e w2 ⟨rfl,b2⟩
   have rW2:=rW.below b2
   go_wp2_with fail
   refine (HRM.out _ rW2).mono ?_
   rintro e w3 ⟨v3,rfl,-,b3⟩
   have b23:=b2.trans (b3.mono b2.size)
   have kR2:=kR.below b23 kR.lt
   go_wp2_with (refine store_blk rfl 97 _ _ rfl w.heap.size rfl rfl kR2 (by kernel_rfl) rfl (by kernel_rfl) ?_;intro w7 hb7 hg7 hs7)
   exact bodyPost_ret (v:=.agg [.int .i64 (c:Int),.int .i64 4,.string ByteArray.empty,.slice none 0 0,.int .i64 0].toArray) (results_blk Tryz.results40 _ _ rfl hb7 Tryz.underlying97 rfl (by kernel_rfl)) rfl (HEND.out w3 w7 c 4 e1 hmc e2 (bW.trans (b23.mono bW.size)) hg7 hs7)
 have hm0:mapC data = 0:=by omega
 rw [hm0] at HRM
 obtain ⟨nos,hnos⟩:∃ l,l = mapN data:=⟨_,rfl⟩
 obtain ⟨E,hE⟩:∃ e,e = mapE data:=⟨_,rfl⟩
 have hnt:∀ i,i < nos.length → nos.getD i 0 ∈ tabNos:=by
   intro i hi
   have hin:inTab (nosOf data) = true:=by
     cases h:inTab (nosOf data) with
     | true=>rfl
     | false =>
       exfalso
       revert hm0
       unfold mapC
       rw [if_pos h]
       split <;> omega
   have e:nos = nosOf data:=by rw [hnos];unfold mapN;rw [if_pos hm0]
   rw [List.getD_eq_getElem?_getD,List.getElem?_eq_getElem hi]
   unfold inTab at hin
   rw [List.all_eq_true] at hin
   have:=hin nos[i] (by rw [← e];exact List.getElem_mem hi)
   simpa using this
 have hEN:E ≤ N:=by
   have hme:¬ data.length < mapEnd data:=by
     intro h
     revert hm0
     unfold mapC
     rw [if_pos h]
     omega
   rw [hE]
   unfold mapE
   rw [if_pos hm0]
   omega
 have HRES:Hid ((∀ i,i < nos.length → (∀ j,j < i → fc data nos E j = 0) → fc data nos E i ≠ 0 → dC data = fc data nos E i ∧ dP data = decAt data nos E i) ∧ ((∀ j,j < nos.length → fc data nos E j = 0) → (decAt data nos E nos.length < N → dC data = 5 ∧ dP data = decAt data nos E nos.length) ∧ (¬ decAt data nos E nos.length < N → dC data = 0 ∧ dP data = 0 ∧ dM data = ⟨(data.take 4).toArray⟩ ∧ dL data = decF data nos E nos.length ∧ dA data = macLI data nos E nos.length))):=by
   have eC:dC data = match bad data nos E with | some i=>fc data nos E i | none=>if decAt data nos E nos.length < N then 5 else 0:=by
     rw [hnos,hE,hN];unfold dC;rw [if_neg (by omega),if_neg (by omega),if_neg (by omega)];rfl
   have eP:dP data = match bad data nos E with | some i=>decAt data nos E i | none=>if decAt data nos E nos.length < N then decAt data nos E nos.length else 0:=by
     rw [hnos,hE,hN];unfold dP;rw [if_neg (by omega),if_neg (by omega),if_neg (by omega)];rfl
   refine ⟨fun i hi h1 h2=>?_,fun h1=>⟨fun h2=>?_,fun h2=>?_⟩⟩
   · rw [eC,eP,bad_some data nos E i hi h1 h2];exact ⟨rfl,rfl⟩
   · rw [eC,eP,bad_none data nos E h1];simp only;rw [if_pos h2,if_pos h2];exact ⟨rfl,rfl⟩
   · have e0:dC data = 0:=by rw [eC,bad_none data nos E h1];simp only;rw [if_neg h2]
     refine ⟨e0,?_,?_,?_,?_⟩
     · rw [eP,bad_none data nos E h1];simp only;rw [if_neg h2]
     · unfold dM;rw [if_pos e0]
     · unfold dL;rw [if_pos e0,hnos,hE]
     · unfold dA;rw [if_pos e0,hnos,hE]
 rw [← hnos,← hE] at HRM
 rw [← hN] at HTY HRM ⊢
 have HNO:=hideT hnt
 have HN:=hideT hN
 have hE2:E ≤ 20:=by rw [hE];unfold mapE mapEnd;split <;> (try split) <;> omega
 have hnl:nos.length ≤ 129:=by
   have h1:nos = nosOf data:=by rw [hnos];unfold mapN;rw [if_pos hm0]
   rw [h1]
   unfold nosOf
   refine Nat.le_trans (nosTo_length _ _) ?_
   unfold mapEnd
   split <;> omega
 clear hnos hE hN hnt hm0 hty0 hr hmc hty
 have hl4:(data.take 4).length = 4:=by have:=HN.out;rw [List.length_take];omega
 have HCV:=hideT (fun (wx:World) (h:RowAt wx (some ⟨b,o,none⟩) data)=>conv_anyI (data.take 4) (some ⟨b,o,none⟩) 4 cap wx hl4 (RowAt.take h 4))
 obtain ⟨S4,hS4⟩:∃ s:ByteArray,s = ⟨(data.take 4).toArray⟩:=⟨_,rfl⟩
 rw [← hS4] at HCV HRES
 clear hS4 hl4
 have h4I:(4:Int) ≤ (cap:Int):=by have:=HN.out;omega
 go_enter Tryz.func40,Tryz.ntmps40
 go_upto_region 1 with fail
 rw [← show W = _ from HW]
 clear HW
 go_wp2_with fail
 refine (HTY.out _ rW).mono ?_
 rintro e w2 ⟨rfl,b2⟩
 have rW2:=rW.below b2
 go_wp2_with fail
 refine (HRM.out _ rW2).mono ?_
 rintro e w3 ⟨v3,rfl,own3,b3⟩
 have b23:=b2.trans (b3.mono b2.size)
 have kR3:=kR.below b23 kR.lt
 have rW3:=rW2.below b3
 have bw3:=bW.trans (b23.mono bW.size)
 have hcv:=HCV.out w3 rW3
 clear kR rW rW2 b2 b3 b23 bW HTY HRM HCV
 go_upto_region 10 with fail
 obtain ⟨X,hX⟩:∃ x,x = w3.alloc (Obj.cells #[.string S4,.slice none 0 0] 32):=⟨_,rfl⟩
 rw [← hX]
 obtain ⟨gM,hgM⟩:∃ g,g = w3.heap.size:=⟨_,rfl⟩
 rw [← hgM]
 have kM:Blk X gM 32 [.string S4,.slice none 0 0]:=by rw [hX,hgM];exact Blk.new _ _ _
 have b3X:Below w3.heap.size w3 X:=by rw [hX];exact below_newT _ _
 have hXs:X.heap.size = gM + 1:=by rw [hX,hgM];simp
 obtain ⟨n,hn0⟩:∃ n,n = nos.length:=⟨_,rfl⟩
 have hgRv:∃ rcap ra,v3 = .slice ra n rcap:=by
   rcases own3.2 with ⟨hv,hz⟩ | ⟨g,c,cur,hv,-⟩
   · exact ⟨0,none,by rw [hv,hn0,hz]⟩
   · exact ⟨c,_,by rw [hv,hn0]⟩
 have HRC:Hid (∀ {x:World},Below w3.heap.size w3 x → ∀ i,i < n → ∃ gR cR,v3 = .slice (some ⟨gR,0,none⟩) n cR ∧ x.cell? ⟨gR,i * 2,none⟩ = some (.int .i64 (nos.getD i 0:Nat)) ∧ x.cell? ⟨gR,i * 2 + 1,none⟩ = some (kindV (nos.getD i 0))):=by
   intro x hx i hin
   have ox:=ownR_below own3 hx
   rcases own3.2 with ⟨hv,hz⟩ | ⟨g,c,cur,hv,-⟩
   · omega
   · rw [hv] at ox
     have hlR:(rulesC nos).length = nos.length * 2:=rulesC_length nos
     have c1:=ox.cellAt (i * 2) (by omega)
     have c2:=ox.cellAt (i * 2 + 1) (by omega)
     obtain ⟨q1,q2⟩:=rulesC_at nos i (by omega)
     exact ⟨g,c,by rw [hv,hn0],by rw [c1,q1],by rw [c2,q2]⟩
 obtain ⟨rcap,ra,hv3⟩:=hgRv
 subst hv3
 have kMlt:=kM.lt
 have hg3:gM = w3.heap.size:=hgM
 have HG3:=hideT hg3
 have hN4:N ≤ 4096:=by omega
 have hn4:n ≤ 4096:=by
   have h1:nos.length ≤ 8 * (20 - 4) + 1:=hnl
   omega
 have hNc:N ≤ cap:=by have:=HN.out;omega
 have HNL:=hideT hn0
 clear hX hgM own3 hcv hn0 hg3
 go_wp2_with fail
 go_loopw [5,8,40] (fun at_ mc i wr=>∃ (k:Nat) (v:Value) (vs:List Value),k ≤ n ∧ i = .int .i64 (k:Int) ∧ at_ = .int .i64 (decAt data nos E k:Nat) ∧ mc = .int .i64 (macLI data nos E k:Nat) ∧ Hid (∀ j,j < k → fc data nos E j = 0) ∧ decAt data nos E k ≤ N ∧ Blk wr gM 32 [.string S4,v] ∧ Fs wr (gM + 1) v (decF data nos E k) vs ∧ Below w3.heap.size w3 wr) (fun _ _ i _=>n - (intOf i).toNat)
 case atStart=>exact ⟨0,_,[],Nat.zero_le _,rfl,rfl,rfl,fun j h=>absurd h (Nat.not_lt_zero j),hEN,kM,Fs.nil _ _,b3X⟩
 case round =>
   obtain ⟨k,v,vs,hk,rfl,rfl,rfl,HOK,haN,kMr,FS,hbx⟩:=hrel
   by_cases hlt:k < n
   · have hltI:(k:Int) < (n:Int):=by omega
     obtain ⟨gR,cR,e3,c1,c2⟩:=HRC.out hbx k hlt
     simp only [Value.slice.injEq] at e3
     obtain ⟨rfl,-,rfl⟩:=e3
     have hin:=HNO.out k (by have:=HNL.out;omega)
     have HDE:Hid (decAt data nos E (k + 1) = decAt data nos E k + fldE (nos.getD k 0) (data.drop (decAt data nos E k)) ∧ macLI data nos E (k + 1) = macP (nos.getD k 0) (decAt data nos E k) ∧ decF data nos E (k + 1) = decF data nos E k ++ [(nos.getD k 0,fldD (nos.getD k 0) (data.drop (decAt data nos E k)))] ∧ fc data nos E k = fldC (nos.getD k 0) (data.drop (decAt data nos E k))):=⟨rfl,rfl,decF_succ _ _ _ _,rfl⟩
     obtain ⟨mc,hmc⟩:∃ m,m = macLI data nos E k:=⟨_,rfl⟩
     obtain ⟨a,ha⟩:∃ a,a = decAt data nos E k:=⟨_,rfl⟩
     obtain ⟨no,hno⟩:∃ m,m = nos.getD k 0:=⟨_,rfl⟩
     rw [← hmc]
     rw [← ha] at haN HDE ⊢
     rw [← hno] at c1 c2 hin HDE
     have hrl:(data.drop a).length = N - a:=by have:=HN.out;rw [List.length_drop];omega
     have hfle:=fldE_le no (data.drop a)
     have HRF:=hideT (fun (oA:Nat) (wx:World) (h:RowAt wx (some ⟨b,oA,none⟩) (data.drop a))=>readField_no no hin (data.drop a) b oA (cap - a) wx (by omega) (by omega) h)
     obtain ⟨kv,hkv⟩:∃ m,m = kindV no:=⟨_,rfl⟩
     obtain ⟨fe,hfe⟩:∃ m,m = fldE no (data.drop a):=⟨_,rfl⟩
     obtain ⟨fv,hfv⟩:∃ m,m = fldC no (data.drop a):=⟨_,rfl⟩
     obtain ⟨HD,hHD⟩:∃ m,m = fldD no (data.drop a):=⟨_,rfl⟩
     rw [← hkv,← hfe,← hfv,← hHD,hrl] at HRF
     rw [← hfe,← hfv,← hHD] at HDE
     rw [← hfe,← hfv,hrl] at hfle
     rw [← hkv] at c2
     have HAE:=hideT ha
     have kv1:kv.oneCell' = true:=by rw [hkv];exact kindV_one no hin
     clear hkv hfe hfv hHD hno ha hmc hin
     obtain ⟨oA,hoA⟩:∃ oA,(cap = a ∧ oA = o) ∨ (¬ cap = a ∧ oA = o + a):=by
       by_cases h:cap = a
       · exact ⟨o,.inl ⟨h,rfl⟩⟩
       · exact ⟨o + a,.inr ⟨h,rfl⟩⟩
     have HOA:=hideT hoA
     have RA:Hid (∀ {x},Below wr.heap.size wr x → RowAt x (some ⟨b,oA,none⟩) (data.drop a)):=by
       intro x hx
       have r:=(rW3.below hbx).below hx
       rcases hoA with ⟨h1,rfl⟩ | ⟨-,rfl⟩
       · exact .inl (List.length_eq_zero_iff.1 (by omega))
       · exact RowAt.drop r a
     clear hoA
     have haI:(0:Int) ≤ (a:Int):=by omega
     have haNI:(a:Int) ≤ (N:Int):=by omega
     go_upto_region 14 with (refine store_blk rfl 118 _ _ rfl wr.heap.size rfl rfl (Blk.new wr 118 #[.int .i64 0,.nilIface]) (by kernel_rfl) rfl (two_one kv1 _) ?_;intro w4 kU g4 s4)
     obtain ⟨gU,hgU⟩:∃ g,g = wr.heap.size:=⟨_,rfl⟩
     rw [← hgU] at kU ⊢
     have b4:Below wr.heap.size wr w4:=(below_newT wr _).grown g4 (by simp) (fun k hk=>by cases hk;exact Nat.le_refl _)
     have hs4:w4.heap.size = wr.heap.size + 1:=by rw [s4];simp
     have HGU:=hideT hgU
     clear g4 s4 c1 c2 hgU
     obtain ⟨V,hV⟩:∃ V,V = World.drew w4:=⟨_,rfl⟩
     have b_0:Below wr.heap.size wr V:=by rw [hV];exact b4.drew
     have bV:Below w4.heap.size w4 V:=by rw [hV];exact (Below.refl _ _).drew
     have kUV:=kU.below bV kU.lt
     have hVs:V.heap.size = wr.heap.size + 1:=by rw [hV];exact hs4
     have keep:Hid (∀ {x},Below V.heap.size V x → Blk x gU 118 [.int .i64 (no:Int),kv]):=fun h=>kUV.below h kUV.lt
     refine wp_region_held_drew (S:=fun x=>Blk x gU 118 [.int .i64 (no:Int),kv]) (by kernel_rfl) (by rw [← hV];exact kUV) (fun hHeld=>?_)
     rw [← hV] at hHeld ⊢
     clear hV bV hs4 kU
     refine tkA (i:=0) (v:=(.pointer (some ⟨gU,1,none⟩))) rfl hHeld ?_
     try dsimp only [Act.put]
     refine tk (i:=1) (v:=kv) rfl (Or.inl ⟨by rfl,fun w1 h=>by have hc:w1.cell? ⟨gU,1,none⟩ = some kv:=h.cell 1 (by simp);go_simp⟩) hHeld ?_
     dsimp only [Act.put,List.getElem_toArray,List.getElem_cons_zero,List.getElem_cons_succ]
     simp only [List.setIfInBounds_toArray,List.set_cons_succ,List.set_cons_zero]
     refine tkA (i:=2) (v:=(.slice (some ⟨b,o,none⟩) N cap)) rfl hHeld ?_
     try dsimp only [Act.put]
     refine tkA (i:=3) (v:=(.int .i64 (a:Int))) rfl hHeld ?_
     dsimp only [Act.put,List.getElem_toArray,List.getElem_cons_zero,List.getElem_cons_succ]
     simp only [List.setIfInBounds_toArray,List.set_cons_succ,List.set_cons_zero]
     refine tk (i:=4) (v:=(.slice (some ⟨b,oA,none⟩) (N - a) (cap - a))) rfl (Or.inl ⟨by rfl,fun w1 _=>by rcases HOA.out with ⟨hx,hy⟩ | ⟨hx,hy⟩ <;> (rw [hy];go_simp)⟩) hHeld ?_
     try dsimp only [Act.put]
     refine rdy1 5 (fun K hK=>?_)
     go_simp
     refine (HRF.out _ _ (RA.out b_0)).mono ?_
     rintro e w_1 ⟨v_1,rfl,own_1,bel_1⟩
     have b_1:=bel_1
     obtain ⟨ah,ch,rfl,-,-,-,-⟩:=own_1.shape
     go_wp2_with fail
     refine hK.out _ _ (keep.out b_1) (fun hHeld=>?_)
     clear hK K
     try dsimp only [Act.put]
     refine tkA (i:=6) (v:=(.tuple #[.slice ah HD.length ch,.int .i64 (fe:Int),.int .i64 (fv:Int)])) rfl hHeld ?_
     dsimp only [Act.put,List.getElem_toArray,List.getElem_cons_zero,List.getElem_cons_succ]
     simp only [List.setIfInBounds_toArray,List.set_cons_succ,List.set_cons_zero]
     refine tkA (i:=7) (v:=(.slice ah HD.length ch)) rfl hHeld ?_
     try dsimp only [Act.put]
     refine tkA (i:=8) (v:=(.int .i64 (fe:Int))) rfl hHeld ?_
     dsimp only [Act.put,List.getElem_toArray,List.getElem_cons_zero,List.getElem_cons_succ]
     simp only [List.setIfInBounds_toArray,List.set_cons_succ,List.set_cons_zero]
     refine tkA (i:=9) (v:=(.int .i64 (fv:Int))) rfl hHeld ?_
     try dsimp only [Act.put]
     refine rdy1 10 (fun K hK=>?_)
     go_simp
     refine hK.out _ _ (keep.out b_1) (fun hHeld=>?_)
     clear hK K
     try dsimp only [Act.put]
     refine rdy1 11 (fun K hK=>?_)
     go_simp
     refine hK.out _ _ (keep.out b_1) (fun hHeld=>?_)
     clear hK K
     try dsimp only [Act.put]
     refine rdy1 12 (fun K hK=>?_)
     go_simp
     refine hK.out _ _ (keep.out b_1) (fun hHeld=>?_)
     clear hK K
     try dsimp only [Act.put]
     refine wpAnyH_done (by kernel_rfl) ?_ _
     clear hHeld
     have b1:Below wr.heap.size wr w_1:=b_0.trans (b_1.mono b_0.size)
     have kM1:=kMr.below b1 kMr.lt
     have kU1:=kUV.below b_1 kUV.lt
     have bx1:=hbx.trans (b1.mono hbx.size)
     have kR1:=kR3.below bx1 kR3.lt
     have bw1:=bw3.trans (bx1.mono bw3.size)
     have hgl:=kMr.lt
     clear kUV kMr kR3 keep bel_1 HRF RA HRC
     by_cases hfv:fv = 0
     · subst hfv
       have hfe:=hfle rfl
       have hwr:IntKind.i64.wrap ((a:Int) + (fe:Int)) = ((a + fe:Nat):Int):=by rw [IntKind.wrap_i64];omega
       obtain ⟨A2,hA2⟩:∃ x,x = a + fe:=⟨_,rfl⟩
       rw [← hA2] at hwr HDE
       have hA2N:A2 ≤ N:=by omega
       have hvl:=FS.row.lt
       have hfl:(decF data nos E k).length = k:=decF_length _ _ _ _
       have row1:=(ownR_below FS.row b1)
       rw [hfl] at row1
       have hgUe:=HGU.out
       have hneM:some gM ≠ v.ownBlock:=fun e=>by have:=(hvl gM e.symm).1;omega
       have hneU:some gU ≠ v.ownBlock:=fun e=>by have:=(hvl gU e.symm).2;omega
       have hUM:some gU ≠ some gM:=fun e=>by have e2:=Option.some.inj e;omega
       have m1:=kM1.cell 1 (by simp)
       have u0:=kU1.cell 0 (by simp)
       obtain ⟨w6,hw6⟩:∃ y,y = w_1.alloc (Obj.cells #[.int .i64 (no:Int),.slice ah HD.length ch] 29):=⟨_,rfl⟩
       have k6:Blk w6 w_1.heap.size 29 [.int .i64 (no:Int),.slice ah HD.length ch]:=by rw [hw6];exact Blk.new _ _ _
       have b6:Below w_1.heap.size w_1 w6:=by rw [hw6];exact below_newT _ _
       have hs6:w6.heap.size = w_1.heap.size + 1:=by rw [hw6];simp
       have row6:=ownR_below row1 b6
       have kM6:=kM1.below b6 kM1.lt
       have kU6:=kU1.below b6 kU1.lt
       have own6:=own_1.below b6
       have b16:=b1.trans (b6.mono b1.size)
       have bx6:=bx1.trans (b6.mono bx1.size)
       have HW6:=hideT hw6
       have HMP:=hideT (fun (wx:World)=>macPlace_any no a wx)
       have hb6:gM + 1 ≤ w6.heap.size:=by have:=b16.size;omega
       clear hA2 hfe hfle hw6 row1 kM1 kU1 b6 hgUe
       go_wp2_with (first
         | (at_builtin;(rw [← show w6 = _ from HW6];refine wpList_append_own_at _ rfl _ _ 30 rfl (gM + 1) 29 i0 (.agg #[.int .i64 0,.slice none 0 0]) 2 32 Tryz.underlying30 hi hz0 hz1 hz2 rfl (by decide) _ _ _ rfl row6 ⟨w_1.heap.size,0,none⟩ 1 1 [.int .i64 (no:Int),.slice ah HD.length ch] rfl rfl (news_of_blk k6) (by intro u hu;simp at hu;rcases hu with rfl | rfl <;> rfl) (by unfold maxLen;omega) (by omega) hb6 ?_;intro v5 w5 own5 grow5 _ hat5;obtain ⟨a5,c5,rfl⟩:=ownR_shape own5;have kM5:=kM6.grown grow5 hneM;have kU5:=kU6.grown grow5 hneU;have mf:=kM5.free 1;have m15:=kM5.cell 1 (by simp);have u05:=(kU5.grown (grown_setCellT w5 ⟨gM,1,none⟩ (.slice a5 (k + 1) c5)) hUM).cell 0 (by simp)))
         | (go_at_call 95;refine (HMP.out _).mono ?_;rintro e w8 ⟨rfl,rfl⟩))
       have h3g:=HG3.out
       have FS5:=FS.snoc (m:=V.heap.size) (w2:=w6) (x:=.slice ah HD.length ch) (p:=(no,HD)) b_0.size own6 b16 (by omega) grow5 (by rw [hfl];exact own5) (hat5.imp id (fun e=>⟨_,e,Nat.le_refl _⟩))
       have FS6:=FS5.set (a:=⟨gM,1,none⟩) (by show gM < gM + 1;omega) (.slice a5 (k + 1) c5)
       have kM7:=kM5.set 1 (.slice a5 (k + 1) c5)
       have bx5:=bx6.grown grow5 bx6.size (fun g hg=>by have:=(hvl g hg).1;omega)
       have bx7:=bx5.grown (grown_setCellT w5 ⟨gM,1,none⟩ (.slice a5 (k + 1) c5)) bx5.size (fun g hg=>by cases hg;show _ ≤ gM;omega)
       go_roundw
       case rel=>exact ⟨k + 1,_,_,by omega,by go_num,by rw [HDE.out.1],by rw [HDE.out.2.1],fun j hj=>by
         by_cases hjk:j = k
         · rw [hjk];exact HDE.out.2.2.2
         · exact HOK.out j (by omega),by rw [HDE.out.1];exact hA2N,kM7,by rw [HDE.out.2.2.1];exact FS6,bx7⟩
       case measure=>simp [intOf];omega
     · have hfvI:¬ (fv:Int) = 0:=by omega
       have hdc:=HRES.out.1 k (by have:=HNL.out;omega) HOK.out (by rw [HDE.out.2.2.2];exact hfv)
       rw [HDE.out.2.2.2,← HAE.out] at hdc
       go_wp2_with (refine store_blk rfl 97 _ _ rfl w.heap.size rfl rfl kR1 (by kernel_rfl) rfl (by kernel_rfl) ?_;intro w7 hb7 hg7 hs7)
       exact bodyPost_ret (v:=.agg [.int .i64 (fv:Int),.int .i64 (a:Int),.string ByteArray.empty,.slice none 0 0,.int .i64 0].toArray) (results_blk Tryz.results40 _ _ rfl hb7 Tryz.underlying97 rfl (by kernel_rfl)) rfl (HEND.out w_1 w7 fv a hdc.1 hfv hdc.2 bw1 hg7 hs7)
   · have hltI:¬ (k:Int) < (n:Int):=by omega
     obtain rfl:k = n:=by omega
     obtain ⟨hT1,hT2⟩:=HRES.out.2 (fun j hj=>HOK.out j (by have:=HNL.out;omega))
     rw [← HNL.out] at hT1 hT2
     have kR4:=kR3.below hbx kR3.lt
     have bw4:=bw3.trans (hbx.mono bw3.size)
     have hvl:=FS.row.lt
     obtain ⟨av,cv,rfl⟩:=ownR_shape FS.row
     obtain ⟨nv,hnv⟩:∃ m,m = (decF data nos E k).length:=⟨_,rfl⟩
     have HFS:=hideT FS
     rw [← hnv] at kMr hvl HFS
     obtain ⟨mc,hmc⟩:∃ m,m = macLI data nos E k:=⟨_,rfl⟩
     obtain ⟨a,ha⟩:∃ a,a = decAt data nos E k:=⟨_,rfl⟩
     rw [← ha] at haN hT1 hT2 ⊢
     rw [← hmc] at hT2 ⊢
     have HT1:=hideT hT1
     have HT2:=hideT hT2
     have m0:=kMr.cell 0 (by simp)
     have m1:=kMr.cell 1 (by simp)
     clear hmc ha hT1 hT2 hnv FS HRC HNO HRES
     by_cases hend:a < N
     · have hendI:(a:Int) < (N:Int):=by omega
       have HDC:=hideT (HT1.out hend)
       clear HT1 HT2
       go_wp2_with (refine store_blk rfl 97 _ _ rfl w.heap.size rfl rfl kR4 (by kernel_rfl) rfl (by kernel_rfl) ?_;intro w7 hb7 hg7 hs7)
       exact bodyPost_ret (v:=.agg [.int .i64 5,.int .i64 (a:Int),.string ByteArray.empty,.slice none 0 0,.int .i64 0].toArray) (results_blk Tryz.results40 _ _ rfl hb7 Tryz.underlying97 rfl (by kernel_rfl)) rfl (HEND.out wr w7 5 a HDC.out.1 (by decide) HDC.out.2 bw4 hg7 hs7)
     · have hendI:¬ (a:Int) < (N:Int):=by omega
       obtain ⟨d1,d2,d3,d4,d5⟩:=HT2.out hend
       have HDD:=hideT (And.intro d1 (And.intro d2 (And.intro d3 (And.intro d4 d5))))
       clear HT1 HT2 d1 d2 d3 d4 d5
       go_wp2_with (refine store_blk rfl 97 _ _ rfl w.heap.size rfl rfl kR4 (by kernel_rfl) rfl (by kernel_rfl) ?_;intro w7 hb7 hg7 hs7)
       have hg3w:w.heap.size ≤ gM + 1:=by have:=HG3.out;have:=bw3.size;omega
       have FS7:FsX w7 w.heap.size (.slice av nv cv) (dL data):=by
         rw [HDD.out.2.2.2.1]
         have F0:=HFS.out
         have hl0:=kR4.lt
         refine ⟨_,Fs.mono ⟨F0.len,World.ownsRow.kept F0.row hg7 ?_,fun i hi=>(F0.own i hi).grown hg7 ?_,F0.sep,F0.ap⟩ hg3w⟩
         · cases hb:(Value.slice av nv cv).ownBlock with
           | none=>exact .inl rfl
           | some g=>exact .inr (fun e=>by cases e;have:=(hvl _ hb).1;have:=HG3.out;have:=bw3.size;omega)
         · cases hb:(vs.getD i undef).ownBlock with
           | none=>exact .inl rfl
           | some g=>exact .inr (fun e=>by cases e;have:=(own_lt (F0.own i hi) _ hb).1;have:=HG3.out;have:=bw3.size;omega)
       have b7:=bw4.grown hg7 bw4.size (fun g hg=>by cases hg;exact Nat.le_refl _)
       exact bodyPost_ret (v:=.agg [.int .i64 0,.int .i64 0,.string S4,.slice av nv cv,.int .i64 (mc:Int)].toArray) (results_blk Tryz.results40 _ _ rfl hb7 Tryz.underlying97 rfl (by kernel_rfl)) rfl ⟨_,by rw [HDD.out.1,HDD.out.2.1,HDD.out.2.2.1,HDD.out.2.2.2.2];rfl,FS7,b7⟩
end Go.Proofs.YtbkokcjolanpeaaGreatDoor
