import Derived.Test.YtbkokcjolanpeaaGreatDoorRgAD
import Derived.Test.YtbkokcjolanpeaaGreatDoorRgAC
namespace Go.Proofs.YtbkokcjolanpeaaGreatDoor
open Go.RowKit
def Rws (w:World) (L:List (Int × List UInt8)) (vs:List Value):Prop:=∀ i,i < L.length → ∃ ai ci,vs.getD i undef = .slice ai (L.getD i (0,[])).2.length ci ∧ RowAt w ai (L.getD i (0,[])).2
theorem Rws.below {w w':World} {L:List (Int × List UInt8)} {vs:List Value} (h:Rws w L vs) (hb:Below w.heap.size w w'):Rws w' L vs:=fun i hi=>by
 obtain ⟨ai,ci,e,r⟩:=h i hi
 exact ⟨ai,ci,e,r.below hb⟩
structure Fv (w:World) (v:Value) (L:List (Int × List UInt8)) (vs:List Value):Prop where
 len:vs.length = L.length
 sh:∃ ao cap,v = .slice ao L.length cap
 at_:∀ i,i < L.length → ∃ g o cap,v = .slice (some ⟨g,o,none⟩) L.length cap ∧ w.cell? ⟨g,o + i * 2,none⟩ = some (.int .i64 (L.getD i (0,[])).1) ∧ w.cell? ⟨g,o + i * 2 + 1,none⟩ = some (vs.getD i undef)
theorem Fv.below {w w':World} {v:Value} {L:List (Int × List UInt8)} {vs:List Value} (h:Fv w v L vs) (hb:Below w.heap.size w w'):Fv w' v L vs :=
 ⟨h.len,h.sh,fun i hi=>by
   obtain ⟨g,o,cap,e,c1,c2⟩:=h.at_ i hi
   have hl:=World.block_lt_of_cell? w _ c1
   exact ⟨g,o,cap,e,(hb.cell (p:=⟨g,o + i * 2,none⟩) hl).trans c1,(hb.cell (p:=⟨g,o + i * 2 + 1,none⟩) hl).trans c2⟩⟩
theorem Fr.vals {w:World} {v:Value} {L:List (Int × List UInt8)} (h:Fr w v L):∃ vs,Fv w v L vs ∧ Rws w L vs:=by
 have each:∀ i,i < L.length → ∃ x:Value,(∃ ai ci,x = .slice ai (L.getD i (0,[])).2.length ci ∧ RowAt w ai (L.getD i (0,[])).2) ∧ ∃ g o cap,v = .slice (some ⟨g,o,none⟩) L.length cap ∧ w.cell? ⟨g,o + i * 2,none⟩ = some (.int .i64 (L.getD i (0,[])).1) ∧ w.cell? ⟨g,o + i * 2 + 1,none⟩ = some x:=by
   intro i hi
   obtain ⟨g,o,cap,ai,ci,e,c1,c2,r⟩:=h.at_ i hi
   exact ⟨_,⟨ai,ci,rfl,r⟩,g,o,cap,e,c1,c2⟩
 obtain ⟨f,hf⟩:=Go.Deep.choose_lt each
 have hg:∀ i,i < L.length → ((List.range L.length).map f).getD i undef = f i:=fun i hi=>by simp [List.getD_eq_getElem?_getD,hi]
 refine ⟨(List.range L.length).map f,⟨by simp,h.sh,fun i hi=>?_⟩,fun i hi=>?_⟩
 · rw [hg i hi];exact (hf i hi).2
 · rw [hg i hi];exact (hf i hi).1
def pairsOf (L:List (Int × List UInt8)) (vs:List Value):List (Int × Value):=(List.zip L vs).map (fun (p:(Int × List UInt8) × Value)=>(p.1.1,p.2))
theorem cellsP_pairs (L:List (Int × List UInt8)) (vs:List Value):cellsP (pairsOf L vs) = Z.fldCells L vs:=by
 unfold cellsP pairsOf Z.fldCells
 rw [List.flatMap_map]
theorem pairsOf_length (L:List (Int × List UInt8)) (vs:List Value) (h:vs.length = L.length):(pairsOf L vs).length = L.length:=by
 unfold pairsOf;simp;omega
theorem pairsOf_snd (L:List (Int × List UInt8)):∀ (vs:List Value),vs.length = L.length → ∀ i,i < L.length → ((pairsOf L vs).getD i (0,undef)).2 = vs.getD i undef:=by
 induction L with
 | nil=>intro vs _ i h;simp at h
 | cons p r ih =>
   intro vs h i hi
   cases vs with
   | nil=>simp at h
   | cons x t =>
     cases i with
     | zero=>rfl
     | succ i=>exact ih t (by simpa using h) i (by simpa using hi)
def keepF (L:List (Int × List UInt8)):List (Int × List UInt8):=L.filter (fun p=>!macNo p.1)
theorem keep_rel (w:World) (L:List (Int × List UInt8)):∀ (vs:List Value),vs.length = L.length → Rws w L vs → ∃ vs',vs'.length = (keepF L).length ∧ cellsP (keepP (pairsOf L vs)) = Z.fldCells (keepF L) vs' ∧ (keepP (pairsOf L vs)).length = (keepF L).length ∧ Rws w (keepF L) vs':=by
 induction L with
 | nil=>intro vs h _;exact ⟨[],rfl,by cases vs <;> rfl,by cases vs <;> rfl,fun i hi=>absurd hi (Nat.not_lt_zero i)⟩
 | cons p r ih =>
   intro vs h hR
   cases vs with
   | nil=>simp at h
   | cons x t =>
     obtain ⟨vs',h1,h2,h3,h4⟩:=ih t (by simpa using h) (fun i hi=>hR (i + 1) (by simpa using hi))
     have e1:keepP (pairsOf (p :: r) (x :: t)) = if macNo p.1 = true then keepP (pairsOf r t) else (p.1,x) :: keepP (pairsOf r t):=by
       show List.filter _ ((p.1,x) :: pairsOf r t) = _
       rw [List.filter_cons]
       cases macNo p.1 <;> rfl
     have e2:keepF (p :: r) = if macNo p.1 = true then keepF r else p :: keepF r:=by
       show List.filter _ (p :: r) = _
       rw [List.filter_cons]
       cases macNo p.1 <;> rfl
     rw [e1,e2]
     by_cases hm:macNo p.1 = true
     · rw [if_pos hm,if_pos hm];exact ⟨vs',h1,h2,h3,h4⟩
     · rw [if_neg hm,if_neg hm]
       refine ⟨x :: vs',by simp [h1],?_,by simp [h3],fun i hi=>?_⟩
       · rw [cellsP_cons,h2];rfl
       · cases i with
         | zero=>exact hR 0 (by simp)
         | succ i=>exact h4 i (by simpa using hi)
theorem Fv.news {w:World} {v:Value} {L:List (Int × List UInt8)} {vs:List Value} (h:Fv w v L vs) (a:Addr) (cap:Nat) (hv:v = .slice (some a) L.length cap):∀ j u,(Z.fldCells L vs)[j]? = some u → w.cell? (a.add j) = some u:=by
 intro j u hu
 have hl:=Z.fldCells_length L vs h.len
 have hj:j < L.length * 2:=by rw [← hl];exact (List.getElem?_eq_some_iff.1 hu).1
 have hj2:j / 2 < L.length:=by omega
 obtain ⟨g,o,c,e,c1,c2⟩:=h.at_ (j / 2) hj2
 rw [hv] at e
 simp only [Value.slice.injEq,Option.some.injEq] at e
 obtain ⟨rfl,-,-⟩:=e
 obtain ⟨f1,f2⟩:=Z.fldCells_at L vs h.len (j / 2) hj2
 rw [Addr.add_mid]
 by_cases hm:j % 2 = 0
 · have ej:j = j / 2 * 2:=by omega
   rw [ej,f1] at hu
   rw [ej,c1];exact hu
 · have ej:j = j / 2 * 2 + 1:=by omega
   rw [ej,f2] at hu
   rw [ej,show o + (j / 2 * 2 + 1) = o + j / 2 * 2 + 1 from by omega,c2];exact hu
theorem fld_one {w:World} {L:List (Int × List UInt8)} {vs:List Value} (hl:vs.length = L.length) (hR:Rws w L vs):∀ u ∈ Z.fldCells L vs,u.oneCell' = true:=by
 intro u hu
 obtain ⟨j,hj,rfl⟩:=List.getElem_of_mem hu
 have hlen:=Z.fldCells_length L vs hl
 have hj2:j / 2 < L.length:=by omega
 obtain ⟨f1,f2⟩:=Z.fldCells_at L vs hl (j / 2) hj2
 by_cases hm:j % 2 = 0
 · have ej:j / 2 * 2 = j:=by omega
   rw [ej,List.getElem?_eq_getElem hj] at f1
   rw [Option.some.inj f1];rfl
 · have ej:j / 2 * 2 + 1 = j:=by omega
   rw [ej,List.getElem?_eq_getElem hj] at f2
   obtain ⟨ai,ci,e,-⟩:=hR (j / 2) hj2
   rw [Option.some.inj f2,e];rfl
set_option maxRecDepth 100000 in
set_option maxHeartbeats 4000000 in
theorem cloneF_any (L:List (Int × List UInt8)) (hL:L.length ≤ 1048576) (v:Value) (vs:List Value) (w:World) (F:Fv w v L vs) (hR:Rws w L vs) :
   Calls Tryz.prog 46 #[v] w fun e w'=>(∃ v',e = .returned v' ∧ w'.ownsRow w.heap.size 29 2 v' L.length (Z.fldCells L vs)) ∧ Below w.heap.size w w':=by
 obtain ⟨i0,hi,hz0,hz1,hz2⟩:=info_parts Tryz.infoFz
 have q28:∀ (w:World) (a:Option Addr) (n c n' c':Nat),(binOp .eql 30 (.slice a n c) (.slice none n' c')).run Tryz.prog w = .ok (.bool a.isNone) w:=fun w a n c n' c'=>Lib.run_eql_slice_nil w _ _ a n c n' c' Tryz.underlying30
 obtain ⟨ao,cap,rfl⟩:=F.sh
 cases ao with
 | none =>
   have h0:L.length = 0:=by
     by_cases h:L.length = 0
     · exact h
     · obtain ⟨g,o,c,e,-⟩:=F.at_ 0 (by omega)
       simp at e
   obtain rfl:L = []:=List.length_eq_zero_iff.1 h0
   have hv:=F.len
   obtain rfl:vs = []:=List.length_eq_zero_iff.1 hv
   clear F hR h0 hv
   go_enter Tryz.func46,Tryz.ntmps46
   go_wp2_with fail
   go_ret
   exact ⟨⟨_,rfl,World.ownsRow_nil _ _ _ _⟩,Below.refl _ _⟩
 | some a =>
   have HNW:=hideT (fun (wx:World) (h:Fv wx (.slice (some a) L.length cap) L vs)=>h.news a cap rfl)
   have HON:=hideT (fld_one F.len hR)
   have HLN:=hideT (Z.fldCells_length L vs F.len)
   obtain ⟨n,hn⟩:∃ n,n = L.length:=⟨_,rfl⟩
   rw [← hn] at hL F HNW HLN ⊢
   obtain ⟨xs,hxs⟩:∃ q,q = Z.fldCells L vs:=⟨_,rfl⟩
   rw [← hxs] at HNW HON HLN ⊢
   obtain ⟨W,hW⟩:∃ y,y = w.alloc (Obj.cells #[] 29):=⟨_,rfl⟩
   have bW:Below w.heap.size w W:=by rw [hW];exact below_newT _ _
   have FW:=F.below bW
   have HFW:=hideT FW
   have rowW:W.ownsRow w.heap.size 29 2 (.slice (some ⟨w.heap.size,0,none⟩) 0 0) 0 []:=by
     refine ⟨rfl,.inr ⟨w.heap.size,0,#[],rfl,Nat.le_refl _,?_,Nat.le_refl _,Nat.zero_le _,rfl,rfl⟩⟩
     rw [hW]
     exact heap_alloc_new w _
   have HW:=hideT hW
   clear F FW hR hxs hW hn
   go_enter Tryz.func46,Tryz.ntmps46
   go_wp2_with (at_builtin;(rw [← show W = _ from HW];refine wpList_append_own_at _ rfl _ _ 30 rfl w.heap.size 29 i0 (.agg #[.int .i64 0,.slice none 0 0]) 2 32 Tryz.underlying30 hi hz0 hz1 hz2 rfl (by decide) _ _ _ rfl rowW a n cap xs rfl HLN.out (HNW.out _ HFW.out) HON.out (by unfold maxLen;omega) (by omega) bW.size ?_;intro v5 w5 own5 gr5 _ _))
   go_ret
   rw [Nat.zero_add,List.nil_append] at own5
   exact ⟨⟨_,rfl,own5⟩,bW.grown gr5 bW.size (fun q hq=>by cases hq;exact Nat.le_refl _)⟩
theorem fvPairs {L:List (Int × List UInt8)} {vs:List Value} {w:World} (hl:vs.length = L.length) (hR:Rws w L vs):∀ j,j < (pairsOf L vs).length → ∃ ai l ci,((pairsOf L vs).getD j (0,undef)).2 = .slice ai l ci:=by
 intro j hj
 rw [pairsOf_length L vs hl] at hj
 obtain ⟨ai,ci,e,-⟩:=hR j hj
 exact ⟨ai,_,ci,(pairsOf_snd L vs hl j hj).trans e⟩
set_option maxRecDepth 100000 in
set_option maxHeartbeats 4000000 in
theorem without_any (L:List (Int × List UInt8)) (hL:L.length ≤ 1048576) (v:Value) (gN:Nat) (w:World) (F:Fr w v L) (c0:w.cell? ⟨gN,0,none⟩ = some (.int .i64 64)) (c1:w.cell? ⟨gN,1,none⟩ = some (.int .i64 128)) :
   Calls Tryz.prog 18 #[v,.slice (some ⟨gN,0,none⟩) 2 2] w fun e w'=>(∃ v' vs',e = .returned v' ∧ w'.ownsRow w.heap.size 29 2 v' (keepF L).length (Z.fldCells (keepF L) vs') ∧ vs'.length = (keepF L).length ∧ Rws w (keepF L) vs') ∧ Below w.heap.size w w':=by
 obtain ⟨vs,FV,hR⟩:=F.vals
 obtain ⟨vs',k1,k2,k3,k4⟩:=keep_rel w L vs FV.len hR
 obtain ⟨W,hW⟩:∃ y,y = w.alloc (Obj.cells #[.slice (some ⟨gN,0,none⟩) 2 2] 42):=⟨_,rfl⟩
 have kW:Blk W w.heap.size 42 [.slice (some ⟨gN,0,none⟩) 2 2]:=by rw [hW];exact Blk.new _ _ _
 have bW:Below w.heap.size w W:=by rw [hW];exact below_newT _ _
 have HCL:=hideT (cloneF_any L hL v vs W (FV.below bW) (hR.below bW))
 have ln:=World.block_lt_of_cell? w _ c0
 have d0:W.cell? ⟨gN,0,none⟩ = some (.int .i64 64):=(bW.cell (p:=⟨gN,0,none⟩) ln).trans c0
 have d1:W.cell? ⟨gN,1,none⟩ = some (.int .i64 128):=(bW.cell (p:=⟨gN,1,none⟩) ln).trans c1
 have HPL:=hideT (pairsOf_length L vs FV.len)
 have HDE:=hideT (fun (v1:Value) (wx:World) row hlo hgb hgN cb e0 e1=>deleteF_any (pairsOf L vs) (by rw [pairsOf_length L vs FV.len];exact hL) (fvPairs FV.len hR) v1 W.heap.size w.heap.size gN wx row hlo hgb hgN cb e0 e1)
 rw [HPL.out,cellsP_pairs] at HDE
 rw [k2,k3] at HDE
 have HD0:=hideT (And.intro d0 d1)
 have HW:=hideT hW
 have HKK:=hideT (And.intro k1 k4)
 have lnW:gN < W.heap.size:=Nat.lt_of_lt_of_le ln bW.size
 have lbW:=kW.lt
 clear hW c0 c1 d0 d1 k1 k2 k3 k4 F FV hR HPL
 go_enter Tryz.func18,Tryz.ntmps18
 go_upto_region 1 with fail
 rw [← show W = _ from HW]
 clear HW
 go_wp2_with fail
 refine HCL.out.mono ?_
 rintro e w1 ⟨⟨v1,rfl,row1⟩,b1⟩
 have cb:=(kW.below b1 kW.lt).cell 0 (by simp)
 have e0:=(b1.cell (p:=⟨gN,0,none⟩) lnW).trans HD0.out.1
 have e1:=(b1.cell (p:=⟨gN,1,none⟩) lnW).trans HD0.out.2
 have HCC:=hideT (HDE.out v1 w1 row1 b1.size lbW lnW cb e0 e1)
 clear HCL HDE row1 cb e0 e1
 go_wp2_with fail
 refine HCC.out.mono ?_
 rintro e w2 ⟨⟨v2,rfl,row2⟩,b2⟩
 go_wp2_with fail
 go_ret
 exact ⟨⟨_,vs',rfl,ownR_mono row2 bW.size,HKK.out.1,HKK.out.2⟩,bW.trans ((b1.trans b2).mono bW.size)⟩
def okE (s:ByteArray) (L:List (Int × List UInt8)):Bool:=decide (s.size = 4) && digs s && (decide (L.length ≤ 20) && okL L)
def nbE (L:List (Int × List UInt8)):Nat:=if 64 < bef L L.length then 128 else 64
def bitsE (L:List (Int × List UInt8)):Nat → List UInt8
 | 0=>if 64 < bef L L.length then (List.replicate 128 0).set 0 1 else List.replicate 64 0
 | i + 1=>(bitsE L i).set ((L.getD i (0,[])).1.toNat - 1) 1
def restE (L:List (Int × List UInt8)):Nat → List UInt8
 | 0=>[]
 | i + 1=>restE L i ++ (padL (kpD (L.getD i (0,[])).1.toNat) (L.getD i (0,[])).2.length ++ (L.getD i (0,[])).2)
def encLI (s:ByteArray) (L:List (Int × List UInt8)):List UInt8:=if okE s L = true then s.data.toList ++ unbitsL (bitsE L L.length) ++ restE L L.length else []
theorem bitsE_length (L:List (Int × List UInt8)):∀ i,(bitsE L i).length = nbE L
 | 0=>by unfold bitsE nbE;split <;> simp
 | i + 1=>by show ((bitsE L i).set _ _).length = _;rw [List.length_set,bitsE_length L i]
theorem okL_at {L:List (Int × List UInt8)} (h:okL L = true) (i:Nat) (hi:i < L.length):bef L i < (L.getD i (0,[])).1 ∧ 0 ≤ (L.getD i (0,[])).1 ∧ (L.getD i (0,[])).1.toNat ∈ tabNos ∧ fitsN (kpL (L.getD i (0,[])).1.toNat) (kpM (L.getD i (0,[])).1.toNat) (kpOk (L.getD i (0,[])).1.toNat) (L.getD i (0,[])).2 = true:=by
 unfold okL at h
 rw [List.all_eq_true] at h
 have h1:=h i (List.mem_range.2 hi)
 unfold okF fitZ inZ at h1
 rw [Bool.and_eq_true,Bool.and_eq_true,Bool.and_eq_true,decide_eq_true_eq,decide_eq_true_eq,decide_eq_true_eq] at h1
 exact ⟨h1.1,h1.2.1.1,h1.2.1.2,h1.2.2⟩
theorem tab_le (n:Nat) (h:n ∈ tabNos):2 ≤ n ∧ n ≤ 128:=by
 simp only [tabNos,List.mem_cons,List.not_mem_nil,or_false] at h
 omega
theorem bef_last {L:List (Int × List UInt8)} (h:okL L = true):∀ k i,i < L.length → L.length = i + 1 + k → (L.getD i (0,[])).1 ≤ bef L L.length
 | 0,i,hi,e=>by rw [e];exact Int.le_refl _
 | k + 1,i,hi,e=>by
   have h1:=(okL_at h (i + 1) (by omega)).1
   have h2:=bef_last h k (i + 1) (by omega) (by omega)
   show (L.getD i (0,[])).1 ≤ _
   have h3:bef L (i + 1) = (L.getD i (0,[])).1:=rfl
   omega
theorem no_nb {L:List (Int × List UInt8)} (h:okL L = true) (i:Nat) (hi:i < L.length):(L.getD i (0,[])).1.toNat - 1 < nbE L:=by
 obtain ⟨h1,h2,h3,-⟩:=okL_at h i hi
 have h4:=tab_le _ h3
 have h5:=bef_last h (L.length - i - 1) i hi (by omega)
 unfold nbE
 split <;> omega
theorem row_of_blk0 {w:World} {g:Nat} {l:List UInt8} (h:Blk w g 5 (l.map byte)):RowAt w (some ⟨g,0,none⟩) l:=by
 refine .inr ⟨g,0,rfl,fun i hi=>?_⟩
 rw [Nat.zero_add,h.cell i (by simpa using hi)]
 simp [byte,hi]
theorem kpD_le (n:Nat):kpD n ≤ 3:=by
 unfold kpD
 split
 · omega
 · split <;> omega
theorem getD_le {L:List (Int × List UInt8)} (hsz:∀ p ∈ L,p.2.length ≤ 1048576) (i:Nat):(L.getD i (0,[])).2.length ≤ 1048576:=by
 by_cases h:i < L.length
 · rw [List.getD_eq_getElem?_getD,List.getElem?_eq_getElem h];exact hsz _ (List.getElem_mem h)
 · rw [List.getD_eq_getElem?_getD,List.getElem?_eq_none (by omega)];exact Nat.zero_le _
theorem bitsE_bits (L:List (Int × List UInt8)):∀ i,isBits (bitsE L i)
 | 0=>by
   unfold bitsE
   split
   · intro b hb
     rcases List.mem_or_eq_of_mem_set hb with h | rfl
     · rw [List.eq_of_mem_replicate h];decide
     · decide
   · intro b hb;rw [List.eq_of_mem_replicate hb];decide
 | i + 1=>by
   intro b hb
   rcases List.mem_or_eq_of_mem_set hb with h | rfl
   · exact bitsE_bits L i b h
   · decide
def SrcN (w:World) (v:Value) (bs:List UInt8):Prop:=∃ ao c,v = .slice ao bs.length c ∧ RowAt w ao bs
set_option maxRecDepth 100000 in
set_option maxHeartbeats 1000000 in
theorem concatN_any (vs:List Value) (bss:List (List UInt8)) (g off cap m:Nat) (w:World) (hm:vs.length = m) (hm2:bss.length = m) (hm3:m ≤ 1048576) (ht:bss.flatten.length ≤ 1048576) (hv:w.rangeAt g off vs) (hs:∀ k,k < m → SrcN w (vs.getD k undef) (bss.getD k [])) :
   Calls Tryz.prog 23 #[.slice (some ⟨g,off,none⟩) m cap] w fun e w'=>∃ v,e = .returned v ∧ OwnB w' w.heap.size v bss.flatten ∧ Below w.heap.size w w':=by
 obtain ⟨i0,hi,hz0,hz1,hz2⟩:=info_parts Tryz.info5
 have hcell:∀ k,k < m → w.cell? ⟨g,off + k,none⟩ = some (vs.getD k undef):=fun k hk=>hv k _ (by simp [show k < vs.length from by omega])
 go_enter Tryz.func23,Tryz.ntmps23
 go_wp2
 go_loop [3,5,11] (fun s _ i=>∃ k:Nat,k ≤ m ∧ i = .int .i64 k ∧ s = .int .i64 ((bss.take k).flatten.length:Nat)) (fun _ _ i=>m - (intOf i).toNat)
 case atStart=>exact ⟨0,Nat.zero_le _,rfl,by simp⟩
 case round =>
   obtain ⟨k,hk,rfl,rfl⟩:=hrel
   by_cases hlt:k < m
   · obtain ⟨ao,c,hvk,hrow⟩:=hs k hlt
     have hck:=hcell k hlt
     rw [hvk] at hck
     have HF:Hid ((bss.take (k + 1)).flatten.length = (bss.take k).flatten.length + (bss.getD k []).length):=by show _ = _;rw [flat_snoc bss k (by omega),List.length_append]
     have hF1:=flat_le bss (k + 1)
     rw [HF.out] at hF1
     obtain ⟨s,hs1⟩:∃ s,s = (bss.take k).flatten.length:=⟨_,rfl⟩
     obtain ⟨l,hl1⟩:∃ l,l = (bss.getD k []).length:=⟨_,rfl⟩
     rw [← hs1,← hl1] at hF1
     rw [← hs1]
     rw [← hl1] at hck
     have hkI:(k:Int) < (m:Int):=by omega
     have hsl:¬ ((s:Int) + (l:Int) < 0):=by omega
     have HF2:Hid ((bss.take (k + 1)).flatten.length = s + l):=by show _ = _;rw [HF.out,hs1,hl1]
     clear hs hcell hv HF hs1 hl1 hvk hrow
     go_wp2
     go_round
     case rel=>exact ⟨k + 1,by omega,by go_num,by rw [HF2.out];go_num⟩
     case measure=>simp [intOf];omega
   · rw [show (bss.take k).flatten = bss.flatten from by rw [List.take_of_length_le (by omega)]]
     obtain ⟨N,hN⟩:∃ N,N = bss.flatten.length:=⟨_,rfl⟩
     rw [← hN] at ht ⊢
     have HC:Hid (∀ k,k < m → w.cell? ⟨g,off + k,none⟩ = some (vs.getD k undef)):=hcell
     have HV:Hid (∀ k,k < m → SrcN w (vs.getD k undef) (bss.getD k [])):=hs
     have HN:Hid (N = bss.flatten.length):=hN
     have hge:¬ ((k:Int) < (m:Int)):=by omega
     clear hcell hs hv hN
     go_wp2_with fail
     refine (grow_any N _ ht).mono ?_
     rintro e w1 ⟨v1,rfl,own1,bel1⟩
     go_wp2_with fail
     go_loopw [6,8,27] (fun v _ i wr=>∃ k:Nat,k ≤ m ∧ i = .int .i64 k ∧ OwnB wr w.heap.size v (bss.take k).flatten ∧ Below w.heap.size w wr) (fun _ _ i _=>m - (intOf i).toNat)
     case atStart=>exact ⟨0,Nat.zero_le _,rfl,by simpa using own1,bel1⟩
     case round =>
       clear own1 bel1
       obtain ⟨q,hq,rfl,hown,hbel⟩:=hrel
       by_cases hql:q < m
       · obtain ⟨ao,c,hvk,hrow0⟩:=HV.out q hql
         have hck:wr.cell? ⟨g,off + q,none⟩ = some (vs.getD q undef):=(hbel.cell (p:=⟨g,off + q,none⟩) (World.block_lt_of_cell? w _ (HC.out q hql))).trans (HC.out q hql)
         rw [hvk] at hck
         have HF:Hid ((bss.take (q + 1)).flatten = (bss.take q).flatten ++ bss.getD q []):=flat_snoc bss q (by omega)
         have hF1:=flat_le bss (q + 1)
         rw [HF.out,List.length_append,← HN.out] at hF1
         have hrow:=hrow0.below hbel
         obtain ⟨L,hL⟩:∃ L,L = (bss.take q).flatten:=⟨_,rfl⟩
         obtain ⟨X,hX⟩:∃ X,X = bss.getD q []:=⟨_,rfl⟩
         have HF2:Hid ((bss.take (q + 1)).flatten = L ++ X):=by show _ = _;rw [HF.out,hL,hX]
         rw [← hL] at hown hF1
         rw [← hX] at hck hrow hF1
         have hqI:(q:Int) < (m:Int):=by omega
         have hsz:=hbel.size
         clear hvk hrow0 hL hX HF
         go_wp2_with (at_builtin;refine wpList_append_bytes rfl _ _ rfl w.heap.size _ _ X rfl hown ao c rfl hrow (by omega) hsz ?_;intro v1 w1 hown1 hgrow1)
         have hown2:OwnB w1 w.heap.size v1 (bss.take (q + 1)).flatten:=by
           rw [HF2.out];exact hown1
         have hbel2:=hbel.grown hgrow1 hsz (fun j hj=>(hown.lt j hj).1)
         clear hown1 hown hbel hgrow1 hck hrow
         go_wp2
         go_roundw
         case rel=>exact ⟨q + 1,by omega,by go_num,hown2,hbel2⟩
         case measure=>simp [intOf];omega
       · rw [show (bss.take q).flatten = bss.flatten from by rw [List.take_of_length_le (by omega)]] at hown
         go_wp2
         go_ret
         exact ⟨_,rfl,hown,hbel⟩
theorem val_set8:∀ (b0 b1 b2 b3 b4 b5 b6 b7:Fin 2) (r:Fin 8),valN (([b0,b1,b2,b3,b4,b5,b6,b7].map (fun b=>UInt8.ofNat b.val)).set r.val 1) = valN ([b0,b1,b2,b3,b4,b5,b6,b7].map (fun b=>UInt8.ofNat b.val)) ||| 2 ^ (7 - r.val):=by decide +kernel
theorem bit_fin (b:UInt8) (h:b.toNat ≤ 1):∃ f:Fin 2,b = UInt8.ofNat f.val:=by
 refine ⟨⟨b.toNat,by omega⟩,?_⟩
 simp
theorem val_set (S:List UInt8) (hS:isBits S) (hl:S.length = 8) (r:Nat) (hr:r < 8):valN (S.set r 1) = valN S ||| 2 ^ (7 - r):=by
 match S,hl with
 | [a0,a1,a2,a3,a4,a5,a6,a7],_ =>
   obtain ⟨f0,rfl⟩:=bit_fin a0 (hS a0 (by simp))
   obtain ⟨f1,rfl⟩:=bit_fin a1 (hS a1 (by simp))
   obtain ⟨f2,rfl⟩:=bit_fin a2 (hS a2 (by simp))
   obtain ⟨f3,rfl⟩:=bit_fin a3 (hS a3 (by simp))
   obtain ⟨f4,rfl⟩:=bit_fin a4 (hS a4 (by simp))
   obtain ⟨f5,rfl⟩:=bit_fin a5 (hS a5 (by simp))
   obtain ⟨f6,rfl⟩:=bit_fin a6 (hS a6 (by simp))
   obtain ⟨f7,rfl⟩:=bit_fin a7 (hS a7 (by simp))
   exact val_set8 f0 f1 f2 f3 f4 f5 f6 f7 ⟨r,hr⟩
theorem seg_all (l:List UInt8) (j:Nat):seg l l.length j = (l.drop (8 * j)).take 8:=by unfold seg;rw [List.take_length]
theorem unbits_get (l:List UInt8) (j:Nat) (hj:j < l.length / 8):(unbitsL l)[j]'(by unfold unbitsL;rw [cellsU_length];exact hj) = UInt8.ofNat (valN ((l.drop (8 * j)).take 8)):=by
 unfold unbitsL cellsU cellU
 simp [seg_all]
theorem unbits_length (l:List UInt8):(unbitsL l).length = l.length / 8:=by unfold unbitsL;rw [cellsU_length]
theorem setLI_get (l:List UInt8) (k j:Nat) (h:j < l.length):(setLI l k)[j]'(by rw [setLI_length];exact h) = if k / 8 = j then UInt8.ofNat ((l.getD (k / 8) 0).toNat ||| 2 ^ (7 - k % 8)) else l[j]:=by
 simp only [setLI,List.getElem_set]
theorem unbits_set (X:List UInt8) (hX:isBits X) (h8:X.length % 8 = 0) (k:Nat) (hk:k < X.length):unbitsL (X.set k 1) = setLI (unbitsL X) k:=by
 have hb:isBits (X.set k 1):=by
   intro b hb
   rcases List.mem_or_eq_of_mem_set hb with h | rfl
   · exact hX b h
   · decide
 have hkj:k / 8 < X.length / 8:=by omega
 apply List.ext_getElem
 · rw [unbits_length,setLI_length,unbits_length,List.length_set]
 · intro j h1 h2
   rw [unbits_length,List.length_set] at h1
   rw [unbits_get _ _ (by rw [List.length_set];exact h1)]
   rw [setLI_get _ _ _ (by rw [unbits_length];exact h1)]
   by_cases hj:k / 8 = j
   · rw [if_pos hj]
     subst hj
     have hd:((X.set k 1).drop (8 * (k / 8))).take 8 = ((X.drop (8 * (k / 8))).take 8).set (k % 8) 1:=by
       rw [List.drop_set,if_neg (by omega),List.take_set]
       congr 1
       omega
     have hS:isBits ((X.drop (8 * (k / 8))).take 8):=fun b hb=>hX b (List.mem_of_mem_drop (List.mem_of_mem_take hb))
     have hSl:((X.drop (8 * (k / 8))).take 8).length = 8:=by rw [List.length_take,List.length_drop];omega
     rw [hd,val_set _ hS hSl _ (Nat.mod_lt _ (by omega))]
     have hlt:=valN_lt _ hS
     rw [hSl] at hlt
     have hg:((unbitsL X).getD (k / 8) 0).toNat = valN ((X.drop (8 * (k / 8))).take 8):=by
       rw [List.getD_eq_getElem?_getD,List.getElem?_eq_getElem (by rw [unbits_length];exact hkj),Option.getD_some,unbits_get _ _ hkj,UInt8.toNat_ofNat']
       exact Nat.mod_eq_of_lt hlt
     rw [hg]
   · rw [if_neg hj,unbits_get _ _ h1]
     congr 2
     rw [List.drop_set]
     split
     · rfl
     · rw [List.take_set_of_le (by omega)]
def bmE (L:List (Int × List UInt8)):Nat → List UInt8
 | 0=>List.replicate 16 0
 | i + 1=>setLI (bmE L i) ((L.getD i (0,[])).1.toNat - 1)
theorem bmE_length (L:List (Int × List UInt8)):∀ i,(bmE L i).length = 16
 | 0=>rfl
 | i + 1=>by show (setLI _ _).length = 16;rw [setLI_length,bmE_length L i]
def mapsE (L:List (Int × List UInt8)):List UInt8:=if 64 < bef L L.length then setLI (bmE L L.length) 0 else (bmE L L.length).take 8
theorem setL_take (l:List UInt8) (k:Nat) (hk:k < 64):setLI (l.take 8) k = (setLI l k).take 8:=by
 unfold setLI
 rw [List.take_set]
 congr 4
 rw [List.getD_eq_getElem?_getD,List.getD_eq_getElem?_getD,List.getElem?_take,if_pos (by omega)]
theorem u8_or (x:UInt8) (a b:Nat) (ha:a < 256) (hb:b < 256):UInt8.ofNat ((UInt8.ofNat (x.toNat ||| a)).toNat ||| b) = UInt8.ofNat ((UInt8.ofNat (x.toNat ||| b)).toNat ||| a):=by
 have hx:=UInt8.toNat_lt x
 have h1:x.toNat ||| a < 2 ^ 8:=Nat.or_lt_two_pow hx ha
 have h2:x.toNat ||| b < 2 ^ 8:=Nat.or_lt_two_pow hx hb
 rw [UInt8.toNat_ofNat',UInt8.toNat_ofNat',Nat.mod_eq_of_lt h1,Nat.mod_eq_of_lt h2,Nat.or_assoc,Nat.or_assoc,Nat.or_comm a b]
theorem pow7 (k:Nat):2 ^ (7 - k % 8) < 256:=by
 have h:7 - k % 8 ≤ 7:=by omega
 exact Nat.lt_of_le_of_lt (Nat.pow_le_pow_right (by omega) h) (by decide)
theorem setL_comm (l:List UInt8) (j k:Nat) (hk:k / 8 < l.length):setLI (setLI l j) k = setLI (setLI l k) j:=by
 by_cases h:j / 8 = k / 8
 · unfold setLI
   rw [h,List.set_set,List.set_set]
   congr 1
   rw [List.getD_eq_getElem?_getD,List.getD_eq_getElem?_getD (l:=l.set _ _),List.getElem?_set_self hk,List.getElem?_set_self hk,Option.getD_some,Option.getD_some]
   exact u8_or _ _ _ (pow7 j) (pow7 k)
 · unfold setLI
   rw [List.set_comm _ _ h]
   congr 1
   · congr 1
     rw [List.getD_eq_getElem?_getD,List.getD_eq_getElem?_getD,List.getElem?_set_ne h,List.getD_eq_getElem?_getD]
   · rw [List.getD_eq_getElem?_getD,List.getD_eq_getElem?_getD,List.getElem?_set_ne (fun e=>h e.symm)]
theorem nb_mod (L:List (Int × List UInt8)) (i:Nat):(bitsE L i).length % 8 = 0:=by rw [bitsE_length];unfold nbE;split <;> rfl
theorem maps_low (L:List (Int × List UInt8)) (h:okL L = true) (h64:¬ 64 < bef L L.length):∀ i,i ≤ L.length → unbitsL (bitsE L i) = (bmE L i).take 8
 | 0,_=>by unfold bitsE bmE;rw [if_neg h64];decide +kernel
 | i + 1,hi=>by
   have hn:=no_nb h i (by omega)
   have hn2:nbE L = 64:=by unfold nbE;rw [if_neg h64]
   show unbitsL ((bitsE L i).set _ 1) = (setLI (bmE L i) _).take 8
   rw [unbits_set _ (bitsE_bits L i) (nb_mod L i) _ (by rw [bitsE_length];exact hn),maps_low L h h64 i (by omega),setL_take _ _ (by omega)]
theorem maps_high (L:List (Int × List UInt8)) (h:okL L = true) (h64:64 < bef L L.length):∀ i,i ≤ L.length → unbitsL (bitsE L i) = setLI (bmE L i) 0
 | 0,_=>by unfold bitsE bmE;rw [if_pos h64];decide +kernel
 | i + 1,hi=>by
   have hn:=no_nb h i (by omega)
   have hn2:nbE L = 128:=by unfold nbE;rw [if_pos h64]
   show unbitsL ((bitsE L i).set _ 1) = setLI (setLI (bmE L i) _) 0
   rw [unbits_set _ (bitsE_bits L i) (nb_mod L i) _ (by rw [bitsE_length];exact hn),maps_high L h h64 i (by omega),setL_comm _ _ _ (by rw [bmE_length];omega)]
theorem maps_eq (L:List (Int × List UInt8)) (h:okL L = true):unbitsL (bitsE L L.length) = mapsE L:=by
 unfold mapsE
 split
 · rename_i h64;exact maps_high L h h64 _ (Nat.le_refl _)
 · rename_i h64;exact maps_low L h h64 _ (Nat.le_refl _)
theorem tab_mono:∀ a ∈ tabNos,∀ b ∈ tabNos,a < b → tabNos.idxOf a < tabNos.idxOf b:=by decide
theorem rank_le {L:List (Int × List UInt8)} (h:okL L = true):∀ i,i < L.length → i ≤ tabNos.idxOf (L.getD i (0,[])).1.toNat
 | 0,_=>Nat.zero_le _
 | i + 1,hi=>by
   have h1:=okL_at h (i + 1) hi
   have h2:=okL_at h i (by omega)
   have h3:(L.getD i (0,[])).1 < (L.getD (i + 1) (0,[])).1:=h1.1
   have h4:=tab_mono _ h2.2.2.1 _ h1.2.2.1 (by omega)
   have h5:=rank_le h i (by omega)
   omega
theorem okL_len {L:List (Int × List UInt8)} (h:okL L = true):L.length ≤ 14:=by
 by_cases h0:L.length = 0
 · omega
 · have h1:=rank_le h (L.length - 1) (by omega)
   have h2:=(tab_ix _ (okL_at h (L.length - 1) (by omega)).2.2.1).1
   omega
theorem kpM_le:∀ n ∈ tabNos,kpM n ≤ 200:=by decide
theorem fits_len {l m:Nat} {ok:UInt8 → Bool} {d:List UInt8} (h:fitsN l m ok d = true):d.length ≤ m:=by
 unfold fitsN at h
 simp at h
 omega
theorem okF_len {b:Int} {p:Int × List UInt8} (h:okF b p = true):p.2.length ≤ 200:=by
 unfold okF fitZ inZ at h
 rw [Bool.and_eq_true,Bool.and_eq_true,Bool.and_eq_true,decide_eq_true_eq,decide_eq_true_eq,decide_eq_true_eq] at h
 exact Nat.le_trans (fits_len h.2.2) (kpM_le _ h.2.1.2)
theorem restE_small (L:List (Int × List UInt8)):∀ k,(∀ j,j < k → okF (bef L j) (L.getD j (0,[])) = true) → (restE L k).length ≤ k * 203
 | 0,_=>Nat.le_refl _
 | i + 1,h=>by
   show (restE L i ++ (padL _ _ ++ _)).length ≤ _
   rw [List.length_append,List.length_append,padL_length]
   have h1:=restE_small L i (fun j hj=>h j (by omega))
   have h2:=okF_len (h i (by omega))
   have h3:=kpD_le (L.getD i (0,[])).1.toNat
   omega
theorem encL_bad (s:ByteArray) (L:List (Int × List UInt8)) (h:(decide (s.size = 4) && digs s) = false ∨ okL L = false):encLI s L = []:=by
 unfold encLI okE
 rw [if_neg]
 rcases h with h | h
 · rw [h];simp
 · rw [h];simp
theorem encL_good (s:ByteArray) (L:List (Int × List UInt8)) (h1:(decide (s.size = 4) && digs s) = true) (h2:okL L = true):encLI s L = s.data.toList ++ mapsE L ++ restE L L.length:=by
 unfold encLI okE
 have:=okL_len h2
 rw [if_pos (by rw [h1,h2,decide_eq_true (by omega)];rfl),maps_eq L h2]
end Go.Proofs.YtbkokcjolanpeaaGreatDoor
