import Derived.Test.YtbkokcjolanpeaaGreatDoorRgAH
namespace Go.Proofs.YtbkokcjolanpeaaGreatDoor
open Go.RowKit
set_option maxHeartbeats 1000000 in
theorem place1_any (n no:Int) (x:Value) (gn:Nat) (w:World) (cn:w.cell? ⟨gn,0,none⟩ = some (.int .i64 n)) :
   Calls Tryz.prog 197 #[.agg #[.int .i64 no,x],.pointer (some ⟨gn,0,none⟩)] w fun e w'=>e = .returned (.bool (no == n)) ∧ Below w.heap.size w w':=by
 obtain ⟨W,hW⟩:∃ y,y = w.alloc (Obj.cells #[.int .i64 no,x] 29):=⟨_,rfl⟩
 have bW:Below w.heap.size w W:=by rw [hW];exact below_newT _ _
 have ln:=World.block_lt_of_cell? w _ cn
 have cW:W.cell? ⟨gn,0,none⟩ = some (.int .i64 n):=(bW.cell (p:=⟨gn,0,none⟩) ln).trans cn
 have kW:Blk W w.heap.size 29 [.int .i64 no,x]:=by rw [hW];exact Blk.new _ _ _
 have kc:=kW.cell 0 (by simp)
 have HW:=hideT hW
 clear hW cn kW
 go_enter Tryz.func197,Tryz.ntmps197
 go_upto_region 1 with fail
 rw [← show W = _ from HW]
 go_wp2_with fail
 go_ret
 exact ⟨rfl,bW⟩
set_option maxRecDepth 100000 in
set_option maxHeartbeats 2000000 in
theorem indexP_any (n0:Int) (Q:List (Int × Value)) (hQ:Q.length ≤ 1048576) (a:Option Addr) (cap:Nat) (w:World) (hP:PAt2 w a Q) (gb:Nat) (cb:w.cell? ⟨gb,0,none⟩ = some (.int .i64 n0)) :
   Calls Tryz.prog 49 #[.slice a Q.length cap,.func (Fn.func 197) #[] #[.pointer (some ⟨gb,0,none⟩)]] w fun e w'=>(∃ r,e = .returned (.int .i64 r) ∧ IxR (fun no=>no == n0) Q r) ∧ Below w.heap.size w w':=by
 obtain ⟨n,hn⟩:∃ n,n = Q.length:=⟨_,rfl⟩
 have HN:=hideT hn
 rw [← hn] at hQ ⊢
 have HP:=hideT hP
 have HCB:=hideT cb
 have lb:=World.block_lt_of_cell? w _ cb
 clear cb
 clear hn hP
 go_enter Tryz.func49,Tryz.ntmps49
 go_wp2_with fail
 go_loopw [8] (fun i wr=>∃ k:Nat,k ≤ n ∧ i = .int .i64 (k:Int) ∧ Hid (∀ j,j < k → ((Q.getD j (0,undef)).1 == n0) = false) ∧ Below w.heap.size w wr) (fun i _=>n - (intOf i).toNat)
 case atStart=>exact ⟨0,Nat.zero_le _,rfl,fun j h=>absurd h (Nat.not_lt_zero j),Below.refl _ _⟩
 case round =>
   obtain ⟨k,hk,rfl,HJ,hbel⟩:=hrel
   by_cases hlt:k < n
   · have hltI:(k:Int) < (n:Int):=by omega
     have hkQ:k < Q.length:=by rw [← HN.out];exact hlt
     obtain ⟨g,o,rfl,c1w,c2w⟩:=HP.out k hkQ
     have hlw:=World.block_lt_of_cell? w _ c1w
     have c1:=(hbel.cell (p:=⟨g,o + k * 2,none⟩) hlw).trans c1w
     have c2:=(hbel.cell (p:=⟨g,o + k * 2 + 1,none⟩) hlw).trans c2w
     obtain ⟨no,hno⟩:∃ m,m = (Q.getD k (0,undef)).1:=⟨_,rfl⟩
     obtain ⟨x,hx⟩:∃ m,m = (Q.getD k (0,undef)).2:=⟨_,rfl⟩
     rw [← hno] at c1
     rw [← hx] at c2
     have HNO:=hideT hno
     have HCL:=hideT (place1_any n0 no x gb wr ((hbel.cell (p:=⟨gb,0,none⟩) lb).trans HCB.out))
     obtain ⟨pb,hpb⟩:∃ m,m = (no == n0):=⟨_,rfl⟩
     rw [← hpb] at HCL
     have HPB:=hideT hpb
     clear hno hx hpb c1w c2w hlw
     cases pb
     · go_wp2_with (go_at_call 197;refine HCL.out.mono ?_;rintro e w2 ⟨rfl,b2⟩;have hb2:=hbel.trans (b2.mono hbel.size);clear b2)
       go_roundw
       case rel=>exact ⟨k + 1,by omega,by go_num,fun j hj=>by
         by_cases hjk:j = k
         · rw [hjk,← HNO.out,← HPB.out]
         · exact HJ.out j (by omega),hb2⟩
       case measure=>simp [intOf];omega
     · go_wp2_with (go_at_call 197;refine HCL.out.mono ?_;rintro e w2 ⟨rfl,b2⟩;have hb2:=hbel.trans (b2.mono hbel.size);clear b2)
       go_ret
       exact ⟨⟨_,rfl,.inr ⟨k,hkQ,rfl,HJ.out,by rw [← HNO.out];exact HPB.out.symm⟩⟩,hb2⟩
   · have hltI:¬ (k:Int) < (n:Int):=by omega
     go_wp2_with fail
     go_ret
     exact ⟨⟨_,rfl,.inl ⟨rfl,fun j hj=>HJ.out j (by rw [← HN.out] at hj;omega)⟩⟩,hbel⟩
theorem pairsOf_fst (L:List (Int × List UInt8)):∀ (vs:List Value),vs.length = L.length → ∀ i,i < L.length → ((pairsOf L vs).getD i (0,undef)).1 = (L.getD i (0,[])).1:=by
 induction L with
 | nil=>intro vs _ i hi;exact absurd hi (Nat.not_lt_zero i)
 | cons p r ih =>
   intro vs hl i hi
   cases vs with
   | nil=>simp at hl
   | cons x xs =>
     cases i with
     | zero=>rfl
     | succ i=>exact ih xs (by simpa using hl) i (by simpa using hi)
def PlcR (n:Int) (L:List (Int × List UInt8)) (r:Int):Prop:=(r = -1 ∧ ∀ j,j < L.length → ((L.getD j (0,[])).1 == n) = false) ∨ ∃ k:Nat,k < L.length ∧ r = (k:Int) ∧ (∀ j,j < k → ((L.getD j (0,[])).1 == n) = false) ∧ ((L.getD k (0,[])).1 == n) = true
theorem ix_plc {n:Int} {L:List (Int × List UInt8)} {vs:List Value} (hl:vs.length = L.length) {r:Int} (h:IxR (fun no=>no == n) (pairsOf L vs) r):PlcR n L r:=by
 rcases h with ⟨h1,h2⟩ | ⟨k,h1,h2,h3,h4⟩
 · refine .inl ⟨h1,fun j hj=>?_⟩
   rw [← pairsOf_fst L vs hl j hj];exact h2 j (by rw [pairsOf_length L vs hl];exact hj)
 · rw [pairsOf_length L vs hl] at h1
   refine .inr ⟨k,h1,h2,fun j hj=>?_,?_⟩
   · rw [← pairsOf_fst L vs hl j (by omega)];exact h3 j hj
   · rw [← pairsOf_fst L vs hl k h1];exact h4
def hasN (n:Int) (L:List (Int × List UInt8)):Bool:=L.any (fun p=>p.1 == n)
def fldN (n:Int) (L:List (Int × List UInt8)):List UInt8:=((L.find? (fun p=>p.1 == n)).map (·.2)).getD []
theorem plc_has {n:Int} {L:List (Int × List UInt8)} {r:Int} (h:PlcR n L r):hasN n L = decide (0 ≤ r):=by
 rcases h with ⟨h1,h2⟩ | ⟨k,h1,h2,h3,h4⟩
 · rw [h1]
   unfold hasN
   rw [show decide (0 ≤ (-1:Int)) = false from rfl,List.any_eq_false]
   intro p hp
   obtain ⟨j,hj,he⟩:=List.getElem_of_mem hp
   have:=h2 j hj
   rw [List.getD_eq_getElem?_getD,List.getElem?_eq_getElem hj,Option.getD_some,he] at this
   rw [this];decide
 · rw [h2,show decide (0 ≤ (k:Int)) = true from decide_eq_true (by omega)]
   unfold hasN
   rw [List.any_eq_true]
   rw [List.getD_eq_getElem?_getD,List.getElem?_eq_getElem h1,Option.getD_some] at h4
   exact ⟨L[k],List.getElem_mem h1,h4⟩
theorem plc_fld {n:Int} {L:List (Int × List UInt8)} {k:Nat} (h1:k < L.length) (h3:∀ j,j < k → ((L.getD j (0,[])).1 == n) = false) (h4:((L.getD k (0,[])).1 == n) = true):fldN n L = (L.getD k (0,[])).2:=by
 unfold fldN
 have e:L.find? (fun p=>p.1 == n) = some L[k]:=by
   rw [List.find?_eq_some_iff_getElem]
   rw [List.getD_eq_getElem?_getD,List.getElem?_eq_getElem h1,Option.getD_some] at h4
   refine ⟨h4,k,h1,rfl,fun j hj=>?_⟩
   have:=h3 j hj
   rw [List.getD_eq_getElem?_getD,List.getElem?_eq_getElem (by omega),Option.getD_some] at this
   rw [this];rfl
 rw [e,List.getD_eq_getElem?_getD,List.getElem?_eq_getElem h1]
 rfl
theorem plc_none {n:Int} {L:List (Int × List UInt8)} (h:∀ j,j < L.length → ((L.getD j (0,[])).1 == n) = false):fldN n L = []:=by
 unfold fldN
 have e:L.find? (fun p=>p.1 == n) = none:=by
   rw [List.find?_eq_none]
   intro p hp
   obtain ⟨j,hj,he⟩:=List.getElem_of_mem hp
   have:=h j hj
   rw [List.getD_eq_getElem?_getD,List.getElem?_eq_getElem hj,Option.getD_some,he] at this
   rw [this];decide
 rw [e];rfl
set_option maxRecDepth 100000 in
set_option maxHeartbeats 1000000 in
theorem place_any (n:Int) (mt:ByteArray) (L:List (Int × List UInt8)) (hL:L.length ≤ 1048576) (v:Value) (w:World) (F:Fr w v L) :
   Calls Tryz.prog 161 #[.agg #[.string mt,v],.int .i64 n] w fun e w'=>(∃ r,e = .returned (.int .i64 r) ∧ PlcR n L r) ∧ Below w.heap.size w w':=by
 obtain ⟨vs,FV,hR⟩:=F.vals
 obtain ⟨av,cv,rfl⟩:=F.sh
 obtain ⟨W,hW⟩:∃ y,y = (w.alloc (Obj.cells #[.string mt,.slice av L.length cv] 32)).alloc (Obj.cells #[.int .i64 n] 3):=⟨_,rfl⟩
 have bW:Below w.heap.size w W:=by rw [hW];exact (below_newS _ _).alloc (by simp) _
 have hz:(w.alloc (Obj.cells #[.string mt,.slice av L.length cv] 32)).heap.size = w.heap.size + 1:=by simp
 have kM:Blk W w.heap.size 32 [.string mt,.slice av L.length cv]:=by rw [hW];exact (Blk.new _ _ _).alloc _
 have kN:Blk W (w.heap.size + 1) 3 [.int .i64 n]:=by rw [hW];exact Blk.new2 _ _ _ _
 have c1:=kM.cell 1 (by simp)
 have cN:=kN.cell 0 (by simp)
 have hPA:PAt2 W av (pairsOf L vs):=fun i hi=>by
   rw [pairsOf_length L vs FV.len] at hi
   obtain ⟨g,o,cap,e,d1,d2⟩:=(FV.below bW).at_ i hi
   cases e
   exact ⟨g,o,rfl,by rw [pairsOf_fst L vs FV.len i hi];exact d1,by rw [pairsOf_snd L vs FV.len i hi];exact d2⟩
 have hlp:=pairsOf_length L vs FV.len
 have HI:=hideT (indexP_any n (pairsOf L vs) (by rw [hlp];exact hL) av cv W hPA (w.heap.size + 1) cN)
 rw [hlp] at HI
 have HFL:=hideT FV.len
 have HW:=hideT hW
 clear hW F FV hR hPA hlp hz kM kN
 go_enter Tryz.func161,Tryz.ntmps161
 go_upto_region 1 with fail
 rw [← show W = _ from HW]
 clear HW
 go_wp2_with (go_at_call 49;refine HI.out.mono ?_;rintro e w2 ⟨⟨r,rfl,hr⟩,b2⟩;have hr2:=hideT (ix_plc HFL.out hr);clear hr)
 go_ret
 exact ⟨⟨_,rfl,hr2.out⟩,bW.trans (b2.mono bW.size)⟩
set_option maxRecDepth 100000 in
set_option maxHeartbeats 1000000 in
theorem field_any (n:Int) (mt:ByteArray) (L:List (Int × List UInt8)) (hL:L.length ≤ 1048576) (v:Value) (w:World) (F:Fr w v L) :
   Calls Tryz.prog 120 #[.agg #[.string mt,v],.int .i64 n] w fun e w'=>(∃ a c,e = .returned (.slice a (fldN n L).length c) ∧ RowAt w' a (fldN n L)) ∧ Below w.heap.size w w':=by
 obtain ⟨av,cv,rfl⟩:=F.sh
 obtain ⟨W,hW⟩:∃ y,y = w.alloc (Obj.cells #[.string mt,.slice av L.length cv] 32):=⟨_,rfl⟩
 have bW:Below w.heap.size w W:=by rw [hW];exact below_newS _ _
 obtain ⟨gB,hgB⟩:∃ n,n = w.heap.size:=⟨_,rfl⟩
 have kM:Blk W gB 32 [.string mt,.slice av L.length cv]:=by rw [hW,hgB];exact Blk.new _ _ _
 have HPL:=hideT (place_any n mt L hL _ W (F.below bW))
 have HF:=hideT (fun (y:World) (hy:Below w.heap.size w y)=>F.below hy)
 have HK:=hideT (fun (y:World) (hy:Below W.heap.size W y)=>kM.below hy kM.lt)
 obtain ⟨nL,hnL⟩:∃ n,n = L.length:=⟨_,rfl⟩
 have HNL:=hideT hnL
 rw [← hnL] at HPL HK kM hW ⊢
 have HW:=hideT hW
 have HGB:=hideT hgB
 clear hW F hgB hnL
 go_enter Tryz.func120,Tryz.ntmps120
 go_upto_region 1 with fail
 rw [← show W = _ from HW,← show gB = _ from HGB]
 clear HW HGB
 go_wp2_with (refine load_blk rfl 32 _ rfl gB rfl kM Tryz.underlying32 rfl (by kernel_rfl) ?_)
 refine HPL.out.mono ?_
 rintro e w2 ⟨⟨r,rfl,hr⟩,b2⟩
 have bb:=bW.trans (b2.mono bW.size)
 rcases hr with ⟨rfl,hno⟩ | ⟨k,hk,rfl,h3,h4⟩
 · have HE:=hideT (plc_none hno)
   clear hno
   go_wp2_with fail
   go_ret
   exact ⟨⟨none,0,by rw [HE.out];rfl,.inl HE.out⟩,bb⟩
 · obtain ⟨g,o,cap,ai,ci,e,d1,d2,r⟩:=(HF.out w2 bb).at_ k hk
   cases e
   have hfl:=plc_fld hk h3 h4
   rw [← hfl] at d2 r
   have c1:=(HK.out _ b2).cell 1 (by simp)
   have hkn:(k:Int) < (nL:Int):=by have:=HNL.out;omega
   have hk0:¬ (k:Int) < 0:=by omega
   have HR:=hideT r
   clear hfl h3 h4 r d1 b2
   go_wp2_with fail
   go_ret
   exact ⟨⟨ai,ci,rfl,HR.out⟩,bb⟩
theorem all_yes {ns:List Int} {f:Int → Bool} (h:∀ j,j < ns.length → f (ns.getD j 0) = true):ns.all f = true:=by
 rw [List.all_eq_true]
 intro x hx
 obtain ⟨j,hj,he⟩:=List.getElem_of_mem hx
 have:=h j hj
 rwa [List.getD_eq_getElem?_getD,List.getElem?_eq_getElem hj,Option.getD_some,he] at this
theorem all_no {ns:List Int} {f:Int → Bool} {k:Nat} (hk:k < ns.length) (h:f (ns.getD k 0) = false):ns.all f = false:=by
 rw [List.all_eq_false]
 rw [List.getD_eq_getElem?_getD,List.getElem?_eq_getElem hk,Option.getD_some] at h
 exact ⟨ns[k],List.getElem_mem hk,by rw [h];decide⟩
set_option maxRecDepth 100000 in
set_option maxHeartbeats 1000000 in
theorem has_any (ns:List Int) (hns:ns.length ≤ 2) (gN:Nat) (mt:ByteArray) (L:List (Int × List UInt8)) (hL:L.length ≤ 1048576) (v:Value) (w:World) (F:Fr w v L) (hN:∀ i,i < ns.length → w.cell? ⟨gN,i,none⟩ = some (.int .i64 (ns.getD i 0))) :
   Calls Tryz.prog 117 #[.agg #[.string mt,v],.slice (some ⟨gN,0,none⟩) ns.length ns.length] w fun e w'=>e = .returned (.bool (ns.all fun n=>hasN n L)) ∧ Below w.heap.size w w':=by
 obtain ⟨av,cv,rfl⟩:=F.sh
 obtain ⟨W,hW⟩:∃ y,y = w.alloc (Obj.cells #[.string mt,.slice av L.length cv] 32):=⟨_,rfl⟩
 have bW:Below w.heap.size w W:=by rw [hW];exact below_newS _ _
 obtain ⟨gB,hgB⟩:∃ n,n = w.heap.size:=⟨_,rfl⟩
 have kM:Blk W gB 32 [.string mt,.slice av L.length cv]:=by rw [hW,hgB];exact Blk.new _ _ _
 have HPL:=hideT (fun (n:Int) (y:World) (hy:Below W.heap.size W y)=>place_any n mt L hL _ y (F.below (bW.trans (hy.mono bW.size))))
 have HK:=hideT (fun (y:World) (hy:Below W.heap.size W y)=>kM.below hy kM.lt)
 have HN:=hideT (fun (y:World) (hy:Below w.heap.size w y) (i:Nat) (hi:i < ns.length)=>(hy.cell (p:=⟨gN,i,none⟩) (World.block_lt_of_cell? w _ (hN i hi))).trans (hN i hi))
 obtain ⟨nL,hnL⟩:∃ n,n = L.length:=⟨_,rfl⟩
 obtain ⟨nn,hnn⟩:∃ n,n = ns.length:=⟨_,rfl⟩
 rw [← hnL] at HPL HK kM hW ⊢
 rw [← hnn] at HN hns ⊢
 have HNN:=hideT hnn
 have HW:=hideT hW
 have HGB:=hideT hgB
 clear hW F hgB hnL hnn hN
 go_enter Tryz.func117,Tryz.ntmps117
 go_upto_region 1 with fail
 rw [← show W = _ from HW,← show gB = _ from HGB]
 clear HW HGB
 go_wp2_with fail
 go_loopw [9] (fun i wr=>∃ k:Nat,k ≤ nn ∧ i = .int .i64 (k:Int) ∧ Hid (∀ j,j < k → hasN (ns.getD j 0) L = true) ∧ Below W.heap.size W wr) (fun i _=>nn - (intOf i).toNat)
 case atStart=>exact ⟨0,Nat.zero_le _,rfl,fun j h=>absurd h (Nat.not_lt_zero j),Below.refl _ _⟩
 case round =>
   obtain ⟨k,hk,rfl,HJ,hbel⟩:=hrel
   by_cases hlt:k < nn
   · have hltI:(k:Int) < (nn:Int):=by omega
     have ck:=HN.out wr (bW.trans (hbel.mono bW.size)) k hlt
     obtain ⟨no,hno⟩:∃ m,m = ns.getD k 0:=⟨_,rfl⟩
     rw [← hno] at ck
     have HNO:=hideT hno
     have kr:=HK.out wr hbel
     have HP:=hideT (HPL.out no wr hbel)
     clear hno
     go_wp2_with (refine load_blk rfl 32 _ rfl gB rfl kr Tryz.underlying32 rfl (by kernel_rfl) ?_)
     refine HP.out.mono ?_
     rintro e w2 ⟨⟨r,rfl,hr⟩,b2⟩
     have hb2:=hbel.trans (b2.mono hbel.size)
     have HH:=plc_has hr
     rcases hr with ⟨rfl,hno⟩ | ⟨q,hq,rfl,h3,h4⟩
     · have HF:=hideT (all_no (f:=fun n=>hasN n L) (by rw [← HNN.out];exact hlt) (by rw [← HNO.out];exact HH))
       clear hno HH b2
       go_wp2_with fail
       go_ret
       exact ⟨by rw [HF.out];rfl,bW.trans (hb2.mono bW.size)⟩
     · have hq0:¬ (q:Int) < 0:=by omega
       rw [show decide (0 ≤ (q:Int)) = true from decide_eq_true (by omega)] at HH
       have HF:=hideT HH
       clear HH h3 h4 hq b2
       go_wp2_with fail
       go_roundw
       case rel=>exact ⟨k + 1,by omega,by go_num,fun j hj=>by
         by_cases hjk:j = k
         · rw [hjk,← HNO.out];exact HF.out
         · exact HJ.out j (by omega),hb2⟩
       case measure=>simp [intOf];omega
   · have hltI:¬ (k:Int) < (nn:Int):=by omega
     have HF:=hideT (all_yes (f:=fun n=>hasN n L) (fun j hj=>HJ.out j (by rw [← HNN.out] at hj;omega)))
     go_wp2_with fail
     go_ret
     exact ⟨by rw [HF.out];rfl,bW.trans (hbel.mono bW.size)⟩
set_option maxHeartbeats 1000000 in
theorem index1_no (n0 no:Int) (hne:(no == n0) = false) (gN:Nat) (w:World) (c0:w.cell? ⟨gN,0,none⟩ = some (.int .i64 n0)) :
   Calls Tryz.prog 98 #[.slice (some ⟨gN,0,none⟩) 1 1,.int .i64 no] w fun e w'=>e = .returned (.int .i64 (-1)) ∧ w' = w:=by
 have hne2:(n0 == no) = false:=by rw [beq_eq_false_iff_ne] at hne ⊢;exact fun h=>hne h.symm
 go_enter Tryz.func98,Tryz.ntmps98
 go_wp2_with fail
 go_loopw [8] (fun i wr=>(i = .int .i64 0 ∨ i = .int .i64 1) ∧ wr = w) (fun i _=>1 - (intOf i).toNat)
 case atStart=>exact ⟨.inl rfl,rfl⟩
 case round =>
   obtain ⟨hi,hw⟩:=hrel
   have hw2:=hw.symm
   subst hw2
   rcases hi with rfl | rfl
   · go_wp2_with fail
     go_roundw
     case rel=>exact ⟨.inr rfl,trivial⟩
     case measure=>simp [intOf]
   · go_wp2_with fail
     go_ret
     exact ⟨rfl,rfl⟩
set_option maxHeartbeats 1000000 in
theorem contains1_no (n0 no:Int) (hne:(no == n0) = false) (gN:Nat) (w:World) (c0:w.cell? ⟨gN,0,none⟩ = some (.int .i64 n0)) :
   Calls Tryz.prog 48 #[.slice (some ⟨gN,0,none⟩) 1 1,.int .i64 no] w fun e w'=>e = .returned (.bool false) ∧ w' = w:=by
 have HI:=hideT (index1_no n0 no hne gN w c0)
 clear c0
 go_enter Tryz.func48,Tryz.ntmps48
 go_wp2_with (go_at_call 98;refine HI.out.mono ?_;rintro e w2 ⟨rfl,hw⟩;have hw2:=hw.symm;subst hw2;clear hw)
 go_ret
 exact ⟨rfl,rfl⟩
set_option maxHeartbeats 1000000 in
theorem withoutN1_no (n0 no:Int) (hne:(no == n0) = false) (x:Value) (gb gN:Nat) (w:World) (cb:w.cell? ⟨gb,0,none⟩ = some (.slice (some ⟨gN,0,none⟩) 1 1)) (c0:w.cell? ⟨gN,0,none⟩ = some (.int .i64 n0)) :
   Calls Tryz.prog 47 #[.agg #[.int .i64 no,x],.pointer (some ⟨gb,0,none⟩)] w fun e w'=>e = .returned (.bool false) ∧ Below w.heap.size w w':=by
 obtain ⟨W,hW⟩:∃ y,y = w.alloc (Obj.cells #[.int .i64 no,x] 29):=⟨_,rfl⟩
 have bW:Below w.heap.size w W:=by rw [hW];exact below_newT _ _
 have lb:=World.block_lt_of_cell? w _ cb
 have ln:=World.block_lt_of_cell? w _ c0
 have cbW:W.cell? ⟨gb,0,none⟩ = some (.slice (some ⟨gN,0,none⟩) 1 1):=(bW.cell (p:=⟨gb,0,none⟩) lb).trans cb
 have HC:=hideT (contains1_no n0 no hne gN W ((bW.cell (p:=⟨gN,0,none⟩) ln).trans c0))
 have kW:Blk W w.heap.size 29 [.int .i64 no,x]:=by rw [hW];exact Blk.new _ _ _
 have kc:=kW.cell 0 (by simp)
 have HW:=hideT hW
 clear hW cb c0
 go_enter Tryz.func47,Tryz.ntmps47
 go_upto_region 1 with fail
 rw [← show W = _ from HW]
 go_wp2_with fail
 refine HC.out.mono ?_
 rintro e w2 ⟨rfl,hw⟩
 have hw2:=hw.symm
 subst hw2
 go_wp2_with fail
 go_ret
 exact ⟨rfl,bW⟩
set_option maxRecDepth 100000 in
set_option maxHeartbeats 2000000 in
theorem indexN_no (n0:Int) (Q:List (Int × Value)) (hQ:Q.length ≤ 1048576) (hno:∀ j,j < Q.length → ((Q.getD j (0,undef)).1 == n0) = false) (a:Option Addr) (cap:Nat) (w:World) (hP:PAt2 w a Q) (gb gN:Nat) (cb:w.cell? ⟨gb,0,none⟩ = some (.slice (some ⟨gN,0,none⟩) 1 1)) (c0:w.cell? ⟨gN,0,none⟩ = some (.int .i64 n0)) :
   Calls Tryz.prog 49 #[.slice a Q.length cap,.func (Fn.func 47) #[] #[.pointer (some ⟨gb,0,none⟩)]] w fun e w'=>e = .returned (.int .i64 (-1)) ∧ Below w.heap.size w w':=by
 obtain ⟨n,hn⟩:∃ n,n = Q.length:=⟨_,rfl⟩
 have HN:=hideT hn
 rw [← hn] at hQ ⊢
 have HP:=hideT hP
 have HZ:=hideT hno
 have HCB:=hideT (And.intro cb c0)
 have lb:=World.block_lt_of_cell? w _ cb
 have ln:=World.block_lt_of_cell? w _ c0
 clear cb c0 hno
 clear hn hP
 go_enter Tryz.func49,Tryz.ntmps49
 go_wp2_with fail
 go_loopw [8] (fun i wr=>∃ k:Nat,k ≤ n ∧ i = .int .i64 (k:Int) ∧ Below w.heap.size w wr) (fun i _=>n - (intOf i).toNat)
 case atStart=>exact ⟨0,Nat.zero_le _,rfl,Below.refl _ _⟩
 case round =>
   obtain ⟨k,hk,rfl,hbel⟩:=hrel
   by_cases hlt:k < n
   · have hltI:(k:Int) < (n:Int):=by omega
     have hkQ:k < Q.length:=by rw [← HN.out];exact hlt
     obtain ⟨g,o,rfl,c1w,c2w⟩:=HP.out k hkQ
     have hlw:=World.block_lt_of_cell? w _ c1w
     have c1:=(hbel.cell (p:=⟨g,o + k * 2,none⟩) hlw).trans c1w
     have c2:=(hbel.cell (p:=⟨g,o + k * 2 + 1,none⟩) hlw).trans c2w
     have hz:=HZ.out k hkQ
     obtain ⟨no,hno⟩:∃ m,m = (Q.getD k (0,undef)).1:=⟨_,rfl⟩
     obtain ⟨x,hx⟩:∃ m,m = (Q.getD k (0,undef)).2:=⟨_,rfl⟩
     rw [← hno] at c1 hz
     rw [← hx] at c2
     have HCL:=hideT (withoutN1_no n0 no hz x gb gN wr ((hbel.cell (p:=⟨gb,0,none⟩) lb).trans HCB.out.1) ((hbel.cell (p:=⟨gN,0,none⟩) ln).trans HCB.out.2))
     clear hno hx c1w c2w hlw hz
     go_wp2_with (go_at_call 47;refine HCL.out.mono ?_;rintro e w2 ⟨rfl,b2⟩;have hb2:=hbel.trans (b2.mono hbel.size);clear b2)
     go_roundw
     case rel=>exact ⟨k + 1,by omega,by go_num,hb2⟩
     case measure=>simp [intOf];omega
   · have hltI:¬ (k:Int) < (n:Int):=by omega
     go_wp2_with fail
     go_ret
     exact ⟨rfl,hbel⟩
set_option maxRecDepth 100000 in
set_option maxHeartbeats 1000000 in
theorem withoutN_no (n0:Int) (L:List (Int × List UInt8)) (hL:L.length ≤ 1048576) (hno:∀ j,j < L.length → ((L.getD j (0,[])).1 == n0) = false) (v:Value) (vs:List Value) (gN:Nat) (w:World) (FV:Fv w v L vs) (hR:Rws w L vs) (c0:w.cell? ⟨gN,0,none⟩ = some (.int .i64 n0)) :
   Calls Tryz.prog 18 #[v,.slice (some ⟨gN,0,none⟩) 1 1] w fun e w'=>(∃ v',e = .returned v' ∧ w'.ownsRow w.heap.size 29 2 v' L.length (Z.fldCells L vs)) ∧ Below w.heap.size w w':=by
 obtain ⟨W,hW⟩:∃ y,y = w.alloc (Obj.cells #[.slice (some ⟨gN,0,none⟩) 1 1] 42):=⟨_,rfl⟩
 have kW:Blk W w.heap.size 42 [.slice (some ⟨gN,0,none⟩) 1 1]:=by rw [hW];exact Blk.new _ _ _
 have bW:Below w.heap.size w W:=by rw [hW];exact below_newT _ _
 have HCL:=hideT (cloneF_any L hL v vs W (FV.below bW) (hR.below bW))
 have ln:=World.block_lt_of_cell? w _ c0
 have d0:W.cell? ⟨gN,0,none⟩ = some (.int .i64 n0):=(bW.cell (p:=⟨gN,0,none⟩) ln).trans c0
 have lnW:gN < W.heap.size:=Nat.lt_of_lt_of_le ln bW.size
 have HIX:=hideT (fun (a:Option Addr) (cap:Nat) (wx:World) hP cb e0=>indexN_no n0 (pairsOf L vs) (by rw [pairsOf_length L vs FV.len];exact hL) (fun j hj=>by rw [pairsOf_length L vs FV.len] at hj;rw [pairsOf_fst L vs FV.len j hj];exact hno j hj) a cap wx hP w.heap.size gN cb e0)
 have hpl:=pairsOf_length L vs FV.len
 rw [hpl] at HIX
 have HP:=hideT (fun (wx:World) (lo:Nat) (a:Option Addr) (cap:Nat) (row:wx.ownsRow lo 29 2 (.slice a L.length cap) L.length (Z.fldCells L vs))=>row_P (w:=wx) (lo:=lo) (cap:=cap) (a:=a) (Q:=pairsOf L vs) (by rw [hpl,cellsP_pairs];exact row))
 have HW:=hideT hW
 have HD:=hideT d0
 clear hW c0 d0 FV hR hpl hno
 go_enter Tryz.func18,Tryz.ntmps18
 go_upto_region 1 with fail
 rw [← show W = _ from HW]
 clear HW
 go_wp2_with fail
 refine HCL.out.mono ?_
 rintro e w1 ⟨⟨v1,rfl,row1⟩,b1⟩
 obtain ⟨a1,c1,rfl⟩:=ownS row1
 have cb:=(kW.below b1 kW.lt).cell 0 (by simp)
 have e0:=(b1.cell (p:=⟨gN,0,none⟩) lnW).trans HD.out
 have bb1:=bW.trans (b1.mono bW.size)
 have HI:=hideT (HIX.out a1 c1 w1 (HP.out w1 _ a1 c1 row1) cb e0)
 have HF:=hideT row1
 have HD2:Hid (Calls Tryz.prog 45 #[.slice a1 L.length c1,.func (Fn.func 47) #[] #[.pointer (some ⟨w.heap.size,0,none⟩)]] w1 fun e w'=>e = .returned (.slice a1 L.length c1) ∧ Below w1.heap.size w1 w'):=by
   obtain ⟨nL,hnL⟩:∃ n,n = L.length:=⟨_,rfl⟩
   rw [← hnL] at HI ⊢
   clear HCL HIX HP HF row1 cb e0 hnL b1 bb1
   go_enter Tryz.func45,Tryz.ntmps45
   go_wp2_with fail
   refine HI.out.mono ?_
   rintro e w2 ⟨rfl,b2⟩
   go_wp2_with fail
   go_ret
   exact ⟨rfl,b2⟩
 clear HCL HIX HP row1 cb e0 HI
 go_wp2_with fail
 refine HD2.out.mono ?_
 rintro e w2 ⟨rfl,b2⟩
 go_wp2_with fail
 go_ret
 exact ⟨⟨_,rfl,ownR_mono (own_sm (ts:=[]) HF.out (Sm.below b2) (by simp)) bW.size⟩,bb1.trans (b2.mono bb1.size)⟩
def repL (n:Int) (d:List UInt8) (L:List (Int × List UInt8)):List (Int × List UInt8):=L.map fun p=>if (p.1 == n) = true then (p.1,d) else p
theorem repL_length (n:Int) (d:List UInt8) (L:List (Int × List UInt8)):(repL n d L).length = L.length:=by unfold repL;simp
theorem repL_at (n:Int) (d:List UInt8) (L:List (Int × List UInt8)) (i:Nat) (hi:i < L.length):(repL n d L).getD i (0,[]) = if ((L.getD i (0,[])).1 == n) = true then ((L.getD i (0,[])).1,d) else L.getD i (0,[]):=by
 unfold repL
 rw [List.getD_eq_getElem?_getD,List.getElem?_map,List.getD_eq_getElem?_getD,List.getElem?_eq_getElem hi]
 rfl
structure RI (n:Int) (dv:Value) (L:List (Int × List UInt8)) (vs:List Value) (k:Nat) (xs:List Value):Prop where
 len:xs.length = L.length * 2
 no:∀ i,i < L.length → xs[i * 2]? = some (.int .i64 (L.getD i (0,[])).1)
 yes:∀ i,i < L.length → i < k → ((L.getD i (0,[])).1 == n) = true → xs[i * 2 + 1]? = some dv
 old:∀ i,i < L.length → (k ≤ i ∨ ((L.getD i (0,[])).1 == n) = false) → xs[i * 2 + 1]? = some (vs.getD i undef)
theorem RI.start (n:Int) (dv:Value) (L:List (Int × List UInt8)) (vs:List Value) (hl:vs.length = L.length):RI n dv L vs 0 (Z.fldCells L vs) :=
 ⟨Z.fldCells_length L vs hl,fun i hi=>(Z.fldCells_at L vs hl i hi).1,fun _ _ h=>absurd h (Nat.not_lt_zero _),fun i hi _=>(Z.fldCells_at L vs hl i hi).2⟩
theorem RI.pass {n:Int} {dv:Value} {L:List (Int × List UInt8)} {vs:List Value} {k:Nat} {xs:List Value} (h:RI n dv L vs k xs) (hk:((L.getD k (0,[])).1 == n) = false):RI n dv L vs (k + 1) xs :=
 ⟨h.len,h.no,fun i hi hik he=>h.yes i hi (by
   by_cases e:i = k
   · rw [e,hk] at he;cases he
   · omega) he,fun i hi ho=>h.old i hi (by
   by_cases e:i = k
   · exact .inl (by omega)
   · rcases ho with ho | ho
     · exact .inl (by omega)
     · exact .inr ho)⟩
theorem RI.put {n:Int} {dv:Value} {L:List (Int × List UInt8)} {vs:List Value} {k:Nat} {xs:List Value} (h:RI n dv L vs k xs) (hk:k < L.length) (he:((L.getD k (0,[])).1 == n) = true):RI n dv L vs (k + 1) (xs.set (k * 2 + 1) dv):=by
 have hl:=h.len
 refine ⟨by rw [List.length_set];exact hl,fun i hi=>?_,fun i hi hik hn=>?_,fun i hi ho=>?_⟩
 · rw [List.getElem?_set_ne (by omega)];exact h.no i hi
 · by_cases e:i = k
   · subst e
     rw [List.getElem?_set_self (by omega)]
   · rw [List.getElem?_set_ne (by omega)];exact h.yes i hi (by omega) hn
 · have e:i ≠ k:=fun e=>by
     subst e
     rcases ho with ho | ho
     · omega
     · rw [he] at ho;cases ho
   rw [List.getElem?_set_ne (by omega)]
   exact h.old i hi (by
     rcases ho with ho | ho
     · exact .inl (by omega)
     · exact .inr ho)
theorem RI.fr {n:Int} {d:List UInt8} {ad:Option Addr} {cd:Nat} {L:List (Int × List UInt8)} {vs:List Value} {xs:List Value} {w:World} {lo:Nat} {v:Value} (h:RI n (.slice ad d.length cd) L vs L.length xs) (row:w.ownsRow lo 29 2 v L.length xs) (hR:Rws w L vs) (rd:RowAt w ad d):Fr w v (repL n d L):=by
 refine ⟨by rw [repL_length];exact ownS row,fun i hi=>?_⟩
 rw [repL_length] at hi ⊢
 rw [repL_at n d L i hi]
 rcases row.2 with ⟨hv,hz⟩ | ⟨g,c,cur,hv,-⟩
 · omega
 · subst hv
   have c1:=(row.cellAt (i * 2) (by omega)).trans (h.no i hi)
   have c2:=row.cellAt (i * 2 + 1) (by omega)
   cases hb:((L.getD i (0,[])).1 == n)
   · rw [h.old i hi (.inr hb)] at c2
     obtain ⟨ai,ci,e,r⟩:=hR i hi
     rw [e] at c2
     exact ⟨g,0,c,ai,ci,rfl,by rw [Nat.zero_add,if_neg (by decide)];exact c1,by rw [Nat.zero_add,if_neg (by decide)];exact c2,by rw [if_neg (by decide)];exact r⟩
   · rw [h.yes i hi hi hb] at c2
     exact ⟨g,0,c,ad,cd,rfl,by rw [Nat.zero_add,if_pos rfl];exact c1,by rw [Nat.zero_add,if_pos rfl];exact c2,by rw [if_pos rfl];exact rd⟩
set_option maxRecDepth 100000 in
set_option maxHeartbeats 1000000 in
theorem replaced_any (n:Int) (d:List UInt8) (L:List (Int × List UInt8)) (hL:L.length ≤ 1048576) (v:Value) (ad:Option Addr) (cd:Nat) (w:World) (F:Fr w v L) (rd:RowAt w ad d) :
   Calls Tryz.prog 127 #[v,.int .i64 n,.slice ad d.length cd] w fun e w'=>(∃ v',e = .returned v' ∧ Fr w' v' (repL n d L)) ∧ Below w.heap.size w w':=by
 obtain ⟨vs,FV,hR⟩:=F.vals
 have HCL:=hideT (cloneF_any L hL v vs w FV hR)
 obtain ⟨nd,hnd⟩:∃ n,n = d.length:=⟨_,rfl⟩
 obtain ⟨nL,hnL⟩:∃ n,n = L.length:=⟨_,rfl⟩
 have HFR:=hideT (fun (wx:World) (xs:List Value) (v':Value) (hx:RI n (.slice ad d.length cd) L vs L.length xs) (row:wx.ownsRow w.heap.size 29 2 v' L.length xs) (hb:Below w.heap.size w wx)=>RI.fr hx row (hR.below hb) (rd.below hb))
 have HST:=hideT (RI.start n (.slice ad d.length cd) L vs FV.len)
 rw [← hnd] at HFR HST ⊢
 rw [← hnL] at HCL HFR hL
 have HNL:=hideT hnL
 clear F FV hR rd hnd hnL
 go_enter Tryz.func127,Tryz.ntmps127
 go_wp2_with fail
 refine HCL.out.mono ?_
 rintro e w1 ⟨⟨v1,rfl,row1⟩,b1⟩
 obtain ⟨a1,c1,rfl⟩:=ownS row1
 clear HCL
 go_wp2_with fail
 go_loopw [13] (fun i wr=>∃ (k:Nat) (xs:List Value),k ≤ nL ∧ i = .int .i64 (k:Int) ∧ Hid (RI n (.slice ad nd cd) L vs k xs) ∧ wr.ownsRow w.heap.size 29 2 (.slice a1 nL c1) nL xs ∧ Below w.heap.size w wr) (fun i _=>nL - (intOf i).toNat)
 case atStart=>exact ⟨0,_,Nat.zero_le _,rfl,HST.out,row1,b1⟩
 case round =>
   clear row1 b1
   obtain ⟨k,xs,hk,rfl,HX,row,hbel⟩:=hrel
   by_cases hlt:k < nL
   · have hltI:(k:Int) < (nL:Int):=by omega
     have hkL:k < L.length:=by rw [← HNL.out];exact hlt
     obtain ⟨g,c,cur,hv,hge,-⟩:∃ g c cur,Value.slice a1 nL c1 = .slice (some ⟨g,0,none⟩) nL c ∧ w.heap.size ≤ g ∧ cur = c:=by
       rcases row.2 with ⟨_,hz⟩ | ⟨g,c,cur,hv,hb,_⟩
       · omega
       · exact ⟨g,c,c,hv,hb,rfl⟩
     cases hv
     have c0:=(row.cellAt (k * 2) (by omega)).trans (HX.out.no k hkL)
     have f1:=row.frozenAt (k * 2 + 1)
     obtain ⟨no,hno⟩:∃ m,m = (L.getD k (0,[])).1:=⟨_,rfl⟩
     rw [← hno] at c0
     have HNO:=hideT hno
     obtain ⟨y,hy⟩:∃ y,wr.cell? ⟨g,k * 2 + 1,none⟩ = some y:=own_some row (by omega)
     have HROW:=hideT row
     clear row hno
     cases hb:(no == n)
     · go_wp2_with fail
       go_roundw
       case rel=>exact ⟨k + 1,xs,by omega,by go_num,HX.out.pass (by rw [← HNO.out];exact hb),HROW.out,hbel⟩
       case measure=>simp [intOf];omega
     · go_wp2_with fail
       go_roundw
       case rel=>exact ⟨k + 1,xs.set (k * 2 + 1) (.slice ad nd cd),by omega,by go_num,HX.out.put hkL (by rw [← HNO.out];exact hb),(HROW.out.stored (k * 2 + 1) _).1,hbel.setCell hge _⟩
       case measure=>simp [intOf];omega
   · obtain rfl:k = nL:=by omega
     have hltI:¬ (k:Int) < (k:Int):=by omega
     have HF:=hideT (HFR.out wr xs _ HX.out row hbel)
     go_wp2_with fail
     go_ret
     exact ⟨⟨_,rfl,HF.out⟩,hbel⟩
end Go.Proofs.YtbkokcjolanpeaaGreatDoor
