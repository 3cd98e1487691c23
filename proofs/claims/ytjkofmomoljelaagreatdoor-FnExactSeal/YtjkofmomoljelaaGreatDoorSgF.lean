import Derived.Test.YtjkofmomoljelaaGreatDoorSgE
import Derived.Laws.AppendOwn
import Derived.Test.YtjkofmomoljelaaGreatDoorSgD
namespace Go.Proofs.YtjkofmomoljelaaGreatDoor
open Go.RowKit
structure Fr (w:World) (v:Value) (L:List (Int × List UInt8)):Prop where
 sh:∃ ao cap,v = .slice ao L.length cap
 at_:∀ i,i < L.length → ∃ g o cap ai ci,v = .slice (some ⟨g,o,none⟩) L.length cap ∧ w.cell? ⟨g,o + i * 2,none⟩ = some (.int .i64 (L.getD i (0,[])).1) ∧ w.cell? ⟨g,o + i * 2 + 1,none⟩ = some (.slice ai (L.getD i (0,[])).2.length ci) ∧ RowAt w ai (L.getD i (0,[])).2
theorem Fr.below {w w':World} {v:Value} {L:List (Int × List UInt8)} (h:Fr w v L) (hb:Below w.heap.size w w'):Fr w' v L:=by
 refine ⟨h.sh,fun i hi=>?_⟩
 obtain ⟨g,o,cap,ai,ci,e,c1,c2,r⟩:=h.at_ i hi
 have hl:=World.block_lt_of_cell? w _ c1
 exact ⟨g,o,cap,ai,ci,e,(hb.cell (p:=⟨g,o + i * 2,none⟩) hl).trans c1,(hb.cell (p:=⟨g,o + i * 2 + 1,none⟩) hl).trans c2,r.below hb⟩
def bef (L:List (Int × List UInt8)):Nat → Int
 | 0=>0
 | i + 1=>(L.getD i (0,[])).1
def inZ (no:Int):Bool:=decide (0 ≤ no) && decide (no.toNat ∈ tabNos)
def fitZ (no:Int) (d:List UInt8):Bool:=inZ no && fitsN (kpL no.toNat) (kpM no.toNat) (kpOk no.toNat) d
def okF (b:Int) (p:Int × List UInt8):Bool:=decide (b < p.1) && fitZ p.1 p.2
def okL (L:List (Int × List UInt8)):Bool:=(List.range L.length).all (fun j=>okF (bef L j) (L.getD j (0,[])))
theorem okL_no (L:List (Int × List UInt8)) (i:Nat) (hi:i < L.length) (h:okF (bef L i) (L.getD i (0,[])) = false):okL L = false:=by
 unfold okL
 rw [List.all_eq_false]
 exact ⟨i,List.mem_range.2 hi,by rw [h];decide⟩
theorem okL_yes (L:List (Int × List UInt8)) (h:∀ i,i < L.length → okF (bef L i) (L.getD i (0,[])) = true):okL L = true:=by
 unfold okL
 rw [List.all_eq_true]
 intro i hi
 exact h i (List.mem_range.1 hi)
theorem kind_out (no:Int) (h:inZ no = false):kindOf no = (0,0):=by
 unfold inZ at h
 by_cases h0:0 ≤ no
 · have hm:no.toNat ∉ tabNos:=by simpa [h0] using h
   have e:no = ((no.toNat:Nat):Int):=(Int.toNat_of_nonneg h0).symm
   generalize no.toNat = n at e hm
   subst e
   simp only [tabNos,List.mem_cons,List.not_mem_nil,or_false,not_or] at hm
   obtain ⟨h1,h2,h3,h4,h5,h6,h7,h8,h9,h10,h11,h12,h13,h14⟩:=hm
   unfold kindOf
   rw [if_neg (by omega),if_neg (by omega),if_neg (by omega),if_neg (by omega),if_neg (by omega),if_neg (by omega),if_neg (by omega),if_neg (by omega),if_neg (by omega),if_neg (by omega),if_neg (by omega),if_neg (by omega),if_neg (by omega),if_neg (by omega)]
 · unfold kindOf
   rw [if_neg (by omega),if_neg (by omega),if_neg (by omega),if_neg (by omega),if_neg (by omega),if_neg (by omega),if_neg (by omega),if_neg (by omega),if_neg (by omega),if_neg (by omega),if_neg (by omega),if_neg (by omega),if_neg (by omega),if_neg (by omega)]
theorem holds_out (no:Int) (h:inZ no = false) (v:Value) (w:World):Calls Tryz.prog 121 #[.int .i64 no,v] w fun e w'=>e = .returned (.bool false) ∧ w' = w:=by
 have HK:=hideT (fun (wx:World)=>l6Kind_any no wx)
 rw [kind_out no h] at HK
 clear h
 go_enter Tryz.func121,Tryz.ntmps121
 go_wp2_with (go_at_call 84;refine (HK.out _).mono ?_;rintro e w2 ⟨rfl,hw2⟩;have hw3:=hw2.symm;subst hw3)
 go_ret
 exact ⟨rfl,rfl⟩
theorem holds_int (no:Int) (d:List UInt8) (ao:Option Addr) (cap:Nat) (w:World) (hd:d.length ≤ 1048576) (hr:RowAt w ao d):Calls Tryz.prog 121 #[.int .i64 no,.slice ao d.length cap] w fun e w'=>e = .returned (.bool (fitZ no d)) ∧ w' = w:=by
 unfold fitZ
 cases hz:inZ no
 · rw [Bool.false_and];exact holds_out no hz _ w
 · rw [Bool.true_and]
   have h2:=hz
   unfold inZ at h2
   rw [Bool.and_eq_true,decide_eq_true_eq,decide_eq_true_eq] at h2
   have h:=holds_no no.toNat h2.2 d ao cap w hd hr
   rw [Int.toNat_of_nonneg h2.1] at h
   exact h
set_option maxRecDepth 100000 in
set_option maxHeartbeats 2000000 in
theorem l6Good_any (s:ByteArray) (L:List (Int × List UInt8)) (hs:s.size ≤ maxLen) (hsz:∀ p ∈ L,p.2.length ≤ 1048576) (hL:L.length ≤ 2097152) (v:Value) (w:World) (F:Fr w v L) :
   Calls Tryz.prog 83 #[.agg #[.string s,v]] w fun e w'=>e = .returned (.bool (decide (s.size = 4) && digs s && (decide (L.length ≤ 20) && okL L))) ∧ Below w.heap.size w w':=by
 have HD:=hideT (fun (wx:World)=>l4Digits_any s 4 4 wx hs (by omega) (by omega))
 have e4:(decide (4 ≤ s.size) && decide (s.size ≤ 4) && digs s) = (decide (s.size = 4) && digs s):=by
   by_cases h:s.size = 4
   · rw [decide_eq_true h,decide_eq_true (by omega),decide_eq_true (by omega)];rfl
   · rw [decide_eq_false h]
     by_cases h2:4 ≤ s.size
     · rw [decide_eq_true h2,decide_eq_false (by omega)];rfl
     · rw [decide_eq_false h2];rfl
 rw [e4] at HD
 obtain ⟨dg,hdg⟩:∃ q,q = (decide (s.size = 4) && digs s):=⟨_,rfl⟩
 rw [← hdg] at HD ⊢
 clear hdg e4 hs
 obtain ⟨x1,c1,rfl⟩:=F.sh
 obtain ⟨n,hn⟩:∃ n,n = L.length:=⟨_,rfl⟩
 have HN:=hideT hn
 rw [← hn] at hL ⊢
 have F':=F
 rw [← hn] at F'
 have HSZ:=hideT hsz
 have HNOK:=hideT (okL_no L)
 have HYOK:=hideT (okL_yes L)
 rw [← hn] at HNOK HYOK
 obtain ⟨W,hW⟩:∃ y,y = w.alloc (Obj.cells #[.string s,.slice x1 n c1] 30):=⟨_,rfl⟩
 have kM:Blk W w.heap.size 30 [.string s,.slice x1 n c1]:=by rw [hW];exact Blk.new _ _ _
 have bW:Below w.heap.size w W:=by rw [hW];exact below_newT _ _
 have FW:=F'.below bW
 have HW:=hideT hW
 have m0:=kM.cell 0 (by simp)
 have m1:=kM.cell 1 (by simp)
 clear hn hsz hW F F'
 cases dg
 · go_enter Tryz.func83,Tryz.ntmps83
   go_upto_region 1 with fail
   rw [← show W = _ from HW]
   go_wp2_with fail
   refine (HD.out _).mono ?_
   rintro e w2 ⟨rfl,hw2⟩
   have hw3:=hw2.symm
   subst hw3
   go_wp2_with fail
   go_ret
   exact ⟨rfl,bW⟩
 by_cases h20:n ≤ 20
 · have h20I:¬ (20:Int) < (n:Int):=by omega
   rw [decide_eq_true h20]
   obtain ⟨OK,hOK⟩:∃ q,q = okL L:=⟨_,rfl⟩
   rw [← hOK] at HNOK HYOK ⊢
   clear hOK
   go_enter Tryz.func83,Tryz.ntmps83
   go_upto_region 1 with fail
   rw [← show W = _ from HW]
   go_wp2_with fail
   refine (HD.out _).mono ?_
   rintro e w2 ⟨rfl,hw2⟩
   have hw3:=hw2.symm
   subst hw3
   go_wp2_with fail
   go_loopw [3,19] (fun la i wr=>∃ k:Nat,k ≤ n ∧ i = .int .i64 (k:Int) ∧ la = .int .i64 (bef L k) ∧ Hid (∀ j,j < k → okF (bef L j) (L.getD j (0,[])) = true) ∧ Below W.heap.size W wr) (fun _ i _=>n - (intOf i).toNat)
   case atStart=>exact ⟨0,Nat.zero_le _,rfl,rfl,fun j h=>absurd h (Nat.not_lt_zero j),Below.refl _ _⟩
   case round =>
     obtain ⟨k,hk,rfl,rfl,HOK,hbx⟩:=hrel
     by_cases hlt:k < n
     · have hltI:(k:Int) < (n:Int):=by omega
       have hkL:k < L.length:=by rw [← HN.out];exact hlt
       obtain ⟨g,o,cc,ai,ci,ev,p1,p2,r1⟩:=(FW.below hbx).at_ k hkL
       simp only [Value.slice.injEq] at ev
       obtain ⟨rfl,-,rfl⟩:=ev
       have hdl:(L.getD k (0,[])).2.length ≤ 1048576:=by
         rw [List.getD_eq_getElem?_getD,List.getElem?_eq_getElem hkL]
         exact HSZ.out _ (List.getElem_mem hkL)
       have HNX:Hid (bef L (k + 1) = (L.getD k (0,[])).1):=rfl
       have HBAD:=hideT (HNOK.out k hlt)
       have HOF:Hid (okF (bef L k) (L.getD k (0,[])) = (decide (bef L k < (L.getD k (0,[])).1) && fitZ (L.getD k (0,[])).1 (L.getD k (0,[])).2)):=rfl
       obtain ⟨ob,hob⟩:∃ q,q = okF (bef L k) (L.getD k (0,[])):=⟨_,rfl⟩
       obtain ⟨no,hno⟩:∃ m,m = (L.getD k (0,[])).1:=⟨_,rfl⟩
       obtain ⟨d,hd⟩:∃ m,m = (L.getD k (0,[])).2:=⟨_,rfl⟩
       obtain ⟨la,hla⟩:∃ m,m = bef L k:=⟨_,rfl⟩
       have HOB:=hideT hob
       rw [← hob] at HBAD HOF
       rw [← hno] at p1 HNX HOF
       rw [← hd] at p2 r1 hdl HOF
       rw [← hla] at HOF ⊢
       obtain ⟨Y,hY⟩:∃ y,y = wr.alloc (Obj.cells #[.int .i64 no,.slice ai d.length ci] 37):=⟨_,rfl⟩
       have kF:Blk Y wr.heap.size 37 [.int .i64 no,.slice ai d.length ci]:=by rw [hY];exact Blk.new _ _ _
       have bY:Below wr.heap.size wr Y:=by rw [hY];exact below_newT _ _
       have bxY:=hbx.trans (bY.mono hbx.size)
       have HHO:=hideT (holds_int no d ai ci Y hdl (r1.below bY))
       obtain ⟨l,hl⟩:∃ l,l = d.length:=⟨_,rfl⟩
       rw [← hl] at p2 hY kF HHO
       obtain ⟨fq,hfq⟩:∃ q,q = fitZ no d:=⟨_,rfl⟩
       rw [← hfq] at HHO HOF
       have HY:=hideT hY
       obtain ⟨gF,hgF⟩:∃ q,q = wr.heap.size:=⟨_,rfl⟩
       rw [← hgF] at kF
       have HGF:=hideT hgF
       clear hob hno hd hla hl hfq hY r1 hgF
       go_upto_region 7 with fail
       rw [← show Y = _ from HY,← show gF = _ from HGF]
       clear HY HGF p1 p2
       have f0:=kF.cell 0 (by simp)
       have f1:=kF.cell 1 (by simp)
       by_cases hle:no ≤ la
       · rw [decide_eq_false (by omega),Bool.false_and] at HOF
         obtain rfl:OK = false:=HBAD.out HOF.out
         go_wp2_with fail
         go_ret
         exact ⟨rfl,bW.trans (bxY.mono bW.size)⟩
       · rw [decide_eq_true (by omega),Bool.true_and] at HOF
         cases fq
         · obtain rfl:OK = false:=HBAD.out HOF.out
           go_wp2_with fail
           refine HHO.out.mono ?_
           rintro e w5 ⟨rfl,hw5⟩
           have hw6:=hw5.symm
           subst hw6
           go_wp2_with fail
           go_ret
           exact ⟨rfl,bW.trans (bxY.mono bW.size)⟩
         · go_wp2_with fail
           refine HHO.out.mono ?_
           rintro e w5 ⟨rfl,hw5⟩
           have hw6:=hw5.symm
           subst hw6
           go_wp2_with fail
           go_roundw
           case rel=>exact ⟨k + 1,by omega,by go_num,by rw [HNX.out],fun j hj=>by
             by_cases hjk:j = k
             · rw [hjk,← HOB.out];exact HOF.out
             · exact HOK.out j (by omega),bxY⟩
           case measure=>simp [intOf];omega
     · have hltI:¬ (k:Int) < (n:Int):=by omega
       obtain rfl:k = n:=by omega
       obtain rfl:OK = true:=HYOK.out (fun i hi=>HOK.out i hi)
       go_wp2_with fail
       go_ret
       exact ⟨rfl,bW.trans (hbx.mono bW.size)⟩
 · have h20I:(20:Int) < (n:Int):=by omega
   rw [decide_eq_false h20]
   go_enter Tryz.func83,Tryz.ntmps83
   go_upto_region 1 with fail
   rw [← show W = _ from HW]
   go_wp2_with fail
   refine (HD.out _).mono ?_
   rintro e w2 ⟨rfl,hw2⟩
   have hw3:=hw2.symm
   subst hw3
   go_wp2_with fail
   go_ret
   exact ⟨rfl,bW⟩
def totL:List (Int × List UInt8) → Nat
 | []=>0
 | p :: r=>p.2.length + totL r
theorem totL_snoc (A:List (Int × List UInt8)) (p:Int × List UInt8):totL (A ++ [p]) = totL A + p.2.length:=by
 induction A with
 | nil=>show p.2.length + 0 = 0 + p.2.length;omega
 | cons q r ih=>show q.2.length + totL (r ++ [p]) = q.2.length + totL r + p.2.length;rw [ih];omega
theorem totL_take (L:List (Int × List UInt8)) (k:Nat) (hk:k < L.length):totL (L.take (k + 1)) = totL (L.take k) + (L.getD k (0,[])).2.length:=by
 rw [List.take_succ_eq_append_getElem hk,totL_snoc,List.getD_eq_getElem?_getD,List.getElem?_eq_getElem hk]
 rfl
theorem totL_mem (L:List (Int × List UInt8)):∀ p ∈ L,p.2.length ≤ totL L:=by
 induction L with
 | nil=>intro p h;cases h
 | cons q r ih =>
   intro p h
   show _ ≤ q.2.length + totL r
   rcases List.mem_cons.1 h with rfl | h
   · omega
   · have:=ih p h;omega
theorem markN_tot (L:List (Int × List UInt8)):∀ k,Z.markN L k = k + L.length + totL L:=by
 induction L with
 | nil=>intro k;rfl
 | cons q r ih=>intro k;show Z.markN r (k + 1 + q.2.length) = k + (r.length + 1) + (q.2.length + totL r);rw [ih];omega
set_option maxHeartbeats 400000 in
theorem szByteS_any (n:Nat) (a:Option Addr) (c:Nat) (l:Int) (w:World) (hn:n ≤ maxLen) (h0:0 ≤ l) (h1:l ≤ 1048576) :
   Calls Tryz.prog 122 #[.slice a n c,.int .i64 l] w fun e w'=>e = .returned (.int .i64 (if l - n < 0 then -1 else l - n)) ∧ w' = w:=by
 unfold maxLen at hn
 by_cases hl:l - n < 0
 · have hl':l < (n:Int):=by omega
   rw [if_pos hl]
   go_enter Tryz.func122,Tryz.ntmps122
   go_wp2
   go_ret
   exact ⟨rfl,rfl⟩
 · have hl':¬ l < (n:Int):=by omega
   rw [if_neg hl]
   go_enter Tryz.func122,Tryz.ntmps122
   go_wp2
   go_ret
   exact ⟨rfl,rfl⟩
set_option maxHeartbeats 400000 in
theorem szField_any (no:Int) (n:Nat) (a:Option Addr) (c:Nat) (l:Int) (w:World) (hn:n ≤ maxLen) (h0:0 ≤ l) (h1:l ≤ 1048576) :
   Calls Tryz.prog 82 #[.agg #[.int .i64 no,.slice a n c],.int .i64 l] w fun e w'=>e = .returned (.int .i64 (if l - n < 0 then -1 else l - n)) ∧ Below w.heap.size w w':=by
 have hb:Below w.heap.size w (w.alloc (.cells #[.int .i64 no,.slice a n c] 133)):=below_newT _ _
 have HZ:=hideT (fun (wx:World)=>szByteS_any n a c l wx hn h0 h1)
 by_cases hl:l - n < 0
 · rw [if_pos hl] at HZ ⊢
   go_enter Tryz.func82,Tryz.ntmps82
   go_wp2_with (go_at_call 122;refine (HZ.out _).mono ?_;rintro e wz ⟨rfl,rfl⟩)
   go_ret
   exact ⟨rfl,hb⟩
 · rw [if_neg hl] at HZ ⊢
   obtain ⟨q,hq⟩:∃ q,q = l - (n:Int):=⟨_,rfl⟩
   rw [← hq] at HZ ⊢
   have hq0:¬ (q < 0):=by omega
   clear hq hl
   go_enter Tryz.func82,Tryz.ntmps82
   go_wp2_with (go_at_call 122;refine (HZ.out _).mono ?_;rintro e wz ⟨rfl,rfl⟩)
   go_ret
   exact ⟨rfl,hb⟩
set_option maxHeartbeats 1000000 in
theorem szFieldS_any (L:List (Int × List UInt8)) (v:Value) (w:World) (F:Fr w v L) (hn:L.length ≤ maxLen) (hs:∀ p ∈ L,p.2.length ≤ maxLen) (l:Int) (h0:0 ≤ l) (h1:l ≤ 1048576) :
   Calls Tryz.prog 44 #[v,.int .i64 l] w fun e w'=>∃ r:Int,e = .returned (.int .i64 r) ∧ -1 ≤ r ∧ r ≤ 1048576 ∧ (0 ≤ r → (L.length:Int) + (totL L:Nat) ≤ l) ∧ Below w.heap.size w w':=by
 unfold maxLen at hn
 obtain ⟨x1,c1,rfl⟩:=F.sh
 obtain ⟨n,hnn⟩:∃ n,n = L.length:=⟨_,rfl⟩
 have HN:=hideT hnn
 have HS:=hideT hs
 rw [← hnn] at hn F ⊢
 have HF:=hideT F
 clear hnn F hs
 by_cases hl:(n:Int) ≤ l
 · have hl3:¬ (l - (n:Int) < 0):=by omega
   have hl2:¬ (l < (n:Int)):=by omega
   go_enter Tryz.func44,Tryz.ntmps44
   go_wp2_with fail
   go_loopw [1,5] (fun lv i wr=>∃ (k:Nat) (v:Int),k ≤ n ∧ i = .int .i64 k ∧ lv = .int .i64 v ∧ 0 ≤ v ∧ v ≤ 1048576 ∧ Hid (v = l - n - (totL (L.take k):Nat)) ∧ Below w.heap.size w wr) (fun _ i _=>n - (intOf i).toNat)
   case atStart=>exact ⟨0,l - n,Nat.zero_le _,rfl,by go_num,by omega,by omega,(by rw [List.take_zero];show l - n = l - n - ((0:Nat):Int);omega:l - n = l - n - (totL (L.take 0):Nat)),Below.refl _ _⟩
   case round =>
     obtain ⟨k,v,hk,rfl,rfl,hv0,hv1,HV,hbel⟩:=hrel
     by_cases hlt:k < n
     · have hltI:(k:Int) < (n:Int):=by omega
       have hkL:k < L.length:=by rw [← HN.out];exact hlt
       obtain ⟨g,o,cc,ai,ci,ev,p1w,p2w,r0⟩:=HF.out.at_ k hkL
       simp only [Value.slice.injEq] at ev
       obtain ⟨rfl,-,rfl⟩:=ev
       have hlw:=World.block_lt_of_cell? w _ p1w
       have p1:=(hbel.cell (p:=⟨g,o + k * 2,none⟩) hlw).trans p1w
       have p2:=(hbel.cell (p:=⟨g,o + k * 2 + 1,none⟩) hlw).trans p2w
       have hdl:(L.getD k (0,[])).2.length ≤ maxLen:=by
         rw [List.getD_eq_getElem?_getD,List.getElem?_eq_getElem hkL]
         exact HS.out _ (List.getElem_mem hkL)
       have HT:=hideT (totL_take L k hkL)
       obtain ⟨no,hno⟩:∃ q,q = (L.getD k (0,[])).1:=⟨_,rfl⟩
       obtain ⟨m,hm⟩:∃ q,q = (L.getD k (0,[])).2.length:=⟨_,rfl⟩
       rw [← hno] at p1
       rw [← hm] at p2 hdl HT
       have HZ:=hideT (fun (wx:World)=>szField_any no m ai ci v wx hdl hv0 hv1)
       obtain ⟨v',hv',hv1',hv2',hv3'⟩:∃ v':Int,v' = (if v - m < 0 then -1 else v - (m:Int)) ∧ v' ≤ 1048576 ∧ -1 ≤ v' ∧ (0 ≤ v' → v' = v - m):=⟨_,rfl,by split <;> omega,by split <;> omega,by split <;> omega⟩
       rw [← hv'] at HZ
       have HV3:=hideT hv3'
       clear p1w p2w r0 hlw hno hm hv' hv3' hl3 hl2
       by_cases hneg:v' < 0
       · go_wp2_with (go_at_call 82;refine (HZ.out _).mono ?_;rintro e w1 ⟨rfl,bel1⟩;have hbel1:=hbel.trans (bel1.mono hbel.size);clear hbel p1 p2)
         go_ret
         exact ⟨-1,rfl,by omega,by omega,by omega,hbel1⟩
       · go_wp2_with (go_at_call 82;refine (HZ.out _).mono ?_;rintro e w1 ⟨rfl,bel1⟩;have hbel1:=hbel.trans (bel1.mono hbel.size);clear hbel p1 p2)
         go_roundw
         case rel =>
           have h3:=HV3.out (by omega)
           have h4:=HV.out
           have h5:=HT.out
           exact ⟨k + 1,v',by omega,by go_num,rfl,by omega,by omega,(by omega:v' = l - n - (totL (L.take (k + 1)):Nat)),hbel1⟩
         case measure=>simp [intOf];omega
     · have hltI:¬ (k:Int) < (n:Int):=by omega
       go_wp2_with fail
       go_ret
       refine ⟨v,rfl,by omega,hv1,fun _=>?_,hbel⟩
       have h4:=HV.out
       rw [List.take_of_length_le (by rw [← HN.out];omega)] at h4
       omega
 · have hl2:(l:Int) < (n:Int):=by omega
   have hl3:l - (n:Int) < 0:=by omega
   go_enter Tryz.func44,Tryz.ntmps44
   go_wp2_with fail
   go_ret
   exact ⟨-1,rfl,by omega,by omega,by omega,Below.refl _ _⟩
set_option maxHeartbeats 1000000 in
theorem szMsg_any (s:ByteArray) (L:List (Int × List UInt8)) (v:Value) (w:World) (F:Fr w v L) (hz:s.size ≤ maxLen) (hn:L.length ≤ maxLen) (hs:∀ p ∈ L,p.2.length ≤ maxLen) :
   Calls Tryz.prog 17 #[.agg #[.string s,v],.int .i64 1048576] w fun e w'=>∃ r:Int,e = .returned (.int .i64 r) ∧ -1 ≤ r ∧ r ≤ 1048576 ∧ (0 ≤ r → (s.size:Int) + (L.length:Int) + (totL L:Nat) ≤ 1048576) ∧ Below w.heap.size w w':=by
 unfold maxLen at hz
 obtain ⟨W,hW⟩:∃ x,x = w.alloc (Obj.cells #[.string s,v] 46):=⟨_,rfl⟩
 have bW:Below w.heap.size w W:=by rw [hW];exact below_newT _ _
 have HW:=hideT hW
 by_cases hl:(s.size:Int) ≤ 1048576
 · have hl2:¬ (1048576:Int) < (s.size:Int):=by omega
   have hl3:¬ ((1048576:Int) - (s.size:Int) < 0):=by omega
   have HZ:=hideT (szFieldS_any L v W (F.below bW) hn hs (1048576 - (s.size:Int)) (by omega) (by omega))
   clear hW F hs
   go_enter Tryz.func17,Tryz.ntmps17
   go_wp2_with fail
   rw [← show W = _ from HW]
   refine HZ.out.mono ?_
   rintro e w2 ⟨r,rfl,h1,h2,h3,b2⟩
   have H3:=hideT h3
   clear h3 HZ
   by_cases hneg:r < 0
   · go_wp2_with fail
     go_ret
     exact ⟨-1,rfl,by omega,by omega,by omega,bW.trans (b2.mono bW.size)⟩
   · go_wp2_with fail
     go_ret
     exact ⟨r,rfl,h1,h2,fun h=>by have:=H3.out h;omega,bW.trans (b2.mono bW.size)⟩
 · have hl2:(1048576:Int) < (s.size:Int):=by omega
   have hl3:((1048576:Int) - (s.size:Int) < 0):=by omega
   clear hW F hs
   go_enter Tryz.func17,Tryz.ntmps17
   go_wp2_with fail
   go_ret
   exact ⟨-1,rfl,by omega,by omega,by omega,by rw [← show W = _ from HW];exact bW⟩
theorem own_setB {w:World} {base:Nat} {v:Value} {l:List UInt8} (h:Own w base v l) {a:Addr} (ha:a.block < base) (u:Value):Own (w.setCell a u) base v l:=by
 obtain ⟨t,h⟩:=h
 exact ⟨t,ownsRow_setCell_below h ha u⟩
set_option maxRecDepth 100000 in
set_option maxHeartbeats 2000000 in
theorem toField_any (no:Int) (d:List UInt8) (a:Option Addr) (c:Nat) (w:World) (hn:d.length ≤ 1048576) (hr:RowAt w a d) :
   Calls Tryz.prog 89 #[.agg #[.int .i64 no,.slice a d.length c]] w fun e w'=>∃ g,e = .returned (.agg #[.int .i64 no,.slice (some ⟨g,0,none⟩) d.length d.length]) ∧ Own w' w.heap.size (.slice (some ⟨g,0,none⟩) d.length d.length) d ∧ Below w.heap.size w w':=by
 have HT:=hideT (fun (wx:World) (h:RowAt wx a d)=>toByteS_any a c d wx hn h)
 obtain ⟨n,hnl⟩:∃ n,n = d.length:=⟨_,rfl⟩
 rw [← hnl] at HT ⊢
 have HN:=hideT hnl
 obtain ⟨W,hW⟩:∃ W,W = ((w.alloc (.cells #[.int .i64 no,.slice a n c] 133)).alloc (.cells #[.int .i64 0,.slice none 0 0] 37)).alloc (.cells #[.int .i64 no,.slice none 0 0] 37):=⟨_,rfl⟩
 have k2:Blk W (w.heap.size + 1) 37 [.int .i64 0,.slice none 0 0]:=by rw [hW];exact (Blk.newAt _ _ _ #[.int .i64 0,.slice none 0 0] (by simp)).alloc _
 have k3:Blk W (w.heap.size + 1 + 1) 37 [.int .i64 no,.slice none 0 0]:=by rw [hW];exact Blk.newAt _ _ _ _ (by simp)
 have bW:Below w.heap.size w W:=by rw [hW];exact (((Below.refl _ _).alloc (Nat.le_refl _) _).alloc (by simp) _).alloc (by simp;omega) _
 clear hnl
 go_enter Tryz.func89,Tryz.ntmps89
 go_wp2_with fail
 rw [← hW]
 clear hW
 refine (HT.out W (hr.below bW)).mono ?_
 rintro e w1 ⟨rfl,own1,bel1⟩
 have b1:=bW.trans (bel1.mono bW.size)
 have l2:=k2.lt
 have l3:=k3.lt
 obtain ⟨A,hA⟩:∃ A,A = W.heap.size:=⟨_,rfl⟩
 have HO1:=hideT own1
 rw [← hA] at HO1 l2 l3 ⊢
 replace k2:=k2.below bel1 k2.lt
 replace k3:=k3.below bel1 k3.lt
 have hwA:w.heap.size ≤ A:=by omega
 have k3':=k3.set 1 (.slice (some ⟨A,0,none⟩) n n)
 have k2':=k2.other ⟨w.heap.size + 1 + 1,1,none⟩ (.slice (some ⟨A,0,none⟩) n n) (by simp)
 have c32:w1.cell? ⟨w.heap.size + 1 + 1,1,none⟩ = some (.slice none 0 0):=k3.cell 1 (by simp)
 have f32:=k3.free 1
 have b2:=b1.setCell (p:=⟨w.heap.size + 1 + 1,1,none⟩) (by show w.heap.size ≤ w.heap.size + 1 + 1;omega) (.slice (some ⟨A,0,none⟩) n n)
 clear own1 hA bel1 bW k2 k3
 go_upto_region 4 with fail
 obtain ⟨V,hV⟩:∃ V,V = w1.setCell ⟨w.heap.size + 1 + 1,1,none⟩ (.slice (some ⟨A,0,none⟩) n n):=⟨_,rfl⟩
 have HOV:Hid (Own V A (.slice (some ⟨A,0,none⟩) n n) d):=by
   show Own _ _ _ _
   rw [hV]
   exact own_setB HO1.out (by show w.heap.size + 1 + 1 < A;omega) _
 rw [← hV] at b2 k2' k3' ⊢
 clear hV
 have d0:V.cell? ⟨w.heap.size + 1 + 1,0,none⟩ = some (.int .i64 no):=k3'.cell 0 (by simp)
 have d1:V.cell? ⟨w.heap.size + 1 + 1,1,none⟩ = some (.slice (some ⟨A,0,none⟩) n n):=k3'.cell 1 (by simp)
 have e0:V.cell? ⟨w.heap.size + 1,0,none⟩ = some (.int .i64 0):=k2'.cell 0 (by simp)
 have e1:V.cell? ⟨w.heap.size + 1,1,none⟩ = some (.slice none 0 0):=k2'.cell 1 (by simp)
 have f0:=k2'.free 0
 have f1:=k2'.free 1
 clear f32 c32 b1 HO1
 go_wp2_with fail
 have hlA:w.heap.size + 1 < A:=by omega
 have hO:=((own_setB (own_setB HOV.out (a:=⟨w.heap.size + 1,0,none⟩) hlA (.int .i64 no)) (a:=⟨w.heap.size + 1,1,none⟩) hlA (.slice (some ⟨A,0,none⟩) n n))).monoI hwA
 exact bodyPost_ret (v:=.agg [.int .i64 no,.slice (some ⟨A,0,none⟩) n n].toArray) (results_blk Tryz.results89 _ _ rfl (show Blk _ _ 37 [.int .i64 no,.slice (some ⟨A,0,none⟩) n n] from (k2'.set 0 (.int .i64 no)).set 1 (.slice (some ⟨A,0,none⟩) n n)) Tryz.underlying37 rfl (by kernel_rfl)) rfl
   ⟨A,rfl,hO,(b2.setCell (p:=⟨w.heap.size + 1,0,none⟩) (by show w.heap.size ≤ w.heap.size + 1;omega) _).setCell (p:=⟨w.heap.size + 1,1,none⟩) (by show w.heap.size ≤ w.heap.size + 1;omega) _⟩
structure TS (w:World) (lo:Nat) (L:List (Int × List UInt8)) (k:Nat) (xs vs:List Value):Prop where
 len:vs.length = k
 at_:∀ i,i < k → xs[i * 2]? = some (.int .i64 (L.getD i (0,[])).1) ∧ xs[i * 2 + 1]? = some (vs.getD i undef) ∧ Own w lo (vs.getD i undef) (L.getD i (0,[])).2
 sep:∀ i j,i < j → j < k → ∀ g,(vs.getD i undef).ownBlock = some g → (vs.getD j undef).ownBlock ≠ some g
theorem TS.step {w w1 w2:World} {lo k:Nat} {L:List (Int × List UInt8)} {xs vs:List Value} {x:Value} (h:TS w lo L k xs vs) (hb:Below w.heap.size w w1) (own:Own w1 w.heap.size x (L.getD k (0,[])).2) (hlo:lo ≤ w.heap.size) (hk:k * 2 + 1 < xs.length) (hkeep:∀ {y l},Own w1 lo y l → Own w2 lo y l) :
   TS w2 lo L (k + 1) ((xs.set (k * 2) (.int .i64 (L.getD k (0,[])).1)).set (k * 2 + 1) x) (vs ++ [x]):=by
 have hlen:=h.len
 refine ⟨by simp [hlen],fun i hi=>?_,fun i j hij hj g hg=>?_⟩
 · by_cases hik:i = k
   · subst hik
     rw [getD_last _ _ _ _ hlen.symm]
     refine ⟨?_,?_,hkeep (own.monoI hlo)⟩
     · rw [List.getElem?_set_ne (by omega),List.getElem?_set_self (by omega)]
     · rw [List.getElem?_set_self (by simp;omega)]
   · obtain ⟨h1,h2,h3⟩:=h.at_ i (by omega)
     rw [getD_left _ _ _ _ (by omega)]
     refine ⟨?_,?_,hkeep (h3.below hb)⟩
     · rw [List.getElem?_set_ne (by omega),List.getElem?_set_ne (by omega)];exact h1
     · rw [List.getElem?_set_ne (by omega),List.getElem?_set_ne (by omega)];exact h2
 · rw [getD_left _ _ _ _ (by omega)] at hg
   by_cases hjk:j = k
   · subst hjk
     rw [getD_last _ _ _ _ hlen.symm]
     intro e
     have h1:=(own_lt (h.at_ i hij).2.2 g hg).2
     have h2:=(own_lt own g e).1
     omega
   · rw [getD_left _ _ _ _ (by omega)]
     exact h.sep i j hij (by omega) g hg
theorem TS.fs {w:World} {lo c:Nat} {L:List (Int × List UInt8)} {xs vs:List Value} (h:TS w (lo + 1) L L.length xs vs) (row:w.ownsRow lo 37 2 (.slice (some ⟨lo,0,none⟩) L.length c) L.length xs):Z.Fs w lo (.slice (some ⟨lo,0,none⟩) L.length c) L vs:=by
 have hl:=Z.fldCells_length L vs h.len
 have he:Z.fldCells L vs = xs:=by
   apply List.ext_getElem?
   intro j
   have hx:xs.length = L.length * 2:=row.1
   by_cases hj:j < L.length * 2
   · have hj2:j / 2 < L.length:=by omega
     obtain ⟨a1,a2⟩:=Z.fldCells_at L vs h.len (j / 2) hj2
     obtain ⟨b1,b2,-⟩:=h.at_ (j / 2) hj2
     by_cases hm:j % 2 = 0
     · rw [show j = j / 2 * 2 from by omega,a1,b1]
     · rw [show j = j / 2 * 2 + 1 from by omega,a2,b2]
   · rw [List.getElem?_eq_none (by omega),List.getElem?_eq_none (by omega)]
 refine ⟨h.len,by rw [he];exact row,fun i hi=>(h.at_ i hi).2.2.monoI (by omega),h.sep,fun i hi g hg e=>?_⟩
 have h1:=(own_lt (h.at_ i hi).2.2 g hg).1
 have h2:g = lo:=by simpa [Value.ownBlock] using e.symm
 omega
theorem Tryz.infoFz:(Tryz.prog.info? 37).map (fun i=>(i.zero,i.size,i.bytes)) = some (some (.agg #[.int .i64 0,.slice none 0 0]),2,32):=by kernel_rfl
set_option maxRecDepth 100000 in
set_option maxHeartbeats 2000000 in
theorem toFieldS_any (L:List (Int × List UInt8)) (v:Value) (w:World) (F:Fr w v L) (hL:L.length ≤ 1048576) (hsz:∀ p ∈ L,p.2.length ≤ 1048576) :
   Calls Tryz.prog 48 #[v] w fun e w'=>e = .returned (.slice (some ⟨w.heap.size,0,none⟩) L.length L.length) ∧ (∃ vs,Z.Fs w' w.heap.size (.slice (some ⟨w.heap.size,0,none⟩) L.length L.length) L vs) ∧ Below w.heap.size w w':=by
 obtain ⟨i0,hi,hz0,hz1,hz2⟩:=info_parts Tryz.infoFz
 obtain ⟨x1,c1,rfl⟩:=F.sh
 have HFS:=hideT (fun (wx:World) (xs vs:List Value) (h:TS wx (w.heap.size + 1) L L.length xs vs) (row:wx.ownsRow w.heap.size 37 2 (.slice (some ⟨w.heap.size,0,none⟩) L.length L.length) L.length xs)=>TS.fs h row)
 obtain ⟨n,hnn⟩:∃ n,n = L.length:=⟨_,rfl⟩
 have HN:=hideT hnn
 have HSZ:=hideT hsz
 rw [← hnn] at hL F HFS ⊢
 have HF:=hideT F
 clear hnn F hsz
 go_enter Tryz.func48,Tryz.ntmps48
 go_wp2_with (at_make;refine wpList_make_full _ rfl _ _ 28 rfl w.heap.size 37 i0 (.agg #[.int .i64 0,.slice none 0 0]) 2 Tryz.underlying28 hi hz0 hz1 .i64 .i64 _ _ n rfl rfl rfl rfl (by rw [hz2];omega) (by unfold maxLen;omega) (Nat.le_refl _) ?_;intro w0 hown0 hgrow0)
 have hb0:=below_of_grown hgrow0
 have hs0:w.heap.size + 1 ≤ w0.heap.size:=(hown0.lt _ rfl).2
 clear hgrow0
 obtain ⟨bs,hbs⟩:∃ q,q = w.heap.size:=⟨_,rfl⟩
 rw [← hbs] at hs0 hown0 HFS hb0 ⊢
 have hbl:w.heap.size ≤ bs:=by rw [hbs];exact Nat.le_refl _
 have HBS:=hideT hbs
 clear hbs
 go_loopw [4] (fun i wr=>∃ (k:Nat) (xs vs:List Value),k ≤ n ∧ i = .int .i64 k ∧ wr.ownsRow bs 37 2 (.slice (some ⟨bs,0,none⟩) n n) n xs ∧ Hid (TS wr (bs + 1) L k xs vs) ∧ Below bs w wr ∧ bs + 1 ≤ wr.heap.size) (fun i _=>n - (intOf i).toNat)
 case atStart=>exact ⟨0,_,[],Nat.zero_le _,rfl,hown0,⟨rfl,fun i h=>absurd h (Nat.not_lt_zero _),fun i j _ h=>absurd h (Nat.not_lt_zero _)⟩,hb0,hs0⟩
 case round =>
   obtain ⟨k,xs,vs,hk,rfl,hown,HTS,hbel,hsr⟩:=hrel
   clear hown0 hb0 hs0
   by_cases hlt:k < n
   · have hltI:(k:Int) < (n:Int):=by omega
     have hkL:k < L.length:=by rw [← HN.out];exact hlt
     obtain ⟨g,o,cc,ai,ci,ev,p1w,p2w,r0⟩:=HF.out.at_ k hkL
     simp only [Value.slice.injEq] at ev
     obtain ⟨rfl,-,rfl⟩:=ev
     have hbw:Below w.heap.size w wr:=by rw [← HBS.out];exact hbel
     have hlw:=World.block_lt_of_cell? w _ p1w
     have p1:=(hbw.cell (p:=⟨g,o + k * 2,none⟩) hlw).trans p1w
     have p2:=(hbw.cell (p:=⟨g,o + k * 2 + 1,none⟩) hlw).trans p2w
     have rr:=r0.below hbw
     have hdl:(L.getD k (0,[])).2.length ≤ 1048576:=by
       rw [List.getD_eq_getElem?_getD,List.getElem?_eq_getElem hkL]
       exact HSZ.out _ (List.getElem_mem hkL)
     have hxl:xs.length = n * 2:=hown.1
     have HST:=hideT (fun (w1 w2:World) (x:Value) (hb:Below wr.heap.size wr w1) (own:Own w1 wr.heap.size x (L.getD k (0,[])).2) (hkeep:∀ {y l},Own w1 (bs + 1) y l → Own w2 (bs + 1) y l)=>HTS.out.step hb own hsr (by omega) hkeep)
     obtain ⟨no,hno⟩:∃ q,q = (L.getD k (0,[])).1:=⟨_,rfl⟩
     obtain ⟨d,hd⟩:∃ q,q = (L.getD k (0,[])).2:=⟨_,rfl⟩
     rw [← hno] at p1 HST
     rw [← hd] at p2 rr hdl HST
     have HTF:=hideT (toField_any no d ai ci wr hdl rr)
     obtain ⟨l,hl⟩:∃ q,q = d.length:=⟨_,rfl⟩
     rw [← hl] at p2 HTF
     have HXL:=hideT hxl
     clear hno hd hl p1w p2w r0 rr hlw hbw HTS hxl
     go_wp2_with fail
     refine HTF.out.mono ?_
     rintro e w1 ⟨gn,rfl,ownn,b1⟩
     have hown1:=World.ownsRow.kept hown (grown_of_below b1 none) (Or.inr (by simp [Value.ownBlock]))
     have hbel1:=hbel.trans (b1.mono (Nat.le_trans (Nat.le_succ _) hsr))
     have hs1:=Nat.le_trans hsr b1.size
     have hf1:w1.frozen? ⟨bs,k * 2,none⟩ = false:=hown1.frozenAt _
     have hf2:w1.frozen? ⟨bs,k * 2 + 1,none⟩ = false:=hown1.frozenAt _
     obtain ⟨u1,hu1⟩:=own_some hown1 (by omega:k * 2 < n * 2)
     obtain ⟨u2,hu2⟩:=own_some hown1 (by omega:k * 2 + 1 < n * 2)
     have HTS2:=hideT (HST.out _ ((w1.setCell ⟨bs,k * 2,none⟩ (.int .i64 no)).setCell ⟨bs,k * 2 + 1,none⟩ (.slice (some ⟨gn,0,none⟩) l l)) _ b1 ownn (fun h=>own_setB (own_setB h (by show bs < bs + 1;omega) _) (by show bs < bs + 1;omega) _))
     have ho1:=(hown1.stored (k * 2) (.int .i64 no)).1
     have ho2:=(ho1.stored (k * 2 + 1) (.slice (some ⟨gn,0,none⟩) l l)).1
     have HO2:=hideT ho2
     have hb2:=(hbel1.setCell (p:=⟨bs,k * 2,none⟩) (Nat.le_refl _) (.int .i64 no)).setCell (p:=⟨bs,k * 2 + 1,none⟩) (Nat.le_refl _) (.slice (some ⟨gn,0,none⟩) l l)
     clear hown ho1 ho2 hown1 hbel1 hbel HST HTF b1 ownn p1 p2
     go_wp2_with fail
     go_roundw
     case rel=>exact ⟨k + 1,_,_,by omega,by go_num,HO2.out,HTS2,hb2,by simpa using hs1⟩
     case measure=>simp [intOf];omega
   · have hltI:¬ (k:Int) < (n:Int):=by omega
     obtain rfl:k = n:=by omega
     go_wp2_with fail
     go_ret
     have e:=HBS.out
     subst e
     exact ⟨rfl,⟨vs,HFS.out _ _ _ HTS.out hown⟩,hbel⟩
set_option maxRecDepth 100000 in
set_option maxHeartbeats 2000000 in
theorem toMsg_any (s:ByteArray) (L:List (Int × List UInt8)) (v:Value) (w:World) (F:Fr w v L) (hL:L.length ≤ 1048576) (hsz:∀ p ∈ L,p.2.length ≤ 1048576) :
   Calls Tryz.prog 19 #[.agg #[.string s,v]] w fun e w'=>∃ g,e = .returned (.agg #[.string s,.slice (some ⟨g,0,none⟩) L.length L.length]) ∧ (∃ vs,Z.Fs w' w.heap.size (.slice (some ⟨g,0,none⟩) L.length L.length) L vs) ∧ Below w.heap.size w w':=by
 obtain ⟨x1,c1,rfl⟩:=F.sh
 have HT:=hideT (fun (wx:World) (h:Fr wx (.slice x1 L.length c1) L)=>toFieldS_any L _ wx h hL hsz)
 obtain ⟨n,hnl⟩:∃ n,n = L.length:=⟨_,rfl⟩
 rw [← hnl] at HT F ⊢
 have HN:=hideT hnl
 obtain ⟨W,hW⟩:∃ W,W = ((w.alloc (.cells #[.string s,.slice x1 n c1] 46)).alloc (.cells #[.string ⟨#[]⟩,.slice none 0 0] 30)).alloc (.cells #[.string s,.slice none 0 0] 30):=⟨_,rfl⟩
 have k2:Blk W (w.heap.size + 1) 30 [.string ⟨#[]⟩,.slice none 0 0]:=by rw [hW];exact (Blk.newAt _ _ _ #[.string ⟨#[]⟩,.slice none 0 0] (by simp)).alloc _
 have k3:Blk W (w.heap.size + 1 + 1) 30 [.string s,.slice none 0 0]:=by rw [hW];exact Blk.newAt _ _ _ _ (by simp)
 have bW:Below w.heap.size w W:=by rw [hW];exact (((Below.refl _ _).alloc (Nat.le_refl _) _).alloc (by simp) _).alloc (by simp;omega) _
 have FW:=F.below bW
 have HFW:=hideT FW
 clear hnl F FW
 go_enter Tryz.func19,Tryz.ntmps19
 go_wp2_with fail
 rw [← hW]
 clear hW
 refine (HT.out W HFW.out).mono ?_
 rintro e w1 ⟨rfl,⟨vs,F1⟩,bel1⟩
 have b1:=bW.trans (bel1.mono bW.size)
 have l2:=k2.lt
 have l3:=k3.lt
 obtain ⟨A,hA⟩:∃ A,A = W.heap.size:=⟨_,rfl⟩
 have HO1:=hideT F1
 rw [← hA] at HO1 l2 l3 ⊢
 replace k2:=k2.below bel1 k2.lt
 replace k3:=k3.below bel1 k3.lt
 have hwA:w.heap.size ≤ A:=by omega
 have k3':=k3.set 1 (.slice (some ⟨A,0,none⟩) n n)
 have k2':=k2.other ⟨w.heap.size + 1 + 1,1,none⟩ (.slice (some ⟨A,0,none⟩) n n) (by simp)
 have c32:w1.cell? ⟨w.heap.size + 1 + 1,1,none⟩ = some (.slice none 0 0):=k3.cell 1 (by simp)
 have f32:=k3.free 1
 have b2:=b1.setCell (p:=⟨w.heap.size + 1 + 1,1,none⟩) (by show w.heap.size ≤ w.heap.size + 1 + 1;omega) (.slice (some ⟨A,0,none⟩) n n)
 clear F1 hA bel1 bW k2 k3
 go_upto_region 4 with fail
 obtain ⟨V,hV⟩:∃ V,V = w1.setCell ⟨w.heap.size + 1 + 1,1,none⟩ (.slice (some ⟨A,0,none⟩) n n):=⟨_,rfl⟩
 have HOV:Hid (Z.Fs V A (.slice (some ⟨A,0,none⟩) n n) L vs):=by
   show Z.Fs _ _ _ _ _
   rw [hV]
   exact Z.Fs.set HO1.out (by show w.heap.size + 1 + 1 < A;omega) _
 rw [← hV] at b2 k2' k3' ⊢
 clear hV
 have d0:V.cell? ⟨w.heap.size + 1 + 1,0,none⟩ = some (.string s):=k3'.cell 0 (by simp)
 have d1:V.cell? ⟨w.heap.size + 1 + 1,1,none⟩ = some (.slice (some ⟨A,0,none⟩) n n):=k3'.cell 1 (by simp)
 have e0:V.cell? ⟨w.heap.size + 1,0,none⟩ = some (.string ⟨#[]⟩):=k2'.cell 0 (by simp)
 have e1:V.cell? ⟨w.heap.size + 1,1,none⟩ = some (.slice none 0 0):=k2'.cell 1 (by simp)
 have f0:=k2'.free 0
 have f1:=k2'.free 1
 clear f32 c32 b1 HO1
 go_wp2_with fail
 have hlA:w.heap.size + 1 < A:=by omega
 have hO:=(Z.Fs.set (Z.Fs.set HOV.out (a:=⟨w.heap.size + 1,0,none⟩) hlA (.string s)) (a:=⟨w.heap.size + 1,1,none⟩) hlA (.slice (some ⟨A,0,none⟩) n n)).mono hwA
 exact bodyPost_ret (v:=.agg [.string s,.slice (some ⟨A,0,none⟩) n n].toArray) (results_blk Tryz.results19 _ _ rfl (show Blk _ _ 30 [.string s,.slice (some ⟨A,0,none⟩) n n] from (k2'.set 0 (.string s)).set 1 (.slice (some ⟨A,0,none⟩) n n)) Tryz.underlying30 rfl (by kernel_rfl)) rfl
   ⟨A,rfl,⟨vs,hO⟩,(b2.setCell (p:=⟨w.heap.size + 1,0,none⟩) (by show w.heap.size ≤ w.heap.size + 1;omega) _).setCell (p:=⟨w.heap.size + 1,1,none⟩) (by show w.heap.size ≤ w.heap.size + 1;omega) _⟩
end Go.Proofs.YtjkofmomoljelaaGreatDoor
