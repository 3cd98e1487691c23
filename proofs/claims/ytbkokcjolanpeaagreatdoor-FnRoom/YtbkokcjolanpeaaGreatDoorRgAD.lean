import Derived.Test.YtbkokcjolanpeaaGreatDoorRgAC
import Derived.Deep.SlicePairs
namespace Go.Proofs.YtbkokcjolanpeaaGreatDoor
open Go.RowKit
def macNo (no:Int):Bool:=decide (no = 64) || decide (no = 128)
def ixN (no:Int):Int:=if no = 64 then 0 else if no = 128 then 1 else -1
set_option maxHeartbeats 1000000 in
theorem index2_any (no:Int) (gN:Nat) (w:World) (c0:w.cell? ⟨gN,0,none⟩ = some (.int .i64 64)) (c1:w.cell? ⟨gN,1,none⟩ = some (.int .i64 128)) :
   Calls Tryz.prog 98 #[.slice (some ⟨gN,0,none⟩) 2 2,.int .i64 no] w fun e w'=>e = .returned (.int .i64 (ixN no)) ∧ w' = w:=by
 by_cases h1:no = 64
 · have e:ixN no = 0:=by unfold ixN;rw [if_pos h1]
   rw [e]
   subst h1
   go_enter Tryz.func98,Tryz.ntmps98
   go_wp2_with fail
   go_loopw [8] (fun i wr=>i = .int .i64 0 ∧ wr = w) (fun i _=>2 - (intOf i).toNat)
   case atStart=>exact ⟨rfl,rfl⟩
   case round =>
     obtain ⟨rfl,hw⟩:=hrel
     have hw2:=hw.symm
     subst hw2
     go_wp2_with fail
     go_ret
     exact ⟨rfl,rfl⟩
 · have hb1:(no == 64) = false:=by rw [beq_eq_false_iff_ne];exact h1
   by_cases h2:no = 128
   · have e:ixN no = 1:=by unfold ixN;rw [if_neg h1,if_pos h2]
     rw [e]
     subst h2
     go_enter Tryz.func98,Tryz.ntmps98
     go_wp2_with fail
     go_loopw [8] (fun i wr=>(i = .int .i64 0 ∨ i = .int .i64 1) ∧ wr = w) (fun i _=>2 - (intOf i).toNat)
     case atStart=>exact ⟨.inl rfl,rfl⟩
     case round =>
       obtain ⟨hi,hw⟩:=hrel
       have hw2:=hw.symm
       subst hw2
       rcases hi with rfl | rfl
       · go_wp2_with fail
         go_roundw
         case rel=>exact ⟨.inr rfl,trivial⟩
         case measure=>simp [intOf]
       · go_wp2_with fail
         go_ret
         exact ⟨rfl,rfl⟩
   · have hb2:(no == 128) = false:=by rw [beq_eq_false_iff_ne];exact h2
     have e:ixN no = -1:=by unfold ixN;rw [if_neg h1,if_neg h2]
     rw [e]
     go_enter Tryz.func98,Tryz.ntmps98
     go_wp2_with fail
     go_loopw [8] (fun i wr=>∃ k:Nat,k ≤ 2 ∧ i = .int .i64 (k:Int) ∧ wr = w) (fun i _=>2 - (intOf i).toNat)
     case atStart=>exact ⟨0,by omega,rfl,rfl⟩
     case round =>
       obtain ⟨k,hk,rfl,hw⟩:=hrel
       have hw2:=hw.symm
       subst hw2
       have hk3:k = 0 ∨ k = 1 ∨ k = 2:=by omega
       rcases hk3 with rfl | rfl | rfl
       · go_wp2_with fail
         go_roundw
         case rel=>exact ⟨1,by omega,rfl,trivial⟩
         case measure=>simp [intOf]
       · go_wp2_with fail
         go_roundw
         case rel=>exact ⟨2,by omega,rfl,trivial⟩
         case measure=>simp [intOf]
       · go_wp2_with fail
         go_ret
         exact ⟨rfl,rfl⟩
theorem macNo_ix (no:Int):macNo no = decide (0 ≤ ixN no):=by
 unfold macNo ixN
 by_cases h1:no = 64
 · simp [h1]
 · by_cases h2:no = 128
   · simp [h2]
   · simp [h1,h2]
set_option maxHeartbeats 1000000 in
theorem contains2_any (no:Int) (gN:Nat) (w:World) (c0:w.cell? ⟨gN,0,none⟩ = some (.int .i64 64)) (c1:w.cell? ⟨gN,1,none⟩ = some (.int .i64 128)) :
   Calls Tryz.prog 48 #[.slice (some ⟨gN,0,none⟩) 2 2,.int .i64 no] w fun e w'=>e = .returned (.bool (macNo no)) ∧ w' = w:=by
 have HI:=hideT (index2_any no gN w c0 c1)
 have HM:=hideT (macNo_ix no)
 obtain ⟨q,hq⟩:∃ q,q = ixN no:=⟨_,rfl⟩
 rw [← hq] at HI HM
 clear hq c0 c1
 go_enter Tryz.func48,Tryz.ntmps48
 go_wp2_with (go_at_call 98;refine HI.out.mono ?_;rintro e w2 ⟨rfl,hw⟩;have hw2:=hw.symm;subst hw2;clear hw)
 go_ret
 exact ⟨by rw [HM.out];rfl,rfl⟩
set_option maxHeartbeats 1000000 in
theorem without1_any (no:Int) (x:Value) (gb gN:Nat) (w:World) (cb:w.cell? ⟨gb,0,none⟩ = some (.slice (some ⟨gN,0,none⟩) 2 2)) (c0:w.cell? ⟨gN,0,none⟩ = some (.int .i64 64)) (c1:w.cell? ⟨gN,1,none⟩ = some (.int .i64 128)) :
   Calls Tryz.prog 47 #[.agg #[.int .i64 no,x],.pointer (some ⟨gb,0,none⟩)] w fun e w'=>e = .returned (.bool (macNo no)) ∧ Below w.heap.size w w':=by
 obtain ⟨W,hW⟩:∃ y,y = w.alloc (Obj.cells #[.int .i64 no,x] 29):=⟨_,rfl⟩
 have bW:Below w.heap.size w W:=by rw [hW];exact below_newT _ _
 have lb:=World.block_lt_of_cell? w _ cb
 have ln:=World.block_lt_of_cell? w _ c0
 have cbW:W.cell? ⟨gb,0,none⟩ = some (.slice (some ⟨gN,0,none⟩) 2 2):=(bW.cell (p:=⟨gb,0,none⟩) lb).trans cb
 have HC:=hideT (contains2_any no gN W ((bW.cell (p:=⟨gN,0,none⟩) ln).trans c0) ((bW.cell (p:=⟨gN,1,none⟩) ln).trans c1))
 have kW:Blk W w.heap.size 29 [.int .i64 no,x]:=by rw [hW];exact Blk.new _ _ _
 have kc:=kW.cell 0 (by simp)
 have HW:=hideT hW
 clear hW cb c0 c1
 go_enter Tryz.func47,Tryz.ntmps47
 go_upto_region 1 with fail
 rw [← show W = _ from HW]
 go_wp2_with fail
 refine HC.out.mono ?_
 rintro e w2 ⟨rfl,hw⟩
 have hw2:=hw.symm
 subst hw2
 go_wp2_with fail
 go_ret
 exact ⟨rfl,bW⟩
def above64 (no:Int):Bool:=decide (64 < no)
set_option maxHeartbeats 1000000 in
theorem seal1_any (no:Int) (x:Value) (w:World) :
   Calls Tryz.prog 20 #[.agg #[.int .i64 no,x]] w fun e w'=>e = .returned (.bool (above64 no)) ∧ Below w.heap.size w w':=by
 have bW:Below w.heap.size w (w.alloc (Obj.cells #[.int .i64 no,x] 29)):=below_newT _ _
 go_enter Tryz.func20,Tryz.ntmps20
 go_wp2_with fail
 go_ret
 exact ⟨rfl,bW⟩
def PAt2 (w:World) (a:Option Addr) (Q:List (Int × Value)):Prop:=∀ i,i < Q.length → ∃ g o,a = some ⟨g,o,none⟩ ∧ w.cell? ⟨g,o + i * 2,none⟩ = some (.int .i64 (Q.getD i (0,undef)).1) ∧ w.cell? ⟨g,o + i * 2 + 1,none⟩ = some (Q.getD i (0,undef)).2
def IxR (p:Int → Bool) (Q:List (Int × Value)) (r:Int):Prop:=(r = -1 ∧ ∀ j,j < Q.length → p (Q.getD j (0,undef)).1 = false) ∨ ∃ k:Nat,k < Q.length ∧ r = (k:Int) ∧ (∀ j,j < k → p (Q.getD j (0,undef)).1 = false) ∧ p (Q.getD k (0,undef)).1 = true
set_option maxRecDepth 100000 in
set_option maxHeartbeats 2000000 in
theorem indexW_any (Q:List (Int × Value)) (hQ:Q.length ≤ 1048576) (a:Option Addr) (cap:Nat) (w:World) (hP:PAt2 w a Q) (gb gN:Nat) (cb:w.cell? ⟨gb,0,none⟩ = some (.slice (some ⟨gN,0,none⟩) 2 2)) (c0:w.cell? ⟨gN,0,none⟩ = some (.int .i64 64)) (c1:w.cell? ⟨gN,1,none⟩ = some (.int .i64 128)) :
   Calls Tryz.prog 49 #[.slice a Q.length cap,.func (Fn.func 47) #[] #[.pointer (some ⟨gb,0,none⟩)]] w fun e w'=>(∃ r,e = .returned (.int .i64 r) ∧ IxR macNo Q r) ∧ Below w.heap.size w w':=by
 obtain ⟨n,hn⟩:∃ n,n = Q.length:=⟨_,rfl⟩
 have HN:=hideT hn
 rw [← hn] at hQ ⊢
 have HP:=hideT hP
 have HCB:=hideT (And.intro cb (And.intro c0 c1))
 have lb:=World.block_lt_of_cell? w _ cb
 have ln:=World.block_lt_of_cell? w _ c0
 clear cb c0 c1
 clear hn hP
 go_enter Tryz.func49,Tryz.ntmps49
 go_wp2_with fail
 go_loopw [8] (fun i wr=>∃ k:Nat,k ≤ n ∧ i = .int .i64 (k:Int) ∧ Hid (∀ j,j < k → macNo (Q.getD j (0,undef)).1 = false) ∧ Below w.heap.size w wr) (fun i _=>n - (intOf i).toNat)
 case atStart=>exact ⟨0,Nat.zero_le _,rfl,fun j h=>absurd h (Nat.not_lt_zero j),Below.refl _ _⟩
 case round =>
   obtain ⟨k,hk,rfl,HJ,hbel⟩:=hrel
   by_cases hlt:k < n
   · have hltI:(k:Int) < (n:Int):=by omega
     have hkQ:k < Q.length:=by rw [← HN.out];exact hlt
     obtain ⟨g,o,rfl,c1w,c2w⟩:=HP.out k hkQ
     have hlw:=World.block_lt_of_cell? w _ c1w
     have c1:=(hbel.cell (p:=⟨g,o + k * 2,none⟩) hlw).trans c1w
     have c2:=(hbel.cell (p:=⟨g,o + k * 2 + 1,none⟩) hlw).trans c2w
     obtain ⟨no,hno⟩:∃ m,m = (Q.getD k (0,undef)).1:=⟨_,rfl⟩
     obtain ⟨x,hx⟩:∃ m,m = (Q.getD k (0,undef)).2:=⟨_,rfl⟩
     rw [← hno] at c1
     rw [← hx] at c2
     have HNO:=hideT hno
     have HCL:=hideT (without1_any no x gb gN wr ((hbel.cell (p:=⟨gb,0,none⟩) lb).trans HCB.out.1) ((hbel.cell (p:=⟨gN,0,none⟩) ln).trans HCB.out.2.1) ((hbel.cell (p:=⟨gN,1,none⟩) ln).trans HCB.out.2.2))
     obtain ⟨pb,hpb⟩:∃ m,m = macNo no:=⟨_,rfl⟩
     rw [← hpb] at HCL
     have HPB:=hideT hpb
     clear hno hx hpb c1w c2w hlw
     cases pb
     · go_wp2_with (go_at_call 47;refine HCL.out.mono ?_;rintro e w2 ⟨rfl,b2⟩;have hb2:=hbel.trans (b2.mono hbel.size);clear b2)
       go_roundw
       case rel=>exact ⟨k + 1,by omega,by go_num,fun j hj=>by
         by_cases hjk:j = k
         · rw [hjk,← HNO.out,← HPB.out]
         · exact HJ.out j (by omega),hb2⟩
       case measure=>simp [intOf];omega
     · go_wp2_with (go_at_call 47;refine HCL.out.mono ?_;rintro e w2 ⟨rfl,b2⟩;have hb2:=hbel.trans (b2.mono hbel.size);clear b2)
       go_ret
       exact ⟨⟨_,rfl,.inr ⟨k,hkQ,rfl,HJ.out,by rw [← HNO.out,← HPB.out]⟩⟩,hb2⟩
   · have hltI:¬ (k:Int) < (n:Int):=by omega
     go_wp2_with fail
     go_ret
     exact ⟨⟨_,rfl,.inl ⟨rfl,fun j hj=>HJ.out j (by rw [← HN.out] at hj;omega)⟩⟩,hbel⟩
set_option maxRecDepth 100000 in
set_option maxHeartbeats 2000000 in
theorem indexS_any (Q:List (Int × Value)) (hQ:Q.length ≤ 1048576) (a:Option Addr) (cap:Nat) (w:World) (hP:PAt2 w a Q) :
   Calls Tryz.prog 49 #[.slice a Q.length cap,.func (Fn.func 20) #[] #[]] w fun e w'=>(∃ r,e = .returned (.int .i64 r) ∧ IxR above64 Q r) ∧ Below w.heap.size w w':=by
 obtain ⟨n,hn⟩:∃ n,n = Q.length:=⟨_,rfl⟩
 have HN:=hideT hn
 rw [← hn] at hQ ⊢
 have HP:=hideT hP
 clear hn hP
 go_enter Tryz.func49,Tryz.ntmps49
 go_wp2_with fail
 go_loopw [8] (fun i wr=>∃ k:Nat,k ≤ n ∧ i = .int .i64 (k:Int) ∧ Hid (∀ j,j < k → above64 (Q.getD j (0,undef)).1 = false) ∧ Below w.heap.size w wr) (fun i _=>n - (intOf i).toNat)
 case atStart=>exact ⟨0,Nat.zero_le _,rfl,fun j h=>absurd h (Nat.not_lt_zero j),Below.refl _ _⟩
 case round =>
   obtain ⟨k,hk,rfl,HJ,hbel⟩:=hrel
   by_cases hlt:k < n
   · have hltI:(k:Int) < (n:Int):=by omega
     have hkQ:k < Q.length:=by rw [← HN.out];exact hlt
     obtain ⟨g,o,rfl,c1w,c2w⟩:=HP.out k hkQ
     have hlw:=World.block_lt_of_cell? w _ c1w
     have c1:=(hbel.cell (p:=⟨g,o + k * 2,none⟩) hlw).trans c1w
     have c2:=(hbel.cell (p:=⟨g,o + k * 2 + 1,none⟩) hlw).trans c2w
     obtain ⟨no,hno⟩:∃ m,m = (Q.getD k (0,undef)).1:=⟨_,rfl⟩
     obtain ⟨x,hx⟩:∃ m,m = (Q.getD k (0,undef)).2:=⟨_,rfl⟩
     rw [← hno] at c1
     rw [← hx] at c2
     have HNO:=hideT hno
     have HCL:=hideT (seal1_any no x wr)
     obtain ⟨pb,hpb⟩:∃ m,m = above64 no:=⟨_,rfl⟩
     rw [← hpb] at HCL
     have HPB:=hideT hpb
     clear hno hx hpb c1w c2w hlw
     cases pb
     · go_wp2_with (go_at_call 20;refine HCL.out.mono ?_;rintro e w2 ⟨rfl,b2⟩;have hb2:=hbel.trans (b2.mono hbel.size);clear b2)
       go_roundw
       case rel=>exact ⟨k + 1,by omega,by go_num,fun j hj=>by
         by_cases hjk:j = k
         · rw [hjk,← HNO.out,← HPB.out]
         · exact HJ.out j (by omega),hb2⟩
       case measure=>simp [intOf];omega
     · go_wp2_with (go_at_call 20;refine HCL.out.mono ?_;rintro e w2 ⟨rfl,b2⟩;have hb2:=hbel.trans (b2.mono hbel.size);clear b2)
       go_ret
       exact ⟨⟨_,rfl,.inr ⟨k,hkQ,rfl,HJ.out,by rw [← HNO.out,← HPB.out]⟩⟩,hb2⟩
   · have hltI:¬ (k:Int) < (n:Int):=by omega
     go_wp2_with fail
     go_ret
     exact ⟨⟨_,rfl,.inl ⟨rfl,fun j hj=>HJ.out j (by rw [← HN.out] at hj;omega)⟩⟩,hbel⟩
def cellsP (Q:List (Int × Value)):List Value:=Q.flatMap (fun q=>[.int .i64 q.1,q.2])
theorem cellsP_cons (q:Int × Value) (r:List (Int × Value)):cellsP (q :: r) = .int .i64 q.1 :: q.2 :: cellsP r:=rfl
theorem cellsP_length (Q:List (Int × Value)):(cellsP Q).length = Q.length * 2:=by
 induction Q with
 | nil=>rfl
 | cons q r ih=>rw [cellsP_cons,List.length_cons,List.length_cons,List.length_cons,ih];omega
theorem cellsP_at (Q:List (Int × Value)):∀ i,i < Q.length → (cellsP Q)[i * 2]? = some (.int .i64 (Q.getD i (0,undef)).1) ∧ (cellsP Q)[i * 2 + 1]? = some (Q.getD i (0,undef)).2:=by
 induction Q with
 | nil=>intro i h;simp at h
 | cons q r ih =>
   intro i h
   cases i with
   | zero=>exact ⟨rfl,rfl⟩
   | succ i =>
     have:=ih i (by simpa using h)
     rw [show (i + 1) * 2 = i * 2 + 1 + 1 from by omega]
     exact this
def keepP (Q:List (Int × Value)):List (Int × Value):=Q.filter (fun q=>!macNo q.1)
theorem keepP_snoc (A:List (Int × Value)) (q:Int × Value):keepP (A ++ [q]) = if macNo q.1 = true then keepP A else keepP A ++ [q]:=by
 unfold keepP
 rw [List.filter_append]
 by_cases h:macNo q.1 = true
 · rw [if_pos h];simp [h]
 · rw [if_neg h];simp [h]
theorem keepP_all (Q:List (Int × Value)) (h:∀ j,j < Q.length → macNo (Q.getD j (0,undef)).1 = false):keepP Q = Q:=by
 unfold keepP
 rw [List.filter_eq_self]
 intro q hq
 obtain ⟨i,hi,rfl⟩:=List.getElem_of_mem hq
 have:=h i hi
 rw [List.getD_eq_getElem?_getD,List.getElem?_eq_getElem hi] at this
 simpa using this
theorem takeP_snoc {α:Type} (l:List α) (k:Nat) (d:α) (h:k < l.length):l.take (k + 1) = l.take k ++ [l.getD k d]:=by
 rw [List.take_succ_eq_append_getElem h,List.getD_eq_getElem?_getD,List.getElem?_eq_getElem h]
 rfl
theorem getD_takeP {α:Type} (l:List α) (k j:Nat) (d:α) (h:j < k):(l.take k).getD j d = l.getD j d:=by
 rw [List.getD_eq_getElem?_getD,List.getD_eq_getElem?_getD,List.getElem?_take,if_pos h]
structure DI (Q:List (Int × Value)) (i j:Nat) (xs:List Value):Prop where
 len:(keepP (Q.take j)).length = i
 lt:i < j
 front:∀ m,m < i → xs[m * 2]? = some (.int .i64 ((keepP (Q.take j)).getD m (0,undef)).1) ∧ xs[m * 2 + 1]? = some ((keepP (Q.take j)).getD m (0,undef)).2
 back:∀ m,j ≤ m → m < Q.length → xs[m * 2]? = some (.int .i64 (Q.getD m (0,undef)).1) ∧ xs[m * 2 + 1]? = some (Q.getD m (0,undef)).2
theorem DI.start {Q:List (Int × Value)} {k:Nat} (hk:k < Q.length) (h1:∀ j,j < k → macNo (Q.getD j (0,undef)).1 = false) (h2:macNo (Q.getD k (0,undef)).1 = true):DI Q k (k + 1) (cellsP Q):=by
 have e0:keepP (Q.take k) = Q.take k:=keepP_all _ (fun j hj=>by rw [List.length_take] at hj;rw [getD_takeP _ _ _ _ (by omega)];exact h1 j (by omega))
 have e:keepP (Q.take (k + 1)) = Q.take k:=by rw [takeP_snoc Q k (0,undef) hk,keepP_snoc,if_pos h2,e0]
 refine ⟨by rw [e,List.length_take];omega,by omega,fun m hm=>?_,fun m _ hm=>cellsP_at Q m hm⟩
 rw [e,getD_takeP _ _ _ _ hm]
 exact cellsP_at Q m (by omega)
theorem DI.drop {Q:List (Int × Value)} {i j:Nat} {xs:List Value} (h:DI Q i j xs) (hj:j < Q.length) (hm:macNo (Q.getD j (0,undef)).1 = true):DI Q i (j + 1) xs:=by
 have e:keepP (Q.take (j + 1)) = keepP (Q.take j):=by rw [takeP_snoc Q j (0,undef) hj,keepP_snoc,if_pos hm]
 refine ⟨by rw [e];exact h.len,by have:=h.lt;omega,fun m hm=>by rw [e];exact h.front m hm,fun m h1 h2=>h.back m (by omega) h2⟩
theorem DI.keep {Q:List (Int × Value)} {i j:Nat} {xs:List Value} (h:DI Q i j xs) (hj:j < Q.length) (hx:xs.length = Q.length * 2) (hm:macNo (Q.getD j (0,undef)).1 = false):DI Q (i + 1) (j + 1) ((xs.set (i * 2) (.int .i64 (Q.getD j (0,undef)).1)).set (i * 2 + 1) (Q.getD j (0,undef)).2):=by
 have e:keepP (Q.take (j + 1)) = keepP (Q.take j) ++ [Q.getD j (0,undef)]:=by rw [takeP_snoc Q j (0,undef) hj,keepP_snoc,if_neg (by rw [hm];decide)]
 have hl:=h.len
 have hij:=h.lt
 refine ⟨by rw [e,List.length_append,hl];rfl,by omega,fun m hm2=>?_,fun m h1 h2=>?_⟩
 · rw [e]
   by_cases hmi:m = i
   · subst hmi
     rw [getD_last _ _ _ _ hl.symm]
     refine ⟨?_,?_⟩
     · rw [List.getElem?_set_ne (by omega),List.getElem?_set_self (by omega)]
     · rw [List.getElem?_set_self (by simp;omega)]
   · obtain ⟨a,b⟩:=h.front m (by omega)
     rw [getD_left _ _ _ _ (by omega)]
     refine ⟨?_,?_⟩
     · rw [List.getElem?_set_ne (by omega),List.getElem?_set_ne (by omega)];exact a
     · rw [List.getElem?_set_ne (by omega),List.getElem?_set_ne (by omega)];exact b
 · obtain ⟨a,b⟩:=h.back m (by omega) h2
   refine ⟨?_,?_⟩
   · rw [List.getElem?_set_ne (by omega),List.getElem?_set_ne (by omega)];exact a
   · rw [List.getElem?_set_ne (by omega),List.getElem?_set_ne (by omega)];exact b
theorem DI.done {Q:List (Int × Value)} {i:Nat} {xs:List Value} (h:DI Q i Q.length xs) (hx:xs.length = Q.length * 2):xs.take (i * 2) = cellsP (keepP Q):=by
 have hl:=h.len
 have hij:=h.lt
 have hf:=h.front
 rw [List.take_length] at hl hf
 apply List.ext_getElem?
 intro m
 by_cases hm:m < i * 2
 · rw [List.getElem?_take,if_pos hm]
   obtain ⟨a,b⟩:=hf (m / 2) (by omega)
   obtain ⟨c,d⟩:=cellsP_at (keepP Q) (m / 2) (by omega)
   by_cases h2:m % 2 = 0
   · rw [show m = m / 2 * 2 from by omega,a,c]
   · rw [show m = m / 2 * 2 + 1 from by omega,b,d]
 · rw [List.getElem?_eq_none (by rw [List.length_take];omega),List.getElem?_eq_none (by rw [cellsP_length];omega)]
theorem zeroF_length (n:Nat):(Builtin.zeroCells (Value.agg #[.int .i64 0,.slice none 0 0]).cells n).toList.length = n * 2:=by
 rw [Array.length_toList,size_zeroCells]
 rfl
theorem zeroF_one (n:Nat):∀ v ∈ (Builtin.zeroCells (Value.agg #[.int .i64 0,.slice none 0 0]).cells n).toList,v.oneCell' = true:=by
 intro v hv
 unfold Builtin.zeroCells at hv
 rw [Array.mem_toList_iff,Array.mem_map] at hv
 obtain ⟨j,-,rfl⟩:=hv
 show (#[Value.int .i64 0,Value.slice none 0 0][j % 2]!).oneCell' = true
 have h2:j % 2 = 0 ∨ j % 2 = 1:=by omega
 rcases h2 with h2 | h2 <;> rw [h2] <;> rfl
theorem run_clearF {w:World} {g n i c:Nat} {cur:Array Value} (hg:w.heap[g]? = some (.cells cur 29 (0,0))) (hi:i < n) (hs:n * 2 ≤ cur.size) :
   ∃ w' cur',(∀ ty,(Builtin.clear_ #[30] ty #[.slice (some ⟨g,i * 2,none⟩) (n - i) c]).run Tryz.prog w = .ok (.tuple #[]) w') ∧ w'.heap[g]? = some (.cells cur' 29 (0,0)) ∧ cur'.size = cur.size ∧ cur'.toList.take (i * 2) = cur.toList.take (i * 2) ∧ w.grownBy w' (some g):=by
 obtain ⟨m,hm⟩:∃ m,n - i = m + 1:=⟨n - i - 1,by omega⟩
 have hst:=run_storeT Tryz.prog g (i * 2) 29 (0,0) (Builtin.zeroCells (Value.agg #[.int .i64 0,.slice none 0 0]).cells (m + 1)).toList 0 cur w hg (.inl rfl) (by rw [zeroF_length];omega) (zeroF_one _)
 obtain ⟨C2,hC2⟩:∃ q,q = (cur.toList.take (i * 2 + 0) ++ (Builtin.zeroCells (Value.agg #[.int .i64 0,.slice none 0 0]).cells (m + 1)).toList ++ cur.toList.drop (i * 2 + 0 + (Builtin.zeroCells (Value.agg #[.int .i64 0,.slice none 0 0]).cells (m + 1)).toList.length)).toArray:=⟨_,rfl⟩
 rw [← hC2] at hst
 refine ⟨w.setRow g C2,C2,?_,setRow_heap w g cur _ _ _ hg,?_,?_,⟨rfl,rfl,rfl,by simp,fun k _ hk=>setRow_other w g k _ (fun e=>hk (by rw [e]))⟩⟩
 · intro ty
   rw [hm]
   simp [Builtin.clear_,run_underlying Tryz.underlying30,Tryz.zeroValue29,hst]
 · rw [hC2,List.size_toArray,List.length_append,List.length_append,List.length_take,List.length_drop,zeroF_length,Array.length_toList]
   omega
 · rw [hC2,Nat.add_zero,List.append_assoc,List.take_append_of_le_length (by rw [List.length_take,Array.length_toList];omega),List.take_take,Nat.min_self]
theorem row_P {w:World} {lo cap:Nat} {a:Option Addr} {Q:List (Int × Value)} (row:w.ownsRow lo 29 2 (.slice a Q.length cap) Q.length (cellsP Q)):PAt2 w a Q:=by
 intro i hi
 obtain ⟨c1,c2⟩:=cellsP_at Q i hi
 rcases row.2 with ⟨hv,hz⟩ | ⟨g,c,cur,hv,-⟩
 · omega
 · simp only [Value.slice.injEq] at hv
   obtain ⟨rfl,-,rfl⟩:=hv
   refine ⟨g,0,rfl,?_,?_⟩
   · rw [Nat.zero_add,row.cellAt (i * 2) (by omega),c1]
   · rw [Nat.zero_add,row.cellAt (i * 2 + 1) (by omega),c2]
set_option maxRecDepth 100000 in
set_option maxHeartbeats 4000000 in
theorem deleteF_any (Q:List (Int × Value)) (hQ:Q.length ≤ 1048576) (hsl:∀ j,j < Q.length → ∃ ai l ci,(Q.getD j (0,undef)).2 = .slice ai l ci) (v:Value) (lo gb gN:Nat) (w:World) (row:w.ownsRow lo 29 2 v Q.length (cellsP Q)) (hlo:lo ≤ w.heap.size) (hgb:gb < lo) (hgN:gN < lo)
   (cb:w.cell? ⟨gb,0,none⟩ = some (.slice (some ⟨gN,0,none⟩) 2 2)) (c0:w.cell? ⟨gN,0,none⟩ = some (.int .i64 64)) (c1:w.cell? ⟨gN,1,none⟩ = some (.int .i64 128)) :
   Calls Tryz.prog 45 #[v,.func (Fn.func 47) #[] #[.pointer (some ⟨gb,0,none⟩)]] w fun e w'=>(∃ v',e = .returned v' ∧ w'.ownsRow lo 29 2 v' (keepP Q).length (cellsP (keepP Q))) ∧ Below lo w w':=by
 obtain ⟨a,cap,rfl⟩:=ownR_shape row
 have HIX:=hideT (indexW_any Q hQ a cap w (row_P row) gb gN cb c0 c1)
 have HCB:=hideT (And.intro cb (And.intro c0 c1))
 have HSL:=hideT hsl
 have hrow2:=row.2
 obtain ⟨n,hn⟩:∃ n,n = Q.length:=⟨_,rfl⟩
 have HN:=hideT hn
 rw [← hn] at HIX hQ row hrow2 ⊢
 clear hn cb c0 c1 hsl
 go_enter Tryz.func45,Tryz.ntmps45
 go_wp2_with fail
 refine HIX.out.mono ?_
 rintro e w1 ⟨⟨r,rfl,hix⟩,b1⟩
 rcases hix with ⟨rfl,hall⟩ | ⟨k0,hk0,rfl,h1,h2⟩
 · have HALL:=hideT hall
   clear hall hrow2
   go_wp2_with fail
   go_ret
   exact ⟨⟨_,rfl,by rw [keepP_all Q HALL.out,← HN.out];exact ownR_below row b1⟩,b1.mono hlo⟩
 · have HDI0:=hideT (DI.start hk0 h1 h2)
   have hk0n:k0 < n:=by rw [HN.out];exact hk0
   rcases hrow2 with ⟨-,hz⟩ | ⟨g,c,cur,hv,hglo,-,hnc,hcm,-⟩
   · omega
   simp only [Value.slice.injEq] at hv
   obtain ⟨rfl,-,rfl⟩:=hv
   have row1:=ownR_below row b1
   have bl1:=b1.mono hlo
   have hkI:¬ (k0:Int) = -1:=by omega
   have hkb:((k0:Int) == -1) = false:=by rw [beq_eq_false_iff_ne];exact hkI
   have hkw:IntKind.i64.wrap ((k0:Int) + 1) = ((k0 + 1:Nat):Int):=by rw [IntKind.wrap_i64];omega
   clear h1 h2 hk0 row b1 HIX
   go_wp2_with fail
   go_loopw [5,6] (fun iv jv wr=>∃ (i j:Nat) (xs:List Value),j ≤ n ∧ iv = .int .i64 (i:Int) ∧ jv = .int .i64 (j:Int) ∧ wr.ownsRow lo 29 2 (.slice (some ⟨g,0,none⟩) n cap) n xs ∧ Hid (DI Q i j xs) ∧ Below lo w wr) (fun _ jv _=>n - (intOf jv).toNat)
   case atStart=>exact ⟨k0,k0 + 1,_,by omega,rfl,by go_num,row1,HDI0,bl1⟩
   case round =>
     clear row1 bl1 HDI0 hkI hkb hkw
     obtain ⟨i,j,xs,hj,rfl,rfl,row,HDI,hbel⟩:=hrel
     have hxl:xs.length = n * 2:=row.1
     have hij:=HDI.out.lt
     by_cases hlt:j < n
     · have hltI:(j:Int) < (n:Int):=by omega
       have hjQ:j < Q.length:=by rw [← HN.out];exact hlt
       obtain ⟨p1,p2⟩:=HDI.out.back j (Nat.le_refl _) hjQ
       obtain ⟨ai,l,ci,hx⟩:=HSL.out j hjQ
       have c1:=(row.cellAt (j * 2) (by omega)).trans p1
       have c2:=(row.cellAt (j * 2 + 1) (by omega)).trans p2
       rw [hx] at c2
       have HDR:=hideT (fun h=>HDI.out.drop hjQ h)
       have HKE:=hideT (fun h=>HDI.out.keep hjQ (by rw [← HN.out];exact hxl) h)
       rw [hx] at HKE
       obtain ⟨no,hno⟩:∃ m,m = (Q.getD j (0,undef)).1:=⟨_,rfl⟩
       rw [← hno] at c1 HDR HKE
       obtain ⟨X,hX⟩:∃ y,y = wr.alloc (Obj.cells #[.int .i64 no,.slice ai l ci] 29):=⟨_,rfl⟩
       obtain ⟨gV,hgV⟩:∃ q,q = wr.heap.size:=⟨_,rfl⟩
       have kV:Blk X gV 29 [.int .i64 no,.slice ai l ci]:=by rw [hX,hgV];exact Blk.new _ _ _
       have bX:Below wr.heap.size wr X:=by rw [hX];exact below_newT _ _
       have hwr:lo ≤ wr.heap.size:=Nat.le_trans hlo hbel.size
       have belX:=hbel.trans (bX.mono hwr)
       have rowX:=ownR_below row bX
       have HCL:=hideT (without1_any no (.slice ai l ci) gb gN X ((belX.cell (p:=⟨gb,0,none⟩) hgb).trans HCB.out.1) ((belX.cell (p:=⟨gN,0,none⟩) hgN).trans HCB.out.2.1) ((belX.cell (p:=⟨gN,1,none⟩) hgN).trans HCB.out.2.2))
       have hgVr:=(row.lt g rfl).2
       rw [← hgV] at hgVr
       have HX:=hideT hX
       have HGV:=hideT hgV
       have HXL:=hideT hxl
       have HHX:=hideT hx
       clear hX hgV hno hx p1 p2 hxl row hbel bX HDI
       go_upto_region 8 with fail
       rw [← show X = _ from HX,← show gV = _ from HGV]
       clear HX HGV c1 c2
       have d0:=kV.cell 0 (by simp)
       have d1:=kV.cell 1 (by simp)
       obtain ⟨pb,hpb⟩:∃ m,m = macNo no:=⟨_,rfl⟩
       rw [← hpb] at HCL
       have HPB:=hideT hpb
       clear hpb
       cases pb
       · have HK2:=hideT (HKE.out HPB.out.symm)
         clear HKE HDR
         go_upto_region 9 with (go_at_call 47;refine HCL.out.mono ?_;rintro e w2 ⟨rfl,b2⟩)
         have row2:=ownR_below rowX b2
         have k2:=kV.below b2 kV.lt
         have hbX:lo ≤ X.heap.size:=Nat.le_trans hlo belX.size
         have bel2:=belX.trans (b2.mono hbX)
         clear rowX kV belX HCL b2 d0 d1
         have d0:=k2.cell 0 (by simp)
         have d1:=k2.cell 1 (by simp)
         have hf1:w2.frozen? ⟨g,i * 2,none⟩ = false:=row2.frozenAt _
         have hf2:w2.frozen? ⟨g,i * 2 + 1,none⟩ = false:=row2.frozenAt _
         obtain ⟨u1,hu1⟩:=own_some row2 (by omega:i * 2 < n * 2)
         obtain ⟨u2,hu2⟩:=own_some row2 (by omega:i * 2 + 1 < n * 2)
         have ro1:=(row2.stored (i * 2) (.int .i64 no)).1
         have ro2:=(ro1.stored (i * 2 + 1) (.slice ai l ci)).1
         have HRO:=hideT ro2
         have bel3:=(bel2.setCell (p:=⟨g,i * 2,none⟩) hglo (.int .i64 no)).setCell (p:=⟨g,i * 2 + 1,none⟩) hglo (.slice ai l ci)
         have hin:(i:Int) < (n:Int):=by omega
         clear ro1 ro2 row2 bel2
         go_wp2_with fail
         go_roundw
         case rel=>exact ⟨i + 1,j + 1,_,by omega,by go_num,by go_num,HRO.out,HK2,bel3⟩
         case measure=>simp [intOf];omega
       · have HD2:=hideT (HDR.out HPB.out.symm)
         clear HKE HDR
         have hbX:lo ≤ X.heap.size:=Nat.le_trans hlo belX.size
         go_wp2_with (go_at_call 47;refine HCL.out.mono ?_;rintro e w2 ⟨rfl,b2⟩;have row2:=ownR_below rowX b2;have bel2:=belX.trans (b2.mono hbX);clear rowX b2 belX)
         go_roundw
         case rel=>exact ⟨i,j + 1,_,by omega,rfl,by go_num,row2,HD2,bel2⟩
         case measure=>simp [intOf];omega
     · have hltI:¬ (j:Int) < (n:Int):=by omega
       obtain rfl:j = n:=by omega
       have HDO:=hideT HDI.out
       have hrr:=row.2
       rcases hrr with ⟨-,hz⟩ | ⟨g2,c2,cur,hv,-,hh,hnc2,-,hcs,htk⟩
       · omega
       simp only [Value.slice.injEq,Option.some.injEq,Addr.mk.injEq,and_true,true_and] at hv
       obtain ⟨rfl,rfl⟩:=hv
       obtain ⟨w5,cur5,hclr,hh5,hcs5,htk5,gr5⟩:=run_clearF (c:=cap - i) hh hij (by omega)
       have hic:¬ cap = i:=by omega
       have hicI:(i:Int) ≤ (cap:Int):=by omega
       have hinI:(i:Int) ≤ (j:Int):=by omega
       have bel5:=hbel.grown gr5 (Nat.le_trans hlo hbel.size) (fun q hq=>by cases hq;exact hglo)
       have HFIN:Hid (w5.ownsRow lo 29 2 (.slice (some ⟨g,0,none⟩) i cap) i (xs.take (i * 2))):=by
         refine ⟨by rw [List.length_take,hxl];omega,.inr ⟨g,cap,cur5,rfl,hglo,hh5,by omega,hcm,by rw [hcs5];exact hcs,?_⟩⟩
         rw [htk5,← htk,List.take_take]
         congr 1
         omega
       have HXL:=hideT hxl
       clear hh hcs htk hh5 hcs5 htk5 gr5 row hxl HDI hbel
       go_wp2_with fail
       go_ret
       refine ⟨⟨_,rfl,?_⟩,bel5⟩
       have h:=HFIN.out
       have hd:=HDO.out
       rw [show j = Q.length from HN.out] at hd
       rw [hd.done (by rw [← HN.out];exact HXL.out)] at h
       have hl:=hd.len
       rw [List.take_length] at hl
       rw [hl]
       exact h
end Go.Proofs.YtbkokcjolanpeaaGreatDoor
