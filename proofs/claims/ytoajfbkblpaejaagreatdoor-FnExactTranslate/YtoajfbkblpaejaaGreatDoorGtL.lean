import Derived.Test.YtoajfbkblpaejaaGreatDoorGrO
import Derived.Test.YtoajfbkblpaejaaGreatDoorReadP
import Derived.Test.YtoajfbkblpaejaaGreatDoorTransT
import Derived.Test.YtoajfbkblpaejaaGreatDoorTransS
namespace Go.Proofs.YtoajfbkblpaejaaGreatDoor
open Go.RowKit
set_option maxHeartbeats 400000 in
theorem szByteS_any (n:Nat) (a:Option Addr) (c:Nat) (l:Int) (w:World) (hn:n ≤ maxLen) (h0:0 ≤ l) (h1:l ≤ 1048576) :
   Calls Tryz.prog 47 #[.slice a n c,.int .i64 l] w fun e w'=>e = .returned (.int .i64 (if l - n < 0 then -1 else l - n)) ∧ w' = w:=by
 unfold maxLen at hn
 by_cases hl:l - n < 0
 · have hl':l < (n:Int):=by omega
   rw [if_pos hl]
   go_enter Tryz.func47,Tryz.ntmps47
   go_wp2
   go_ret
   exact ⟨rfl,rfl⟩
 · have hl':¬ l < (n:Int):=by omega
   rw [if_neg hl]
   go_enter Tryz.func47,Tryz.ntmps47
   go_wp2
   go_ret
   exact ⟨rfl,rfl⟩
theorem Own.mono' {w:World} {B base:Nat} {v:Value} {l:List UInt8} (h:Own w base v l) (hB:B ≤ base):Own w B v l:=by
 obtain ⟨t,h1,h2⟩:=h
 refine ⟨t,h1,?_⟩
 rcases h2 with h2 | ⟨g,cap,cur,hv,hb,rest⟩
 · exact .inl h2
 · exact .inr ⟨g,cap,cur,hv,by omega,rest⟩
theorem Own.set' {w:World} {base:Nat} {v:Value} {l:List UInt8} (h:Own w base v l) {a:Addr} (ha:a.block < base) (u:Value):Own (w.setCell a u) base v l:=by
 obtain ⟨t,h⟩:=h
 exact ⟨t,ownsRow_setCell_below h ha u⟩
theorem own_away {w:World} {base n c g:Nat} {a:Nat} {l:List UInt8} (h:Own w base (.slice (some ⟨a,0,none⟩) n c) l) {w':World} (hg:w.grownBy w' (some g)) (hne:g ≠ a):Own w' base (.slice (some ⟨a,0,none⟩) n c) l :=
 h.grown hg (.inr (by simp only [Value.ownBlock,ne_eq,Option.some.injEq];exact fun e=>hne e.symm))
theorem own_rowO {w:World} {base n c:Nat} {a:Option Addr} {l:List UInt8} (h:Own w base (.slice a n c) l):RowAt w a l:=by
 obtain ⟨ao,cap,hv,row,-⟩:=h.shape
 simp only [Value.slice.injEq] at hv
 rw [hv.1]
 exact row
structure OrdOwn (w:World) (base A1 A2 A3 A4 A5:Nat) (fr ksn tow block draws:List UInt8):Prop where
 o1:Own w base (.slice (some ⟨A1,0,none⟩) fr.length fr.length) fr
 o2:Own w base (.slice (some ⟨A2,0,none⟩) ksn.length ksn.length) ksn
 o3:Own w base (.slice (some ⟨A3,0,none⟩) tow.length tow.length) tow
 o4:Own w base (.slice (some ⟨A4,0,none⟩) block.length block.length) block
 o5:Own w base (.slice (some ⟨A5,0,none⟩) draws.length draws.length) draws
 l0:base ≤ A1
 l1:A1 < A2
 l2:A2 < A3
 l3:A3 < A4
 l4:A4 < A5
 l5:A5 < w.heap.size
theorem OrdOwn.below {w w':World} {base A1 A2 A3 A4 A5:Nat} {fr ksn tow block draws:List UInt8} (h:OrdOwn w base A1 A2 A3 A4 A5 fr ksn tow block draws) (hb:Below w.heap.size w w'):OrdOwn w' base A1 A2 A3 A4 A5 fr ksn tow block draws :=
 ⟨h.o1.below hb,h.o2.below hb,h.o3.below hb,h.o4.below hb,h.o5.below hb,h.l0,h.l1,h.l2,h.l3,h.l4,Nat.lt_of_lt_of_le h.l5 hb.size⟩
theorem OrdOwn.grown {w w':World} {base A1 A2 A3 A4 A5 g:Nat} {fr ksn tow block draws:List UInt8} (h:OrdOwn w base A1 A2 A3 A4 A5 fr ksn tow block draws) (hg:w.grownBy w' (some g)) (hne:g < base ∨ A5 < g):OrdOwn w' base A1 A2 A3 A4 A5 fr ksn tow block draws:=by
 obtain ⟨o1,o2,o3,o4,o5,l0,l1,l2,l3,l4,l5⟩:=h
 exact ⟨own_away o1 hg (by omega),own_away o2 hg (by omega),own_away o3 hg (by omega),own_away o4 hg (by omega),own_away o5 hg (by omega),l0,l1,l2,l3,l4,Nat.lt_of_lt_of_le l5 hg.size⟩
set_option maxRecDepth 100000 in
set_option maxHeartbeats 2000000 in
theorem szOrder_any (a1 a2 a3 a4 a5:Option Addr) (n1 n2 n3 n4 n5 c1 c2 c3 c4 c5:Nat) (ff tf:Int) (pan:ByteArray) (w:World) (h1:n1 ≤ maxLen) (h2:n2 ≤ maxLen) (h3:n3 ≤ maxLen) (h4:n4 ≤ maxLen) (h5:n5 ≤ maxLen) (hp:pan.size ≤ maxLen) :
   Calls Tryz.prog 12 #[.agg ([.slice a1 n1 c1,.int .i64 ff,.slice a2 n2 c2,.slice a3 n3 c3,.int .i64 tf,.slice a4 n4 c4,.string pan,.slice a5 n5 c5]:List Value).toArray,.int .i64 1048576] w fun e w'=>∃ q:Int,e = .returned (.int .i64 q) ∧ (q < 0 ∨ (0 ≤ q ∧ n1 ≤ 1048576 ∧ n2 ≤ 1048576 ∧ n3 ≤ 1048576 ∧ n4 ≤ 1048576 ∧ n5 ≤ 1048576 ∧ pan.size ≤ 1048576)) ∧ Below w.heap.size w w':=by
 have hb:Below w.heap.size w (w.alloc (.cells ([.slice a1 n1 c1,.int .i64 ff,.slice a2 n2 c2,.slice a3 n3 c3,.int .i64 tf,.slice a4 n4 c4,.string pan,.slice a5 n5 c5]:List Value).toArray 43)):=below_new _ _
 unfold maxLen at hp
 go_enter Tryz.func12,Tryz.ntmps12
 have HZ0:=hide (szByteS_any n1 a1 c1 (1048576) (w.alloc (.cells ([.slice a1 n1 c1,.int .i64 ff,.slice a2 n2 c2,.slice a3 n3 c3,.int .i64 tf,.slice a4 n4 c4,.string pan,.slice a5 n5 c5]:List Value).toArray 43)) h1 (by omega) (by omega))
 by_cases kq0:1048576 - (n1:Int) < 0
 · rw [if_pos kq0] at HZ0
   go_wp2_with fail
   refine HZ0.out.mono ?_
   rintro e wz ⟨rfl,rfl⟩
   go_wp2_with fail
   go_ret
   exact ⟨_,rfl,.inl (by omega),hb⟩
 · rw [if_neg kq0] at HZ0
   go_wp2_with fail
   refine HZ0.out.mono ?_
   rintro e wz ⟨rfl,rfl⟩
   obtain ⟨q0,hq0⟩:∃ q:Int,q = 1048576 - (n1:Int):=⟨_,rfl⟩
   rw [← hq0] at kq0 ⊢
   have HQq0:=hide hq0
   have bq0:q0 ≤ 1048576:=by omega
   have m1:n1 ≤ 1048576:=by omega
   clear hq0 HZ0
   have HZ1:=hide (szByteS_any n2 a2 c2 (q0) (w.alloc (.cells ([.slice a1 n1 c1,.int .i64 ff,.slice a2 n2 c2,.slice a3 n3 c3,.int .i64 tf,.slice a4 n4 c4,.string pan,.slice a5 n5 c5]:List Value).toArray 43)) h2 (by omega) (by omega))
   by_cases kq1:q0 - (n2:Int) < 0
   · rw [if_pos kq1] at HZ1
     go_wp2_with fail
     refine HZ1.out.mono ?_
     rintro e wz ⟨rfl,rfl⟩
     go_wp2_with fail
     go_ret
     exact ⟨_,rfl,.inl (by omega),hb⟩
   · rw [if_neg kq1] at HZ1
     go_wp2_with fail
     refine HZ1.out.mono ?_
     rintro e wz ⟨rfl,rfl⟩
     obtain ⟨q1,hq1⟩:∃ q:Int,q = q0 - (n2:Int):=⟨_,rfl⟩
     rw [← hq1] at kq1 ⊢
     have HQq1:=hide hq1
     have bq1:q1 ≤ 1048576:=by omega
     have m2:n2 ≤ 1048576:=by omega
     clear hq1 HZ1
     have HZ2:=hide (szByteS_any n3 a3 c3 (q1) (w.alloc (.cells ([.slice a1 n1 c1,.int .i64 ff,.slice a2 n2 c2,.slice a3 n3 c3,.int .i64 tf,.slice a4 n4 c4,.string pan,.slice a5 n5 c5]:List Value).toArray 43)) h3 (by omega) (by omega))
     by_cases kq2:q1 - (n3:Int) < 0
     · rw [if_pos kq2] at HZ2
       go_wp2_with fail
       refine HZ2.out.mono ?_
       rintro e wz ⟨rfl,rfl⟩
       go_wp2_with fail
       go_ret
       exact ⟨_,rfl,.inl (by omega),hb⟩
     · rw [if_neg kq2] at HZ2
       go_wp2_with fail
       refine HZ2.out.mono ?_
       rintro e wz ⟨rfl,rfl⟩
       obtain ⟨q2,hq2⟩:∃ q:Int,q = q1 - (n3:Int):=⟨_,rfl⟩
       rw [← hq2] at kq2 ⊢
       have HQq2:=hide hq2
       have bq2:q2 ≤ 1048576:=by omega
       have m3:n3 ≤ 1048576:=by omega
       clear hq2 HZ2
       have HZ3:=hide (szByteS_any n4 a4 c4 (q2) (w.alloc (.cells ([.slice a1 n1 c1,.int .i64 ff,.slice a2 n2 c2,.slice a3 n3 c3,.int .i64 tf,.slice a4 n4 c4,.string pan,.slice a5 n5 c5]:List Value).toArray 43)) h4 (by omega) (by omega))
       by_cases kq3:q2 - (n4:Int) < 0
       · rw [if_pos kq3] at HZ3
         go_wp2_with fail
         refine HZ3.out.mono ?_
         rintro e wz ⟨rfl,rfl⟩
         go_wp2_with fail
         go_ret
         exact ⟨_,rfl,.inl (by omega),hb⟩
       · rw [if_neg kq3] at HZ3
         go_wp2_with fail
         refine HZ3.out.mono ?_
         rintro e wz ⟨rfl,rfl⟩
         obtain ⟨q3,hq3⟩:∃ q:Int,q = q2 - (n4:Int):=⟨_,rfl⟩
         rw [← hq3] at kq3 ⊢
         have HQq3:=hide hq3
         have bq3:q3 ≤ 1048576:=by omega
         have m4:n4 ≤ 1048576:=by omega
         clear hq3 HZ3
         by_cases kq4:q3 - (pan.size:Int) < 0
         · go_wp2_with fail
           go_ret
           exact ⟨_,rfl,.inl (by omega),hb⟩
         · obtain ⟨q4,hq4⟩:∃ q:Int,q = q3 - (pan.size:Int):=⟨_,rfl⟩
           have HQq4:=hide hq4
           have nq4:¬ (q4 < 0):=by omega
           rw [hq4] at nq4
           clear hq4
           have HZ4:=hide (szByteS_any n5 a5 c5 ((q3 - (pan.size:Int))) (w.alloc (.cells ([.slice a1 n1 c1,.int .i64 ff,.slice a2 n2 c2,.slice a3 n3 c3,.int .i64 tf,.slice a4 n4 c4,.string pan,.slice a5 n5 c5]:List Value).toArray 43)) h5 (by omega) (by omega))
           by_cases kq5:(q3 - (pan.size:Int)) - (n5:Int) < 0
           · rw [if_pos kq5] at HZ4
             go_wp2_with fail
             refine HZ4.out.mono ?_
             rintro e wz ⟨rfl,rfl⟩
             go_wp2_with fail
             go_ret
             exact ⟨_,rfl,.inl (by omega),hb⟩
           · rw [if_neg kq5] at HZ4
             go_wp2_with fail
             refine HZ4.out.mono ?_
             rintro e wz ⟨rfl,rfl⟩
             obtain ⟨q5,hq5⟩:∃ q:Int,q = (q3 - (pan.size:Int)) - (n5:Int):=⟨_,rfl⟩
             rw [← hq5] at kq5 ⊢
             have HQq5:=hide hq5
             have bq5:q5 ≤ 1048576:=by omega
             have m5:n5 ≤ 1048576:=by omega
             clear hq5 HZ4
             go_wp2_with fail
             go_ret
             exact ⟨_,rfl,.inr ⟨by omega,by omega,by omega,by omega,by omega,by omega,by omega⟩,hb⟩
abbrev zeroOr:List Value:=[.slice none 0 0,.int .i64 0,.slice none 0 0,.slice none 0 0,.int .i64 0,.slice none 0 0,.string emptyS,.slice none 0 0]
theorem Tryz.zeroOr:(Tryz.prog.info? 24).map (fun i=>(i.zero,i.size)) = some (some (.agg zeroOr.toArray),8):=by kernel_rfl
set_option maxRecDepth 100000 in
set_option maxHeartbeats 4000000 in
theorem toOrder_any (fr ksn tow block draws:List UInt8) (a1 a2 a3 a4 a5:Option Addr) (c1 c2 c3 c4 c5:Nat) (ff tf:Int) (pan:ByteArray) (w:World) (h1:fr.length ≤ 1048576) (h2:ksn.length ≤ 1048576) (h3:tow.length ≤ 1048576) (h4:block.length ≤ 1048576) (h5:draws.length ≤ 1048576) (r1:RowAt w a1 fr) (r2:RowAt w a2 ksn) (r3:RowAt w a3 tow) (r4:RowAt w a4 block) (r5:RowAt w a5 draws) :
   Calls Tryz.prog 15 #[.agg ([.slice a1 fr.length c1,.int .i64 ff,.slice a2 ksn.length c2,.slice a3 tow.length c3,.int .i64 tf,.slice a4 block.length c4,.string pan,.slice a5 draws.length c5]:List Value).toArray] w fun e w'=>∃ A1 A2 A3 A4 A5,e = .returned (.agg ([.slice (some ⟨A1,0,none⟩) fr.length fr.length,.int .i64 ff,.slice (some ⟨A2,0,none⟩) ksn.length ksn.length,.slice (some ⟨A3,0,none⟩) tow.length tow.length,.int .i64 tf,.slice (some ⟨A4,0,none⟩) block.length block.length,.string pan,.slice (some ⟨A5,0,none⟩) draws.length draws.length]:List Value).toArray) ∧ OrdOwn w' w.heap.size A1 A2 A3 A4 A5 fr ksn tow block draws ∧ Below w.heap.size w w':=by
 have hz:=(zero_of_info Tryz.zeroOr).1
 have HT1:=hide (fun (wx:World) (h:RowAt wx a1 fr)=>toByteS_any a1 c1 fr wx h1 h)
 have HR1:=hide r1
 have HT2:=hide (fun (wx:World) (h:RowAt wx a2 ksn)=>toByteS_any a2 c2 ksn wx h2 h)
 have HR2:=hide r2
 have HT3:=hide (fun (wx:World) (h:RowAt wx a3 tow)=>toByteS_any a3 c3 tow wx h3 h)
 have HR3:=hide r3
 have HT4:=hide (fun (wx:World) (h:RowAt wx a4 block)=>toByteS_any a4 c4 block wx h4 h)
 have HR4:=hide r4
 have HT5:=hide (fun (wx:World) (h:RowAt wx a5 draws)=>toByteS_any a5 c5 draws wx h5 h)
 have HR5:=hide r5
 obtain ⟨n1,hn1⟩:∃ n,n = fr.length:=⟨_,rfl⟩
 obtain ⟨n2,hn2⟩:∃ n,n = ksn.length:=⟨_,rfl⟩
 obtain ⟨n3,hn3⟩:∃ n,n = tow.length:=⟨_,rfl⟩
 obtain ⟨n4,hn4⟩:∃ n,n = block.length:=⟨_,rfl⟩
 obtain ⟨n5,hn5⟩:∃ n,n = draws.length:=⟨_,rfl⟩
 rw [← hn1] at HT1 ⊢
 have HN1:=hide hn1
 rw [← hn2] at HT2 ⊢
 have HN2:=hide hn2
 rw [← hn3] at HT3 ⊢
 have HN3:=hide hn3
 rw [← hn4] at HT4 ⊢
 have HN4:=hide hn4
 rw [← hn5] at HT5 ⊢
 have HN5:=hide hn5
 clear hn1 hn2 hn3 hn4 hn5 r1 r2 r3 r4 r5
 obtain ⟨W,hW⟩:∃ W,W = ((w.alloc (.cells ([.slice a1 n1 c1,.int .i64 ff,.slice a2 n2 c2,.slice a3 n3 c3,.int .i64 tf,.slice a4 n4 c4,.string pan,.slice a5 n5 c5]:List Value).toArray 43)).alloc (.cells zeroOr.toArray 24)).alloc (.cells zeroOr.toArray 24):=⟨_,rfl⟩
 have kA:Blk W w.heap.size 43 [.slice a1 n1 c1,.int .i64 ff,.slice a2 n2 c2,.slice a3 n3 c3,.int .i64 tf,.slice a4 n4 c4,.string pan,.slice a5 n5 c5]:=by rw [hW];exact ((Blk.new w _ _).alloc _).alloc _
 have kR:Blk W (w.heap.size + 1) 24 zeroOr:=by rw [hW];exact (Blk.new2 w _ _ _).alloc _
 have kO:Blk W (w.heap.size + 1 + 1) 24 zeroOr:=by rw [hW];exact Blk.newAt _ _ _ _ (by simp)
 have b0:Below w.heap.size w W:=by rw [hW];exact (((Below.refl _ w).alloc (Nat.le_refl _) _).alloc (by simp) _).alloc (by simp;omega) _
 have lW:=kO.lt
 go_enter Tryz.func15,Tryz.ntmps15
 go_wp2_with fail
 rw [← hW]
 clear hW
 refine (HT1.out W (HR1.out.below b0)).mono ?_
 rintro e w1 ⟨rfl,own1,bel1⟩
 have lt1:W.heap.size < w1.heap.size:=by
   obtain ⟨_,_,hv,_,g1,-⟩:=own1.shape
   cases hv
   obtain ⟨g,hg,-,h⟩:=g1 _ rfl
   cases hg
   exact h
 have le1:w.heap.size + 1 + 1 < W.heap.size:=kO.lt
 obtain ⟨A1,hA1⟩:∃ A,A = W.heap.size:=⟨_,rfl⟩
 have kA1:=kA.below bel1 kA.lt
 have kR1:=kR.below bel1 kR.lt
 have kO1:=kO.below bel1 kO.lt
 have bx1:=below_step b0 bel1
 rw [← hA1] at own1 lt1 le1 ⊢
 have c1_0:=kO1.cell 0 (by simp)
 have f1_0:=kO1.free 0
 have c1_1:=kO1.cell 1 (by simp)
 have f1_1:=kO1.free 1
 have s1_1:=kA1.cell 1 (by simp)
 have s1_2:=kA1.cell 2 (by simp)
 obtain ⟨V1,hV1⟩:∃ x,x = (World.setCell (World.setCell w1 ⟨(w.heap.size + 1 + 1),0,none⟩ (.slice (some ⟨A1,0,none⟩) n1 n1)) ⟨(w.heap.size + 1 + 1),1,none⟩ (.int .i64 ff)):=⟨_,rfl⟩
 have vA1:Blk V1 w.heap.size 43 [.slice a1 n1 c1,.int .i64 ff,.slice a2 n2 c2,.slice a3 n3 c3,.int .i64 tf,.slice a4 n4 c4,.string pan,.slice a5 n5 c5]:=by rw [hV1];exact ((kA1.other ⟨(w.heap.size + 1 + 1),0,none⟩ (.slice (some ⟨A1,0,none⟩) n1 n1) (by show _ ≠ w.heap.size + 1 + 1;omega)).other ⟨(w.heap.size + 1 + 1),1,none⟩ (.int .i64 ff) (by show _ ≠ w.heap.size + 1 + 1;omega))
 have vR1:Blk V1 (w.heap.size + 1) 24 zeroOr:=by rw [hV1];exact ((kR1.other ⟨(w.heap.size + 1 + 1),0,none⟩ (.slice (some ⟨A1,0,none⟩) n1 n1) (by show _ ≠ w.heap.size + 1 + 1;omega)).other ⟨(w.heap.size + 1 + 1),1,none⟩ (.int .i64 ff) (by show _ ≠ w.heap.size + 1 + 1;omega))
 have vO1:Blk V1 (w.heap.size + 1 + 1) 24 [(.slice (some ⟨A1,0,none⟩) n1 n1),(.int .i64 ff),(.slice none 0 0),(.slice none 0 0),(.int .i64 0),(.slice none 0 0),(.string emptyS),(.slice none 0 0)]:=by rw [hV1];exact ((kO1.set 0 (.slice (some ⟨A1,0,none⟩) n1 n1)).set 1 (.int .i64 ff))
 have vb1:Below w.heap.size w V1:=by rw [hV1];exact ((bx1.setCell (p:=⟨(w.heap.size + 1 + 1),0,none⟩) (by show w.heap.size ≤ w.heap.size + 1 + 1;omega) (.slice (some ⟨A1,0,none⟩) n1 n1)).setCell (p:=⟨(w.heap.size + 1 + 1),1,none⟩) (by show w.heap.size ≤ w.heap.size + 1 + 1;omega) (.int .i64 ff))
 have vs1:w1.heap.size ≤ V1.heap.size:=by rw [hV1];simp
 have vo1_1:Own V1 A1 (.slice (some ⟨A1,0,none⟩) n1 n1) fr:=by rw [hV1];exact (Own.set' (Own.set' own1 (a:=⟨(w.heap.size + 1 + 1),0,none⟩) (by show w.heap.size + 1 + 1 < _;omega) (.slice (some ⟨A1,0,none⟩) n1 n1)) (a:=⟨(w.heap.size + 1 + 1),1,none⟩) (by show w.heap.size + 1 + 1 < _;omega) (.int .i64 ff))
 have vl1_1:A1 < V1.heap.size:=by omega
 have HV1:=hide hV1
 clear hA1 own1 bel1 kA kR kO kA1 kR1 kO1 b0 bx1 hV1 lt1
 go_wp2_with fail
 rw [← show V1 = _ from HV1]
 clear HV1
 clear c1_0 f1_0 c1_1 f1_1 s1_1 s1_2
 refine (HT2.out V1 (HR2.out.below vb1)).mono ?_
 rintro e w2 ⟨rfl,own2,bel2⟩
 have lt2:V1.heap.size < w2.heap.size:=by
   obtain ⟨_,_,hv,_,g1,-⟩:=own2.shape
   cases hv
   obtain ⟨g,hg,-,h⟩:=g1 _ rfl
   cases hg
   exact h
 have le2:w.heap.size + 1 + 1 < V1.heap.size:=vO1.lt
 have lz2_1:A1 < V1.heap.size:=vl1_1
 obtain ⟨A2,hA2⟩:∃ A,A = V1.heap.size:=⟨_,rfl⟩
 have kA2:=vA1.below bel2 vA1.lt
 have kR2:=vR1.below bel2 vR1.lt
 have kO2:=vO1.below bel2 vO1.lt
 have bx2:=below_step vb1 bel2
 have ow2_1:=vo1_1.below bel2
 rw [← hA2] at own2 lt2 le2 lz2_1 ⊢
 have c2_2:=kO2.cell 2 (by simp)
 have f2_2:=kO2.free 2
 have s2_3:=kA2.cell 3 (by simp)
 obtain ⟨V2,hV2⟩:∃ x,x = (World.setCell w2 ⟨(w.heap.size + 1 + 1),2,none⟩ (.slice (some ⟨A2,0,none⟩) n2 n2)):=⟨_,rfl⟩
 have vA2:Blk V2 w.heap.size 43 [.slice a1 n1 c1,.int .i64 ff,.slice a2 n2 c2,.slice a3 n3 c3,.int .i64 tf,.slice a4 n4 c4,.string pan,.slice a5 n5 c5]:=by rw [hV2];exact (kA2.other ⟨(w.heap.size + 1 + 1),2,none⟩ (.slice (some ⟨A2,0,none⟩) n2 n2) (by show _ ≠ w.heap.size + 1 + 1;omega))
 have vR2:Blk V2 (w.heap.size + 1) 24 zeroOr:=by rw [hV2];exact (kR2.other ⟨(w.heap.size + 1 + 1),2,none⟩ (.slice (some ⟨A2,0,none⟩) n2 n2) (by show _ ≠ w.heap.size + 1 + 1;omega))
 have vO2:Blk V2 (w.heap.size + 1 + 1) 24 [(.slice (some ⟨A1,0,none⟩) n1 n1),(.int .i64 ff),(.slice (some ⟨A2,0,none⟩) n2 n2),(.slice none 0 0),(.int .i64 0),(.slice none 0 0),(.string emptyS),(.slice none 0 0)]:=by rw [hV2];exact (kO2.set 2 (.slice (some ⟨A2,0,none⟩) n2 n2))
 have vb2:Below w.heap.size w V2:=by rw [hV2];exact (bx2.setCell (p:=⟨(w.heap.size + 1 + 1),2,none⟩) (by show w.heap.size ≤ w.heap.size + 1 + 1;omega) (.slice (some ⟨A2,0,none⟩) n2 n2))
 have vs2:w2.heap.size ≤ V2.heap.size:=by rw [hV2];simp
 have vo2_1:Own V2 A1 (.slice (some ⟨A1,0,none⟩) n1 n1) fr:=by rw [hV2];exact (Own.set' ow2_1 (a:=⟨(w.heap.size + 1 + 1),2,none⟩) (by show w.heap.size + 1 + 1 < _;omega) (.slice (some ⟨A2,0,none⟩) n2 n2))
 have vl2_1:A1 < V2.heap.size:=by omega
 have vo2_2:Own V2 A2 (.slice (some ⟨A2,0,none⟩) n2 n2) ksn:=by rw [hV2];exact (Own.set' own2 (a:=⟨(w.heap.size + 1 + 1),2,none⟩) (by show w.heap.size + 1 + 1 < _;omega) (.slice (some ⟨A2,0,none⟩) n2 n2))
 have vl2_2:A2 < V2.heap.size:=by omega
 have HV2:=hide hV2
 clear hA2 own2 bel2 vA1 vR1 vO1 kA2 kR2 kO2 vb1 bx2 hV2 lt2 ow2_1 vo1_1
 go_wp2_with fail
 rw [← show V2 = _ from HV2]
 clear HV2
 clear c2_2 f2_2 s2_3
 refine (HT3.out V2 (HR3.out.below vb2)).mono ?_
 rintro e w3 ⟨rfl,own3,bel3⟩
 have lt3:V2.heap.size < w3.heap.size:=by
   obtain ⟨_,_,hv,_,g1,-⟩:=own3.shape
   cases hv
   obtain ⟨g,hg,-,h⟩:=g1 _ rfl
   cases hg
   exact h
 have le3:w.heap.size + 1 + 1 < V2.heap.size:=vO2.lt
 have lz3_1:A1 < V2.heap.size:=vl2_1
 have lz3_2:A2 < V2.heap.size:=vl2_2
 obtain ⟨A3,hA3⟩:∃ A,A = V2.heap.size:=⟨_,rfl⟩
 have kA3:=vA2.below bel3 vA2.lt
 have kR3:=vR2.below bel3 vR2.lt
 have kO3:=vO2.below bel3 vO2.lt
 have bx3:=below_step vb2 bel3
 have ow3_1:=vo2_1.below bel3
 have ow3_2:=vo2_2.below bel3
 rw [← hA3] at own3 lt3 le3 lz3_1 lz3_2 ⊢
 have c3_3:=kO3.cell 3 (by simp)
 have f3_3:=kO3.free 3
 have c3_4:=kO3.cell 4 (by simp)
 have f3_4:=kO3.free 4
 have s3_4:=kA3.cell 4 (by simp)
 have s3_5:=kA3.cell 5 (by simp)
 obtain ⟨V3,hV3⟩:∃ x,x = (World.setCell (World.setCell w3 ⟨(w.heap.size + 1 + 1),3,none⟩ (.slice (some ⟨A3,0,none⟩) n3 n3)) ⟨(w.heap.size + 1 + 1),4,none⟩ (.int .i64 tf)):=⟨_,rfl⟩
 have vA3:Blk V3 w.heap.size 43 [.slice a1 n1 c1,.int .i64 ff,.slice a2 n2 c2,.slice a3 n3 c3,.int .i64 tf,.slice a4 n4 c4,.string pan,.slice a5 n5 c5]:=by rw [hV3];exact ((kA3.other ⟨(w.heap.size + 1 + 1),3,none⟩ (.slice (some ⟨A3,0,none⟩) n3 n3) (by show _ ≠ w.heap.size + 1 + 1;omega)).other ⟨(w.heap.size + 1 + 1),4,none⟩ (.int .i64 tf) (by show _ ≠ w.heap.size + 1 + 1;omega))
 have vR3:Blk V3 (w.heap.size + 1) 24 zeroOr:=by rw [hV3];exact ((kR3.other ⟨(w.heap.size + 1 + 1),3,none⟩ (.slice (some ⟨A3,0,none⟩) n3 n3) (by show _ ≠ w.heap.size + 1 + 1;omega)).other ⟨(w.heap.size + 1 + 1),4,none⟩ (.int .i64 tf) (by show _ ≠ w.heap.size + 1 + 1;omega))
 have vO3:Blk V3 (w.heap.size + 1 + 1) 24 [(.slice (some ⟨A1,0,none⟩) n1 n1),(.int .i64 ff),(.slice (some ⟨A2,0,none⟩) n2 n2),(.slice (some ⟨A3,0,none⟩) n3 n3),(.int .i64 tf),(.slice none 0 0),(.string emptyS),(.slice none 0 0)]:=by rw [hV3];exact ((kO3.set 3 (.slice (some ⟨A3,0,none⟩) n3 n3)).set 4 (.int .i64 tf))
 have vb3:Below w.heap.size w V3:=by rw [hV3];exact ((bx3.setCell (p:=⟨(w.heap.size + 1 + 1),3,none⟩) (by show w.heap.size ≤ w.heap.size + 1 + 1;omega) (.slice (some ⟨A3,0,none⟩) n3 n3)).setCell (p:=⟨(w.heap.size + 1 + 1),4,none⟩) (by show w.heap.size ≤ w.heap.size + 1 + 1;omega) (.int .i64 tf))
 have vs3:w3.heap.size ≤ V3.heap.size:=by rw [hV3];simp
 have vo3_1:Own V3 A1 (.slice (some ⟨A1,0,none⟩) n1 n1) fr:=by rw [hV3];exact (Own.set' (Own.set' ow3_1 (a:=⟨(w.heap.size + 1 + 1),3,none⟩) (by show w.heap.size + 1 + 1 < _;omega) (.slice (some ⟨A3,0,none⟩) n3 n3)) (a:=⟨(w.heap.size + 1 + 1),4,none⟩) (by show w.heap.size + 1 + 1 < _;omega) (.int .i64 tf))
 have vl3_1:A1 < V3.heap.size:=by omega
 have vo3_2:Own V3 A2 (.slice (some ⟨A2,0,none⟩) n2 n2) ksn:=by rw [hV3];exact (Own.set' (Own.set' ow3_2 (a:=⟨(w.heap.size + 1 + 1),3,none⟩) (by show w.heap.size + 1 + 1 < _;omega) (.slice (some ⟨A3,0,none⟩) n3 n3)) (a:=⟨(w.heap.size + 1 + 1),4,none⟩) (by show w.heap.size + 1 + 1 < _;omega) (.int .i64 tf))
 have vl3_2:A2 < V3.heap.size:=by omega
 have vo3_3:Own V3 A3 (.slice (some ⟨A3,0,none⟩) n3 n3) tow:=by rw [hV3];exact (Own.set' (Own.set' own3 (a:=⟨(w.heap.size + 1 + 1),3,none⟩) (by show w.heap.size + 1 + 1 < _;omega) (.slice (some ⟨A3,0,none⟩) n3 n3)) (a:=⟨(w.heap.size + 1 + 1),4,none⟩) (by show w.heap.size + 1 + 1 < _;omega) (.int .i64 tf))
 have vl3_3:A3 < V3.heap.size:=by omega
 have HV3:=hide hV3
 clear hA3 own3 bel3 vA2 vR2 vO2 kA3 kR3 kO3 vb2 bx3 hV3 lt3 ow3_1 ow3_2 vo2_1 vo2_2
 go_wp2_with fail
 rw [← show V3 = _ from HV3]
 clear HV3
 clear c3_3 f3_3 c3_4 f3_4 s3_4 s3_5
 refine (HT4.out V3 (HR4.out.below vb3)).mono ?_
 rintro e w4 ⟨rfl,own4,bel4⟩
 have lt4:V3.heap.size < w4.heap.size:=by
   obtain ⟨_,_,hv,_,g1,-⟩:=own4.shape
   cases hv
   obtain ⟨g,hg,-,h⟩:=g1 _ rfl
   cases hg
   exact h
 have le4:w.heap.size + 1 + 1 < V3.heap.size:=vO3.lt
 have lz4_1:A1 < V3.heap.size:=vl3_1
 have lz4_2:A2 < V3.heap.size:=vl3_2
 have lz4_3:A3 < V3.heap.size:=vl3_3
 obtain ⟨A4,hA4⟩:∃ A,A = V3.heap.size:=⟨_,rfl⟩
 have kA4:=vA3.below bel4 vA3.lt
 have kR4:=vR3.below bel4 vR3.lt
 have kO4:=vO3.below bel4 vO3.lt
 have bx4:=below_step vb3 bel4
 have ow4_1:=vo3_1.below bel4
 have ow4_2:=vo3_2.below bel4
 have ow4_3:=vo3_3.below bel4
 rw [← hA4] at own4 lt4 le4 lz4_1 lz4_2 lz4_3 ⊢
 have c4_5:=kO4.cell 5 (by simp)
 have f4_5:=kO4.free 5
 have c4_6:=kO4.cell 6 (by simp)
 have f4_6:=kO4.free 6
 have s4_6:=kA4.cell 6 (by simp)
 have s4_7:=kA4.cell 7 (by simp)
 obtain ⟨V4,hV4⟩:∃ x,x = (World.setCell (World.setCell w4 ⟨(w.heap.size + 1 + 1),5,none⟩ (.slice (some ⟨A4,0,none⟩) n4 n4)) ⟨(w.heap.size + 1 + 1),6,none⟩ (.string pan)):=⟨_,rfl⟩
 have vA4:Blk V4 w.heap.size 43 [.slice a1 n1 c1,.int .i64 ff,.slice a2 n2 c2,.slice a3 n3 c3,.int .i64 tf,.slice a4 n4 c4,.string pan,.slice a5 n5 c5]:=by rw [hV4];exact ((kA4.other ⟨(w.heap.size + 1 + 1),5,none⟩ (.slice (some ⟨A4,0,none⟩) n4 n4) (by show _ ≠ w.heap.size + 1 + 1;omega)).other ⟨(w.heap.size + 1 + 1),6,none⟩ (.string pan) (by show _ ≠ w.heap.size + 1 + 1;omega))
 have vR4:Blk V4 (w.heap.size + 1) 24 zeroOr:=by rw [hV4];exact ((kR4.other ⟨(w.heap.size + 1 + 1),5,none⟩ (.slice (some ⟨A4,0,none⟩) n4 n4) (by show _ ≠ w.heap.size + 1 + 1;omega)).other ⟨(w.heap.size + 1 + 1),6,none⟩ (.string pan) (by show _ ≠ w.heap.size + 1 + 1;omega))
 have vO4:Blk V4 (w.heap.size + 1 + 1) 24 [(.slice (some ⟨A1,0,none⟩) n1 n1),(.int .i64 ff),(.slice (some ⟨A2,0,none⟩) n2 n2),(.slice (some ⟨A3,0,none⟩) n3 n3),(.int .i64 tf),(.slice (some ⟨A4,0,none⟩) n4 n4),(.string pan),(.slice none 0 0)]:=by rw [hV4];exact ((kO4.set 5 (.slice (some ⟨A4,0,none⟩) n4 n4)).set 6 (.string pan))
 have vb4:Below w.heap.size w V4:=by rw [hV4];exact ((bx4.setCell (p:=⟨(w.heap.size + 1 + 1),5,none⟩) (by show w.heap.size ≤ w.heap.size + 1 + 1;omega) (.slice (some ⟨A4,0,none⟩) n4 n4)).setCell (p:=⟨(w.heap.size + 1 + 1),6,none⟩) (by show w.heap.size ≤ w.heap.size + 1 + 1;omega) (.string pan))
 have vs4:w4.heap.size ≤ V4.heap.size:=by rw [hV4];simp
 have vo4_1:Own V4 A1 (.slice (some ⟨A1,0,none⟩) n1 n1) fr:=by rw [hV4];exact (Own.set' (Own.set' ow4_1 (a:=⟨(w.heap.size + 1 + 1),5,none⟩) (by show w.heap.size + 1 + 1 < _;omega) (.slice (some ⟨A4,0,none⟩) n4 n4)) (a:=⟨(w.heap.size + 1 + 1),6,none⟩) (by show w.heap.size + 1 + 1 < _;omega) (.string pan))
 have vl4_1:A1 < V4.heap.size:=by omega
 have vo4_2:Own V4 A2 (.slice (some ⟨A2,0,none⟩) n2 n2) ksn:=by rw [hV4];exact (Own.set' (Own.set' ow4_2 (a:=⟨(w.heap.size + 1 + 1),5,none⟩) (by show w.heap.size + 1 + 1 < _;omega) (.slice (some ⟨A4,0,none⟩) n4 n4)) (a:=⟨(w.heap.size + 1 + 1),6,none⟩) (by show w.heap.size + 1 + 1 < _;omega) (.string pan))
 have vl4_2:A2 < V4.heap.size:=by omega
 have vo4_3:Own V4 A3 (.slice (some ⟨A3,0,none⟩) n3 n3) tow:=by rw [hV4];exact (Own.set' (Own.set' ow4_3 (a:=⟨(w.heap.size + 1 + 1),5,none⟩) (by show w.heap.size + 1 + 1 < _;omega) (.slice (some ⟨A4,0,none⟩) n4 n4)) (a:=⟨(w.heap.size + 1 + 1),6,none⟩) (by show w.heap.size + 1 + 1 < _;omega) (.string pan))
 have vl4_3:A3 < V4.heap.size:=by omega
 have vo4_4:Own V4 A4 (.slice (some ⟨A4,0,none⟩) n4 n4) block:=by rw [hV4];exact (Own.set' (Own.set' own4 (a:=⟨(w.heap.size + 1 + 1),5,none⟩) (by show w.heap.size + 1 + 1 < _;omega) (.slice (some ⟨A4,0,none⟩) n4 n4)) (a:=⟨(w.heap.size + 1 + 1),6,none⟩) (by show w.heap.size + 1 + 1 < _;omega) (.string pan))
 have vl4_4:A4 < V4.heap.size:=by omega
 have HV4:=hide hV4
 clear hA4 own4 bel4 vA3 vR3 vO3 kA4 kR4 kO4 vb3 bx4 hV4 lt4 ow4_1 ow4_2 ow4_3 vo3_1 vo3_2 vo3_3
 go_wp2_with fail
 rw [← show V4 = _ from HV4]
 clear HV4
 clear c4_5 f4_5 c4_6 f4_6 s4_6 s4_7
 refine (HT5.out V4 (HR5.out.below vb4)).mono ?_
 rintro e w5 ⟨rfl,own5,bel5⟩
 have lt5:V4.heap.size < w5.heap.size:=by
   obtain ⟨_,_,hv,_,g1,-⟩:=own5.shape
   cases hv
   obtain ⟨g,hg,-,h⟩:=g1 _ rfl
   cases hg
   exact h
 have le5:w.heap.size + 1 + 1 < V4.heap.size:=vO4.lt
 have lz5_1:A1 < V4.heap.size:=vl4_1
 have lz5_2:A2 < V4.heap.size:=vl4_2
 have lz5_3:A3 < V4.heap.size:=vl4_3
 have lz5_4:A4 < V4.heap.size:=vl4_4
 obtain ⟨A5,hA5⟩:∃ A,A = V4.heap.size:=⟨_,rfl⟩
 have kA5:=vA4.below bel5 vA4.lt
 have kR5:=vR4.below bel5 vR4.lt
 have kO5:=vO4.below bel5 vO4.lt
 have bx5:=below_step vb4 bel5
 have ow5_1:=vo4_1.below bel5
 have ow5_2:=vo4_2.below bel5
 have ow5_3:=vo4_3.below bel5
 have ow5_4:=vo4_4.below bel5
 rw [← hA5] at own5 lt5 le5 lz5_1 lz5_2 lz5_3 lz5_4 ⊢
 have c5_7:=kO5.cell 7 (by simp)
 have f5_7:=kO5.free 7
 obtain ⟨V5,hV5⟩:∃ x,x = (World.setCell w5 ⟨(w.heap.size + 1 + 1),7,none⟩ (.slice (some ⟨A5,0,none⟩) n5 n5)):=⟨_,rfl⟩
 have vA5:Blk V5 w.heap.size 43 [.slice a1 n1 c1,.int .i64 ff,.slice a2 n2 c2,.slice a3 n3 c3,.int .i64 tf,.slice a4 n4 c4,.string pan,.slice a5 n5 c5]:=by rw [hV5];exact (kA5.other ⟨(w.heap.size + 1 + 1),7,none⟩ (.slice (some ⟨A5,0,none⟩) n5 n5) (by show _ ≠ w.heap.size + 1 + 1;omega))
 have vR5:Blk V5 (w.heap.size + 1) 24 zeroOr:=by rw [hV5];exact (kR5.other ⟨(w.heap.size + 1 + 1),7,none⟩ (.slice (some ⟨A5,0,none⟩) n5 n5) (by show _ ≠ w.heap.size + 1 + 1;omega))
 have vO5:Blk V5 (w.heap.size + 1 + 1) 24 [(.slice (some ⟨A1,0,none⟩) n1 n1),(.int .i64 ff),(.slice (some ⟨A2,0,none⟩) n2 n2),(.slice (some ⟨A3,0,none⟩) n3 n3),(.int .i64 tf),(.slice (some ⟨A4,0,none⟩) n4 n4),(.string pan),(.slice (some ⟨A5,0,none⟩) n5 n5)]:=by rw [hV5];exact (kO5.set 7 (.slice (some ⟨A5,0,none⟩) n5 n5))
 have vb5:Below w.heap.size w V5:=by rw [hV5];exact (bx5.setCell (p:=⟨(w.heap.size + 1 + 1),7,none⟩) (by show w.heap.size ≤ w.heap.size + 1 + 1;omega) (.slice (some ⟨A5,0,none⟩) n5 n5))
 have vs5:w5.heap.size ≤ V5.heap.size:=by rw [hV5];simp
 have vo5_1:Own V5 A1 (.slice (some ⟨A1,0,none⟩) n1 n1) fr:=by rw [hV5];exact (Own.set' ow5_1 (a:=⟨(w.heap.size + 1 + 1),7,none⟩) (by show w.heap.size + 1 + 1 < _;omega) (.slice (some ⟨A5,0,none⟩) n5 n5))
 have vl5_1:A1 < V5.heap.size:=by omega
 have vo5_2:Own V5 A2 (.slice (some ⟨A2,0,none⟩) n2 n2) ksn:=by rw [hV5];exact (Own.set' ow5_2 (a:=⟨(w.heap.size + 1 + 1),7,none⟩) (by show w.heap.size + 1 + 1 < _;omega) (.slice (some ⟨A5,0,none⟩) n5 n5))
 have vl5_2:A2 < V5.heap.size:=by omega
 have vo5_3:Own V5 A3 (.slice (some ⟨A3,0,none⟩) n3 n3) tow:=by rw [hV5];exact (Own.set' ow5_3 (a:=⟨(w.heap.size + 1 + 1),7,none⟩) (by show w.heap.size + 1 + 1 < _;omega) (.slice (some ⟨A5,0,none⟩) n5 n5))
 have vl5_3:A3 < V5.heap.size:=by omega
 have vo5_4:Own V5 A4 (.slice (some ⟨A4,0,none⟩) n4 n4) block:=by rw [hV5];exact (Own.set' ow5_4 (a:=⟨(w.heap.size + 1 + 1),7,none⟩) (by show w.heap.size + 1 + 1 < _;omega) (.slice (some ⟨A5,0,none⟩) n5 n5))
 have vl5_4:A4 < V5.heap.size:=by omega
 have vo5_5:Own V5 A5 (.slice (some ⟨A5,0,none⟩) n5 n5) draws:=by rw [hV5];exact (Own.set' own5 (a:=⟨(w.heap.size + 1 + 1),7,none⟩) (by show w.heap.size + 1 + 1 < _;omega) (.slice (some ⟨A5,0,none⟩) n5 n5))
 have vl5_5:A5 < V5.heap.size:=by omega
 have HV5:=hide hV5
 clear hA5 own5 bel5 vA4 vR4 vO4 kA5 kR5 kO5 vb4 bx5 hV5 lt5 ow5_1 ow5_2 ow5_3 ow5_4 vo4_1 vo4_2 vo4_3 vo4_4
 go_upto_region 10 with fail
 rw [← show V5 = _ from HV5]
 clear HV5
 clear c5_7 f5_7
 go_wp2_with (first
   | (refine load_blk rfl 24 _ rfl (w.heap.size + 1 + 1) rfl vO5 Tryz.underlying24 rfl (by kernel_rfl) ?_)
   | (refine store_blk rfl 24 _ _ rfl (w.heap.size + 1) rfl rfl vR5 (by kernel_rfl) rfl (by kernel_rfl) ?_;intro w7 hb7 hg7 hs7))
 have lo1:w.heap.size + 1 < A1:=by omega
 exact ⟨rfl,_,results_blk Tryz.results15 _ _ rfl hb7 Tryz.underlying24 rfl (by kernel_rfl),⟨A1,A2,A3,A4,A5,rfl,⟨by rw [← HN1.out];exact Own.mono' (own_away vo5_1 hg7 (by omega)) (by omega),by rw [← HN2.out];exact Own.mono' (own_away vo5_2 hg7 (by omega)) (by omega),by rw [← HN3.out];exact Own.mono' (own_away vo5_3 hg7 (by omega)) (by omega),by rw [← HN4.out];exact Own.mono' (own_away vo5_4 hg7 (by omega)) (by omega),by rw [← HN5.out];exact Own.mono' (own_away vo5_5 hg7 (by omega)) (by omega),by omega,by omega,by omega,by omega,by omega,by omega⟩,vb5.grown hg7 vb5.size (by intro k hk;cases hk;omega)⟩⟩
set_option maxRecDepth 100000 in
set_option maxHeartbeats 2000000 in
theorem eqOrder_any (fr ksn tow block draws:List UInt8) (a1 a2 a3 a4 a5 d1 d2 d3 d4 d5:Option Addr) (c1 c2 c3 c4 c5 e1 e2 e3 e4 e5:Nat) (ff tf:Int) (pan:ByteArray) (w:World) (h1:fr.length ≤ 1048576) (h2:ksn.length ≤ 1048576) (h3:tow.length ≤ 1048576) (h4:block.length ≤ 1048576) (h5:draws.length ≤ 1048576) (r1:RowAt w a1 fr) (r2:RowAt w a2 ksn) (r3:RowAt w a3 tow) (r4:RowAt w a4 block) (r5:RowAt w a5 draws) (p1:RowAt w d1 fr) (p2:RowAt w d2 ksn) (p3:RowAt w d3 tow) (p4:RowAt w d4 block) (p5:RowAt w d5 draws) :
   Calls Tryz.prog 18 #[.agg ([.slice a1 fr.length c1,.int .i64 ff,.slice a2 ksn.length c2,.slice a3 tow.length c3,.int .i64 tf,.slice a4 block.length c4,.string pan,.slice a5 draws.length c5]:List Value).toArray,.agg ([.slice d1 fr.length e1,.int .i64 ff,.slice d2 ksn.length e2,.slice d3 tow.length e3,.int .i64 tf,.slice d4 block.length e4,.string pan,.slice d5 draws.length e5]:List Value).toArray] w fun e w'=>e = .returned (.bool true) ∧ Below w.heap.size w w':=by
 have HE1:=hide (fun (wx:World) (x:RowAt wx a1 fr) (y:RowAt wx d1 fr)=>eqByteS_any a1 d1 c1 e1 fr wx h1 x y)
 have HE2:=hide (fun (wx:World) (x:RowAt wx a2 ksn) (y:RowAt wx d2 ksn)=>eqByteS_any a2 d2 c2 e2 ksn wx h2 x y)
 have HE3:=hide (fun (wx:World) (x:RowAt wx a3 tow) (y:RowAt wx d3 tow)=>eqByteS_any a3 d3 c3 e3 tow wx h3 x y)
 have HE4:=hide (fun (wx:World) (x:RowAt wx a4 block) (y:RowAt wx d4 block)=>eqByteS_any a4 d4 c4 e4 block wx h4 x y)
 have HE5:=hide (fun (wx:World) (x:RowAt wx a5 draws) (y:RowAt wx d5 draws)=>eqByteS_any a5 d5 c5 e5 draws wx h5 x y)
 obtain ⟨n1,hn1⟩:∃ n,n = fr.length:=⟨_,rfl⟩
 rw [← hn1] at HE1 ⊢
 obtain ⟨n2,hn2⟩:∃ n,n = ksn.length:=⟨_,rfl⟩
 rw [← hn2] at HE2 ⊢
 obtain ⟨n3,hn3⟩:∃ n,n = tow.length:=⟨_,rfl⟩
 rw [← hn3] at HE3 ⊢
 obtain ⟨n4,hn4⟩:∃ n,n = block.length:=⟨_,rfl⟩
 rw [← hn4] at HE4 ⊢
 obtain ⟨n5,hn5⟩:∃ n,n = draws.length:=⟨_,rfl⟩
 rw [← hn5] at HE5 ⊢
 clear hn1 hn2 hn3 hn4 hn5
 obtain ⟨W,hW⟩:∃ W,W = (w.alloc (.cells ([.slice a1 n1 c1,.int .i64 ff,.slice a2 n2 c2,.slice a3 n3 c3,.int .i64 tf,.slice a4 n4 c4,.string pan,.slice a5 n5 c5]:List Value).toArray 24)).alloc (.cells ([.slice d1 n1 e1,.int .i64 ff,.slice d2 n2 e2,.slice d3 n3 e3,.int .i64 tf,.slice d4 n4 e4,.string pan,.slice d5 n5 e5]:List Value).toArray 24):=⟨_,rfl⟩
 have k1:Blk W w.heap.size 24 [.slice a1 n1 c1,.int .i64 ff,.slice a2 n2 c2,.slice a3 n3 c3,.int .i64 tf,.slice a4 n4 c4,.string pan,.slice a5 n5 c5]:=by rw [hW];exact (Blk.new w _ _).alloc _
 have k2:Blk W (w.heap.size + 1) 24 [.slice d1 n1 e1,.int .i64 ff,.slice d2 n2 e2,.slice d3 n3 e3,.int .i64 tf,.slice d4 n4 e4,.string pan,.slice d5 n5 e5]:=by rw [hW];exact Blk.new2 w _ _ _
 have bW:Below w.heap.size w W:=by rw [hW];exact ((Below.refl _ w).alloc (Nat.le_refl _) _).alloc (by simp) _
 have HR:Hid (RowAt W a1 fr ∧ RowAt W d1 fr ∧ RowAt W a2 ksn ∧ RowAt W d2 ksn ∧ RowAt W a3 tow ∧ RowAt W d3 tow ∧ RowAt W a4 block ∧ RowAt W d4 block ∧ RowAt W a5 draws ∧ RowAt W d5 draws):=⟨r1.below bW,p1.below bW,r2.below bW,p2.below bW,r3.below bW,p3.below bW,r4.below bW,p4.below bW,r5.below bW,p5.below bW⟩
 have hpp:(pan == pan) = true:=by rw [beq_bytes];exact decide_eq_true rfl
 clear r1 p1 r2 p2 r3 p3 r4 p4 r5 p5
 go_enter Tryz.func18,Tryz.ntmps18
 go_wp2_with fail
 rw [← hW]
 clear hW
 refine (HE1.out W HR.out.1 HR.out.2.1).mono ?_
 rintro e w1 ⟨rfl,m1,hw1⟩
 have k1_1:Blk w1 w.heap.size 24 [.slice a1 n1 c1,.int .i64 ff,.slice a2 n2 c2,.slice a3 n3 c3,.int .i64 tf,.slice a4 n4 c4,.string pan,.slice a5 n5 c5]:=by rw [hw1];exact k1
 have k2_1:Blk w1 (w.heap.size + 1) 24 [.slice d1 n1 e1,.int .i64 ff,.slice d2 n2 e2,.slice d3 n3 e3,.int .i64 tf,.slice d4 n4 e4,.string pan,.slice d5 n5 e5]:=by rw [hw1];exact k2
 have b_1:Below w.heap.size w w1:=by rw [hw1];exact below_drewN bW m1
 have HR_1:Hid (RowAt w1 a1 fr ∧ RowAt w1 d1 fr ∧ RowAt w1 a2 ksn ∧ RowAt w1 d2 ksn ∧ RowAt w1 a3 tow ∧ RowAt w1 d3 tow ∧ RowAt w1 a4 block ∧ RowAt w1 d4 block ∧ RowAt w1 a5 draws ∧ RowAt w1 d5 draws):=by rw [hw1];exact HR.out
 clear hw1 k1 k2 HR bW
 have x1_1:=k1_1.cell 1 (by simp)
 have y1_1:=k2_1.cell 1 (by simp)
 have x1_2:=k1_1.cell 2 (by simp)
 have y1_2:=k2_1.cell 2 (by simp)
 go_wp2_with fail
 clear x1_1 y1_1 x1_2 y1_2
 refine (HE2.out w1 HR_1.out.2.2.1 HR_1.out.2.2.2.1).mono ?_
 rintro e w2 ⟨rfl,m2,hw2⟩
 have k1_2:Blk w2 w.heap.size 24 [.slice a1 n1 c1,.int .i64 ff,.slice a2 n2 c2,.slice a3 n3 c3,.int .i64 tf,.slice a4 n4 c4,.string pan,.slice a5 n5 c5]:=by rw [hw2];exact k1_1
 have k2_2:Blk w2 (w.heap.size + 1) 24 [.slice d1 n1 e1,.int .i64 ff,.slice d2 n2 e2,.slice d3 n3 e3,.int .i64 tf,.slice d4 n4 e4,.string pan,.slice d5 n5 e5]:=by rw [hw2];exact k2_1
 have b_2:Below w.heap.size w w2:=by rw [hw2];exact below_drewN b_1 m2
 have HR_2:Hid (RowAt w2 a1 fr ∧ RowAt w2 d1 fr ∧ RowAt w2 a2 ksn ∧ RowAt w2 d2 ksn ∧ RowAt w2 a3 tow ∧ RowAt w2 d3 tow ∧ RowAt w2 a4 block ∧ RowAt w2 d4 block ∧ RowAt w2 a5 draws ∧ RowAt w2 d5 draws):=by rw [hw2];exact HR_1.out
 clear hw2 k1_1 k2_1 HR_1 b_1
 have x2_3:=k1_2.cell 3 (by simp)
 have y2_3:=k2_2.cell 3 (by simp)
 go_wp2_with fail
 clear x2_3 y2_3
 refine (HE3.out w2 HR_2.out.2.2.2.2.1 HR_2.out.2.2.2.2.2.1).mono ?_
 rintro e w3 ⟨rfl,m3,hw3⟩
 have k1_3:Blk w3 w.heap.size 24 [.slice a1 n1 c1,.int .i64 ff,.slice a2 n2 c2,.slice a3 n3 c3,.int .i64 tf,.slice a4 n4 c4,.string pan,.slice a5 n5 c5]:=by rw [hw3];exact k1_2
 have k2_3:Blk w3 (w.heap.size + 1) 24 [.slice d1 n1 e1,.int .i64 ff,.slice d2 n2 e2,.slice d3 n3 e3,.int .i64 tf,.slice d4 n4 e4,.string pan,.slice d5 n5 e5]:=by rw [hw3];exact k2_2
 have b_3:Below w.heap.size w w3:=by rw [hw3];exact below_drewN b_2 m3
 have HR_3:Hid (RowAt w3 a1 fr ∧ RowAt w3 d1 fr ∧ RowAt w3 a2 ksn ∧ RowAt w3 d2 ksn ∧ RowAt w3 a3 tow ∧ RowAt w3 d3 tow ∧ RowAt w3 a4 block ∧ RowAt w3 d4 block ∧ RowAt w3 a5 draws ∧ RowAt w3 d5 draws):=by rw [hw3];exact HR_2.out
 clear hw3 k1_2 k2_2 HR_2 b_2
 have x3_4:=k1_3.cell 4 (by simp)
 have y3_4:=k2_3.cell 4 (by simp)
 have x3_5:=k1_3.cell 5 (by simp)
 have y3_5:=k2_3.cell 5 (by simp)
 go_wp2_with fail
 clear x3_4 y3_4 x3_5 y3_5
 refine (HE4.out w3 HR_3.out.2.2.2.2.2.2.1 HR_3.out.2.2.2.2.2.2.2.1).mono ?_
 rintro e w4 ⟨rfl,m4,hw4⟩
 have k1_4:Blk w4 w.heap.size 24 [.slice a1 n1 c1,.int .i64 ff,.slice a2 n2 c2,.slice a3 n3 c3,.int .i64 tf,.slice a4 n4 c4,.string pan,.slice a5 n5 c5]:=by rw [hw4];exact k1_3
 have k2_4:Blk w4 (w.heap.size + 1) 24 [.slice d1 n1 e1,.int .i64 ff,.slice d2 n2 e2,.slice d3 n3 e3,.int .i64 tf,.slice d4 n4 e4,.string pan,.slice d5 n5 e5]:=by rw [hw4];exact k2_3
 have b_4:Below w.heap.size w w4:=by rw [hw4];exact below_drewN b_3 m4
 have HR_4:Hid (RowAt w4 a1 fr ∧ RowAt w4 d1 fr ∧ RowAt w4 a2 ksn ∧ RowAt w4 d2 ksn ∧ RowAt w4 a3 tow ∧ RowAt w4 d3 tow ∧ RowAt w4 a4 block ∧ RowAt w4 d4 block ∧ RowAt w4 a5 draws ∧ RowAt w4 d5 draws):=by rw [hw4];exact HR_3.out
 clear hw4 k1_3 k2_3 HR_3 b_3
 have x4_6:=k1_4.cell 6 (by simp)
 have y4_6:=k2_4.cell 6 (by simp)
 have x4_7:=k1_4.cell 7 (by simp)
 have y4_7:=k2_4.cell 7 (by simp)
 go_wp2_with fail
 clear x4_6 y4_6 x4_7 y4_7
 refine (HE5.out w4 HR_4.out.2.2.2.2.2.2.2.2.1 HR_4.out.2.2.2.2.2.2.2.2.2).mono ?_
 rintro e w5 ⟨rfl,m5,hw5⟩
 have k1_5:Blk w5 w.heap.size 24 [.slice a1 n1 c1,.int .i64 ff,.slice a2 n2 c2,.slice a3 n3 c3,.int .i64 tf,.slice a4 n4 c4,.string pan,.slice a5 n5 c5]:=by rw [hw5];exact k1_4
 have k2_5:Blk w5 (w.heap.size + 1) 24 [.slice d1 n1 e1,.int .i64 ff,.slice d2 n2 e2,.slice d3 n3 e3,.int .i64 tf,.slice d4 n4 e4,.string pan,.slice d5 n5 e5]:=by rw [hw5];exact k2_4
 have b_5:Below w.heap.size w w5:=by rw [hw5];exact below_drewN b_4 m5
 have HR_5:Hid (RowAt w5 a1 fr ∧ RowAt w5 d1 fr ∧ RowAt w5 a2 ksn ∧ RowAt w5 d2 ksn ∧ RowAt w5 a3 tow ∧ RowAt w5 d3 tow ∧ RowAt w5 a4 block ∧ RowAt w5 d4 block ∧ RowAt w5 a5 draws ∧ RowAt w5 d5 draws):=by rw [hw5];exact HR_4.out
 clear hw5 k1_4 k2_4 HR_4 b_4
 go_wp2_with fail
 go_ret
 exact ⟨rfl,b_5⟩
set_option maxRecDepth 100000 in
set_option maxHeartbeats 2000000 in
theorem markOrder_any (base A1 A2 A3 A4 A5:Nat) (fr ksn tow block draws:List UInt8) (ff tf:Int) (pan:ByteArray) (k:Nat) (w:World) (h1:fr.length ≤ 1048576) (h2:ksn.length ≤ 1048576) (h3:tow.length ≤ 1048576) (h4:block.length ≤ 1048576) (h5:draws.length ≤ 1048576) (hk:k ≤ 1048577) (ho:OrdOwn w base A1 A2 A3 A4 A5 fr ksn tow block draws)
   (Kp:World → Prop) (hA:∀ {x y:World},Kp x → Below x.heap.size x y → Kp y) (hG:∀ {x y:World} {g:Nat},Kp x → x.grownBy y (some g) → base ≤ g → g ≤ A5 → Kp y) (h:Kp w) :
   Calls Tryz.prog 20 #[.agg ([.slice (some ⟨A1,0,none⟩) fr.length fr.length,.int .i64 ff,.slice (some ⟨A2,0,none⟩) ksn.length ksn.length,.slice (some ⟨A3,0,none⟩) tow.length tow.length,.int .i64 tf,.slice (some ⟨A4,0,none⟩) block.length block.length,.string pan,.slice (some ⟨A5,0,none⟩) draws.length draws.length]:List Value).toArray,.int .i64 (k:Int)] w fun e w'=>(∃ m:Nat,e = .returned (.int .i64 (m:Int))) ∧ Kp w':=by
 have HM1:=hide (fun (wx:World) (j:Nat) (hj:j ≤ 1099511627776) (x:Own wx base (.slice (some ⟨A1,0,none⟩) fr.length fr.length) fr)=>markByteS_any base (some ⟨A1,0,none⟩) fr.length fr j wx h1 hj x)
 have HM2:=hide (fun (wx:World) (j:Nat) (hj:j ≤ 1099511627776) (x:Own wx base (.slice (some ⟨A2,0,none⟩) ksn.length ksn.length) ksn)=>markByteS_any base (some ⟨A2,0,none⟩) ksn.length ksn j wx h2 hj x)
 have HM3:=hide (fun (wx:World) (j:Nat) (hj:j ≤ 1099511627776) (x:Own wx base (.slice (some ⟨A3,0,none⟩) tow.length tow.length) tow)=>markByteS_any base (some ⟨A3,0,none⟩) tow.length tow j wx h3 hj x)
 have HM4:=hide (fun (wx:World) (j:Nat) (hj:j ≤ 1099511627776) (x:Own wx base (.slice (some ⟨A4,0,none⟩) block.length block.length) block)=>markByteS_any base (some ⟨A4,0,none⟩) block.length block j wx h4 hj x)
 have HM5:=hide (fun (wx:World) (j:Nat) (hj:j ≤ 1099511627776) (x:Own wx base (.slice (some ⟨A5,0,none⟩) draws.length draws.length) draws)=>markByteS_any base (some ⟨A5,0,none⟩) draws.length draws j wx h5 hj x)
 have HO1:=hide ho.o1
 have HO2:=hide ho.o2
 have HO3:=hide ho.o3
 have HO4:=hide ho.o4
 have HO5:=hide ho.o5
 have hl:=(⟨ho.l0,ho.l1,ho.l2,ho.l3,ho.l4,ho.l5⟩:base ≤ A1 ∧ A1 < A2 ∧ A2 < A3 ∧ A3 < A4 ∧ A4 < A5 ∧ A5 < w.heap.size)
 obtain ⟨n1,hn1⟩:∃ n,n = fr.length:=⟨_,rfl⟩
 rw [← hn1] at HM1 HO1 h1 ⊢
 obtain ⟨n2,hn2⟩:∃ n,n = ksn.length:=⟨_,rfl⟩
 rw [← hn2] at HM2 HO2 h2 ⊢
 obtain ⟨n3,hn3⟩:∃ n,n = tow.length:=⟨_,rfl⟩
 rw [← hn3] at HM3 HO3 h3 ⊢
 obtain ⟨n4,hn4⟩:∃ n,n = block.length:=⟨_,rfl⟩
 rw [← hn4] at HM4 HO4 h4 ⊢
 obtain ⟨n5,hn5⟩:∃ n,n = draws.length:=⟨_,rfl⟩
 rw [← hn5] at HM5 HO5 h5 ⊢
 clear ho hn1 hn2 hn3 hn4 hn5
 obtain ⟨W,hW⟩:∃ W,W = w.alloc (.cells ([.slice (some ⟨A1,0,none⟩) n1 n1,.int .i64 ff,.slice (some ⟨A2,0,none⟩) n2 n2,.slice (some ⟨A3,0,none⟩) n3 n3,.int .i64 tf,.slice (some ⟨A4,0,none⟩) n4 n4,.string pan,.slice (some ⟨A5,0,none⟩) n5 n5]:List Value).toArray 24):=⟨_,rfl⟩
 have kW:Blk W w.heap.size 24 [.slice (some ⟨A1,0,none⟩) n1 n1,.int .i64 ff,.slice (some ⟨A2,0,none⟩) n2 n2,.slice (some ⟨A3,0,none⟩) n3 n3,.int .i64 tf,.slice (some ⟨A4,0,none⟩) n4 n4,.string pan,.slice (some ⟨A5,0,none⟩) n5 n5]:=by rw [hW];exact Blk.new w _ _
 have bW:Below w.heap.size w W:=by rw [hW];exact below_new _ _
 have H0:=hide (hA h bW)
 have oz0_1:=hide (HO1.out.below bW)
 have oz0_2:=hide (HO2.out.below bW)
 have oz0_3:=hide (HO3.out.below bW)
 have oz0_4:=hide (HO4.out.below bW)
 have oz0_5:=hide (HO5.out.below bW)
 clear h bW HO1 HO2 HO3 HO4 HO5
 go_enter Tryz.func20,Tryz.ntmps20
 go_wp2_with fail
 rw [← hW]
 clear hW
 refine (HM1.out W (k) (by omega) oz0_1.out).mono ?_
 rintro e w1 ⟨rfl,-,gr1⟩
 replace gr1:World.grownBy _ w1 (some A1):=gr1
 have H1:=hide (hG H0.out gr1 (by omega) (by omega))
 have oz1_2:=hide (own_away oz0_2.out gr1 (by omega))
 have oz1_3:=hide (own_away oz0_3.out gr1 (by omega))
 have oz1_4:=hide (own_away oz0_4.out gr1 (by omega))
 have oz1_5:=hide (own_away oz0_5.out gr1 (by omega))
 have kW1:=kW.grown gr1 (by simp only [ne_eq,Option.some.injEq];omega)
 clear H0 kW oz0_1 oz0_2 oz0_3 oz0_4 oz0_5 gr1
 have s1:=kW1.cell 2 (by simp)
 go_wp2_with fail
 clear s1
 refine (HM2.out w1 (k + n1) (by omega) oz1_2.out).mono ?_
 rintro e w2 ⟨rfl,-,gr2⟩
 replace gr2:World.grownBy _ w2 (some A2):=gr2
 have H2:=hide (hG H1.out gr2 (by omega) (by omega))
 have oz2_3:=hide (own_away oz1_3.out gr2 (by omega))
 have oz2_4:=hide (own_away oz1_4.out gr2 (by omega))
 have oz2_5:=hide (own_away oz1_5.out gr2 (by omega))
 have kW2:=kW1.grown gr2 (by simp only [ne_eq,Option.some.injEq];omega)
 clear H1 kW1 oz1_2 oz1_3 oz1_4 oz1_5 gr2
 have s2:=kW2.cell 3 (by simp)
 go_wp2_with fail
 clear s2
 refine (HM3.out w2 (k + n1 + n2) (by omega) oz2_3.out).mono ?_
 rintro e w3 ⟨rfl,-,gr3⟩
 replace gr3:World.grownBy _ w3 (some A3):=gr3
 have H3:=hide (hG H2.out gr3 (by omega) (by omega))
 have oz3_4:=hide (own_away oz2_4.out gr3 (by omega))
 have oz3_5:=hide (own_away oz2_5.out gr3 (by omega))
 have kW3:=kW2.grown gr3 (by simp only [ne_eq,Option.some.injEq];omega)
 clear H2 kW2 oz2_3 oz2_4 oz2_5 gr3
 have s3:=kW3.cell 5 (by simp)
 go_wp2_with fail
 clear s3
 refine (HM4.out w3 (k + n1 + n2 + n3) (by omega) oz3_4.out).mono ?_
 rintro e w4 ⟨rfl,-,gr4⟩
 replace gr4:World.grownBy _ w4 (some A4):=gr4
 have H4:=hide (hG H3.out gr4 (by omega) (by omega))
 have oz4_5:=hide (own_away oz3_5.out gr4 (by omega))
 have kW4:=kW3.grown gr4 (by simp only [ne_eq,Option.some.injEq];omega)
 clear H3 kW3 oz3_4 oz3_5 gr4
 have s4:=kW4.cell 7 (by simp)
 go_wp2_with fail
 clear s4
 refine (HM5.out w4 (k + n1 + n2 + n3 + n4) (by omega) oz4_5.out).mono ?_
 rintro e w5 ⟨rfl,-,gr5⟩
 replace gr5:World.grownBy _ w5 (some A5):=gr5
 have H5:=hide (hG H4.out gr5 (by omega) (by omega))
 have kW5:=kW4.grown gr5 (by simp only [ne_eq,Option.some.injEq];omega)
 clear H4 kW4 oz4_5 gr5
 go_wp2_with fail
 go_ret
 exact ⟨⟨_,rfl⟩,H5.out⟩
set_option maxHeartbeats 1000000 in
theorem eqMoved_any (C U:Int) (L:List UInt8) (a1 a2:Option Addr) (c1 c2:Nat) (w:World) (hn:L.length ≤ 1048576) (r1:RowAt w a1 L) (r2:RowAt w a2 L) :
   Calls Tryz.prog 16 #[.agg #[.int .i64 C,.slice a1 L.length c1,.int .i64 U],.agg #[.int .i64 C,.slice a2 L.length c2,.int .i64 U]] w fun e w'=>e = .returned (.bool true) ∧ Below w.heap.size w w':=by
 obtain ⟨n,hnl⟩:∃ n,n = L.length:=⟨_,rfl⟩
 have hE:=fun (wx:World) (h1:RowAt wx a1 L) (h2:RowAt wx a2 L)=>eqByteS_any a1 a2 c1 c2 L wx hn h1 h2
 rw [← hnl] at hE ⊢
 have HE:=hide hE
 clear hE
 obtain ⟨wb,hwb⟩:∃ x,x = (w.alloc (.cells #[.int .i64 C,.slice a1 n c1,.int .i64 U] 28)).alloc (.cells #[.int .i64 C,.slice a2 n c2,.int .i64 U] 28):=⟨_,rfl⟩
 have b1:Below w.heap.size w wb:=by rw [hwb];exact ((Below.refl _ w).alloc (Nat.le_refl _) _).alloc (by simp) _
 have k1:Blk wb w.heap.size 28 [.int .i64 C,.slice a1 n c1,.int .i64 U]:=by rw [hwb];exact (Blk.new w _ _).alloc _
 have k2:Blk wb (w.heap.size + 1) 28 [.int .i64 C,.slice a2 n c2,.int .i64 U]:=by rw [hwb];exact Blk.new2 w _ _ _
 have q1:=r1.below b1
 have q2:=r2.below b1
 clear hnl
 go_enter Tryz.func16,Tryz.ntmps16
 go_wp2_with fail
 rw [← hwb]
 refine (HE.out wb q1 q2).mono ?_
 rintro e w2 ⟨rfl,m2,rfl⟩
 have s0:=(k1.cell 2 (by simp):(wb.drewN m2).cell? ⟨w.heap.size,2,none⟩ = some (.int .i64 U))
 have s1:=(k2.cell 2 (by simp):(wb.drewN m2).cell? ⟨w.heap.size + 1,2,none⟩ = some (.int .i64 U))
 clear hwb
 go_wp2_with fail
 go_ret
 exact ⟨rfl,below_drewN b1 m2⟩
set_option maxHeartbeats 1000000 in
theorem markMoved_any (C U:Int) (L:List UInt8) (base:Nat) (a1:Option Addr) (c1:Nat) (w:World) (hn:L.length ≤ 8) (ho:Own w base (.slice a1 L.length c1) L) :
   Calls Tryz.prog 21 #[.agg #[.int .i64 C,.slice a1 L.length c1,.int .i64 U],.int .i64 1] w fun e w'=>e = .returned (.int .i64 ((1 + L.length:Nat):Int)) ∧ Own w' base (.slice a1 L.length c1) (marks 1 L.length) ∧ (w.alloc (.cells #[.int .i64 C,.slice a1 L.length c1,.int .i64 U] 28)).grownBy w' (Value.slice a1 L.length c1).ownBlock:=by
 have hM:=fun (wx:World) (h:Own wx base (.slice a1 L.length c1) L)=>markByteS_any base a1 c1 L 1 wx (by omega) (by omega) h
 have ho1:=ho.below (below_new w (.cells #[.int .i64 C,.slice a1 L.length c1,.int .i64 U] 28))
 obtain ⟨n,hnl⟩:∃ n,n = L.length:=⟨_,rfl⟩
 rw [← hnl] at hM ho1 hn ⊢
 have HM:=hide hM
 clear hM hnl ho
 go_enter Tryz.func21,Tryz.ntmps21
 go_wp2_with fail
 refine (HM.out _ ho1).mono ?_
 rintro e w2 ⟨rfl,own2,gr2⟩
 have HO:=hide own2
 have HG:=hide gr2
 clear own2 gr2
 go_wp2_with fail
 go_ret
 exact ⟨rfl,HO.out,HG.out⟩
set_option maxHeartbeats 1000000 in
theorem heldMoved_any (C U:Int) (n:Nat) (a1:Option Addr) (c1:Nat) (w:World) (hn:n ≤ 8) (hr:RowAt w a1 (marks 1 n)) :
   Calls Tryz.prog 22 #[.agg #[.int .i64 C,.slice a1 n c1,.int .i64 U],.int .i64 1] w fun e w'=>e = .returned (.int .i64 ((1 + n:Nat):Int)) ∧ Below w.heap.size w w':=by
 have hH:=fun (wx:World) (h:RowAt wx a1 (marks 1 n))=>heldByteS_any a1 c1 n 1 wx (by omega) (by omega) h
 have HH:=hide hH
 have hr1:=hr.below (below_new w (.cells #[.int .i64 C,.slice a1 n c1,.int .i64 U] 28))
 have hneg:¬ (((1 + n:Nat):Int) < 0):=by omega
 clear hH hr
 go_enter Tryz.func22,Tryz.ntmps22
 go_wp2_with fail
 refine (HH.out _ hr1).mono ?_
 rintro e w2 ⟨rfl,rfl⟩
 go_wp2_with fail
 go_ret
 exact ⟨rfl,below_new _ _⟩
theorem own_lt2 {w:World} {base n c:Nat} {a:Option Addr} {l:List UInt8} (h:Own w base (.slice a n c) l):∀ b,a = some b → base ≤ b.block ∧ b.block < w.heap.size:=by
 obtain ⟨ao,cap,hv,-,g,-⟩:=h.shape
 simp only [Value.slice.injEq] at hv
 obtain ⟨rfl,-,-⟩:=hv
 intro b hb
 obtain ⟨q,rfl,h1,h2⟩:=g b hb
 exact ⟨h1,h2⟩
theorem trL_le (master fr ksn tow block draws:List UInt8) (ff tf:Int) (pan:ByteArray):(trL master fr ksn tow block draws ff tf pan).length ≤ 8:=by
 unfold trL mvL
 split
 · split
   · split
     · split
       · split
         · unfold tdeaL
           split
           · rw [tdeaN_length]
             omega
           · simp
         · simp
       · simp
     · simp
   · simp
 · simp
theorem below_of_drewN {w v:World} {m:Nat} (h:v = w.drewN m):Below w.heap.size w v:=by rw [h];exact below_drewN (Below.refl _ _) m
set_option maxRecDepth 100000 in
set_option maxHeartbeats 8000000 in
theorem lawTranslate (master fr ksn tow block draws:List UInt8) (am a1 a2 a3 a4 a5:Option Addr) (cm c1 c2 c3 c4 c5:Nat) (ff tf:Int) (pan:ByteArray) (x0 x1:Addr) (u:Nat) (pv:Value) (w:World) (_hm:master.length ≤ maxLen) (h1:fr.length ≤ maxLen) (h2:ksn.length ≤ maxLen) (h3:tow.length ≤ maxLen) (h4:block.length ≤ maxLen) (h5:draws.length ≤ maxLen) (hp:pan.size ≤ maxLen) (hs:Sents w x0 x1) (hg:w.cell? ⟨2,0,none⟩ = some (.iface u pv)) (rm:RowAt w am master) (r1:RowAt w a1 fr) (r2:RowAt w a2 ksn) (r3:RowAt w a3 tow) (r4:RowAt w a4 block) (r5:RowAt w a5 draws) :
   Calls Tryz.prog 4 #[.slice am master.length cm,.agg ([.slice a1 fr.length c1,.int .i64 ff,.slice a2 ksn.length c2,.slice a3 tow.length c3,.int .i64 tf,.slice a4 block.length c4,.string pan,.slice a5 draws.length c5]:List Value).toArray] w fun e w'=>e = .returned (.bool true) ∧ Below w.heap.size w w':=by
 have hz:=(zero_of_info Tryz.zeroMv).1
 by_cases hnm:master.length ≤ 1048576
 · have hg0:=World.block_lt_of_cell? w _ hg
   have snlt:=hs.lt
   have hnI:¬ ((1048576:Int) < (master.length:Int)):=by omega
   obtain ⟨w0,hw0⟩:∃ x,x = w.alloc (.cells ([.slice a1 fr.length c1,.int .i64 ff,.slice a2 ksn.length c2,.slice a3 tow.length c3,.int .i64 tf,.slice a4 block.length c4,.string pan,.slice a5 draws.length c5]:List Value).toArray 43):=⟨_,rfl⟩
   have kB:Blk w0 w.heap.size 43 [.slice a1 fr.length c1,.int .i64 ff,.slice a2 ksn.length c2,.slice a3 tow.length c3,.int .i64 tf,.slice a4 block.length c4,.string pan,.slice a5 draws.length c5]:=by rw [hw0];exact Blk.new w _ _
   have bw:Below w.heap.size w w0:=by rw [hw0];exact below_new _ _
   have lw:w.heap.size < w0.heap.size:=kB.lt
   have HB:Hid (∀ {x},Below w0.heap.size w0 x → Blk x w.heap.size 43 [.slice a1 fr.length c1,.int .i64 ff,.slice a2 ksn.length c2,.slice a3 tow.length c3,.int .i64 tf,.slice a4 block.length c4,.string pan,.slice a5 draws.length c5] ∧ Sents x x0 x1 ∧ x.cell? ⟨2,0,none⟩ = some (.iface u pv) ∧ Below w.heap.size w x):=by
     intro x hx
     have hb:Below w.heap.size w x:=bw.trans (hx.mono bw.size)
     exact ⟨kB.below hx kB.lt,hs.below hb,(hb.cell (p:=⟨2,0,none⟩) hg0).trans hg,hb⟩
   have HTM:=hide (fun (x:World) (b:Below w0.heap.size w0 x)=>toByteS_any am cm master x hnm (rm.below (bw.trans (b.mono bw.size))))
   have HZ:=hide (fun (x:World)=>szOrder_any a1 a2 a3 a4 a5 fr.length ksn.length tow.length block.length draws.length c1 c2 c3 c4 c5 ff tf pan x h1 h2 h3 h4 h5 hp)
   have HR5:Hid (RowAt w a1 fr ∧ RowAt w a2 ksn ∧ RowAt w a3 tow ∧ RowAt w a4 block ∧ RowAt w a5 draws):=⟨r1,r2,r3,r4,r5⟩
   clear r1 r2 r3 r4 r5 rm hs hg
   have bz0:Below w0.heap.size w0 w0:=Below.refl _ _
   go_enter Tryz.func4,Tryz.ntmps4
   go_wp2_with fail
   rw [← hw0]
   refine (HZ.out w0).mono ?_
   rintro e X1 ⟨q,rfl,hq,bX⟩
   rcases hq with hq | ⟨hq,n1,n2,n3,n4,n5,np⟩
   · clear hw0
     go_wp2_with fail
     go_ret
     exact ⟨rfl,bw.trans (bX.mono bw.size)⟩
   have hq0:¬ (q < 0):=by omega
   have HTO:=hide (fun (x:World) (b:Below w0.heap.size w0 x)=>toOrder_any fr ksn tow block draws a1 a2 a3 a4 a5 c1 c2 c3 c4 c5 ff tf pan x n1 n2 n3 n4 n5 (HR5.out.1.below (bw.trans (b.mono bw.size))) (HR5.out.2.1.below (bw.trans (b.mono bw.size))) (HR5.out.2.2.1.below (bw.trans (b.mono bw.size))) (HR5.out.2.2.2.1.below (bw.trans (b.mono bw.size))) (HR5.out.2.2.2.2.below (bw.trans (b.mono bw.size))))
   have HS:=hide (fun (X B A1 A2 A3 A4 A5:Nat) (wx:World) (q:RowAt wx (some ⟨X,0,none⟩) master) (ho:OrdOwn wx B A1 A2 A3 A4 A5 fr ksn tow block draws)=>transS_any master fr ksn tow block draws (some ⟨X,0,none⟩) (some ⟨A1,0,none⟩) (some ⟨A2,0,none⟩) (some ⟨A3,0,none⟩) (some ⟨A4,0,none⟩) (some ⟨A5,0,none⟩) master.length fr.length ksn.length tow.length block.length draws.length ff tf pan wx hnm n2 n4 n5 (Nat.le_refl _) (Nat.le_refl _) (Nat.le_refl _) (Nat.le_refl _) (Nat.le_refl _) hp q (own_rowO ho.o1) (own_rowO ho.o2) (own_rowO ho.o3) (own_rowO ho.o4) (own_rowO ho.o5))
   have HI:=hide (fun (X B A1 A2 A3 A4 A5:Nat) (wx:World) (hb:Below w0.heap.size w0 wx) (q:RowAt wx (some ⟨X,0,none⟩) master) (ho:OrdOwn wx B A1 A2 A3 A4 A5 fr ksn tow block draws)=>transI_any master fr ksn tow block draws (some ⟨X,0,none⟩) (some ⟨A1,0,none⟩) (some ⟨A2,0,none⟩) (some ⟨A3,0,none⟩) (some ⟨A4,0,none⟩) (some ⟨A5,0,none⟩) master.length fr.length ksn.length tow.length block.length draws.length ff tf pan x0 x1 u pv wx n2 n4 n5 (Nat.le_refl _) (Nat.le_refl _) (Nat.le_refl _) (Nat.le_refl _) (Nat.le_refl _) hp (HB.out hb).2.1 (HB.out hb).2.2.1 q (own_rowO ho.o1) (own_rowO ho.o2) (own_rowO ho.o3) (own_rowO ho.o4) (own_rowO ho.o5))
   have hL:=trL_le master fr ksn tow block draws ff tf pan
   obtain ⟨C,hC⟩:∃ C,C = trC master fr ksn tow block draws ff tf pan:=⟨_,rfl⟩
   obtain ⟨U,hU⟩:∃ C,C = trU master fr ksn tow block draws ff tf pan:=⟨_,rfl⟩
   obtain ⟨L,hLe⟩:∃ C,C = trL master fr ksn tow block draws ff tf pan:=⟨_,rfl⟩
   rw [← hC,← hU,← hLe] at HS HI
   rw [← hLe] at hL
   clear hC hU hLe HZ HR5 h1 h2 h3 h4 h5 kB hw0
   go_upto_region 7 with fail
   have lX1:w0.heap.size ≤ X1.heap.size:=bX.size
   go_cut [6] (fun p wx=>∃ G a c,p = .pointer (some ⟨G,0,none⟩) ∧ X1.heap.size ≤ G ∧ Blk wx G 28 [.int .i64 C,.slice a L.length c,.int .i64 U] ∧ RowAt wx a L ∧ (∀ b,a = some b → X1.heap.size ≤ b.block ∧ b.block < wx.heap.size) ∧ Below X1.heap.size X1 wx)
   case first =>
     obtain ⟨V,hV⟩:∃ V,V = World.drew X1:=⟨_,rfl⟩
     have b_0:Below X1.heap.size X1 V:=by rw [hV];exact (Below.refl _ _).drew
     have hWV:=b_0.size
     have keep:Hid (∀ {x},Below X1.heap.size X1 x → x.rangeAt w.heap.size 0 [.slice a1 fr.length c1,.int .i64 ff,.slice a2 ksn.length c2,.slice a3 tow.length c3,.int .i64 tf,.slice a4 block.length c4,.string pan,.slice a5 draws.length c5]):=fun h=>blk_whole (HB.out (bX.trans (h.mono bX.size))).1
     refine wp_region_held_drew (S:=fun x=>x.rangeAt w.heap.size 0 [.slice a1 fr.length c1,.int .i64 ff,.slice a2 ksn.length c2,.slice a3 tow.length c3,.int .i64 tf,.slice a4 block.length c4,.string pan,.slice a5 draws.length c5]) (by kernel_rfl) (by rw [← hV];exact keep.out b_0) (fun hHeld=>?_)
     rw [← hV] at hHeld ⊢
     clear hV
     refine tk (i:=0) (v:=(.slice am master.length cm)) rfl (Or.inl ⟨by rfl,?_⟩) hHeld ?_
     · intro _ _;go_simp
     dsimp only [Act.put,List.getElem_toArray,List.getElem_cons_zero,List.getElem_cons_succ]
     simp only [List.setIfInBounds_toArray,List.set_cons_succ,List.set_cons_zero]
     refine tk (i:=2) (v:=(.agg ([.slice a1 fr.length c1,.int .i64 ff,.slice a2 ksn.length c2,.slice a3 tow.length c3,.int .i64 tf,.slice a4 block.length c4,.string pan,.slice a5 draws.length c5]:List Value).toArray)) rfl (yieldsIf_load_mid (by rfl) 43 _ rfl w.heap.size 0 rfl ([.slice a1 fr.length c1,.int .i64 ff,.slice a2 ksn.length c2,.slice a3 tow.length c3,.int .i64 tf,.slice a4 block.length c4,.string pan,.slice a5 draws.length c5]) _ (fun _ h=>h) Tryz.underlying43 rfl (by kernel_rfl)) hHeld ?_
     dsimp only [Act.put,List.getElem_toArray,List.getElem_cons_zero,List.getElem_cons_succ]
     simp only [List.setIfInBounds_toArray,List.set_cons_succ,List.set_cons_zero]
     refine wpAnyH_ready (rs:=[1,5]) (by kernel_rfl) (by simp) ?_
     refine AllReadyH.cons rfl (fun KQ hK=>?_) (AllReadyH.cons rfl (fun KQ hK=>?_) (AllReadyH.nil))
     · go_simp
       refine (HTM.out _ (bX.trans (b_0.mono bX.size))).mono ?_
       rintro e w_1 ⟨rfl,own_1,bel_1⟩
       have b_1:=b_0.trans (bel_1.mono (by have:=b_0.size;omega))
       have qm_1:=own_rowO own_1
       clear own_1
       go_wp2_with fail
       refine hK.out _ _ (keep.out b_1) (fun hHeld=>?_)
       clear hK KQ
       try dsimp only [Act.put]
       refine wpAnyH_ready (rs:=[3,5]) (by kernel_rfl) (by simp) ?_
       refine AllReadyH.cons rfl (fun KQ hK=>?_) (AllReadyH.cons rfl (fun KQ hK=>?_) (AllReadyH.nil))
       · go_simp
         refine (HTO.out _ (bX.trans (b_1.mono bX.size))).mono ?_
         rintro e w_2 ⟨A1,A2,A3,A4,A5,rfl,od_2,bel_2⟩
         have qm_2:=qm_1.below bel_2
         have b_2:=b_1.trans (bel_2.mono (by have:=b_1.size;omega))
         go_wp2_with fail
         refine hK.out _ _ (keep.out b_2) (fun hHeld=>?_)
         clear hK KQ
         try dsimp only [Act.put]
         refine wpAnyH_ready (rs:=[4,5]) (by kernel_rfl) (by simp) ?_
         refine AllReadyH.cons rfl (fun KQ hK=>?_) (AllReadyH.cons rfl (fun KQ hK=>?_) (AllReadyH.nil))
         · go_simp
           have bpre_3:=b_2
           refine (HS.out _ _ _ _ _ _ _ _ qm_2 od_2).mono ?_
           rintro e w_3 ⟨v_3,rfl,own_3,bel_3⟩
           have qm_3:=qm_2.below bel_3
           have od_3:=od_2.below bel_3
           have b_3:=b_2.trans (bel_3.mono (by have:=b_2.size;omega))
           obtain ⟨aS,cS,rfl,-,-,-,-⟩:=own_3.shape
           have lt3:=own_lt2 own_3
           have loS:∀ a,aS = some a → X1.heap.size ≤ a.block:=by intro a ha;have h1:=(lt3 a ha).1;have h2:=bpre_3.size;omega
           go_wp2_with fail
           refine hK.out _ _ (keep.out b_3) (fun hHeld=>?_)
           clear hK KQ
           try dsimp only [Act.put]
           refine rdy1 5 (fun KQ hK=>?_)
           go_simp
           have ownb_4:=own_3
           obtain ⟨w_4,hw_4⟩:∃ x,x = World.alloc w_3 (.cells (zeroMv).toArray 28):=⟨_,rfl⟩
           have bel_4:Below w_3.heap.size w_3 w_4:=by rw [hw_4];exact below_new _ _
           have G_4:Blk w_4 w_3.heap.size 28 (zeroMv):=by rw [hw_4];exact Blk.new _ _ _
           have le_G_4:=b_3.size
           have lt_G_4:=G_4.lt
           have qm_4:=qm_3.below bel_4
           have od_4:=od_3.below bel_4
           have own_4:=own_3.below bel_4
           have b_4:=below_step b_3 bel_4
           rw [← hw_4]
           clear hw_4
           have neS:∀ a,aS = some a → a.block ≠ w_3.heap.size:=by intro a ha;have h1:=(own_lt2 ownb_4 a ha).2;omega
           refine hK.out _ _ (keep.out b_4) (fun hHeld=>?_)
           clear hK KQ
           try dsimp only [Act.put]
           refine rdy1 6 (fun KQ hK=>?_)
           rw [if_pos (by rfl)]
           refine wp_store_blk rfl 28 _ _ rfl w_3.heap.size rfl rfl G_4 (by kernel_rfl) rfl (by kernel_rfl) ?_
           have k_5:=Blk.setRow G_4 ([.int .i64 C,.slice aS L.length cS,.int .i64 U])
           have b_5:=below_setRow' (g:=w_3.heap.size) b_4 le_G_4 ([.int .i64 C,.slice aS L.length cS,.int .i64 U]:List Value).toArray
           have row_5:=(own_rowO own_4).grown (grown_setRow' _ w_3.heap.size ([.int .i64 C,.slice aS L.length cS,.int .i64 U]:List Value).toArray) (by intro a ha hc;exact neS a ha (Option.some.inj hc).symm)
           have up_5:∀ a,aS = some a → a.block < (World.setRow w_4 w_3.heap.size ([.int .i64 C,.slice aS L.length cS,.int .i64 U]:List Value).toArray).heap.size:=by intro a ha;have h1:=(own_lt2 own_4 a ha).2;simpa using h1
           refine hK.out _ _ (keep.out b_5) (fun hHeld=>?_)
           clear hK KQ
           try dsimp only [Act.put]
           refine wpAnyH_done (by kernel_rfl) ?_ _
           go_wp2_with fail
           go_meet
           case rel=>exact ⟨w_3.heap.size,aS,cS,rfl,le_G_4,k_5,row_5,fun a ha=>⟨loS a ha,up_5 a ha⟩,b_5⟩
         · go_simp
           obtain ⟨w_6,hw_6⟩:∃ x,x = World.alloc w_2 (.cells (zeroMv).toArray 28):=⟨_,rfl⟩
           have bel_6:Below w_2.heap.size w_2 w_6:=by rw [hw_6];exact below_new _ _
           have G_6:Blk w_6 w_2.heap.size 28 (zeroMv):=by rw [hw_6];exact Blk.new _ _ _
           have le_G_6:=b_2.size
           have lt_G_6:=G_6.lt
           have qm_6:=qm_2.below bel_6
           have od_6:=od_2.below bel_6
           have b_6:=below_step b_2 bel_6
           rw [← hw_6]
           clear hw_6
           refine hK.out _ _ (keep.out b_6) (fun hHeld=>?_)
           clear hK KQ
           try dsimp only [Act.put]
           refine rdy1 4 (fun KQ hK=>?_)
           go_simp
           have bpre_7:=b_6
           have glt_7:=G_6.lt
           refine (HS.out _ _ _ _ _ _ _ _ qm_6 od_6).mono ?_
           rintro e w_7 ⟨v_7,rfl,own_7,bel_7⟩
           have qm_7:=qm_6.below bel_7
           have od_7:=od_6.below bel_7
           have G_7:=G_6.below bel_7 G_6.lt
           have b_7:=b_6.trans (bel_7.mono (by have:=b_6.size;omega))
           obtain ⟨aS,cS,rfl,-,-,-,-⟩:=own_7.shape
           have lt7:=own_lt2 own_7
           have neS:∀ a,aS = some a → a.block ≠ w_2.heap.size:=by intro a ha;have h1:=(lt7 a ha).1;have h2:=glt_7;omega
           have loS:∀ a,aS = some a → X1.heap.size ≤ a.block:=by intro a ha;have h1:=(lt7 a ha).1;have h2:=bpre_7.size;omega
           go_wp2_with fail
           refine hK.out _ _ (keep.out b_7) (fun hHeld=>?_)
           clear hK KQ
           try dsimp only [Act.put]
           refine rdy1 6 (fun KQ hK=>?_)
           rw [if_pos (by rfl)]
           refine wp_store_blk rfl 28 _ _ rfl w_2.heap.size rfl rfl G_7 (by kernel_rfl) rfl (by kernel_rfl) ?_
           have k_8:=Blk.setRow G_7 ([.int .i64 C,.slice aS L.length cS,.int .i64 U])
           have b_8:=below_setRow' (g:=w_2.heap.size) b_7 le_G_6 ([.int .i64 C,.slice aS L.length cS,.int .i64 U]:List Value).toArray
           have row_8:=(own_rowO own_7).grown (grown_setRow' _ w_2.heap.size ([.int .i64 C,.slice aS L.length cS,.int .i64 U]:List Value).toArray) (by intro a ha hc;exact neS a ha (Option.some.inj hc).symm)
           have up_8:∀ a,aS = some a → a.block < (World.setRow w_7 w_2.heap.size ([.int .i64 C,.slice aS L.length cS,.int .i64 U]:List Value).toArray).heap.size:=by intro a ha;have h1:=(own_lt2 own_7 a ha).2;simpa using h1
           refine hK.out _ _ (keep.out b_8) (fun hHeld=>?_)
           clear hK KQ
           try dsimp only [Act.put]
           refine wpAnyH_done (by kernel_rfl) ?_ _
           go_wp2_with fail
           go_meet
           case rel=>exact ⟨w_2.heap.size,aS,cS,rfl,le_G_6,k_8,row_8,fun a ha=>⟨loS a ha,up_8 a ha⟩,b_8⟩
       · go_simp
         obtain ⟨w_9,hw_9⟩:∃ x,x = World.alloc w_1 (.cells (zeroMv).toArray 28):=⟨_,rfl⟩
         have bel_9:Below w_1.heap.size w_1 w_9:=by rw [hw_9];exact below_new _ _
         have G_9:Blk w_9 w_1.heap.size 28 (zeroMv):=by rw [hw_9];exact Blk.new _ _ _
         have le_G_9:=b_1.size
         have lt_G_9:=G_9.lt
         have qm_9:=qm_1.below bel_9
         have b_9:=below_step b_1 bel_9
         rw [← hw_9]
         clear hw_9
         refine hK.out _ _ (keep.out b_9) (fun hHeld=>?_)
         clear hK KQ
         try dsimp only [Act.put]
         refine rdy1 3 (fun KQ hK=>?_)
         go_simp
         refine (HTO.out _ (bX.trans (b_9.mono bX.size))).mono ?_
         rintro e w_10 ⟨A1,A2,A3,A4,A5,rfl,od_10,bel_10⟩
         have qm_10:=qm_9.below bel_10
         have G_10:=G_9.below bel_10 G_9.lt
         have b_10:=b_9.trans (bel_10.mono (by have:=b_9.size;omega))
         go_wp2_with fail
         refine hK.out _ _ (keep.out b_10) (fun hHeld=>?_)
         clear hK KQ
         try dsimp only [Act.put]
         refine rdy1 4 (fun KQ hK=>?_)
         go_simp
         have bpre_11:=b_10
         have glt_11:=G_10.lt
         refine (HS.out _ _ _ _ _ _ _ _ qm_10 od_10).mono ?_
         rintro e w_11 ⟨v_11,rfl,own_11,bel_11⟩
         have qm_11:=qm_10.below bel_11
         have G_11:=G_10.below bel_11 G_10.lt
         have od_11:=od_10.below bel_11
         have b_11:=b_10.trans (bel_11.mono (by have:=b_10.size;omega))
         obtain ⟨aS,cS,rfl,-,-,-,-⟩:=own_11.shape
         have lt11:=own_lt2 own_11
         have neS:∀ a,aS = some a → a.block ≠ w_1.heap.size:=by intro a ha;have h1:=(lt11 a ha).1;have h2:=glt_11;omega
         have loS:∀ a,aS = some a → X1.heap.size ≤ a.block:=by intro a ha;have h1:=(lt11 a ha).1;have h2:=bpre_11.size;omega
         go_wp2_with fail
         refine hK.out _ _ (keep.out b_11) (fun hHeld=>?_)
         clear hK KQ
         try dsimp only [Act.put]
         refine rdy1 6 (fun KQ hK=>?_)
         rw [if_pos (by rfl)]
         refine wp_store_blk rfl 28 _ _ rfl w_1.heap.size rfl rfl G_11 (by kernel_rfl) rfl (by kernel_rfl) ?_
         have k_12:=Blk.setRow G_11 ([.int .i64 C,.slice aS L.length cS,.int .i64 U])
         have b_12:=below_setRow' (g:=w_1.heap.size) b_11 le_G_9 ([.int .i64 C,.slice aS L.length cS,.int .i64 U]:List Value).toArray
         have row_12:=(own_rowO own_11).grown (grown_setRow' _ w_1.heap.size ([.int .i64 C,.slice aS L.length cS,.int .i64 U]:List Value).toArray) (by intro a ha hc;exact neS a ha (Option.some.inj hc).symm)
         have up_12:∀ a,aS = some a → a.block < (World.setRow w_11 w_1.heap.size ([.int .i64 C,.slice aS L.length cS,.int .i64 U]:List Value).toArray).heap.size:=by intro a ha;have h1:=(own_lt2 own_11 a ha).2;simpa using h1
         refine hK.out _ _ (keep.out b_12) (fun hHeld=>?_)
         clear hK KQ
         try dsimp only [Act.put]
         refine wpAnyH_done (by kernel_rfl) ?_ _
         go_wp2_with fail
         go_meet
         case rel=>exact ⟨w_1.heap.size,aS,cS,rfl,le_G_9,k_12,row_12,fun a ha=>⟨loS a ha,up_12 a ha⟩,b_12⟩
     · go_simp
       obtain ⟨w_13,hw_13⟩:∃ x,x = World.alloc V (.cells (zeroMv).toArray 28):=⟨_,rfl⟩
       have bel_13:Below V.heap.size V w_13:=by rw [hw_13];exact below_new _ _
       have G_13:Blk w_13 V.heap.size 28 (zeroMv):=by rw [hw_13];exact Blk.new _ _ _
       have le_G_13:=b_0.size
       have lt_G_13:=G_13.lt
       have b_13:=below_step b_0 bel_13
       rw [← hw_13]
       clear hw_13
       refine hK.out _ _ (keep.out b_13) (fun hHeld=>?_)
       clear hK KQ
       try dsimp only [Act.put]
       refine rdy1 1 (fun KQ hK=>?_)
       go_simp
       refine (HTM.out _ (bX.trans (b_13.mono bX.size))).mono ?_
       rintro e w_14 ⟨rfl,own_14,bel_14⟩
       have G_14:=G_13.below bel_14 G_13.lt
       have b_14:=b_13.trans (bel_14.mono (by have:=b_13.size;omega))
       have qm_14:=own_rowO own_14
       clear own_14
       go_wp2_with fail
       refine hK.out _ _ (keep.out b_14) (fun hHeld=>?_)
       clear hK KQ
       try dsimp only [Act.put]
       refine rdy1 3 (fun KQ hK=>?_)
       go_simp
       refine (HTO.out _ (bX.trans (b_14.mono bX.size))).mono ?_
       rintro e w_15 ⟨A1,A2,A3,A4,A5,rfl,od_15,bel_15⟩
       have G_15:=G_14.below bel_15 G_14.lt
       have qm_15:=qm_14.below bel_15
       have b_15:=b_14.trans (bel_15.mono (by have:=b_14.size;omega))
       go_wp2_with fail
       refine hK.out _ _ (keep.out b_15) (fun hHeld=>?_)
       clear hK KQ
       try dsimp only [Act.put]
       refine rdy1 4 (fun KQ hK=>?_)
       go_simp
       have bpre_16:=b_15
       have glt_16:=G_15.lt
       refine (HS.out _ _ _ _ _ _ _ _ qm_15 od_15).mono ?_
       rintro e w_16 ⟨v_16,rfl,own_16,bel_16⟩
       have G_16:=G_15.below bel_16 G_15.lt
       have qm_16:=qm_15.below bel_16
       have od_16:=od_15.below bel_16
       have b_16:=b_15.trans (bel_16.mono (by have:=b_15.size;omega))
       obtain ⟨aS,cS,rfl,-,-,-,-⟩:=own_16.shape
       have lt16:=own_lt2 own_16
       have neS:∀ a,aS = some a → a.block ≠ V.heap.size:=by intro a ha;have h1:=(lt16 a ha).1;have h2:=glt_16;omega
       have loS:∀ a,aS = some a → X1.heap.size ≤ a.block:=by intro a ha;have h1:=(lt16 a ha).1;have h2:=bpre_16.size;omega
       go_wp2_with fail
       refine hK.out _ _ (keep.out b_16) (fun hHeld=>?_)
       clear hK KQ
       try dsimp only [Act.put]
       refine rdy1 6 (fun KQ hK=>?_)
       rw [if_pos (by rfl)]
       refine wp_store_blk rfl 28 _ _ rfl V.heap.size rfl rfl G_16 (by kernel_rfl) rfl (by kernel_rfl) ?_
       have k_17:=Blk.setRow G_16 ([.int .i64 C,.slice aS L.length cS,.int .i64 U])
       have b_17:=below_setRow' (g:=V.heap.size) b_16 le_G_13 ([.int .i64 C,.slice aS L.length cS,.int .i64 U]:List Value).toArray
       have row_17:=(own_rowO own_16).grown (grown_setRow' _ V.heap.size ([.int .i64 C,.slice aS L.length cS,.int .i64 U]:List Value).toArray) (by intro a ha hc;exact neS a ha (Option.some.inj hc).symm)
       have up_17:∀ a,aS = some a → a.block < (World.setRow w_16 V.heap.size ([.int .i64 C,.slice aS L.length cS,.int .i64 U]:List Value).toArray).heap.size:=by intro a ha;have h1:=(own_lt2 own_16 a ha).2;simpa using h1
       refine hK.out _ _ (keep.out b_17) (fun hHeld=>?_)
       clear hK KQ
       try dsimp only [Act.put]
       refine wpAnyH_done (by kernel_rfl) ?_ _
       go_wp2_with fail
       go_meet
       case rel=>exact ⟨V.heap.size,aS,cS,rfl,le_G_13,k_17,row_17,fun a ha=>⟨loS a ha,up_17 a ha⟩,b_17⟩
   case rest =>
     obtain ⟨G0,aS,cS,rfl,lG0,kW,rS,lS,bc⟩:=hcut
     have bz:=bX.trans (bc.mono bX.size)
     have hkW:=kW.lt
     clear bc bX
     go_wp2_with fail
     refine (HTM.out wc bz).mono ?_
     rintro e v1 ⟨rfl,own1,bel1⟩
     have ltX:wc.heap.size < v1.heap.size:=(own_lt2 own1 _ rfl).2
     obtain ⟨X0,hX0⟩:∃ x,x = wc.heap.size:=⟨_,rfl⟩
     have LS:Hid (∀ a,aS = some a → X1.heap.size ≤ a.block ∧ a.block < X0):=by rw [hX0];exact lS
     have LW:Hid (w0.heap.size ≤ G0 ∧ G0 < X0):=by rw [hX0];exact ⟨by omega,hkW⟩
     have bz_1:=bz.trans (bel1.mono bz.size)
     have kW_1:=kW.below bel1 kW.lt
     have rS_1:=rS.below bel1
     clear bz kW rS bel1
     rw [← hX0] at own1 ltX ⊢
     clear hX0 lS hkW lG0
     have kBx:=(HB.out bz_1).1
     go_wp2_with (refine load_blk rfl 43 _ rfl w.heap.size rfl kBx Tryz.underlying43 rfl (by kernel_rfl) ?_)
     refine (HTO.out v1 bz_1).mono ?_
     rintro e v2 ⟨A1,A2,A3,A4,A5,rfl,od,bel2⟩
     clear kBx
     obtain ⟨BX,hBX⟩:∃ x,x = v1.heap.size:=⟨_,rfl⟩
     have bz_2:=bz_1.trans (bel2.mono bz_1.size)
     have kW_2:=kW_1.below bel2 kW_1.lt
     have rS_2:=rS_1.below bel2
     have x0_2:=own1.below bel2
     clear bz_1 kW_1 rS_1 own1 bel2
     rw [← hBX] at od ltX
     clear hBX
     obtain ⟨vA,hvA⟩:∃ x,x = v2.alloc (.cells ([.slice (some ⟨A1,0,none⟩) fr.length fr.length,.int .i64 ff,.slice (some ⟨A2,0,none⟩) ksn.length ksn.length,.slice (some ⟨A3,0,none⟩) tow.length tow.length,.int .i64 tf,.slice (some ⟨A4,0,none⟩) block.length block.length,.string pan,.slice (some ⟨A5,0,none⟩) draws.length draws.length]:List Value).toArray 24):=⟨_,rfl⟩
     have kX:Blk vA v2.heap.size 24 [.slice (some ⟨A1,0,none⟩) fr.length fr.length,.int .i64 ff,.slice (some ⟨A2,0,none⟩) ksn.length ksn.length,.slice (some ⟨A3,0,none⟩) tow.length tow.length,.int .i64 tf,.slice (some ⟨A4,0,none⟩) block.length block.length,.string pan,.slice (some ⟨A5,0,none⟩) draws.length draws.length]:=by rw [hvA];exact Blk.new _ _ _
     have belA:Below v2.heap.size v2 vA:=by rw [hvA];exact below_new _ _
     have ltA:=od.l5
     have lA:=(⟨od.l0,od.l1,od.l2,od.l3,od.l4⟩:BX ≤ A1 ∧ A1 < A2 ∧ A2 < A3 ∧ A3 < A4 ∧ A4 < A5)
     have bz_3:=bz_2.trans (belA.mono bz_2.size)
     have kW_3:=kW_2.below belA kW_2.lt
     have rS_3:=rS_2.below belA
     have x0_3:=x0_2.below belA
     have od_3:=od.below belA
     clear bz_2 kW_2 rS_2 x0_2 od belA
     obtain ⟨GX,hGX⟩:∃ x,x = v2.heap.size:=⟨_,rfl⟩
     have hkX:=kX.lt
     rw [← hGX] at kX ltA hkX
     go_wp2_with fail
     rw [← hvA,← hGX]
     clear hvA hGX
     refine (HI.out _ _ _ _ _ _ _ vA bz_3 (own_rowO x0_3) od_3).mono ?_
     rintro e v3 ⟨vI,rfl,ownI,bel3⟩
     obtain ⟨aI,cI,rfl,-,-,-,-⟩:=ownI.shape
     have ltI:=own_lt2 ownI
     have sz3:=bel3.size
     have bz_4:=bz_3.trans (bel3.mono bz_3.size)
     have kW_4:=kW_3.below bel3 kW_3.lt
     have rS_4:=rS_3.below bel3
     have x0_4:=x0_3.below bel3
     have od_4:=od_3.below bel3
     have kX_4:=kX.below bel3 kX.lt
     clear bz_3 kW_3 rS_3 x0_3 od_3 kX bel3
     obtain ⟨vB,hvB⟩:∃ x,x = v3.alloc (.cells ([.int .i64 C,.slice aI L.length cI,.int .i64 U]:List Value).toArray 28):=⟨_,rfl⟩
     have kG:Blk vB v3.heap.size 28 [.int .i64 C,.slice aI L.length cI,.int .i64 U]:=by rw [hvB];exact Blk.new _ _ _
     have belB:Below v3.heap.size v3 vB:=by rw [hvB];exact below_new _ _
     have bz_5:=bz_4.trans (belB.mono bz_4.size)
     have kW_5:=kW_4.below belB kW_4.lt
     have rS_5:=rS_4.below belB
     have x0_5:=x0_4.below belB
     have od_5:=od_4.below belB
     have kX_5:=kX_4.below belB kX_4.lt
     have oI_5:=ownI.below belB
     clear bz_4 kW_4 rS_4 x0_4 od_4 kX_4 ownI belB
     obtain ⟨GI,hGI⟩:∃ x,x = v3.heap.size:=⟨_,rfl⟩
     have LI:Hid (∀ a,aI = some a → GX < a.block ∧ a.block < GI):=by show ∀ a,aI = some a → GX < a.block ∧ a.block < GI;intro a ha;have h1:=ltI a ha;omega
     have LT:Hid (w0.heap.size ≤ G0 ∧ G0 < X0 ∧ X0 < BX ∧ BX ≤ A1 ∧ A1 < A2 ∧ A2 < A3 ∧ A3 < A4 ∧ A4 < A5 ∧ A5 < GX ∧ GX < GI):=⟨LW.out.1,LW.out.2,ltX,lA.1,lA.2.1,lA.2.2.1,lA.2.2.2.1,lA.2.2.2.2,ltA,by omega⟩
     rw [← hGI] at kG
     have HvB:=hide hvB
     have HGI:=hide hGI
     clear hvB hGI ltI sz3 hkX ltA lA ltX LW
     go_upto_region 11 with fail
     rw [← show vB = _ from HvB,← show GI = _ from HGI]
     clear HvB HGI
     have HEQ:=hide (fun (a:Option Addr) (c:Nat) (wx:World) (q1:RowAt wx a L) (q2:RowAt wx aS L)=>eqMoved_any C U L a aS c cS wx (by omega) q1 q2)
     have p0:=kG.cell 0 (by simp)
     have p1:=kG.cell 1 (by simp)
     have p2:=kG.cell 2 (by simp)
     have z0:=kW_5.cell 0 (by simp)
     have z1:=kW_5.cell 1 (by simp)
     have z2:=kW_5.cell 2 (by simp)
     go_wp2_with fail
     refine (HEQ.out _ _ vB (own_rowO oI_5) rS_5).mono ?_
     rintro e u1 ⟨rfl,beu1⟩
     clear p0 p1 p2 z0 z1 z2
     have bz_6:=bz_5.trans (beu1.mono bz_5.size)
     have kW_6:=kW_5.below beu1 kW_5.lt
     have rS_6:=rS_5.below beu1
     have x0_6:=x0_5.below beu1
     have od_6:=od_5.below beu1
     have kX_6:=kX_5.below beu1 kX_5.lt
     have oI_6:=oI_5.below beu1
     have kG_6:=kG.below beu1 kG.lt
     clear bz_5 kW_5 rS_5 x0_5 od_5 kX_5 oI_5 kG beu1
     go_wp2_with fail
     refine (HTM.out u1 bz_6).mono ?_
     rintro e u2 ⟨rfl,own2,be2⟩
     have bz_7:=bz_6.trans (be2.mono bz_6.size)
     have kW_7:=kW_6.below be2 kW_6.lt
     have rS_7:=rS_6.below be2
     have x0_7:=x0_6.below be2
     have od_7:=od_6.below be2
     have kX_7:=kX_6.below be2 kX_6.lt
     have oI_7:=oI_6.below be2
     have kG_7:=kG_6.below be2 kG_6.lt
     clear bz_6 kW_6 rS_6 x0_6 od_6 kX_6 oI_6 kG_6 be2
     go_wp2_with fail
     refine (eqByteS_any _ _ _ _ master u2 hnm (own_rowO x0_7) (own_rowO own2)).mono ?_
     rintro e u3 ⟨rfl,m3,hu3⟩
     have be3:=below_of_drewN hu3
     clear own2 hu3
     have bz_8:=bz_7.trans (be3.mono bz_7.size)
     have kW_8:=kW_7.below be3 kW_7.lt
     have rS_8:=rS_7.below be3
     have x0_8:=x0_7.below be3
     have od_8:=od_7.below be3
     have kX_8:=kX_7.below be3 kX_7.lt
     have oI_8:=oI_7.below be3
     have kG_8:=kG_7.below be3 kG_7.lt
     clear bz_7 kW_7 rS_7 x0_7 od_7 kX_7 oI_7 kG_7 be3
     go_upto_region 15 with fail
     obtain ⟨V,hV⟩:∃ V,V = World.drew u3:=⟨_,rfl⟩
     have belV:Below u3.heap.size u3 V:=by rw [hV];exact (Below.refl _ _).drew
     have bz_9:=bz_8.trans (belV.mono bz_8.size)
     have kW_9:=kW_8.below belV kW_8.lt
     have rS_9:=rS_8.below belV
     have x0_9:=x0_8.below belV
     have od_9:=od_8.below belV
     have kX_9:=kX_8.below belV kX_8.lt
     have oI_9:=oI_8.below belV
     have kG_9:=kG_8.below belV kG_8.lt
     clear bz_8 kW_8 rS_8 x0_8 od_8 kX_8 oI_8 kG_8 belV
     have kXV:Hid (∀ {x},Below V.heap.size V x → x.rangeAt GX 0 [.slice (some ⟨A1,0,none⟩) fr.length fr.length,.int .i64 ff,.slice (some ⟨A2,0,none⟩) ksn.length ksn.length,.slice (some ⟨A3,0,none⟩) tow.length tow.length,.int .i64 tf,.slice (some ⟨A4,0,none⟩) block.length block.length,.string pan,.slice (some ⟨A5,0,none⟩) draws.length draws.length] ∧ x.rangeAt w.heap.size 0 [.slice a1 fr.length c1,.int .i64 ff,.slice a2 ksn.length c2,.slice a3 tow.length c3,.int .i64 tf,.slice a4 block.length c4,.string pan,.slice a5 draws.length c5]):=fun h=>⟨blk_whole (kX_9.below h kX_9.lt),blk_whole (HB.out (bz_9.trans (h.mono bz_9.size))).1⟩
     have keep:=@kXV
     have b_0:Below V.heap.size V V:=Below.refl _ _
     refine wp_region_held_drew (S:=fun x=>x.rangeAt GX 0 [.slice (some ⟨A1,0,none⟩) fr.length fr.length,.int .i64 ff,.slice (some ⟨A2,0,none⟩) ksn.length ksn.length,.slice (some ⟨A3,0,none⟩) tow.length tow.length,.int .i64 tf,.slice (some ⟨A4,0,none⟩) block.length block.length,.string pan,.slice (some ⟨A5,0,none⟩) draws.length draws.length] ∧ x.rangeAt w.heap.size 0 [.slice a1 fr.length c1,.int .i64 ff,.slice a2 ksn.length c2,.slice a3 tow.length c3,.int .i64 tf,.slice a4 block.length c4,.string pan,.slice a5 draws.length c5]) (by kernel_rfl) (by rw [← hV];exact keep.out b_0) (fun hHeld=>?_)
     rw [← hV] at hHeld ⊢
     clear hV
     refine tk (i:=0) (v:=(.agg ([.slice (some ⟨A1,0,none⟩) fr.length fr.length,.int .i64 ff,.slice (some ⟨A2,0,none⟩) ksn.length ksn.length,.slice (some ⟨A3,0,none⟩) tow.length tow.length,.int .i64 tf,.slice (some ⟨A4,0,none⟩) block.length block.length,.string pan,.slice (some ⟨A5,0,none⟩) draws.length draws.length]:List Value).toArray)) rfl (yieldsIf_load_mid (by rfl) 24 _ rfl GX 0 rfl ([.slice (some ⟨A1,0,none⟩) fr.length fr.length,.int .i64 ff,.slice (some ⟨A2,0,none⟩) ksn.length ksn.length,.slice (some ⟨A3,0,none⟩) tow.length tow.length,.int .i64 tf,.slice (some ⟨A4,0,none⟩) block.length block.length,.string pan,.slice (some ⟨A5,0,none⟩) draws.length draws.length]) _ (fun _ h=>h.1) Tryz.underlying24 rfl (by kernel_rfl)) hHeld ?_
     dsimp only [Act.put,List.getElem_toArray,List.getElem_cons_zero,List.getElem_cons_succ]
     simp only [List.setIfInBounds_toArray,List.set_cons_succ,List.set_cons_zero]
     refine tk (i:=1) (v:=(.agg ([.slice a1 fr.length c1,.int .i64 ff,.slice a2 ksn.length c2,.slice a3 tow.length c3,.int .i64 tf,.slice a4 block.length c4,.string pan,.slice a5 draws.length c5]:List Value).toArray)) rfl (yieldsIf_load_mid (by rfl) 43 _ rfl w.heap.size 0 rfl ([.slice a1 fr.length c1,.int .i64 ff,.slice a2 ksn.length c2,.slice a3 tow.length c3,.int .i64 tf,.slice a4 block.length c4,.string pan,.slice a5 draws.length c5]) _ (fun _ h=>h.2) Tryz.underlying43 rfl (by kernel_rfl)) hHeld ?_
     dsimp only [Act.put,List.getElem_toArray,List.getElem_cons_zero,List.getElem_cons_succ]
     simp only [List.setIfInBounds_toArray,List.set_cons_succ,List.set_cons_zero]
     refine rdy1 2 (fun KQ hK=>?_)
     go_simp
     refine (HTO.out _ (bz_9.trans (b_0.mono bz_9.size))).mono ?_
     rintro e w_1 ⟨D1,D2,D3,D4,D5,rfl,od_1,bel_1⟩
     have b_1:=b_0.trans (bel_1.mono (by have:=b_0.size;omega))
     go_wp2_with fail
     refine hK.out _ _ (keep.out b_1) (fun hHeld=>?_)
     clear hK KQ
     try dsimp only [Act.put]
     refine rdy1 3 (fun KQ hK=>?_)
     go_simp
     refine (eqOrder_any fr ksn tow block draws (some ⟨A1,0,none⟩) (some ⟨A2,0,none⟩) (some ⟨A3,0,none⟩) (some ⟨A4,0,none⟩) (some ⟨A5,0,none⟩) (some ⟨D1,0,none⟩) (some ⟨D2,0,none⟩) (some ⟨D3,0,none⟩) (some ⟨D4,0,none⟩) (some ⟨D5,0,none⟩) fr.length ksn.length tow.length block.length draws.length fr.length ksn.length tow.length block.length draws.length ff tf pan _ n1 n2 n3 n4 n5 (own_rowO (od_9.below b_1).o1) (own_rowO (od_9.below b_1).o2) (own_rowO (od_9.below b_1).o3) (own_rowO (od_9.below b_1).o4) (own_rowO (od_9.below b_1).o5) (own_rowO od_1.o1) (own_rowO od_1.o2) (own_rowO od_1.o3) (own_rowO od_1.o4) (own_rowO od_1.o5)).mono ?_
     rintro e w_2 ⟨rfl,bel_2⟩
     have b_2:=b_1.trans (bel_2.mono (by have:=b_1.size;omega))
     go_wp2_with fail
     refine hK.out _ _ (keep.out b_2) (fun hHeld=>?_)
     clear hK KQ
     try dsimp only [Act.put]
     refine tk (i:=4) (v:=(.bool false)) rfl (Or.inl ⟨by rfl,?_⟩) hHeld ?_
     · intro _ _;go_simp
     dsimp only [Act.put,List.getElem_toArray,List.getElem_cons_zero,List.getElem_cons_succ]
     simp only [List.setIfInBounds_toArray,List.set_cons_succ,List.set_cons_zero]
     refine wpAnyH_done (by kernel_rfl) ?_ _
     skip
     have belW:=b_2
     clear hHeld keep kXV
     have bz_10:=bz_9.trans (belW.mono bz_9.size)
     have kW_10:=kW_9.below belW kW_9.lt
     have rS_10:=rS_9.below belW
     have x0_10:=x0_9.below belW
     have od_10:=od_9.below belW
     have kX_10:=kX_9.below belW kX_9.lt
     have oI_10:=oI_9.below belW
     have kG_10:=kG_9.below belW kG_9.lt
     clear bz_9 kW_9 rS_9 x0_9 od_9 kX_9 oI_9 kG_9 belW
     go_wp2_with fail
     refine (markByteS_any _ _ _ master 1 _ hnm (by omega) x0_10).mono ?_
     rintro e u4 ⟨rfl,-,gr4⟩
     replace gr4:World.grownBy _ u4 (some X0):=gr4
     have lt4:=LT.out
     clear x0_10
     have bz_11:=bz_10.grown gr4 bz_10.size (by intro k hk;cases hk;omega)
     have kW_11:=kW_10.grown gr4 (by simp only [ne_eq,Option.some.injEq];omega)
     have rS_11:=rS_10.grown gr4 (by intro a ha hc;have h1:=LS.out a ha;have h2:=Option.some.inj hc;omega)
     have od_11:=od_10.grown gr4 (by omega)
     have kX_11:=kX_10.grown gr4 (by simp only [ne_eq,Option.some.injEq];omega)
     have oI_11:=oI_10.grown gr4 (by cases haI:aI with | none=>exact .inl rfl | some a=>have h1:=LI.out a haI;right;simp only [Value.ownBlock,ne_eq,Option.some.injEq];omega)
     have kG_11:=kG_10.grown gr4 (by simp only [ne_eq,Option.some.injEq];omega)
     clear bz_10 kW_10 rS_10 od_10 kX_10 oI_10 kG_10 gr4
     have y0:=kX_11.cell 0 (by simp)
     have y1:=kX_11.cell 1 (by simp)
     have y2:=kX_11.cell 2 (by simp)
     have y3:=kX_11.cell 3 (by simp)
     have y4:=kX_11.cell 4 (by simp)
     have y5:=kX_11.cell 5 (by simp)
     have y6:=kX_11.cell 6 (by simp)
     have y7:=kX_11.cell 7 (by simp)
     go_wp2_with fail
     refine (markOrder_any BX A1 A2 A3 A4 A5 fr ksn tow block draws ff tf pan (1 + master.length) u4 n1 n2 n3 n4 n5 (by omega) od_11 (fun x=>Below w0.heap.size w0 x ∧ Blk x G0 28 [.int .i64 C,.slice aS L.length cS,.int .i64 U] ∧ RowAt x aS L ∧ Blk x GI 28 [.int .i64 C,.slice aI L.length cI,.int .i64 U] ∧ Own x vA.heap.size (.slice aI L.length cI) L) ?_ ?_ ⟨bz_11,kW_11,rS_11,kG_11,oI_11⟩).mono ?_
     · rintro x y ⟨t1,t2,t3,t4,t5⟩ hb
       exact ⟨t1.trans (hb.mono t1.size),t2.below hb t2.lt,t3.below hb,t4.below hb t4.lt,t5.below hb⟩
     · rintro x y g ⟨t1,t2,t3,t4,t5⟩ hgr hg1 hg2
       refine ⟨t1.grown hgr t1.size (by intro k hk;cases hk;omega),t2.grown hgr (by simp only [ne_eq,Option.some.injEq];omega),t3.grown hgr ?_,t4.grown hgr (by simp only [ne_eq,Option.some.injEq];omega),t5.grown hgr ?_⟩
       · intro a ha hc
         have h1:=LS.out a ha
         have h2:=Option.some.inj hc
         omega
       · cases haI:aI with
         | none=>exact .inl rfl
         | some a =>
           have h1:=LI.out a haI
           right
           simp only [Value.ownBlock,ne_eq,Option.some.injEq]
           omega
     rintro e u5 ⟨⟨m5,rfl⟩,bz5,kW5,rS5,kG5,oI5⟩
     clear bz_11 kW_11 rS_11 od_11 kX_11 oI_11 kG_11 y0 y1 y2 y3 y4 y5 y6 y7
     have hk5:¬ ((m5:Int) < 0):=by omega
     have p0:=kG5.cell 0 (by simp)
     have p1:=kG5.cell 1 (by simp)
     have p2:=kG5.cell 2 (by simp)
     have z0:=kW5.cell 0 (by simp)
     have z1:=kW5.cell 1 (by simp)
     have z2:=kW5.cell 2 (by simp)
     go_wp2_with fail
     refine (HEQ.out _ _ u5 (own_rowO oI5) rS5).mono ?_
     rintro e u6 ⟨rfl,beu6⟩
     clear p0 p1 p2 z0 z1 z2
     have bz_12:=bz5.trans (beu6.mono bz5.size)
     have kW_12:=kW5.below beu6 kW5.lt
     have rS_12:=rS5.below beu6
     have kG_12:=kG5.below beu6 kG5.lt
     have oI_12:=oI5.below beu6
     clear bz5 kW5 rS5 kG5 oI5 beu6
     have p0:=kG_12.cell 0 (by simp)
     have p1:=kG_12.cell 1 (by simp)
     have p2:=kG_12.cell 2 (by simp)
     go_wp2_with fail
     refine (markMoved_any C U L _ aI cI u6 hL oI_12).mono ?_
     rintro e u7 ⟨rfl,own7,gr7⟩
     clear p0 p1 p2
     have lt7:=LT.out
     have bI7:∀ k,(Value.slice aI L.length cI).ownBlock = some k → GX < k ∧ k < GI:=by
       intro k hk
       cases haI:aI with
       | none=>rw [haI] at hk;cases hk
       | some a =>
         have h1:=LI.out a haI
         rw [haI] at hk
         simp only [Value.ownBlock,Option.some.injEq] at hk
         omega
     obtain ⟨u6b,hu6b⟩:∃ x,x = u6.alloc (.cells ([.int .i64 C,.slice aI L.length cI,.int .i64 U]:List Value).toArray 28):=⟨_,rfl⟩
     have bb:Below u6.heap.size u6 u6b:=by rw [hu6b];exact below_new _ _
     replace gr7:u6b.grownBy u7 (Value.slice aI L.length cI).ownBlock:=by rw [hu6b];exact gr7
     clear oI_12 hu6b
     have bz_13:=bz_12.trans (bb.mono bz_12.size)
     have kW_13:=kW_12.below bb kW_12.lt
     have rS_13:=rS_12.below bb
     have kG_13:=kG_12.below bb kG_12.lt
     clear bz_12 kW_12 rS_12 kG_12 bb
     have bz_14:=bz_13.grown gr7 bz_13.size (by intro k hk;have h2:=bI7 k hk;omega)
     have kW_14:=kW_13.grown gr7 (by intro hc;have h2:=bI7 _ hc.symm;omega)
     have rS_14:=rS_13.grown gr7 (by intro a ha hc;have h1:=LS.out a ha;have h2:=bI7 _ hc;omega)
     have kG_14:=kG_13.grown gr7 (by intro hc;have h2:=bI7 _ hc.symm;omega)
     have rI:=own_rowO own7
     clear bz_13 kW_13 rS_13 kG_13 own7 gr7 bI7
     have hml:¬ (((1 + L.length:Nat):Int) < 0):=by omega
     have HHD:=hide (fun (wx:World) (h:RowAt wx aI (marks 1 L.length))=>heldMoved_any C U L.length aI cI wx hL h)
     have p0:=kG_14.cell 0 (by simp)
     have p1:=kG_14.cell 1 (by simp)
     have p2:=kG_14.cell 2 (by simp)
     go_wp2_with fail
     refine (HHD.out u7 rI).mono ?_
     rintro e u8 ⟨rfl,beu8⟩
     clear p0 p1 p2
     have bz_15:=bz_14.trans (beu8.mono bz_14.size)
     have kW_15:=kW_14.below beu8 kW_14.lt
     have rS_15:=rS_14.below beu8
     have kG_15:=kG_14.below beu8 kG_14.lt
     have rI_15:=rI.below beu8
     clear bz_14 kW_14 rS_14 kG_14 rI beu8
     go_upto_region 30 with fail
     have bX:=bz_15
     go_cut [13] (fun p wx=>∃ G a c,p = .pointer (some ⟨G,0,none⟩) ∧ u8.heap.size ≤ G ∧ Blk wx G 28 [.int .i64 C,.slice a L.length c,.int .i64 U] ∧ RowAt wx a L ∧ (∀ b,a = some b → u8.heap.size ≤ b.block ∧ b.block < wx.heap.size) ∧ Below u8.heap.size u8 wx)
     case first =>
       obtain ⟨V,hV⟩:∃ V,V = World.drew u8:=⟨_,rfl⟩
       have b_0:Below u8.heap.size u8 V:=by rw [hV];exact (Below.refl _ _).drew
       have hWV:=b_0.size
       have keep:Hid (∀ {x},Below u8.heap.size u8 x → x.rangeAt w.heap.size 0 [.slice a1 fr.length c1,.int .i64 ff,.slice a2 ksn.length c2,.slice a3 tow.length c3,.int .i64 tf,.slice a4 block.length c4,.string pan,.slice a5 draws.length c5]):=fun h=>blk_whole (HB.out (bX.trans (h.mono bX.size))).1
       refine wp_region_held_drew (S:=fun x=>x.rangeAt w.heap.size 0 [.slice a1 fr.length c1,.int .i64 ff,.slice a2 ksn.length c2,.slice a3 tow.length c3,.int .i64 tf,.slice a4 block.length c4,.string pan,.slice a5 draws.length c5]) (by kernel_rfl) (by rw [← hV];exact keep.out b_0) (fun hHeld=>?_)
       rw [← hV] at hHeld ⊢
       clear hV
       refine tk (i:=0) (v:=(.slice am master.length cm)) rfl (Or.inl ⟨by rfl,?_⟩) hHeld ?_
       · intro _ _;go_simp
       dsimp only [Act.put,List.getElem_toArray,List.getElem_cons_zero,List.getElem_cons_succ]
       simp only [List.setIfInBounds_toArray,List.set_cons_succ,List.set_cons_zero]
       refine tk (i:=2) (v:=(.agg ([.slice a1 fr.length c1,.int .i64 ff,.slice a2 ksn.length c2,.slice a3 tow.length c3,.int .i64 tf,.slice a4 block.length c4,.string pan,.slice a5 draws.length c5]:List Value).toArray)) rfl (yieldsIf_load_mid (by rfl) 43 _ rfl w.heap.size 0 rfl ([.slice a1 fr.length c1,.int .i64 ff,.slice a2 ksn.length c2,.slice a3 tow.length c3,.int .i64 tf,.slice a4 block.length c4,.string pan,.slice a5 draws.length c5]) _ (fun _ h=>h) Tryz.underlying43 rfl (by kernel_rfl)) hHeld ?_
       dsimp only [Act.put,List.getElem_toArray,List.getElem_cons_zero,List.getElem_cons_succ]
       simp only [List.setIfInBounds_toArray,List.set_cons_succ,List.set_cons_zero]
       refine wpAnyH_ready (rs:=[1,5]) (by kernel_rfl) (by simp) ?_
       refine AllReadyH.cons rfl (fun KQ hK=>?_) (AllReadyH.cons rfl (fun KQ hK=>?_) (AllReadyH.nil))
       · go_simp
         refine (HTM.out _ (bX.trans (b_0.mono bX.size))).mono ?_
         rintro e w_1 ⟨rfl,own_1,bel_1⟩
         have b_1:=b_0.trans (bel_1.mono (by have:=b_0.size;omega))
         have qm_1:=own_rowO own_1
         clear own_1
         go_wp2_with fail
         refine hK.out _ _ (keep.out b_1) (fun hHeld=>?_)
         clear hK KQ
         try dsimp only [Act.put]
         refine wpAnyH_ready (rs:=[3,5]) (by kernel_rfl) (by simp) ?_
         refine AllReadyH.cons rfl (fun KQ hK=>?_) (AllReadyH.cons rfl (fun KQ hK=>?_) (AllReadyH.nil))
         · go_simp
           refine (HTO.out _ (bX.trans (b_1.mono bX.size))).mono ?_
           rintro e w_2 ⟨A1,A2,A3,A4,A5,rfl,od_2,bel_2⟩
           have qm_2:=qm_1.below bel_2
           have b_2:=b_1.trans (bel_2.mono (by have:=b_1.size;omega))
           go_wp2_with fail
           refine hK.out _ _ (keep.out b_2) (fun hHeld=>?_)
           clear hK KQ
           try dsimp only [Act.put]
           refine wpAnyH_ready (rs:=[4,5]) (by kernel_rfl) (by simp) ?_
           refine AllReadyH.cons rfl (fun KQ hK=>?_) (AllReadyH.cons rfl (fun KQ hK=>?_) (AllReadyH.nil))
           · go_simp
             have bpre_3:=b_2
             refine (HI.out _ _ _ _ _ _ _ _ (bX.trans (b_2.mono bX.size)) qm_2 od_2).mono ?_
             rintro e w_3 ⟨v_3,rfl,own_3,bel_3⟩
             have qm_3:=qm_2.below bel_3
             have od_3:=od_2.below bel_3
             have b_3:=b_2.trans (bel_3.mono (by have:=b_2.size;omega))
             obtain ⟨aH,cH,rfl,-,-,-,-⟩:=own_3.shape
             have lt3:=own_lt2 own_3
             have loS:∀ a,aH = some a → u8.heap.size ≤ a.block:=by intro a ha;have h1:=(lt3 a ha).1;have h2:=bpre_3.size;omega
             go_wp2_with fail
             refine hK.out _ _ (keep.out b_3) (fun hHeld=>?_)
             clear hK KQ
             try dsimp only [Act.put]
             refine rdy1 5 (fun KQ hK=>?_)
             go_simp
             have ownb_4:=own_3
             obtain ⟨w_4,hw_4⟩:∃ x,x = World.alloc w_3 (.cells (zeroMv).toArray 28):=⟨_,rfl⟩
             have bel_4:Below w_3.heap.size w_3 w_4:=by rw [hw_4];exact below_new _ _
             have G_4:Blk w_4 w_3.heap.size 28 (zeroMv):=by rw [hw_4];exact Blk.new _ _ _
             have le_G_4:=b_3.size
             have lt_G_4:=G_4.lt
             have qm_4:=qm_3.below bel_4
             have od_4:=od_3.below bel_4
             have own_4:=own_3.below bel_4
             have b_4:=below_step b_3 bel_4
             rw [← hw_4]
             clear hw_4
             have neS:∀ a,aH = some a → a.block ≠ w_3.heap.size:=by intro a ha;have h1:=(own_lt2 ownb_4 a ha).2;omega
             refine hK.out _ _ (keep.out b_4) (fun hHeld=>?_)
             clear hK KQ
             try dsimp only [Act.put]
             refine rdy1 6 (fun KQ hK=>?_)
             rw [if_pos (by rfl)]
             refine wp_store_blk rfl 28 _ _ rfl w_3.heap.size rfl rfl G_4 (by kernel_rfl) rfl (by kernel_rfl) ?_
             have k_5:=Blk.setRow G_4 ([.int .i64 C,.slice aH L.length cH,.int .i64 U])
             have b_5:=below_setRow' (g:=w_3.heap.size) b_4 le_G_4 ([.int .i64 C,.slice aH L.length cH,.int .i64 U]:List Value).toArray
             have row_5:=(own_rowO own_4).grown (grown_setRow' _ w_3.heap.size ([.int .i64 C,.slice aH L.length cH,.int .i64 U]:List Value).toArray) (by intro a ha hc;exact neS a ha (Option.some.inj hc).symm)
             have up_5:∀ a,aH = some a → a.block < (World.setRow w_4 w_3.heap.size ([.int .i64 C,.slice aH L.length cH,.int .i64 U]:List Value).toArray).heap.size:=by intro a ha;have h1:=(own_lt2 own_4 a ha).2;simpa using h1
             refine hK.out _ _ (keep.out b_5) (fun hHeld=>?_)
             clear hK KQ
             try dsimp only [Act.put]
             refine wpAnyH_done (by kernel_rfl) ?_ _
             go_wp2_with fail
             go_meet
             case rel=>exact ⟨w_3.heap.size,aH,cH,rfl,le_G_4,k_5,row_5,fun a ha=>⟨loS a ha,up_5 a ha⟩,b_5⟩
           · go_simp
             obtain ⟨w_6,hw_6⟩:∃ x,x = World.alloc w_2 (.cells (zeroMv).toArray 28):=⟨_,rfl⟩
             have bel_6:Below w_2.heap.size w_2 w_6:=by rw [hw_6];exact below_new _ _
             have G_6:Blk w_6 w_2.heap.size 28 (zeroMv):=by rw [hw_6];exact Blk.new _ _ _
             have le_G_6:=b_2.size
             have lt_G_6:=G_6.lt
             have qm_6:=qm_2.below bel_6
             have od_6:=od_2.below bel_6
             have b_6:=below_step b_2 bel_6
             rw [← hw_6]
             clear hw_6
             refine hK.out _ _ (keep.out b_6) (fun hHeld=>?_)
             clear hK KQ
             try dsimp only [Act.put]
             refine rdy1 4 (fun KQ hK=>?_)
             go_simp
             have bpre_7:=b_6
             have glt_7:=G_6.lt
             refine (HI.out _ _ _ _ _ _ _ _ (bX.trans (b_6.mono bX.size)) qm_6 od_6).mono ?_
             rintro e w_7 ⟨v_7,rfl,own_7,bel_7⟩
             have qm_7:=qm_6.below bel_7
             have od_7:=od_6.below bel_7
             have G_7:=G_6.below bel_7 G_6.lt
             have b_7:=b_6.trans (bel_7.mono (by have:=b_6.size;omega))
             obtain ⟨aH,cH,rfl,-,-,-,-⟩:=own_7.shape
             have lt7:=own_lt2 own_7
             have neS:∀ a,aH = some a → a.block ≠ w_2.heap.size:=by intro a ha;have h1:=(lt7 a ha).1;have h2:=glt_7;omega
             have loS:∀ a,aH = some a → u8.heap.size ≤ a.block:=by intro a ha;have h1:=(lt7 a ha).1;have h2:=bpre_7.size;omega
             go_wp2_with fail
             refine hK.out _ _ (keep.out b_7) (fun hHeld=>?_)
             clear hK KQ
             try dsimp only [Act.put]
             refine rdy1 6 (fun KQ hK=>?_)
             rw [if_pos (by rfl)]
             refine wp_store_blk rfl 28 _ _ rfl w_2.heap.size rfl rfl G_7 (by kernel_rfl) rfl (by kernel_rfl) ?_
             have k_8:=Blk.setRow G_7 ([.int .i64 C,.slice aH L.length cH,.int .i64 U])
             have b_8:=below_setRow' (g:=w_2.heap.size) b_7 le_G_6 ([.int .i64 C,.slice aH L.length cH,.int .i64 U]:List Value).toArray
             have row_8:=(own_rowO own_7).grown (grown_setRow' _ w_2.heap.size ([.int .i64 C,.slice aH L.length cH,.int .i64 U]:List Value).toArray) (by intro a ha hc;exact neS a ha (Option.some.inj hc).symm)
             have up_8:∀ a,aH = some a → a.block < (World.setRow w_7 w_2.heap.size ([.int .i64 C,.slice aH L.length cH,.int .i64 U]:List Value).toArray).heap.size:=by intro a ha;have h1:=(own_lt2 own_7 a ha).2;simpa using h1
             refine hK.out _ _ (keep.out b_8) (fun hHeld=>?_)
             clear hK KQ
             try dsimp only [Act.put]
             refine wpAnyH_done (by kernel_rfl) ?_ _
             go_wp2_with fail
             go_meet
             case rel=>exact ⟨w_2.heap.size,aH,cH,rfl,le_G_6,k_8,row_8,fun a ha=>⟨loS a ha,up_8 a ha⟩,b_8⟩
         · go_simp
           obtain ⟨w_9,hw_9⟩:∃ x,x = World.alloc w_1 (.cells (zeroMv).toArray 28):=⟨_,rfl⟩
           have bel_9:Below w_1.heap.size w_1 w_9:=by rw [hw_9];exact below_new _ _
           have G_9:Blk w_9 w_1.heap.size 28 (zeroMv):=by rw [hw_9];exact Blk.new _ _ _
           have le_G_9:=b_1.size
           have lt_G_9:=G_9.lt
           have qm_9:=qm_1.below bel_9
           have b_9:=below_step b_1 bel_9
           rw [← hw_9]
           clear hw_9
           refine hK.out _ _ (keep.out b_9) (fun hHeld=>?_)
           clear hK KQ
           try dsimp only [Act.put]
           refine rdy1 3 (fun KQ hK=>?_)
           go_simp
           refine (HTO.out _ (bX.trans (b_9.mono bX.size))).mono ?_
           rintro e w_10 ⟨A1,A2,A3,A4,A5,rfl,od_10,bel_10⟩
           have qm_10:=qm_9.below bel_10
           have G_10:=G_9.below bel_10 G_9.lt
           have b_10:=b_9.trans (bel_10.mono (by have:=b_9.size;omega))
           go_wp2_with fail
           refine hK.out _ _ (keep.out b_10) (fun hHeld=>?_)
           clear hK KQ
           try dsimp only [Act.put]
           refine rdy1 4 (fun KQ hK=>?_)
           go_simp
           have bpre_11:=b_10
           have glt_11:=G_10.lt
           refine (HI.out _ _ _ _ _ _ _ _ (bX.trans (b_10.mono bX.size)) qm_10 od_10).mono ?_
           rintro e w_11 ⟨v_11,rfl,own_11,bel_11⟩
           have qm_11:=qm_10.below bel_11
           have G_11:=G_10.below bel_11 G_10.lt
           have od_11:=od_10.below bel_11
           have b_11:=b_10.trans (bel_11.mono (by have:=b_10.size;omega))
           obtain ⟨aH,cH,rfl,-,-,-,-⟩:=own_11.shape
           have lt11:=own_lt2 own_11
           have neS:∀ a,aH = some a → a.block ≠ w_1.heap.size:=by intro a ha;have h1:=(lt11 a ha).1;have h2:=glt_11;omega
           have loS:∀ a,aH = some a → u8.heap.size ≤ a.block:=by intro a ha;have h1:=(lt11 a ha).1;have h2:=bpre_11.size;omega
           go_wp2_with fail
           refine hK.out _ _ (keep.out b_11) (fun hHeld=>?_)
           clear hK KQ
           try dsimp only [Act.put]
           refine rdy1 6 (fun KQ hK=>?_)
           rw [if_pos (by rfl)]
           refine wp_store_blk rfl 28 _ _ rfl w_1.heap.size rfl rfl G_11 (by kernel_rfl) rfl (by kernel_rfl) ?_
           have k_12:=Blk.setRow G_11 ([.int .i64 C,.slice aH L.length cH,.int .i64 U])
           have b_12:=below_setRow' (g:=w_1.heap.size) b_11 le_G_9 ([.int .i64 C,.slice aH L.length cH,.int .i64 U]:List Value).toArray
           have row_12:=(own_rowO own_11).grown (grown_setRow' _ w_1.heap.size ([.int .i64 C,.slice aH L.length cH,.int .i64 U]:List Value).toArray) (by intro a ha hc;exact neS a ha (Option.some.inj hc).symm)
           have up_12:∀ a,aH = some a → a.block < (World.setRow w_11 w_1.heap.size ([.int .i64 C,.slice aH L.length cH,.int .i64 U]:List Value).toArray).heap.size:=by intro a ha;have h1:=(own_lt2 own_11 a ha).2;simpa using h1
           refine hK.out _ _ (keep.out b_12) (fun hHeld=>?_)
           clear hK KQ
           try dsimp only [Act.put]
           refine wpAnyH_done (by kernel_rfl) ?_ _
           go_wp2_with fail
           go_meet
           case rel=>exact ⟨w_1.heap.size,aH,cH,rfl,le_G_9,k_12,row_12,fun a ha=>⟨loS a ha,up_12 a ha⟩,b_12⟩
       · go_simp
         obtain ⟨w_13,hw_13⟩:∃ x,x = World.alloc V (.cells (zeroMv).toArray 28):=⟨_,rfl⟩
         have bel_13:Below V.heap.size V w_13:=by rw [hw_13];exact below_new _ _
         have G_13:Blk w_13 V.heap.size 28 (zeroMv):=by rw [hw_13];exact Blk.new _ _ _
         have le_G_13:=b_0.size
         have lt_G_13:=G_13.lt
         have b_13:=below_step b_0 bel_13
         rw [← hw_13]
         clear hw_13
         refine hK.out _ _ (keep.out b_13) (fun hHeld=>?_)
         clear hK KQ
         try dsimp only [Act.put]
         refine rdy1 1 (fun KQ hK=>?_)
         go_simp
         refine (HTM.out _ (bX.trans (b_13.mono bX.size))).mono ?_
         rintro e w_14 ⟨rfl,own_14,bel_14⟩
         have G_14:=G_13.below bel_14 G_13.lt
         have b_14:=b_13.trans (bel_14.mono (by have:=b_13.size;omega))
         have qm_14:=own_rowO own_14
         clear own_14
         go_wp2_with fail
         refine hK.out _ _ (keep.out b_14) (fun hHeld=>?_)
         clear hK KQ
         try dsimp only [Act.put]
         refine rdy1 3 (fun KQ hK=>?_)
         go_simp
         refine (HTO.out _ (bX.trans (b_14.mono bX.size))).mono ?_
         rintro e w_15 ⟨A1,A2,A3,A4,A5,rfl,od_15,bel_15⟩
         have G_15:=G_14.below bel_15 G_14.lt
         have qm_15:=qm_14.below bel_15
         have b_15:=b_14.trans (bel_15.mono (by have:=b_14.size;omega))
         go_wp2_with fail
         refine hK.out _ _ (keep.out b_15) (fun hHeld=>?_)
         clear hK KQ
         try dsimp only [Act.put]
         refine rdy1 4 (fun KQ hK=>?_)
         go_simp
         have bpre_16:=b_15
         have glt_16:=G_15.lt
         refine (HI.out _ _ _ _ _ _ _ _ (bX.trans (b_15.mono bX.size)) qm_15 od_15).mono ?_
         rintro e w_16 ⟨v_16,rfl,own_16,bel_16⟩
         have G_16:=G_15.below bel_16 G_15.lt
         have qm_16:=qm_15.below bel_16
         have od_16:=od_15.below bel_16
         have b_16:=b_15.trans (bel_16.mono (by have:=b_15.size;omega))
         obtain ⟨aH,cH,rfl,-,-,-,-⟩:=own_16.shape
         have lt16:=own_lt2 own_16
         have neS:∀ a,aH = some a → a.block ≠ V.heap.size:=by intro a ha;have h1:=(lt16 a ha).1;have h2:=glt_16;omega
         have loS:∀ a,aH = some a → u8.heap.size ≤ a.block:=by intro a ha;have h1:=(lt16 a ha).1;have h2:=bpre_16.size;omega
         go_wp2_with fail
         refine hK.out _ _ (keep.out b_16) (fun hHeld=>?_)
         clear hK KQ
         try dsimp only [Act.put]
         refine rdy1 6 (fun KQ hK=>?_)
         rw [if_pos (by rfl)]
         refine wp_store_blk rfl 28 _ _ rfl V.heap.size rfl rfl G_16 (by kernel_rfl) rfl (by kernel_rfl) ?_
         have k_17:=Blk.setRow G_16 ([.int .i64 C,.slice aH L.length cH,.int .i64 U])
         have b_17:=below_setRow' (g:=V.heap.size) b_16 le_G_13 ([.int .i64 C,.slice aH L.length cH,.int .i64 U]:List Value).toArray
         have row_17:=(own_rowO own_16).grown (grown_setRow' _ V.heap.size ([.int .i64 C,.slice aH L.length cH,.int .i64 U]:List Value).toArray) (by intro a ha hc;exact neS a ha (Option.some.inj hc).symm)
         have up_17:∀ a,aH = some a → a.block < (World.setRow w_16 V.heap.size ([.int .i64 C,.slice aH L.length cH,.int .i64 U]:List Value).toArray).heap.size:=by intro a ha;have h1:=(own_lt2 own_16 a ha).2;simpa using h1
         refine hK.out _ _ (keep.out b_17) (fun hHeld=>?_)
         clear hK KQ
         try dsimp only [Act.put]
         refine wpAnyH_done (by kernel_rfl) ?_ _
         go_wp2_with fail
         go_meet
         case rel=>exact ⟨V.heap.size,aH,cH,rfl,le_G_13,k_17,row_17,fun a ha=>⟨loS a ha,up_17 a ha⟩,b_17⟩
     case rest =>
       obtain ⟨GH,aH,cH,rfl,-,kH,rH,-,bel9⟩:=hcut
       clear bX
       have bz_16:=bz_15.trans (bel9.mono bz_15.size)
       have kW_16:=kW_15.below bel9 kW_15.lt
       have rS_16:=rS_15.below bel9
       have kG_16:=kG_15.below bel9 kG_15.lt
       have rI_16:=rI_15.below bel9
       clear bz_15 kW_15 rS_15 kG_15 rI_15 bel9
       have p0:=kH.cell 0 (by simp)
       have p1:=kH.cell 1 (by simp)
       have p2:=kH.cell 2 (by simp)
       have z0:=kW_16.cell 0 (by simp)
       have z1:=kW_16.cell 1 (by simp)
       have z2:=kW_16.cell 2 (by simp)
       go_wp2_with fail
       refine (HEQ.out _ _ wc rH rS_16).mono ?_
       rintro e u9 ⟨rfl,beu9⟩
       clear p0 p1 p2 z0 z1 z2
       have bz_17:=bz_16.trans (beu9.mono bz_16.size)
       have kW_17:=kW_16.below beu9 kW_16.lt
       have rS_17:=rS_16.below beu9
       have kG_17:=kG_16.below beu9 kG_16.lt
       have rI_17:=rI_16.below beu9
       have kH_17:=kH.below beu9 kH.lt
       have rH_17:=rH.below beu9
       clear bz_16 kW_16 rS_16 kG_16 rI_16 kH rH beu9
       have p0:=kG_17.cell 0 (by simp)
       have p1:=kG_17.cell 1 (by simp)
       have p2:=kG_17.cell 2 (by simp)
       go_wp2_with fail
       refine (HHD.out u9 rI_17).mono ?_
       rintro e u10 ⟨rfl,beu10⟩
       clear p0 p1 p2
       have bz_18:=bz_17.trans (beu10.mono bz_17.size)
       have kW_18:=kW_17.below beu10 kW_17.lt
       have rS_18:=rS_17.below beu10
       have kG_18:=kG_17.below beu10 kG_17.lt
       have rI_18:=rI_17.below beu10
       have kH_18:=kH_17.below beu10 kH_17.lt
       have rH_18:=rH_17.below beu10
       clear bz_17 kW_17 rS_17 kG_17 rI_17 kH_17 rH_17 beu10
       go_wp2_with fail
       go_ret
       exact ⟨rfl,(HB.out bz_18).2.2.2⟩
 · have hnI:(1048576:Int) < (master.length:Int):=by omega
   have hb:Below w.heap.size w (w.alloc (.cells ([.slice a1 fr.length c1,.int .i64 ff,.slice a2 ksn.length c2,.slice a3 tow.length c3,.int .i64 tf,.slice a4 block.length c4,.string pan,.slice a5 draws.length c5]:List Value).toArray 43)):=below_new _ _
   clear rm r1 r2 r3 r4 r5 hs hg
   go_enter Tryz.func4,Tryz.ntmps4
   go_wp2_with fail
   go_ret
   exact ⟨rfl,hb⟩
end Go.Proofs.YtoajfbkblpaejaaGreatDoor
