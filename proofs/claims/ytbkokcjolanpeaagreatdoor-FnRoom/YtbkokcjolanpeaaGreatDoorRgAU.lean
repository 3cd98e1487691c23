import Derived.Test.YtbkokcjolanpeaaGreatDoorRgAT
namespace Go.Proofs.YtbkokcjolanpeaaGreatDoor
open Go.RowKit
abbrev zeroCf:List Value:=[.slice none 0 0,.slice none 0 0,.slice none 0 0,.int .i64 0]
theorem Tryz.zeroCf:(Tryz.prog.info? 26).map (fun i=>(i.zero,i.size)) = some (some (.agg zeroCf.toArray),4):=by kernel_rfl
theorem Tryz.infoLk:(Tryz.prog.info? 35).map (fun i=>(i.zero,i.size,i.bytes)) = some (some (.agg #[.slice none 0 0,.slice none 0 0,.int .i64 0]),3,56):=by kernel_rfl
theorem LkX.lksK {w y:World} {c:Nat} {xs:List Value} {P:Nat → Prop} {lo cap:Nat} {a:Option Addr} (h:LkX w c 3 xs P) (kp:Kp P w y) (hs:w.heap.size ≤ y.heap.size) (row:y.ownsRow lo 35 3 (.slice a 3 cap) 3 xs):LksAt y a ((List.range 3).map (lkN c)):=by
 refine LkX.lks (P:=fun _=>False) (fun j hj=>?_) row
 obtain ⟨b1,d1,b2,d2,e1,e2,e3,e4,e5,⟨s1,t1⟩,⟨s2,t2⟩⟩:=h j hj
 exact ⟨b1,d1,b2,d2,e1,e2,e3,e4,e5,⟨s1.kp kp (fun p hp=>(t1 p hp).1),fun p hp=>⟨id,Nat.lt_of_lt_of_le (t1 p hp).2 hs⟩⟩,⟨s2.kp kp (fun p hp=>(t2 p hp).1),fun p hp=>⟨id,Nat.lt_of_lt_of_le (t2 p hp).2 hs⟩⟩⟩
theorem Blk.kp {P:Nat → Prop} {w y:World} {g t:Nat} {cs:List Value} (h:Blk w g t cs) (k:Kp P w y) (hp:¬ P g):Blk y g t cs:=(k g h.lt hp).trans h
theorem rts_blk {w:World} {g t:Nat} (k:Blk w g t [.string ⟨#[52]⟩,.int .i64 0,.string ⟨#[52,53]⟩,.int .i64 1,.string ⟨#[53]⟩,.int .i64 1,.string ⟨#[52,53,57]⟩,.int .i64 0,.string ⟨#[52,53]⟩,.int .i64 0,.string ⟨#[55]⟩,.int .i64 2]):RtsAt w (some ⟨g,0,none⟩) rtsN:=by
 refine .inr ⟨g,0,rfl,fun i r hr=>?_⟩
 have hi:i < 6:=(List.getElem?_eq_some_iff.1 hr).1
 have h6:i = 0 ∨ i = 1 ∨ i = 2 ∨ i = 3 ∨ i = 4 ∨ i = 5:=by omega
 rcases h6 with rfl | rfl | rfl | rfl | rfl | rfl <;> (cases hr;exact ⟨k.cell _ (by simp),k.cell _ (by simp)⟩)
theorem lk_step {wr W8 W9 X2:World} {B gT gM rm c k:Nat} {xs:List Value} {a a9 a1 a2:Option Addr} {cc c9 c1 c2:Nat} (HT:Blk wr gT 26 [.slice (some ⟨gM,0,none⟩) 16 16,.slice a k cc,.slice none 0 0,.int .i64 (rm:Int)]) (HR:wr.ownsRow B 35 3 (.slice a k cc) k xs) (HX:LkX wr c k xs (fun q=>q < B ∨ q = gT ∨ (Value.slice a k cc).ownBlock = some q)) (hne:some gT ≠ (Value.slice a k cc).ownBlock) (hBT:B ≤ gT) (hBs:B = X2.heap.size) (hbel:Below B X2 wr) (br:Below wr.heap.size wr W8)
   (row9:W9.ownsRow B 35 3 (.slice a9 (k + 1) c9) (k + 1) (xs ++ [.slice a1 (lkN c k).1.length c1,.slice a2 (lkN c k).2.1.length c2,.int .i64 (lkN c k).2.2])) (gr9:W8.grownBy W9 (Value.slice a k cc).ownBlock) (at9:(Value.slice a9 (k + 1) c9).ownBlock = (Value.slice a k cc).ownBlock ∨ (Value.slice a9 (k + 1) c9).ownBlock = some W8.heap.size)
   (h1:(lkN c k).1.length ≤ c1) (h2:(lkN c k).2.1.length ≤ c2) (r1:RowAt W8 a1 (lkN c k).1) (r2:RowAt W8 a2 (lkN c k).2.1) (q1:∀ p,a1 = some p → wr.heap.size ≤ p.block ∧ p.block < W8.heap.size) (q2:∀ p,a2 = some p → wr.heap.size ≤ p.block ∧ p.block < W8.heap.size) :
   Blk (W9.setCell ⟨gT,1,none⟩ (.slice a9 (k + 1) c9)) gT 26 [.slice (some ⟨gM,0,none⟩) 16 16,.slice a9 (k + 1) c9,.slice none 0 0,.int .i64 (rm:Int)] ∧ (W9.setCell ⟨gT,1,none⟩ (.slice a9 (k + 1) c9)).ownsRow B 35 3 (.slice a9 (k + 1) c9) (k + 1) (xs ++ [.slice a1 (lkN c k).1.length c1,.slice a2 (lkN c k).2.1.length c2,.int .i64 (lkN c k).2.2]) ∧ LkX (W9.setCell ⟨gT,1,none⟩ (.slice a9 (k + 1) c9)) c (k + 1) (xs ++ [.slice a1 (lkN c k).1.length c1,.slice a2 (lkN c k).2.1.length c2,.int .i64 (lkN c k).2.2]) (fun q=>q < B ∨ q = gT ∨ (Value.slice a9 (k + 1) c9).ownBlock = some q) ∧ some gT ≠ (Value.slice a9 (k + 1) c9).ownBlock ∧ Below B X2 (W9.setCell ⟨gT,1,none⟩ (.slice a9 (k + 1) c9)):=by
 have kT8:=HT.below br HT.lt
 have lT:=HT.lt
 have hBw:B ≤ wr.heap.size:=by rw [hBs];exact hbel.size
 have kT9:=kT8.grown gr9 hne
 have s9:=Sm.setCell (ts:=[26]) kT9 (by simp) 1 (.slice a9 (k + 1) c9)
 have kp8:Kp (fun q=>q < B ∨ q = gT ∨ (Value.slice a k cc).ownBlock = some q) W8 (W9.setCell ⟨gT,1,none⟩ (.slice a9 (k + 1) c9)):=(Kp.grown gr9 (fun g e=>.inr (.inr e))).trans gr9.size (Kp.setCell W9 (.inr (.inl rfl)) 1 _)
 have kp:=(Kp.below (P:=fun q=>q < B ∨ q = gT ∨ (Value.slice a k cc).ownBlock = some q) br).trans br.size kp8
 have hsz:W8.heap.size ≤ (W9.setCell ⟨gT,1,none⟩ (.slice a9 (k + 1) c9)).heap.size:=by simp [World.setCell];exact gr9.size
 have hnP:∀ q,wr.heap.size ≤ q → ¬ (q < B ∨ q = gT ∨ (Value.slice a k cc).ownBlock = some q):=fun q hq h=>by
   rcases h with h | h | h
   · omega
   · omega
   · have:=(HR.lt q h).2;omega
 have hnQ:∀ q,wr.heap.size ≤ q → q < W8.heap.size → ¬ (q < B ∨ q = gT ∨ (Value.slice a9 (k + 1) c9).ownBlock = some q):=fun q hq hq2 h=>by
   rcases h with h | h | h
   · omega
   · omega
   · rcases at9 with e | e
     · exact hnP q hq (.inr (.inr (by rw [← e];exact h)))
     · rw [e] at h;cases h;omega
 refine ⟨kT9.set 1 _,own_sm row9 s9 (by decide),LkX.snoc HR.1 HX kp (Nat.le_trans br.size hsz) (fun q hq hp h=>?_) h1 h2 (r1.kp kp8 (fun p hp=>hnP _ (q1 p hp).1)) (r2.kp kp8 (fun p hp=>hnP _ (q2 p hp).1)) (fun p hp=>⟨hnQ _ (q1 p hp).1 (q1 p hp).2,Nat.lt_of_lt_of_le (q1 p hp).2 hsz⟩) (fun p hp=>⟨hnQ _ (q2 p hp).1 (q2 p hp).2,Nat.lt_of_lt_of_le (q2 p hp).2 hsz⟩),?_,?_⟩
 · rcases h with h | h | h
   · exact hp (.inl h)
   · exact hp (.inr (.inl h))
   · rcases at9 with e | e
     · exact hp (.inr (.inr (by rw [← e];exact h)))
     · rw [e] at h;cases h;have:=br.size;omega
 · intro e
   rcases at9 with e2 | e2
   · exact hne (by rw [← e2];exact e)
   · rw [e2] at e;cases e;have:=br.size;omega
 · exact ((hbel.trans (br.mono hBw)).grown gr9 (Nat.le_trans hBw br.size) (fun g hg=>(HR.lt g hg).1)).setCell hBT _
set_option maxRecDepth 100000 in
set_option maxHeartbeats 2000000 in
theorem l7Config_any (R:Nat) (ao:Option Addr) (cap:Nat) (code:List UInt8) (i:Nat) (w:World) (hn:code.length ≤ 1048576) (hi:i ≤ code.length) (hr:RowAt w ao code) (hR:Rd w R ao cap code i) :
   Calls Tryz.prog 17 #[.pointer (some ⟨R,0,none⟩)] w fun e w'=>∃ (c gM:Nat) (al:Option Addr) (cl gR:Nat),c < 256 ∧ e = .returned (.agg #[.slice (some ⟨gM,0,none⟩) 16 16,.slice al 3 cl,.slice (some ⟨gR,0,none⟩) 6 6,.int .i64 ((1 + c % 4:Nat):Int)]) ∧ (∀ y,w'.heap.size ≤ y.heap.size → Kp (fun q=>q < w.heap.size) w' y → RowAt y (some ⟨gM,0,none⟩) masterL ∧ LksAt y al ((List.range 3).map (lkN c)) ∧ RtsAt y (some ⟨gR,0,none⟩) rtsN) ∧ w.grownBy w' (some R):=by
 have hz:=(zero_of_info Tryz.zeroCf).1
 obtain ⟨i0,hi0,hz0,hz1,hz2⟩:=info_parts Tryz.infoLk
 obtain ⟨gO,hgO⟩:∃ n,n = w.heap.size:=⟨_,rfl⟩
 obtain ⟨W,hW⟩:∃ y,y = w.alloc (Obj.cells zeroCf.toArray 26):=⟨_,rfl⟩
 have bW:Below w.heap.size w W:=by rw [hW];exact below_newS _ _
 have kO:Blk W gO 26 zeroCf:=by rw [hW,hgO];exact Blk.new _ _ _
 have lR:R < w.heap.size:=Blk.lt hR
 have HNX:=hideT (next_any R ao cap code i W hn hi (hr.below bW) (Blk.below hR bW lR))
 have HW:=hideT hW
 have HGO:=hideT hgO
 have HGO2:=hideT hgO
 have hOR:gO ≠ R:=by omega
 clear hW hgO hr hR
 go_enter Tryz.func17,Tryz.ntmps17
 go_upto_region 1 with fail
 rw [← show W = _ from HW,← show gO = _ from HGO]
 clear HW HGO
 go_wp2_with fail
 refine HNX.out.mono ?_
 rintro e X1 ⟨c,i',rfl,hc,-,-,gr1,hs1⟩
 have kO1:=kO.grown gr1 (by intro e;cases e;exact hOR rfl)
 obtain ⟨m4,hm4⟩:∃ m,m = c % 4:=⟨_,rfl⟩
 have hrm:(c:Int).tmod 4 = (m4:Int):=by rw [Int.tmod_eq_emod_of_nonneg (by omega)];omega
 have hrm2:(c:Int) % 4 = (m4:Int):=by omega
 obtain ⟨rm,hrmd⟩:∃ m,m = 1 + m4:=⟨_,rfl⟩
 have hw1:IntKind.i64.wrap (m4:Int) = (m4:Int):=by rw [IntKind.wrap_i64];omega
 have hw2:IntKind.i64.wrap (1 + (m4:Int)) = (rm:Int):=by rw [IntKind.wrap_i64];omega
 have HRM:Hid (rm = 1 + c % 4):=by rw [hrmd,hm4];rfl
 clear hm4 hrmd HNX
 go_wp2_with fail
 refine (master_any X1).mono ?_
 rintro e X2 ⟨gM,rfl,lgM0,lgM,rM,b2⟩
 obtain ⟨gT,hgT⟩:∃ n,n = X2.heap.size:=⟨_,rfl⟩
 obtain ⟨W3,hW3⟩:∃ y,y = X2.alloc (Obj.cells #[.slice (some ⟨gM,0,none⟩) 16 16,.slice none 0 0,.slice none 0 0,.int .i64 (rm:Int)] 26):=⟨_,rfl⟩
 have b3:Below X2.heap.size X2 W3:=by rw [hW3];exact below_newS _ _
 have kT:Blk W3 gT 26 [.slice (some ⟨gM,0,none⟩) 16 16,.slice none 0 0,.slice none 0 0,.int .i64 (rm:Int)]:=by rw [hW3,hgT];exact Blk.new _ _ _
 have RM:=hideT rM
 have HW3:=hideT hW3
 have HGT:=hideT hgT
 have HGT2:=hideT hgT
 have lT2:X2.heap.size ≤ gT:=by omega
 clear hW3 hgT rM
 go_upto_region 3 with fail
 rw [← show W3 = _ from HW3,← show gT = _ from HGT]
 clear HW3 HGT
 go_wp2_with fail
 go_loopw [5] (fun i wr=>∃ (k:Nat) (xs:List Value) (a:Option Addr) (cc:Nat),k ≤ 3 ∧ i = .int .i64 (k:Int) ∧ Hid (Blk wr gT 26 [.slice (some ⟨gM,0,none⟩) 16 16,.slice a k cc,.slice none 0 0,.int .i64 (rm:Int)]) ∧ Hid (wr.ownsRow X2.heap.size 35 3 (.slice a k cc) k xs) ∧ Hid (LkX wr c k xs (fun q=>q < X2.heap.size ∨ q = gT ∨ (Value.slice a k cc).ownBlock = some q)) ∧ Hid (some gT ≠ (Value.slice a k cc).ownBlock) ∧ Below X2.heap.size X2 wr) (fun i _=>3 - (intOf i).toNat)
 case atStart=>exact ⟨0,[],none,0,by omega,rfl,kT,World.ownsRow_nil _ _ _ _,fun j hj=>absurd hj (Nat.not_lt_zero j),(fun e=>by cases e),b3⟩
 case round =>
   obtain ⟨k,xs,a,cc,hk,rfl,HT,HR,HX,HNE,hbel⟩:=hrel
   have HTL:Hid (∀ r:Option Nat,r = (Value.slice a k cc).ownBlock → some gT ≠ r):=fun r e=>by rw [e];exact HNE.out
   have hk4:k = 0 ∨ k = 1 ∨ k = 2 ∨ k = 3:=by omega
   rcases hk4 with rfl | rfl | rfl | rfl
   · skip
     obtain ⟨sN,hsN⟩:∃ s,s = c / 2 ^ 2:=⟨_,rfl⟩
     have hsh:(c:Int) / 4 = (sN:Int):=by rw [hsN,show (2:Nat) ^ 2 = 4 from rfl];omega
     have hsN2:sN < 9223372036854775808:=by rw [hsN];exact Nat.lt_of_le_of_lt (Nat.div_le_self _ _) (by omega)
     have han:=Go.Proofs.and_one sN hsN2
     obtain ⟨bN,hbN⟩:∃ b,b = sN % 2:=⟨_,rfl⟩
     rw [← hbN] at han
     obtain ⟨fN,hfN⟩:∃ f,f = bN * 3:=⟨_,rfl⟩
     have hmu:wrap64 ((bN:Int) * 3) = (fN:Int):=by unfold wrap64;omega
     have HFN:Hid ((fN:Int) = (lkN c 0).2.2):=by
       show (fN:Int) = (fmtN c 0:Int)
       rw [hfN,hbN,hsN];rfl
     clear hsN hbN hfN hsN2
     go_wp2_with fail
     refine (l7Key_any 0 1 0 (by omega) (.inl ⟨rfl,rfl⟩) wr).mono ?_
     rintro e Y1 ⟨⟨a1,c1,rfl,hc1,r1,o1⟩,b1⟩
     obtain ⟨n1,hn1⟩:∃ n,n = (blkN 0 1 0).length:=⟨_,rfl⟩
     rw [← hn1]
     have H1:=hideT (And.intro hn1 (And.intro hc1 (And.intro r1 o1)))
     clear hn1 hc1 r1 o1
     go_wp2_with fail
     refine (l7Key_any 0 2 1 (by omega) (.inr (.inl ⟨rfl,rfl⟩)) Y1).mono ?_
     rintro e Y2 ⟨⟨a2,c2,rfl,hc2,r2,o2⟩,b2'⟩
     obtain ⟨n2,hn2⟩:∃ n,n = (blkN 0 2 1).length:=⟨_,rfl⟩
     rw [← hn2]
     have H2:=hideT (And.intro hn2 (And.intro hc2 (And.intro r2 o2)))
     clear hn2 hc2 r2 o2
     obtain ⟨gl,hgl⟩:∃ n,n = Y2.heap.size:=⟨_,rfl⟩
     obtain ⟨W6,hW6⟩:∃ y,y = Y2.alloc (Obj.cells #[.slice a1 n1 c1,.slice a2 n2 c2,.int .i64 (fN:Int)] 35):=⟨_,rfl⟩
     have b6:Below Y2.heap.size Y2 W6:=by rw [hW6];exact below_newS _ _
     have kl:Blk W6 gl 35 [.slice a1 n1 c1,.slice a2 n2 c2,.int .i64 (fN:Int)]:=by rw [hW6,hgl];exact Blk.new _ _ _
     have b12:=b1.trans (b2'.mono b1.size)
     have br6:=b12.trans (b6.mono b12.size)
     have HGL:=hideT hgl
     have HGL2:=hideT hgl
     have HW6:=hideT hW6
     clear hW6 hgl
     go_upto_region 7 with fail
     rw [← show W6 = _ from HW6,← show gl = _ from HGL]
     clear HW6 HGL
     have k6:=HT.out.below br6 HT.out.lt
     have t1:=k6.cell 1 (by simp)
     have H6:Hid (∃ (u1:Option Addr) (d1:Nat),True):=⟨none,0,trivial⟩
     obtain ⟨W8,hW8⟩:∃ y,y = W6.alloc (Obj.cells #[.slice a1 n1 c1,.slice a2 n2 c2,.int .i64 (fN:Int)] 35):=⟨_,rfl⟩
     have b8:Below W6.heap.size W6 W8:=by rw [hW8];exact below_newS _ _
     have k8:Blk W8 W6.heap.size 35 [.slice a1 n1 c1,.slice a2 n2 c2,.int .i64 (fN:Int)]:=by rw [hW8];exact Blk.new _ _ _
     have br8:=br6.trans (b8.mono br6.size)
     have ROW:=hideT (own_sm (ts:=[]) HR.out (Sm.below br8) (by simp))
     have kT8:=HT.out.below br8 HT.out.lt
     have K8:=hideT k8
     have HW8:=hideT hW8
     have KT8:=hideT kT8
     have hz8:X2.heap.size ≤ W8.heap.size:=Nat.le_trans hbel.size br8.size
     clear hW8 k8 kT8 H6
     go_wp2_with (first
       | (refine load_blk rfl 35 _ rfl gl rfl kl Tryz.underlying35 rfl (by kernel_rfl) ?_)
       | (at_builtin;(rw [← show W8 = _ from HW8];refine wpList_append_own_at _ rfl _ _ 23 rfl X2.heap.size 35 i0 (.agg #[.slice none 0 0,.slice none 0 0,.int .i64 0]) 3 56 Tryz.underlying23 hi0 hz0 hz1 hz2 rfl (by decide) (.slice a 0 cc) 0 _ rfl ROW.out ⟨W6.heap.size,0,none⟩ 1 1 [.slice a1 n1 c1,.slice a2 n2 c2,.int .i64 (fN:Int)] rfl rfl (newsB K8.out) (by intro u hu;simp at hu;rcases hu with rfl | rfl | rfl <;> rfl) (by unfold maxLen;omega) (by omega) hz8 ?_;intro v9 W9 row9 gr9 _ at9;obtain ⟨a9,c9,rfl⟩:=ownS row9;have kT9:=KT8.out.grown gr9 (HTL.out _ (by rfl));have t9:=kT9.cell 1 (by simp);have f9:=kT9.free 1)))
     have b28:=b6.trans (b8.mono b6.size)
     have FIN:=hideT (lk_step (k:=0) HT.out HR.out HX.out HNE.out lT2 rfl hbel br8 (by have r:=row9;rw [H1.out.1,H2.out.1,HFN.out] at r;exact r) gr9 at9 H1.out.2.1 H2.out.2.1 (H1.out.2.2.1.below (b2'.trans (b28.mono b2'.size))) (H2.out.2.2.1.below b28) (fun p hp=>⟨(H1.out.2.2.2 p hp).1,Nat.lt_of_lt_of_le (H1.out.2.2.2 p hp).2 (Nat.le_trans b2'.size b28.size)⟩) (fun p hp=>⟨Nat.le_trans b1.size (H2.out.2.2.2 p hp).1,Nat.lt_of_lt_of_le (H2.out.2.2.2 p hp).2 b28.size⟩))
     go_roundw
     case rel=>exact ⟨1,_,a9,c9,by omega,rfl,FIN.out.1,FIN.out.2.1,FIN.out.2.2.1,FIN.out.2.2.2.1,FIN.out.2.2.2.2⟩
     case measure=>simp [intOf]
   · skip
     obtain ⟨sN,hsN⟩:∃ s,s = c / 2 ^ 3:=⟨_,rfl⟩
     have hsh:(c:Int) / 8 = (sN:Int):=by rw [hsN,show (2:Nat) ^ 3 = 8 from rfl];omega
     have hsN2:sN < 9223372036854775808:=by rw [hsN];exact Nat.lt_of_le_of_lt (Nat.div_le_self _ _) (by omega)
     have han:=Go.Proofs.and_one sN hsN2
     obtain ⟨bN,hbN⟩:∃ b,b = sN % 2:=⟨_,rfl⟩
     rw [← hbN] at han
     obtain ⟨fN,hfN⟩:∃ f,f = bN * 3:=⟨_,rfl⟩
     have hmu:wrap64 ((bN:Int) * 3) = (fN:Int):=by unfold wrap64;omega
     have HFN:Hid ((fN:Int) = (lkN c 1).2.2):=by
       show (fN:Int) = (fmtN c 1:Int)
       rw [hfN,hbN,hsN];rfl
     clear hsN hbN hfN hsN2
     go_wp2_with fail
     refine (l7Key_any 1 1 0 (by omega) (.inl ⟨rfl,rfl⟩) wr).mono ?_
     rintro e Y1 ⟨⟨a1,c1,rfl,hc1,r1,o1⟩,b1⟩
     obtain ⟨n1,hn1⟩:∃ n,n = (blkN 1 1 0).length:=⟨_,rfl⟩
     rw [← hn1]
     have H1:=hideT (And.intro hn1 (And.intro hc1 (And.intro r1 o1)))
     clear hn1 hc1 r1 o1
     go_wp2_with fail
     refine (l7Key_any 1 2 1 (by omega) (.inr (.inl ⟨rfl,rfl⟩)) Y1).mono ?_
     rintro e Y2 ⟨⟨a2,c2,rfl,hc2,r2,o2⟩,b2'⟩
     obtain ⟨n2,hn2⟩:∃ n,n = (blkN 1 2 1).length:=⟨_,rfl⟩
     rw [← hn2]
     have H2:=hideT (And.intro hn2 (And.intro hc2 (And.intro r2 o2)))
     clear hn2 hc2 r2 o2
     obtain ⟨gl,hgl⟩:∃ n,n = Y2.heap.size:=⟨_,rfl⟩
     obtain ⟨W6,hW6⟩:∃ y,y = Y2.alloc (Obj.cells #[.slice a1 n1 c1,.slice a2 n2 c2,.int .i64 (fN:Int)] 35):=⟨_,rfl⟩
     have b6:Below Y2.heap.size Y2 W6:=by rw [hW6];exact below_newS _ _
     have kl:Blk W6 gl 35 [.slice a1 n1 c1,.slice a2 n2 c2,.int .i64 (fN:Int)]:=by rw [hW6,hgl];exact Blk.new _ _ _
     have b12:=b1.trans (b2'.mono b1.size)
     have br6:=b12.trans (b6.mono b12.size)
     have HGL:=hideT hgl
     have HGL2:=hideT hgl
     have HW6:=hideT hW6
     clear hW6 hgl
     go_upto_region 7 with fail
     rw [← show W6 = _ from HW6,← show gl = _ from HGL]
     clear HW6 HGL
     have k6:=HT.out.below br6 HT.out.lt
     have t1:=k6.cell 1 (by simp)
     have H6:Hid (∃ (u1:Option Addr) (d1:Nat),True):=⟨none,0,trivial⟩
     obtain ⟨W8,hW8⟩:∃ y,y = W6.alloc (Obj.cells #[.slice a1 n1 c1,.slice a2 n2 c2,.int .i64 (fN:Int)] 35):=⟨_,rfl⟩
     have b8:Below W6.heap.size W6 W8:=by rw [hW8];exact below_newS _ _
     have k8:Blk W8 W6.heap.size 35 [.slice a1 n1 c1,.slice a2 n2 c2,.int .i64 (fN:Int)]:=by rw [hW8];exact Blk.new _ _ _
     have br8:=br6.trans (b8.mono br6.size)
     have ROW:=hideT (own_sm (ts:=[]) HR.out (Sm.below br8) (by simp))
     have kT8:=HT.out.below br8 HT.out.lt
     have K8:=hideT k8
     have HW8:=hideT hW8
     have KT8:=hideT kT8
     have hz8:X2.heap.size ≤ W8.heap.size:=Nat.le_trans hbel.size br8.size
     clear hW8 k8 kT8 H6
     go_wp2_with (first
       | (refine load_blk rfl 35 _ rfl gl rfl kl Tryz.underlying35 rfl (by kernel_rfl) ?_)
       | (at_builtin;(rw [← show W8 = _ from HW8];refine wpList_append_own_at _ rfl _ _ 23 rfl X2.heap.size 35 i0 (.agg #[.slice none 0 0,.slice none 0 0,.int .i64 0]) 3 56 Tryz.underlying23 hi0 hz0 hz1 hz2 rfl (by decide) (.slice a 1 cc) 1 _ rfl ROW.out ⟨W6.heap.size,0,none⟩ 1 1 [.slice a1 n1 c1,.slice a2 n2 c2,.int .i64 (fN:Int)] rfl rfl (newsB K8.out) (by intro u hu;simp at hu;rcases hu with rfl | rfl | rfl <;> rfl) (by unfold maxLen;omega) (by omega) hz8 ?_;intro v9 W9 row9 gr9 _ at9;obtain ⟨a9,c9,rfl⟩:=ownS row9;have kT9:=KT8.out.grown gr9 (HTL.out _ (by rfl));have t9:=kT9.cell 1 (by simp);have f9:=kT9.free 1)))
     have b28:=b6.trans (b8.mono b6.size)
     have FIN:=hideT (lk_step (k:=1) HT.out HR.out HX.out HNE.out lT2 rfl hbel br8 (by have r:=row9;rw [H1.out.1,H2.out.1,HFN.out] at r;exact r) gr9 at9 H1.out.2.1 H2.out.2.1 (H1.out.2.2.1.below (b2'.trans (b28.mono b2'.size))) (H2.out.2.2.1.below b28) (fun p hp=>⟨(H1.out.2.2.2 p hp).1,Nat.lt_of_lt_of_le (H1.out.2.2.2 p hp).2 (Nat.le_trans b2'.size b28.size)⟩) (fun p hp=>⟨Nat.le_trans b1.size (H2.out.2.2.2 p hp).1,Nat.lt_of_lt_of_le (H2.out.2.2.2 p hp).2 b28.size⟩))
     go_roundw
     case rel=>exact ⟨2,_,a9,c9,by omega,rfl,FIN.out.1,FIN.out.2.1,FIN.out.2.2.1,FIN.out.2.2.2.1,FIN.out.2.2.2.2⟩
     case measure=>simp [intOf]
   · skip
     obtain ⟨sN,hsN⟩:∃ s,s = c / 2 ^ 4:=⟨_,rfl⟩
     have hsh:(c:Int) / 16 = (sN:Int):=by rw [hsN,show (2:Nat) ^ 4 = 16 from rfl];omega
     have hsN2:sN < 9223372036854775808:=by rw [hsN];exact Nat.lt_of_le_of_lt (Nat.div_le_self _ _) (by omega)
     have han:=Go.Proofs.and_one sN hsN2
     obtain ⟨bN,hbN⟩:∃ b,b = sN % 2:=⟨_,rfl⟩
     rw [← hbN] at han
     obtain ⟨fN,hfN⟩:∃ f,f = bN * 3:=⟨_,rfl⟩
     have hmu:wrap64 ((bN:Int) * 3) = (fN:Int):=by unfold wrap64;omega
     have HFN:Hid ((fN:Int) = (lkN c 2).2.2):=by
       show (fN:Int) = (fmtN c 2:Int)
       rw [hfN,hbN,hsN];rfl
     clear hsN hbN hfN hsN2
     go_wp2_with fail
     refine (l7Key_any 2 1 0 (by omega) (.inl ⟨rfl,rfl⟩) wr).mono ?_
     rintro e Y1 ⟨⟨a1,c1,rfl,hc1,r1,o1⟩,b1⟩
     obtain ⟨n1,hn1⟩:∃ n,n = (blkN 2 1 0).length:=⟨_,rfl⟩
     rw [← hn1]
     have H1:=hideT (And.intro hn1 (And.intro hc1 (And.intro r1 o1)))
     clear hn1 hc1 r1 o1
     go_wp2_with fail
     refine (l7Key_any 2 2 1 (by omega) (.inr (.inl ⟨rfl,rfl⟩)) Y1).mono ?_
     rintro e Y2 ⟨⟨a2,c2,rfl,hc2,r2,o2⟩,b2'⟩
     obtain ⟨n2,hn2⟩:∃ n,n = (blkN 2 2 1).length:=⟨_,rfl⟩
     rw [← hn2]
     have H2:=hideT (And.intro hn2 (And.intro hc2 (And.intro r2 o2)))
     clear hn2 hc2 r2 o2
     obtain ⟨gl,hgl⟩:∃ n,n = Y2.heap.size:=⟨_,rfl⟩
     obtain ⟨W6,hW6⟩:∃ y,y = Y2.alloc (Obj.cells #[.slice a1 n1 c1,.slice a2 n2 c2,.int .i64 (fN:Int)] 35):=⟨_,rfl⟩
     have b6:Below Y2.heap.size Y2 W6:=by rw [hW6];exact below_newS _ _
     have kl:Blk W6 gl 35 [.slice a1 n1 c1,.slice a2 n2 c2,.int .i64 (fN:Int)]:=by rw [hW6,hgl];exact Blk.new _ _ _
     have b12:=b1.trans (b2'.mono b1.size)
     have br6:=b12.trans (b6.mono b12.size)
     have HGL:=hideT hgl
     have HGL2:=hideT hgl
     have HW6:=hideT hW6
     clear hW6 hgl
     go_upto_region 7 with fail
     rw [← show W6 = _ from HW6,← show gl = _ from HGL]
     clear HW6 HGL
     go_wp2_with fail
     refine (l7Key_any 2 3 0 (by omega) (.inr (.inr ⟨rfl,rfl⟩)) W6).mono ?_
     rintro e Y3 ⟨⟨a3,c3,rfl,hc3,r3,o3⟩,b3'⟩
     obtain ⟨n3,hn3⟩:∃ n,n = (blkN 2 3 0).length:=⟨_,rfl⟩
     rw [← hn3]
     have H3:=hideT (And.intro hn3 (And.intro hc3 (And.intro r3 o3)))
     clear hn3 hc3 r3 o3
     have kl3:=kl.below b3' kl.lt
     have e0:=kl3.cell 0 (by simp)
     have fr0:=kl3.free 0
     obtain ⟨W7,hW7⟩:∃ y,y = Y3.setCell ⟨gl,0,none⟩ (.slice a3 n3 c3):=⟨_,rfl⟩
     have kl7:Blk W7 gl 35 [.slice a3 n3 c3,.slice a2 n2 c2,.int .i64 (fN:Int)]:=by rw [hW7];exact kl3.set 0 _
     have hglw:wr.heap.size ≤ gl:=by rw [HGL2.out];exact b12.size
     have br7:Below wr.heap.size wr W7:=by rw [hW7];exact (br6.trans (b3'.mono br6.size)).setCell hglw _
     have kp7:Kp (fun q=>q = gl) Y3 W7:=by rw [hW7];exact Kp.setCell (P:=fun q=>q = gl) Y3 rfl 0 _
     have hs7:Y3.heap.size ≤ W7.heap.size:=by rw [hW7];simp [World.setCell]
     have hs7b:W7.heap.size ≤ Y3.heap.size:=by rw [hW7];simp [World.setCell]
     have kT7:=HT.out.below br7 HT.out.lt
     have t7:=kT7.cell 1 (by simp)
     have lgl6:gl < W6.heap.size:=kl.lt
     have R3:=hideT (H3.out.2.2.1.kp kp7 (fun p hp e=>by have:=(H3.out.2.2.2 p hp).1;omega))
     have R2:=hideT ((H2.out.2.2.1.below (b6.trans (b3'.mono b6.size))).kp kp7 (fun p hp e=>by have:=(H2.out.2.2.2 p hp).2;have:=HGL2.out;omega))
     obtain ⟨W8,hW8⟩:∃ y,y = W7.alloc (Obj.cells #[.slice a3 n3 c3,.slice a2 n2 c2,.int .i64 (fN:Int)] 35):=⟨_,rfl⟩
     have b8:Below W7.heap.size W7 W8:=by rw [hW8];exact below_newS _ _
     have k8:Blk W8 W7.heap.size 35 [.slice a3 n3 c3,.slice a2 n2 c2,.int .i64 (fN:Int)]:=by rw [hW8];exact Blk.new _ _ _
     have br8:=br7.trans (b8.mono br7.size)
     have ROW:=hideT (own_sm (ts:=[]) HR.out (Sm.below br8) (by simp))
     have kT8:=HT.out.below br8 HT.out.lt
     have K8:=hideT k8
     have HW8:=hideT hW8
     have HW7:=hideT hW7
     have KT8:=hideT kT8
     have hz8:X2.heap.size ≤ W8.heap.size:=Nat.le_trans hbel.size br8.size
     have hb8:=b8.size
     clear hW8 k8 kT8 hW7 kT7 kp7
     go_upto_region 9 with fail
     rw [← show W7 = _ from HW7]
     go_wp2_with (first
         | (refine load_blk rfl 35 _ rfl gl rfl kl7 Tryz.underlying35 rfl (by kernel_rfl) ?_)
         | (at_builtin;(rw [← show W8 = _ from HW8];refine wpList_append_own_at _ rfl _ _ 23 rfl X2.heap.size 35 i0 (.agg #[.slice none 0 0,.slice none 0 0,.int .i64 0]) 3 56 Tryz.underlying23 hi0 hz0 hz1 hz2 rfl (by decide) (.slice a 2 cc) 2 _ rfl ROW.out ⟨W7.heap.size,0,none⟩ 1 1 [.slice a3 n3 c3,.slice a2 n2 c2,.int .i64 (fN:Int)] rfl rfl (newsB K8.out) (by intro u hu;simp at hu;rcases hu with rfl | rfl | rfl <;> rfl) (by unfold maxLen;omega) (by omega) hz8 ?_;intro v9 W9 row9 gr9 _ at9;obtain ⟨a9,c9,rfl⟩:=ownS row9;have kT9:=KT8.out.grown gr9 (HTL.out _ (by rfl));have t9:=kT9.cell 1 (by simp);have f9:=kT9.free 1)))
     have FIN:=hideT (lk_step (k:=2) HT.out HR.out HX.out HNE.out lT2 rfl hbel br8 (by have r:=row9;rw [H3.out.1,H2.out.1,HFN.out] at r;exact r) gr9 at9 H3.out.2.1 H2.out.2.1 (R3.out.below b8) (R2.out.below b8) (fun p hp=>⟨Nat.le_trans br6.size (H3.out.2.2.2 p hp).1,Nat.lt_of_lt_of_le (H3.out.2.2.2 p hp).2 (Nat.le_trans hs7 hb8)⟩) (fun p hp=>⟨Nat.le_trans b1.size (H2.out.2.2.2 p hp).1,Nat.lt_of_lt_of_le (H2.out.2.2.2 p hp).2 (Nat.le_trans (Nat.le_trans b6.size b3'.size) (Nat.le_trans hs7 hb8))⟩))
     go_roundw
     case rel=>exact ⟨3,_,a9,c9,by omega,rfl,FIN.out.1,FIN.out.2.1,FIN.out.2.2.1,FIN.out.2.2.2.1,FIN.out.2.2.2.2⟩
     case measure=>simp [intOf]
   · obtain ⟨gR,hgR⟩:∃ n,n = wr.heap.size:=⟨_,rfl⟩
     obtain ⟨W11,hW11⟩:∃ y,y = wr.alloc (Obj.cells #[.string ⟨#[52]⟩,.int .i64 0,.string ⟨#[52,53]⟩,.int .i64 1,.string ⟨#[53]⟩,.int .i64 1,.string ⟨#[52,53,57]⟩,.int .i64 0,.string ⟨#[52,53]⟩,.int .i64 0,.string ⟨#[55]⟩,.int .i64 2] 105):=⟨_,rfl⟩
     have b11:Below wr.heap.size wr W11:=by rw [hW11];exact below_newS _ _
     have kR:Blk W11 gR 105 [.string ⟨#[52]⟩,.int .i64 0,.string ⟨#[52,53]⟩,.int .i64 1,.string ⟨#[53]⟩,.int .i64 1,.string ⟨#[52,53,57]⟩,.int .i64 0,.string ⟨#[52,53]⟩,.int .i64 0,.string ⟨#[55]⟩,.int .i64 2]:=by rw [hW11,hgR];exact Blk.new _ _ _
     have kT11:=HT.out.below b11 HT.out.lt
     have t2:=kT11.cell 2 (by simp)
     have f2:=kT11.free 2
     obtain ⟨W12,hW12⟩:∃ y,y = W11.setCell ⟨gT,2,none⟩ (.slice (some ⟨gR,0,none⟩) 6 6):=⟨_,rfl⟩
     have kT12:Blk W12 gT 26 [.slice (some ⟨gM,0,none⟩) 16 16,.slice a 3 cc,.slice (some ⟨gR,0,none⟩) 6 6,.int .i64 (rm:Int)]:=by rw [hW12];exact kT11.set 2 _
     have hOX:gO < X1.heap.size:=kO1.lt
     have kO2:=kO1.below b2 hOX
     have kO3:=kO2.below hbel (Nat.lt_of_lt_of_le hOX b2.size)
     have kO4:=kO3.below b11 (Nat.lt_of_lt_of_le (Nat.lt_of_lt_of_le hOX b2.size) hbel.size)
     have hOT:gO ≠ gT:=by have:=b2.size;omega
     have kO5:Blk W12 gO 26 zeroCf:=by rw [hW12];exact kO4.other ⟨gT,2,none⟩ _ hOT
     have HW11:=hideT hW11
     have HW12:=hideT hW12
     have HGR:=hideT hgR
     rw [hW11] at t2 f2
     clear hW11 hW12 hgR kT11 kO2 kO3 kO4
     go_upto_region 11 with fail
     rw [← show W11 = _ from HW11,← show gR = _ from HGR,← show W12 = _ from HW12]
     clear t2 f2
     go_wp2_with (first
       | (refine load_blk rfl 26 _ rfl gT rfl kT12 Tryz.underlying26 rfl (by kernel_rfl) ?_)
       | (refine store_blk (cs:=[.slice (some ⟨gM,0,none⟩) 16 16,.slice a 3 cc,.slice (some ⟨gR,0,none⟩) 6 6,.int .i64 (rm:Int)]) rfl 26 _ _ rfl gO rfl rfl kO5 (by kernel_rfl) rfl (by simp [Value.oneCell']) ?_;intro w13 k13 g13 hs13))
     refine bodyPost_ret (results_blk Tryz.results17 _ _ rfl k13 Tryz.underlying26 rfl (by kernel_rfl)) rfl ⟨c,gM,a,cc,gR,hc,by rw [← HRM.out],?_,?_⟩
     all_goals have hgO2:=HGO2.out
     all_goals have kp12:Kp (fun q=>q = gT) W11 W12:=by rw [HW12.out];exact Kp.setCell (P:=fun q=>q = gT) W11 rfl 2 _
     all_goals have s12:W12.heap.size = W11.heap.size:=by rw [HW12.out];simp [World.setCell]
     all_goals have z1:=bW.size
     all_goals have z2:=gr1.size
     all_goals have z3:=b2.size
     all_goals have z4:=hbel.size
     all_goals have z5:=b11.size
     all_goals have z6:=g13.size
     · intro y hsy kpy
       refine ⟨?_,?_,?_⟩
       · have r13:=(((RM.out.below hbel).below b11).kp kp12 (fun p hp e=>by cases hp;simp only at e;omega)).kp (Kp.grown (P:=fun q=>q = gO) g13 (fun q e=>by cases e;rfl)) (fun p hp e=>by cases hp;simp only at e;omega)
         exact r13.kp kpy (fun p hp e=>by cases hp;simp only at e;omega)
       · have k1:Kp (fun q=>q < X2.heap.size ∨ q = gT ∨ (Value.slice a 3 cc).ownBlock = some q) wr w13:=((Kp.below b11).trans b11.size (kp12.weak (fun q _ e=>.inr (.inl e)))).trans (by rw [s12];exact b11.size) (Kp.grown g13 (fun q e=>by cases e;exact .inl (Nat.lt_of_lt_of_le hOX b2.size)))
         have k2:=k1.trans (by omega) (kpy.weak (Q:=fun q=>q < X2.heap.size ∨ q = gT ∨ (Value.slice a 3 cc).ownBlock = some q) (fun q _ e=>.inl (by omega)))
         have k3:Kp (fun q=>q < X2.heap.size ∨ q = gT) wr y:=(((Kp.below b11).trans b11.size (kp12.weak (fun q _ e=>.inr e))).trans (by rw [s12];exact b11.size) (Kp.grown g13 (fun q e=>by cases e;exact .inl (Nat.lt_of_lt_of_le hOX b2.size)))).trans (by omega) (kpy.weak (fun q _ e=>.inl (by omega)))
         exact HX.out.lksK k2 (by omega) (own_kp HR.out k3 (fun g hg e=>by
           rcases e with e | e
           · have:=(HR.out.lt g hg).1;omega
           · exact HNE.out (by rw [hg,e])))
       · have kR12:=kR.other ⟨gT,2,none⟩ (.slice (some ⟨gR,0,none⟩) 6 6) (by have:=HT.out.lt;have:=HGR.out;simp only;omega)
         rw [← HW12.out] at kR12
         have kR13:=kR12.grown g13 (fun e=>by cases e;have:=HGR.out;omega)
         exact rts_blk (kR13.kp kpy (by have:=HGR.out;omega))
     · have o12:W12.os = W11.os ∧ W12.tape = W11.tape ∧ W12.output = W11.output:=by rw [HW12.out];exact ⟨rfl,rfl,rfl⟩
       refine ⟨g13.os.trans (o12.1.trans (b11.os.trans (hbel.os.trans (b2.os.trans (gr1.os.trans bW.os))))),g13.tape.trans (o12.2.1.trans (b11.tape.trans (hbel.tape.trans (b2.tape.trans (gr1.tape.trans bW.tape))))),g13.output.trans (o12.2.2.trans (b11.output.trans (hbel.output.trans (b2.output.trans (gr1.output.trans bW.output))))),by omega,fun q hq hne=>?_⟩
       exact (g13.block q (by omega) (fun e=>by cases e;omega)).trans ((kp12 q (by omega) (fun e=>by omega)).trans ((b11.block q (by omega)).trans ((hbel.block q (by omega)).trans ((b2.block q (by omega)).trans ((gr1.block q (by omega) hne).trans (bW.block q hq))))))
end Go.Proofs.YtbkokcjolanpeaaGreatDoor
