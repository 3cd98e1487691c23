import Derived.Test.YtbkokcjolanpeaaGreatDoorRgH
import Derived.Test.YtbkokcjolanpeaaGreatDoorRgG
namespace Go.Proofs.YtbkokcjolanpeaaGreatDoor
open Go.RowKit
set_option maxRecDepth 100000 in
theorem tX_form:∀ n:Nat,n < 256 → bits BinOp.xor IntKind.u8 ((n:Int) * 2 % 256) ((n:Int) / 128 * 27) = ((tXN n:Nat):Int):=by decide +kernel
set_option maxRecDepth 100000 in
set_option maxHeartbeats 1000000 in
theorem mul_any (A B:Nat) (w:World) (hA:A < 256) (hB:B < 256) :
   Calls Tryz.prog 204 #[.int .u8 A,.int .u8 B] w fun e w'=>e = .returned (.int .u8 (mulN A B:Nat)) ∧ w' = w:=by
 go_enter Tryz.func204,Tryz.ntmps204
 go_wp2
 go_loopw [0,1,5,6] (fun a b p _ wr=>∃ f p' a' b':Nat,b' < 2 ^ f ∧ b' < 256 ∧ a' < 256 ∧ p' < 256 ∧ a = .int .u8 a' ∧ b = .int .u8 b' ∧ p = .int .u8 p' ∧ Hid (mulGo f p' a' b' = mulN A B) ∧ Hid (wr = w)) (fun _ b _ _ _=>(intOf b).toNat)
 case atStart=>exact ⟨8,0,A,B,hB,hB,hA,by omega,rfl,rfl,rfl,rfl,rfl⟩
 case round =>
   obtain ⟨f,p,a,b,hbf,hb8,ha8,hp8,rfl,rfl,rfl,HM,Hwr⟩:=hrel
   by_cases hb0:b = 0
   · subst hb0
     have hM:Hid (p = mulN A B):=(mulGo_zero f p a).symm.trans HM.out
     go_wp2
     go_ret
     exact ⟨ret_int (by rw [hM.out]),Hwr.out⟩
   · have hbI:(0:Int) < (b:Int):=by omega
     obtain ⟨g,rfl⟩:∃ g,f = g + 1:=by
       cases f with
       | zero=>simp at hbf;omega
       | succ g=>exact ⟨g,rfl⟩
     have hbg:b / 2 < 2 ^ g:=by rw [Nat.pow_succ] at hbf;omega
     have hb2:Value.int .u8 ((b:Int) / 2) = .int .u8 ((b / 2:Nat):Int):=by simp
     have HB:Hid (Value.int .u8 ((b:Int) / 2) = .int .u8 ((b / 2:Nat):Int)):=hb2
     clear hbf hb2
     by_cases h1:b % 2 = 1
     · obtain hbit:bits BinOp.and IntKind.u8 (b:Int) 1 = 1:=by
         have h:=u8_and_nat b 1 hb8 (by decide)
         rw [show b &&& 1 = b % 2 from Nat.and_one_is_mod b,h1] at h
         exact h
       have HM2:Hid (mulGo g (p ^^^ a) (tXN a) (b / 2) = mulN A B):=by
         have h:=HM.out
         unfold mulGo at h
         rw [if_pos h1] at h
         exact h
       obtain ⟨q,hq,hq8,Hq⟩:∃ q:Nat,bits BinOp.xor IntKind.u8 (p:Int) (a:Int) = (q:Int) ∧ q < 256 ∧ Hid (q = p ^^^ a):=⟨_,u8_xor_nat p a hp8 ha8,Nat.xor_lt_two_pow (n:=8) hp8 ha8,rfl⟩
       rw [← Hq.out] at HM2
       go_wp2
       go_roundw
       case rel =>
         refine ⟨g,q,tXN a,b / 2,hbg,by omega,tXN_lt a ha8,hq8,?_,HB.out,rfl,HM2,Hwr⟩
         refine congrArg (Value.int .u8) ?_
         exact tX_form a ha8
       case measure=>simp [intOf];omega
     · have h0:b % 2 = 0:=by omega
       obtain hbit:bits BinOp.and IntKind.u8 (b:Int) 1 = 0:=by
         have h:=u8_and_nat b 1 hb8 (by decide)
         rw [show b &&& 1 = b % 2 from Nat.and_one_is_mod b,h0] at h
         exact h
       have HM2:Hid (mulGo g p (tXN a) (b / 2) = mulN A B):=by
         have h:=HM.out
         unfold mulGo at h
         rw [if_neg h1] at h
         exact h
       go_wp2
       go_roundw
       case rel =>
         refine ⟨g,p,tXN a,b / 2,hbg,by omega,tXN_lt a ha8,hp8,?_,HB.out,rfl,HM2,Hwr⟩
         refine congrArg (Value.int .u8) ?_
         exact tX_form a ha8
       case measure=>simp [intOf];omega
theorem invGo_s1 (a k:Nat):(invGo a (k + 1)).1 = mulN (invGo a k).1 (invGo a k).1:=by rw [invGo]
theorem invGo_s2 (a k:Nat):(invGo a (k + 1)).2 = mulN (invGo a k).2 (mulN (invGo a k).1 (invGo a k).1):=by rw [invGo]
theorem invN_def (a:Nat):(invGo a 7).2 = invN a:=by rw [invN]
theorem invN_lt (a:Nat) (h:a < 256):invN a < 256:=by rw [← invN_def];exact (invGo_lt a 7 h).2
theorem hid_of {p:Prop} (h:p):Hid p:=h
set_option maxRecDepth 100000 in
set_option maxHeartbeats 400000 in
theorem inverse_any (A:Nat) (w:World) (hA:A < 256) :
   Calls Tryz.prog 207 #[.int .u8 A] w fun e w'=>e = .returned (.int .u8 (invN A:Nat)) ∧ w' = w:=by
 go_enter Tryz.func207,Tryz.ntmps207
 go_wp2
 go_loopw [0,3,4] (fun a p i wr=>∃ k:Nat,k ≤ 7 ∧ i = .int .i64 k ∧ a = .int .u8 ((invGo A k).1:Nat) ∧ p = .int .u8 ((invGo A k).2:Nat) ∧ Hid (wr = w)) (fun _ _ i _=>7 - (intOf i).toNat)
 case atStart=>exact ⟨0,by omega,rfl,rfl,rfl,rfl⟩
 case round =>
   obtain ⟨k,hk,rfl,rfl,rfl,Hwr⟩:=hrel
   have hl:=invGo_lt A k hA
   obtain ⟨x,hx⟩:∃ x,x = (invGo A k).1:=⟨_,rfl⟩
   obtain ⟨y,hy⟩:∃ y,y = (invGo A k).2:=⟨_,rfl⟩
   have H1:Hid ((invGo A (k + 1)).1 = mulN x x):=hid_of (by rw [hx,invGo_s1])
   have H2:Hid ((invGo A (k + 1)).2 = mulN y (mulN x x)):=hid_of (by rw [hx,hy,invGo_s2])
   have HY:Hid (y = (invGo A k).2):=hid_of hy
   rw [← hx,← hy] at hl ⊢
   clear hx hy
   by_cases hlt:k < 7
   · have hkI:(k:Int) < 7:=by omega
     obtain ⟨z,hz8,Hz⟩:∃ z:Nat,z < 256 ∧ Hid (z = mulN x x):=⟨mulN x x,mulN_lt x x hl.1,hid_of rfl⟩
     go_wp2_with fail
     refine (mul_any x x _ hl.1 hl.1).mono ?_
     rintro e w' ⟨rfl,rfl⟩
     rw [← Hz.out]
     go_wp2_with fail
     refine (mul_any y z _ hl.2 hz8).mono ?_
     rintro e w' ⟨rfl,rfl⟩
     go_wp2
     go_roundw
     case rel=>exact ⟨k + 1,by omega,by go_num,by rw [H1.out,Hz.out],by rw [H2.out,Hz.out],Hwr⟩
     case measure=>simp [intOf];omega
   · obtain rfl:k = 7:=by omega
     go_wp2
     go_ret
     exact ⟨ret_int (by rw [HY.out,invN_def]),Hwr.out⟩
set_option maxRecDepth 100000 in
set_option maxHeartbeats 400000 in
theorem turn_any (x k:Nat) (ki:Int) (w:World) (hx:x < 256) (hki:ki = (k:Int)) (hk:1 ≤ k) (hk4:k ≤ 4) :
   Calls Tryz.prog 208 #[.int .u8 x,.int .i64 ki] w fun e w'=>e = .returned (.int .u8 (turn8 x k:Nat)) ∧ w' = w:=by
 obtain ⟨rfl,rfl⟩ | ⟨rfl,rfl⟩ | ⟨rfl,rfl⟩ | ⟨rfl,rfl⟩:(k = 1 ∧ ki = 1) ∨ (k = 2 ∧ ki = 2) ∨ (k = 3 ∧ ki = 3) ∨ (k = 4 ∧ ki = 4):=by omega
 all_goals
   clear hk hk4 hki
   go_enter Tryz.func208,Tryz.ntmps208
   go_wp2
   go_ret
   refine ⟨ret_int ?_,rfl⟩
   revert x
   decide +kernel
theorem t8_lt (n k:Nat) (hn:n < 256):turn8 n k < 256:=by
 unfold turn8
 have hd:n / 2 ^ (8 - k) ≤ n:=Nat.div_le_self _ _
 exact Nat.or_lt_two_pow (n:=8) (by omega) (by omega)
set_option maxRecDepth 100000 in
set_option maxHeartbeats 1000000 in
theorem sub_any (n:Nat) (w:World) (hn:n < 256) :
   Calls Tryz.prog 174 #[.int .u8 n] w fun e w'=>e = .returned (.int .u8 ((subTab.getD n 0).toNat:Int)) ∧ w' = w:=by
 obtain ⟨c,hc8,Hc⟩:∃ c:Nat,c < 256 ∧ Hid (c = invN n):=⟨invN n,invN_lt n hn,hid_of rfl⟩
 have X:∀ a b:Nat,a < 256 → b < 256 → a ^^^ b < 256:=fun a b ha hb=>Nat.xor_lt_two_pow (n:=8) ha hb
 obtain ⟨t1,h1,H1⟩:∃ t:Nat,t < 256 ∧ Hid (t = turn8 c 1):=⟨turn8 c 1,t8_lt c 1 hc8,hid_of rfl⟩
 obtain ⟨t2,h2,H2⟩:∃ t:Nat,t < 256 ∧ Hid (t = turn8 c 2):=⟨turn8 c 2,t8_lt c 2 hc8,hid_of rfl⟩
 obtain ⟨t3,h3,H3⟩:∃ t:Nat,t < 256 ∧ Hid (t = turn8 c 3):=⟨turn8 c 3,t8_lt c 3 hc8,hid_of rfl⟩
 obtain ⟨t4,h4,H4⟩:∃ t:Nat,t < 256 ∧ Hid (t = turn8 c 4):=⟨turn8 c 4,t8_lt c 4 hc8,hid_of rfl⟩
 obtain ⟨y1,e1,l1,E1⟩:∃ y:Nat,bits BinOp.xor IntKind.u8 (c:Int) (t1:Int) = (y:Int) ∧ y < 256 ∧ Hid (y = c ^^^ t1):=⟨_,u8_xor_nat _ _ hc8 h1,X _ _ hc8 h1,rfl⟩
 obtain ⟨y2,e2,l2,E2⟩:∃ y:Nat,bits BinOp.xor IntKind.u8 (y1:Int) (t2:Int) = (y:Int) ∧ y < 256 ∧ Hid (y = y1 ^^^ t2):=⟨_,u8_xor_nat _ _ l1 h2,X _ _ l1 h2,rfl⟩
 obtain ⟨y3,e3,l3,E3⟩:∃ y:Nat,bits BinOp.xor IntKind.u8 (y2:Int) (t3:Int) = (y:Int) ∧ y < 256 ∧ Hid (y = y2 ^^^ t3):=⟨_,u8_xor_nat _ _ l2 h3,X _ _ l2 h3,rfl⟩
 obtain ⟨y4,e4,l4,E4⟩:∃ y:Nat,bits BinOp.xor IntKind.u8 (y3:Int) (t4:Int) = (y:Int) ∧ y < 256 ∧ Hid (y = y3 ^^^ t4):=⟨_,u8_xor_nat _ _ l3 h4,X _ _ l3 h4,rfl⟩
 obtain ⟨y5,e5,E5⟩:∃ y:Nat,bits BinOp.xor IntKind.u8 (y4:Int) 99 = (y:Int) ∧ Hid (y = (subTab.getD n 0).toNat):=by
   refine ⟨_,u8_xor_nat y4 99 l4 (by decide),?_⟩
   refine hid_of ?_
   rw [← sub_aff n hn,← Hc.out,E4.out,E3.out,E2.out,E1.out,H1.out,H2.out,H3.out,H4.out,affN]
 clear X
 go_enter Tryz.func174,Tryz.ntmps174
 go_wp2_with fail
 refine (inverse_any n _ hn).mono ?_
 rintro e w' ⟨rfl,rfl⟩
 rw [← Hc.out]
 go_wp2_with fail
 refine (turn_any c 1 _ _ hc8 rfl (by omega) (by omega)).mono ?_
 rintro e w' ⟨rfl,rfl⟩
 rw [← H1.out]
 go_wp2_with fail
 refine (turn_any c 2 _ _ hc8 rfl (by omega) (by omega)).mono ?_
 rintro e w' ⟨rfl,rfl⟩
 rw [← H2.out]
 go_wp2_with fail
 refine (turn_any c 3 _ _ hc8 rfl (by omega) (by omega)).mono ?_
 rintro e w' ⟨rfl,rfl⟩
 rw [← H3.out]
 go_wp2_with fail
 refine (turn_any c 4 _ _ hc8 rfl (by omega) (by omega)).mono ?_
 rintro e w' ⟨rfl,rfl⟩
 rw [← H4.out]
 go_wp2
 go_ret
 exact ⟨ret_int (by rw [E5.out]),rfl⟩
def encGo (K:Nat → List UInt8) (b:List UInt8):Nat → List UInt8
 | 0=>xorL b (K 0)
 | r + 1=>xorL (mixCols mixT (turnL 1 (encGo K b r))) (K (r + 1))
def encL (K:Nat → List UInt8) (b:List UInt8):List UInt8:=xorL ((turnL 1 (encGo K b 9)).map subB) (K 10)
def decGo (K:Nat → List UInt8) (b:List UInt8):Nat → List UInt8
 | 0=>(turnL 3 (xorL b (K 10))).map unsubB
 | k + 1=>(turnL 3 (mixCols unmixT (xorL (decGo K b k) (K (9 - k))))).map unsubB
def decL (K:Nat → List UInt8) (b:List UInt8):List UInt8:=xorL (decGo K b 9) (K 0)
theorem encGo_length (K:Nat → List UInt8) (b:List UInt8) (hb:b.length = 16) (hK:∀ r,(K r).length = 16) (r:Nat):(encGo K b r).length = 16:=by
 cases r with
 | zero=>show (xorL b (K 0)).length = 16;rw [xorL_length _ _ (by rw [hb,hK]),hb]
 | succ r=>show (xorL (mixCols mixT (turnL 1 (encGo K b r))) (K (r + 1))).length = 16;rw [xorL_length _ _ (by rw [mixCols_length,hK]),mixCols_length]
theorem encL_length (K:Nat → List UInt8) (b:List UInt8) (hK:∀ r,(K r).length = 16):(encL K b).length = 16:=by
 unfold encL
 rw [xorL_length _ _ (by rw [List.length_map,turnL_length,hK]),List.length_map,turnL_length]
theorem decGo_length (K:Nat → List UInt8) (b:List UInt8) (r:Nat):(decGo K b r).length = 16:=by
 cases r <;> simp [decGo,turnL_length]
theorem decL_length (K:Nat → List UInt8) (b:List UInt8) (hK:∀ r,(K r).length = 16):(decL K b).length = 16:=by
 unfold decL
 rw [xorL_length _ _ (by rw [decGo_length,hK]),decGo_length]
def tailW (m:Nat) (w:List UInt8):List UInt8 :=
 if m % 4 = 0 then [subB (w.getD (4 * m + 13) 0) ^^^ powB (m / 4),subB (w.getD (4 * m + 14) 0),subB (w.getD (4 * m + 15) 0),subB (w.getD (4 * m + 12) 0)]
 else (w.drop (4 * m + 12)).take 4
def wordsGo (key:List UInt8):Nat → List UInt8
 | 0=>key
 | m + 1=>wordsGo key m ++ xorL (((wordsGo key m).drop (4 * m)).take 4) (tailW m (wordsGo key m))
theorem tailW_length (m:Nat) (w:List UInt8) (h:w.length = 16 + 4 * m):(tailW m w).length = 4:=by
 unfold tailW
 split
 · rfl
 · simp;omega
theorem wordsGo_length (key:List UInt8) (h:key.length = 16) (m:Nat):(wordsGo key m).length = 16 + 4 * m:=by
 induction m with
 | zero=>exact h
 | succ m ih =>
   show (wordsGo key m ++ xorL (((wordsGo key m).drop (4 * m)).take 4) (tailW m (wordsGo key m))).length = _
   have e:(((wordsGo key m).drop (4 * m)).take 4).length = 4:=by simp;omega
   rw [List.length_append,xorL_length _ _ (by rw [e,tailW_length m _ ih]),e,ih]
   omega
theorem sixteenL (l:List UInt8) (h:l.length = 16):∃ a0 a1 a2 a3 a4 a5 a6 a7 a8 a9 a10 a11 a12 a13 a14 a15,l = [a0,a1,a2,a3,a4,a5,a6,a7,a8,a9,a10,a11,a12,a13,a14,a15]:=by
 match l,h with
 | [a0,a1,a2,a3,a4,a5,a6,a7,a8,a9,a10,a11,a12,a13,a14,a15],_=>exact ⟨a0,a1,a2,a3,a4,a5,a6,a7,a8,a9,a10,a11,a12,a13,a14,a15,rfl⟩
theorem words_next (key pre l:List UInt8) (r:Nat) (hp:pre.length = 16 * r) (hl:l.length = 16) (h:wordsGo key (4 * r) = pre ++ l):wordsGo key (4 * r + 4) = pre ++ l ++ nextK (powB r) l:=by
 obtain ⟨a0,a1,a2,a3,a4,a5,a6,a7,a8,a9,a10,a11,a12,a13,a14,a15,rfl⟩:=sixteenL l hl
 have g:∀ (x:List UInt8) (k:Nat),(pre ++ x).getD (16 * r + k) 0 = x.getD k 0:=by
   intro x k
   rw [← hp]
   rw [List.getD_eq_getElem?_getD,List.getD_eq_getElem?_getD,List.getElem?_append_right (by omega),show pre.length + k - pre.length = k from by omega]
 have d:∀ (x:List UInt8) (k:Nat),(pre ++ x).drop (16 * r + k) = x.drop k:=by
   intro x k
   rw [← hp]
   simp [List.drop_append]
 have e0:(4 * r) % 4 = 0:=by omega
 have e1:¬ (4 * r + 1) % 4 = 0:=by omega
 have e2:¬ (4 * r + 2) % 4 = 0:=by omega
 have e3:¬ (4 * r + 3) % 4 = 0:=by omega
 have e4:4 * r / 4 = r:=by omega
 obtain ⟨n,hn⟩:∃ n,n = nextK (powB r) [a0,a1,a2,a3,a4,a5,a6,a7,a8,a9,a10,a11,a12,a13,a14,a15]:=⟨_,rfl⟩
 have s1:wordsGo key (4 * r + 1) = pre ++ ([a0,a1,a2,a3,a4,a5,a6,a7,a8,a9,a10,a11,a12,a13,a14,a15] ++ n.take 4):=by
   show wordsGo key (4 * r) ++ xorL (((wordsGo key (4 * r)).drop (4 * (4 * r))).take 4) (tailW (4 * r) (wordsGo key (4 * r))) = _
   rw [h]
   unfold tailW
   rw [if_pos e0,e4]
   rw [show 4 * (4 * r) + 13 = 16 * r + 13 from by omega,show 4 * (4 * r) + 14 = 16 * r + 14 from by omega,show 4 * (4 * r) + 15 = 16 * r + 15 from by omega,show 4 * (4 * r) + 12 = 16 * r + 12 from by omega,show 4 * (4 * r) = 16 * r + 0 from by omega,g,g,g,g,d]
   rw [List.append_assoc,hn]
   congr 2
   simp [nextK,wordAt,word0,xorL,List.range_succ,UInt8.xor_comm]
 have s2:wordsGo key (4 * r + 2) = pre ++ ([a0,a1,a2,a3,a4,a5,a6,a7,a8,a9,a10,a11,a12,a13,a14,a15] ++ n.take 8):=by
   show wordsGo key (4 * r + 1) ++ xorL (((wordsGo key (4 * r + 1)).drop (4 * (4 * r + 1))).take 4) (tailW (4 * r + 1) (wordsGo key (4 * r + 1))) = _
   rw [s1]
   unfold tailW
   rw [if_neg e1,show 4 * (4 * r + 1) + 12 = 16 * r + 16 from by omega,show 4 * (4 * r + 1) = 16 * r + 4 from by omega,d,d]
   rw [List.append_assoc,List.append_assoc,hn]
   congr 2
   simp [nextK,wordAt,word0,xorL,List.range_succ,UInt8.xor_comm]
 have s3:wordsGo key (4 * r + 3) = pre ++ ([a0,a1,a2,a3,a4,a5,a6,a7,a8,a9,a10,a11,a12,a13,a14,a15] ++ n.take 12):=by
   show wordsGo key (4 * r + 2) ++ xorL (((wordsGo key (4 * r + 2)).drop (4 * (4 * r + 2))).take 4) (tailW (4 * r + 2) (wordsGo key (4 * r + 2))) = _
   rw [s2]
   unfold tailW
   rw [if_neg e2,show 4 * (4 * r + 2) + 12 = 16 * r + 20 from by omega,show 4 * (4 * r + 2) = 16 * r + 8 from by omega,d,d]
   rw [List.append_assoc,List.append_assoc,hn]
   congr 2
   simp [nextK,wordAt,word0,xorL,List.range_succ,UInt8.xor_comm]
 show wordsGo key (4 * r + 3) ++ xorL (((wordsGo key (4 * r + 3)).drop (4 * (4 * r + 3))).take 4) (tailW (4 * r + 3) (wordsGo key (4 * r + 3))) = _
 rw [s3]
 unfold tailW
 rw [if_neg e3,show 4 * (4 * r + 3) + 12 = 16 * r + 24 from by omega,show 4 * (4 * r + 3) = 16 * r + 12 from by omega,d,d]
 rw [List.append_assoc,List.append_assoc,List.append_assoc,hn]
 congr 2
 simp [nextK,wordAt,word0,xorL,List.range_succ,UInt8.xor_comm]
def keysL (key:List UInt8):List UInt8:=wordsGo key 40
theorem keysL_length (key:List UInt8) (h:key.length = 16):(keysL key).length = 176:=wordsGo_length key h 40
def keysUpto (key:List UInt8):Nat → List UInt8
 | 0=>[]
 | r + 1=>keysUpto key r ++ keyR key r
theorem keysUpto_length (key:List UInt8) (h:key.length = 16) (r:Nat):(keysUpto key r).length = 16 * r:=by
 induction r with
 | zero=>rfl
 | succ r ih=>show (keysUpto key r ++ keyR key r).length = _;rw [List.length_append,ih,keyR_length key h];omega
theorem words_keys (key:List UInt8) (h:key.length = 16) (r:Nat):wordsGo key (4 * r) = keysUpto key r ++ keyR key r:=by
 induction r with
 | zero=>rfl
 | succ r ih =>
   rw [show 4 * (r + 1) = 4 * r + 4 from by omega,words_next key _ _ r (keysUpto_length key h r) (keyR_length key h r) ih]
   rfl
theorem keysL_eq (key:List UInt8) (h:key.length = 16):keysL key = keysUpto key 11:=words_keys key h 10
theorem keysUpto_at (key:List UInt8) (h:key.length = 16) (n r:Nat) (hr:r < n):((keysUpto key n).drop (16 * r)).take 16 = keyR key r:=by
 induction n with
 | zero=>omega
 | succ n ih =>
   show ((keysUpto key n ++ keyR key n).drop (16 * r)).take 16 = keyR key r
   have hl:=keysUpto_length key h n
   by_cases e:r = n
   · subst e
     rw [← hl,List.drop_left,List.take_of_length_le (by rw [keyR_length key h];exact Nat.le_refl _)]
   · rw [List.drop_append_of_le_length (by omega),List.take_append_of_le_length (by simp;omega)]
     exact ih (by omega)
theorem keysL_at (key:List UInt8) (h:key.length = 16) (r:Nat) (hr:r < 11):((keysL key).drop (16 * r)).take 16 = keyR key r:=by
 rw [keysL_eq key h];exact keysUpto_at key h 11 r hr
theorem encGo_step (K:Nat → List UInt8) (b:List UInt8) (hb:b.length = 16) (hK:∀ r,(K r).length = 16) (r:Nat):encGo K b (r + 1) = xorL (mixS rowE (turnL 1 ((encGo K b r).map subB))) (K (r + 1)):=by
 show xorL (mixCols mixT (turnL 1 (encGo K b r))) (K (r + 1)) = _
 rw [mixCols_eq _ (turnL_length _ _),turnL_map subB 1 _ (encGo_length K b hb hK r)]
theorem encL_step (K:Nat → List UInt8) (b:List UInt8) (hb:b.length = 16) (hK:∀ r,(K r).length = 16):encL K b = xorL (turnL 1 ((encGo K b 9).map subB)) (K 10):=by
 unfold encL
 rw [turnL_map subB 1 _ (encGo_length K b hb hK 9)]
theorem decGo_step (K:Nat → List UInt8) (b:List UInt8) (hK:∀ r,(K r).length = 16) (k:Nat):decGo K b (k + 1) = (turnL 3 (mixS rowD (xorL (decGo K b k) (K (9 - k))))).map unsubB:=by
 show (turnL 3 (mixCols unmixT (xorL (decGo K b k) (K (9 - k))))).map unsubB = _
 rw [unmix_eq _ (by rw [xorL_length _ _ (by rw [decGo_length,hK]),decGo_length])]
set_option maxRecDepth 100000 in
theorem inv_sub:∀ k:Nat,k < 256 → (invTab.getD (subTab.getD k 0).toNat 0).toNat = k:=by decide +kernel
theorem row_cell {w wr:World} {b off:Nat} {s:List UInt8} (hc:∀ i,i < s.length → w.cell? ⟨b,off + i,none⟩ = some (.int .u8 ((s.getD i 0).toNat:Int))) (hbel:Below w.heap.size w wr) (j:Nat) (hj:j < s.length):wr.cell? ⟨b,off + j,none⟩ = some (.int .u8 ((s.getD j 0).toNat:Int)) :=
 (hbel.cell (RowAt.lt hc hj)).trans (hc j hj)
set_option maxRecDepth 100000 in
set_option maxHeartbeats 1000000 in
theorem shift_any (bt:Nat) (bi:Int) (s:List UInt8) (b off cap:Nat) (w:World) (hb13:bt = 1 ∨ bt = 3) (hbi:bi = (bt:Int)) (hs:s.length = 16) (hc:∀ i,i < s.length → w.cell? ⟨b,off + i,none⟩ = some (.int .u8 ((s.getD i 0).toNat:Int))) :
   Calls Tryz.prog 175 #[.slice (some ⟨b,off,none⟩) 16 cap,.int .i64 bi] w fun e w'=>e = .returned (.slice (some ⟨w.heap.size,0,none⟩) 16 16) ∧ Blk w' w.heap.size 5 ((turnL bt s).map byte) ∧ Below w.heap.size w w':=by
 subst hbi
 obtain ⟨i0,hi,hz0,hz1,hz2⟩:=info_parts Tryz.info5
 have Hc:=hid_of hc
 clear hc
 go_enter Tryz.func175,Tryz.ntmps175
 go_wp2_with (at_make;refine wpList_make_full _ rfl _ _ 22 rfl w.heap.size 5 i0 (.int .u8 0) 1 Tryz.underlying22 hi hz0 hz1 .i64 .i64 _ _ 16 rfl rfl rfl rfl (by rw [hz2];omega) (by unfold maxLen;omega) (Nat.le_refl _) ?_;intro w0 hown0 hgrow0)
 have hb0:=own_blk hown0
 rw [made_zero,show List.replicate 16 (Value.int .u8 0) = upTo (tuC bt s) (.int .u8 0) 16 0 from (upTo_zero _ _ _).symm] at hb0
 have hbl0:=below_of_grown hgrow0
 clear hown0 hgrow0
 go_loopw [6,7] (fun i _ wr=>∃ c:Nat,c ≤ 4 ∧ i = .int .i64 c ∧ Blk wr w.heap.size 5 (upTo (tuC bt s) (.int .u8 0) 16 (4 * c)) ∧ Below w.heap.size w wr) (fun i _ _=>4 - (intOf i).toNat)
 case atStart=>exact ⟨0,by omega,rfl,hb0,hbl0⟩
 case round =>
   clear hb0 hbl0
   obtain ⟨c,hc4,rfl,hb,hbel⟩:=hrel
   by_cases hlt:c < 4
   · have hcI:(c:Int) < 4:=by omega
     go_wp2
     go_loopw [7] (fun i wr=>∃ k:Nat,k ≤ 4 ∧ i = .int .i64 k ∧ Blk wr w.heap.size 5 (upTo (tuC bt s) (.int .u8 0) 16 (4 * c + k)) ∧ Below w.heap.size w wr) (fun i _=>4 - (intOf i).toNat)
     case atStart=>exact ⟨0,by omega,rfl,hb,hbel⟩
     case round =>
       clear hb hbel
       obtain ⟨k,hk4,rfl,hb,hbel⟩:=hrel
       by_cases hkl:k < 4
       · obtain ⟨m1,hm1,Hm1⟩:∃ m:Nat,IntKind.i64.wrap (4 * (c:Int)) = (m:Int) ∧ Hid (m = 4 * c):=⟨4 * c,by rw [IntKind.wrap_i64];omega,rfl⟩
         obtain ⟨a1,ha1,ha16,ha16I,Ha1⟩:∃ m:Nat,IntKind.i64.wrap ((m1:Int) + (k:Int)) = (m:Int) ∧ m < 16 ∧ (m:Int) < 16 ∧ Hid (m = 4 * c + k):=⟨4 * c + k,by have:=Hm1.out;rw [IntKind.wrap_i64];omega,by omega,by omega,rfl⟩
         obtain ⟨q,hq,hq9,Hq⟩:∃ m:Nat,IntKind.i64.wrap ((bt:Int) * (k:Int)) = (m:Int) ∧ m ≤ 9 ∧ Hid (m = bt * k):=by
           have h:=Nat.mul_le_mul (show bt ≤ 3 by omega) (show k ≤ 3 by omega)
           have e:(bt:Int) * (k:Int) = ((bt * k:Nat):Int):=by simp
           exact ⟨bt * k,by rw [e,IntKind.wrap_i64];omega,h,rfl⟩
         obtain ⟨a2,ha2,Ha2⟩:∃ m:Nat,IntKind.i64.wrap ((c:Int) + (q:Int)) = (m:Int) ∧ Hid (m = c + q):=⟨c + q,by rw [IntKind.wrap_i64];omega,rfl⟩
         obtain ⟨r,hr,hr4,Hr⟩:∃ r:Nat,Int.tmod (a2:Int) 4 = (r:Int) ∧ r < 4 ∧ Hid (r = a2 % 4):=⟨a2 % 4,by rw [Int.tmod_eq_emod_of_nonneg (by omega)];omega,by omega,rfl⟩
         obtain ⟨m3,hm3,Hm3⟩:∃ m:Nat,IntKind.i64.wrap (4 * (r:Int)) = (m:Int) ∧ Hid (m = 4 * r):=⟨4 * r,by rw [IntKind.wrap_i64];omega,rfl⟩
         obtain ⟨a3,ha3,ha3l,ha3I,Ha3⟩:∃ m:Nat,IntKind.i64.wrap ((m3:Int) + (k:Int)) = (m:Int) ∧ m < 16 ∧ (m:Int) < 16 ∧ Hid (m = 4 * r + k):=⟨4 * r + k,by have:=Hm3.out;rw [IntKind.wrap_i64];omega,by omega,by omega,rfl⟩
         obtain ⟨y,Hy⟩:∃ y:Nat,Hid (y = (s.getD a3 0).toNat):=⟨_,rfl⟩
         have hcell:wr.cell? ⟨b,off + a3,none⟩ = some (.int .u8 (y:Int)):=by rw [row_cell Hc.out hbel a3 (by omega),Hy.out]
         have hf:=hb.free a1
         obtain ⟨u,hu⟩:∃ u,wr.cell? ⟨w.heap.size,a1,none⟩ = some u:=⟨_,hb.cell a1 (by rw [upTo_length];exact ha16)⟩
         have hst:=hb.set (4 * c + k) (tuC bt s (4 * c + k))
         rw [upTo_set,← Ha1.out] at hst
         have HV:Hid (Value.int .u8 (y:Int) = tuC bt s a1):=by
           show Value.int .u8 _ = Value.int .u8 _
           have e1:(4 * c + k) / 4 = c:=by omega
           have e2:(4 * c + k) % 4 = k:=by omega
           have h:=turn_at bt (4 * c + k) hb13 (by omega)
           rw [e1,e2] at h
           rw [Hy.out,Ha3.out,Hr.out,Ha2.out,Hq.out,Ha1.out,e2,h]
         have hkI:(k:Int) < 4:=by omega
         go_wp2
         go_roundw
         case rel =>
           rw [HV.out]
           exact ⟨k + 1,by omega,by go_num,by rw [show 4 * c + (k + 1) = a1 + 1 from by rw [Ha1.out];omega];exact hst,hbel.setCell (Nat.le_refl _) _⟩
         case measure=>simp [intOf];omega
       · obtain rfl:k = 4:=by omega
         go_wp2
         go_roundw
         case rel=>exact ⟨c + 1,by omega,by go_num,by rw [show 4 * (c + 1) = 4 * c + 4 from by omega];exact hb,hbel⟩
         case measure=>simp [intOf];omega
   · obtain rfl:c = 4:=by omega
     have e:(List.range 16).map (tuC bt s) = (turnL bt s).map byte:=by
       unfold turnL tuC
       rw [List.map_map]
       rfl
     rw [show 4 * 4 = 16 from rfl,upTo_all,e] at hb
     go_wp2
     go_ret
     exact ⟨rfl,hb,hbel⟩
def muC (row s:List UInt8) (j:Nat):Value:=byte (mulSum row s (j / 4) (j % 4) 4)
theorem upTo_same (f:Nat → Value) (z:Value) (n k:Nat) (hk:k < n):(upTo f z n k).set k z = upTo f z n k:=by
 apply List.ext_getElem?
 intro i
 rw [List.getElem?_set]
 by_cases hi:k = i
 · subst hi
   simp [upTo,hk]
 · rw [if_neg hi]
set_option maxRecDepth 100000 in
set_option maxHeartbeats 2000000 in
theorem mixS_any (row s:List UInt8) (b off cap b2 off2 cap2:Nat) (w:World) (hs:s.length = 16) (hrl:row.length = 4) (hc:∀ i,i < s.length → w.cell? ⟨b,off + i,none⟩ = some (.int .u8 ((s.getD i 0).toNat:Int))) (hc2:∀ i,i < row.length → w.cell? ⟨b2,off2 + i,none⟩ = some (.int .u8 ((row.getD i 0).toNat:Int))) :
   Calls Tryz.prog 176 #[.slice (some ⟨b,off,none⟩) 16 cap,.slice (some ⟨b2,off2,none⟩) 4 cap2] w fun e w'=>e = .returned (.slice (some ⟨w.heap.size,0,none⟩) 16 16) ∧ Blk w' w.heap.size 5 ((mixS row s).map byte) ∧ Below w.heap.size w w':=by
 obtain ⟨i0,hi,hz0,hz1,hz2⟩:=info_parts Tryz.info5
 have Hc:=hid_of hc
 have Hc2:=hid_of hc2
 clear hc hc2
 go_enter Tryz.func176,Tryz.ntmps176
 go_wp2_with (at_make;refine wpList_make_full _ rfl _ _ 22 rfl w.heap.size 5 i0 (.int .u8 0) 1 Tryz.underlying22 hi hz0 hz1 .i64 .i64 _ _ 16 rfl rfl rfl rfl (by rw [hz2];omega) (by unfold maxLen;omega) (Nat.le_refl _) ?_;intro w0 hown0 hgrow0)
 have hb0:=own_blk hown0
 rw [made_zero,show List.replicate 16 (Value.int .u8 0) = upTo (muC row s) (.int .u8 0) 16 0 from (upTo_zero _ _ _).symm] at hb0
 have hbl0:=below_of_grown hgrow0
 clear hown0 hgrow0
 go_loopw [6,7,8] (fun i _ _ wr=>∃ c:Nat,c ≤ 4 ∧ i = .int .i64 c ∧ Blk wr w.heap.size 5 (upTo (muC row s) (.int .u8 0) 16 (4 * c)) ∧ Below w.heap.size w wr) (fun i _ _ _=>4 - (intOf i).toNat)
 case atStart=>exact ⟨0,by omega,rfl,hb0,hbl0⟩
 case round =>
   clear hb0 hbl0
   obtain ⟨c,hc4,rfl,hb,hbel⟩:=hrel
   by_cases hlt:c < 4
   · have hcI : (c:Int) < 4:=by omega
     go_wp2
     go_loopw [7,8] (fun i _ wr=>∃ k:Nat,k ≤ 4 ∧ i = .int .i64 k ∧ Blk wr w.heap.size 5 (upTo (muC row s) (.int .u8 0) 16 (4 * c + k)) ∧ Below w.heap.size w wr) (fun i _ _=>4 - (intOf i).toNat)
     case atStart=>exact ⟨0,by omega,rfl,hb,hbel⟩
     case round =>
       clear hb hbel
       obtain ⟨i,hi4,rfl,hb,hbel⟩:=hrel
       by_cases hil:i < 4
       · have hiI:(i:Int) < 4:=by omega
         obtain ⟨m1,hm1,Hm1⟩:∃ m:Nat,IntKind.i64.wrap (4 * (c:Int)) = (m:Int) ∧ Hid (m = 4 * c):=⟨4 * c,by rw [IntKind.wrap_i64];omega,rfl⟩
         obtain ⟨a1,ha1,ha16,ha16I,Ha1⟩:∃ m:Nat,IntKind.i64.wrap ((m1:Int) + (i:Int)) = (m:Int) ∧ m < 16 ∧ (m:Int) < 16 ∧ Hid (m = 4 * c + i):=⟨4 * c + i,by have:=Hm1.out;rw [IntKind.wrap_i64];omega,by omega,by omega,rfl⟩
         rw [← Ha1.out] at hb
         go_wp2
         go_loopw [8] (fun q wr=>∃ k:Nat,k ≤ 4 ∧ q = .int .i64 k ∧ Blk wr w.heap.size 5 ((upTo (muC row s) (.int .u8 0) 16 a1).set a1 (byte (mulSum row s c i k))) ∧ Below w.heap.size w wr) (fun q _=>4 - (intOf q).toNat)
         case atStart=>exact ⟨0,by omega,rfl,by rw [show byte (mulSum row s c i 0) = .int .u8 0 from rfl,upTo_same _ _ _ _ ha16];exact hb,hbel⟩
         case round =>
           clear hb hbel
           obtain ⟨k,hk4,rfl,hb,hbel⟩:=hrel
           by_cases hkl:k < 4
           · have hkI:(k:Int) < 4:=by omega
             obtain ⟨a2,ha2,ha2l,ha2I,Ha2⟩:∃ m:Nat,IntKind.i64.wrap ((m1:Int) + (k:Int)) = (m:Int) ∧ m < 16 ∧ (m:Int) < 16 ∧ Hid (m = 4 * c + k):=⟨4 * c + k,by have:=Hm1.out;rw [IntKind.wrap_i64];omega,by omega,by omega,rfl⟩
             obtain ⟨d,hd,Hd⟩:∃ d:Int,IntKind.i64.wrap ((k:Int) - (i:Int)) = d ∧ Hid (d = (k:Int) - (i:Int)):=⟨(k:Int) - (i:Int),by rw [IntKind.wrap_i64];omega,rfl⟩
             obtain ⟨e,he,He⟩:∃ e:Nat,IntKind.i64.wrap (d + 4) = (e:Int) ∧ Hid (e = k + 4 - i):=⟨k + 4 - i,by have:=Hd.out;rw [IntKind.wrap_i64];omega,rfl⟩
             obtain ⟨r,hr,hr4,hrI,Hr⟩:∃ r:Nat,Int.tmod (e:Int) 4 = (r:Int) ∧ r < 4 ∧ (r:Int) < 4 ∧ Hid (r = (k + 4 - i) % 4):=⟨e % 4,by rw [Int.tmod_eq_emod_of_nonneg (by omega)];omega,by omega,by omega,by show e % 4 = _;rw [He.out]⟩
             obtain ⟨x,hx8,Hx⟩:∃ y:Nat,y < 256 ∧ Hid (y = (s.getD (4 * c + k) 0).toNat):=⟨_,UInt8.toNat_lt _,rfl⟩
             obtain ⟨y,hy8,Hy⟩:∃ y:Nat,y < 256 ∧ Hid (y = (row.getD ((k + 4 - i) % 4) 0).toNat):=⟨_,UInt8.toNat_lt _,rfl⟩
             obtain ⟨o,ho8,Ho⟩:∃ y:Nat,y < 256 ∧ Hid (y = (mulSum row s c i k).toNat):=⟨_,UInt8.toNat_lt _,rfl⟩
             have hcs:wr.cell? ⟨b,off + a2,none⟩ = some (.int .u8 (x:Int)):=by rw [row_cell Hc.out hbel a2 (by omega),Hx.out,Ha2.out]
             have hcr:wr.cell? ⟨b2,off2 + r,none⟩ = some (.int .u8 (y:Int)):=by rw [row_cell Hc2.out hbel r (by omega),Hy.out,Hr.out]
             have hco:wr.cell? ⟨w.heap.size,a1,none⟩ = some (.int .u8 (o:Int)):=by
               rw [hb.cell a1 (by rw [List.length_set,upTo_length];exact ha16),List.getElem_set_self,Ho.out];rfl
             have hf:=hb.free a1
             have hst:=hb.set a1 (byte (mulSum row s c i (k + 1)))
             rw [List.set_set] at hst
             have hml:=mulN_lt x y hx8
             obtain ⟨z,hz,Hz⟩:∃ z:Nat,bits BinOp.xor IntKind.u8 (o:Int) ((mulN x y:Nat):Int) = (z:Int) ∧ Hid (Value.int .u8 (z:Int) = byte (mulSum row s c i (k + 1))):=by
               refine ⟨_,u8_xor_nat o _ ho8 hml,hid_of ?_⟩
               show Value.int .u8 _ = Value.int .u8 _
               show Value.int .u8 _ = Value.int .u8 (((mulSum row s c i k ^^^ mulB (s.getD (4 * c + k) 0) (row.getD ((k + 4 - i) % 4) 0)).toNat:Nat):Int)
               rw [UInt8.toNat_xor,mulB_nat,← Hx.out,← Hy.out,← Ho.out]
             clear hb
             go_wp2
             go_region_with (go_at_call 204;refine (mul_any x y _ hx8 hy8).mono ?_;rintro e w' ⟨rfl,rfl⟩)
             all_goals
               go_wp2
               all_goals
                 go_roundw
                 case rel =>
                   rw [Hz.out]
                   exact ⟨k + 1,by omega,by go_num,hst.drew1,(hbel.setCell (Nat.le_refl _) _).drew⟩
                 case measure=>simp [intOf];omega
           · obtain rfl:k = 4:=by omega
             have e:byte (mulSum row s c i 4) = muC row s a1:=by
               unfold muC
               rw [Ha1.out,show (4 * c + i) / 4 = c from by omega,show (4 * c + i) % 4 = i from by omega]
             rw [e,upTo_set] at hb
             clear e
             go_wp2
             go_roundw
             case rel=>exact ⟨i + 1,by omega,by go_num,by rw [show 4 * c + (i + 1) = a1 + 1 from by rw [Ha1.out];omega];exact hb,hbel⟩
             case measure=>simp [intOf];omega
       · obtain rfl:i = 4:=by omega
         go_wp2
         go_roundw
         case rel=>exact ⟨c + 1,by omega,by go_num,by rw [show 4 * (c + 1) = 4 * c + 4 from by omega];exact hb,hbel⟩
         case measure=>simp [intOf];omega
   · obtain rfl:c = 4:=by omega
     have e:(List.range 16).map (muC row s) = (mixS row s).map byte:=by
       unfold mixS muC
       rw [List.map_map]
       rfl
     rw [show 4 * 4 = 16 from rfl,upTo_all,e] at hb
     go_wp2
     go_ret
     exact ⟨rfl,hb,hbel⟩
theorem RowAt.mid {w:World} {g n:Nat} {l:List UInt8} (h:RowAt w (some ⟨g,0,none⟩) l) (k:Nat):RowAt w (some ⟨g,k,none⟩) ((l.drop k).take n):=by
 have:=(h.drop k).take n
 rwa [Nat.zero_add] at this
def subI (n:Nat):Nat:=(subTab.getD n 0).toNat
theorem subI_lt (n:Nat):subI n < 256:=UInt8.toNat_lt _
theorem sub_I (n:Nat) (w:World) (hn:n < 256):Calls Tryz.prog 174 #[.int .u8 n] w fun e w'=>e = .returned (.int .u8 (subI n:Nat)) ∧ w' = w:=sub_any n w hn
theorem app_own {w1:World} {base:Nat} {v1:Value} {l x:List UInt8} {n:Nat} (hn:l.length = n) (hx:x.length = 4) (h:w1.ownsRow base 5 1 v1 (n + 4) (l.map byte ++ x.map byte)):OwnB w1 base v1 (l ++ x):=by
 unfold OwnB
 rw [List.map_append,List.length_append,hn,hx]
 exact h
theorem pow_next (m:Nat) (h:m % 4 = 0):powB ((m + 1 + 3) / 4) = tXB (powB ((m + 3) / 4)):=by
 rw [show (m + 1 + 3) / 4 = (m + 3) / 4 + 1 from by omega]
 rfl
set_option maxRecDepth 100000 in
set_option maxHeartbeats 4000000 in
theorem words_any (ao:Option Addr) (ca:Nat) (key:List UInt8) (w:World) (hk:key.length = 16) (hr:RowAt w ao key) :
   Calls Tryz.prog 172 #[.slice ao 16 ca] w fun e w'=>∃ v,e = .returned v ∧ OwnB w' w.heap.size v (keysL key) ∧ Below w.heap.size w w':=by
 obtain ⟨i0,hi0,hz0,hz1,hz2⟩:=info_parts Tryz.info5
 have HB:=hid_of (fun (wx:World) (h:RowAt wx ao key)=>bytes_any ao ca key wx (by omega) (by omega) h)
 rw [hk] at HB
 go_enter Tryz.func172,Tryz.ntmps172
 go_wp2_with fail
 refine (HB.out _ hr).mono ?_
 rintro e w1 ⟨rfl,own1,bel1⟩
 clear HB
 go_wp2
 go_loopw [3,4,5,6] (fun v p i _ wr=>∃ m:Nat,m ≤ 40 ∧ i = .int .i64 ((m + 4:Nat):Int) ∧ p = .int .u8 ((powB ((m + 3) / 4)).toNat:Int) ∧ OwnB wr w.heap.size v (wordsGo key m) ∧ Below w.heap.size w wr) (fun _ _ i _ _=>44 - (intOf i).toNat)
 case atStart=>exact ⟨0,by omega,rfl,rfl,by show w1.ownsRow _ _ 1 _ key.length _;rw [hk];exact own_num own1 hk,bel1⟩
 case round =>
   clear own1 bel1
   obtain ⟨m,hm,rfl,rfl,hown,hbel⟩:=hrel
   have hwl:=wordsGo_length key hk m
   by_cases hlt:m < 40
   · obtain ⟨I,hI,hI44,HI⟩:∃ I:Nat,m + 4 = I ∧ I < 44 ∧ Hid (I = m + 4):=⟨_,rfl,by omega,rfl⟩
     rw [hI]
     obtain ⟨P,hP,hP8,HP⟩:∃ P:Nat,(powB ((m + 3) / 4)).toNat = P ∧ P < 256 ∧ Hid (P = (powB ((m + 3) / 4)).toNat):=⟨_,rfl,UInt8.toNat_lt _,rfl⟩
     rw [hP]
     obtain ⟨N,hN,HN⟩:∃ N:Nat,(wordsGo key m).length = N ∧ Hid (N = 16 + 4 * m):=⟨_,rfl,hwl⟩
     obtain ⟨g,cap,hcap,rfl,row⟩:=own_at hown hN (by have:=HN.out;omega)
     have hg:=(hown.lt g rfl)
     have hownN:=own_num hown hN
     have hII:(I:Int) < 44:=by omega
     obtain ⟨a4,h4,H4⟩:∃ a:Nat,IntKind.i64.wrap (4 * (I:Int)) = (a:Int) ∧ Hid (a = 4 * m + 16):=⟨4 * I,by rw [IntKind.wrap_i64];omega,by show 4 * I = _;omega⟩
     obtain ⟨b4,k4,K4⟩:∃ a:Nat,IntKind.i64.wrap ((a4:Int) - 4) = (a:Int) ∧ Hid (a = 4 * m + 12):=⟨4 * m + 12,by have:=H4.out;rw [IntKind.wrap_i64];omega,rfl⟩
     obtain ⟨c4,l4,L4⟩:∃ a:Nat,IntKind.i64.wrap ((a4:Int) - 16) = (a:Int) ∧ Hid (a = 4 * m):=⟨4 * m,by have:=H4.out;rw [IntKind.wrap_i64];omega,rfl⟩
     obtain ⟨d4,m4,M4⟩:∃ a:Nat,IntKind.i64.wrap ((a4:Int) - 12) = (a:Int) ∧ Hid (a = 4 * m + 4):=⟨4 * m + 4,by have:=H4.out;rw [IntKind.wrap_i64];omega,rfl⟩
     have q1:a4 ≤ cap:=by have:=H4.out;have:=HN.out;omega
     have q2:b4 ≤ a4:=by have:=H4.out;have:=K4.out;omega
     have q3:c4 ≤ d4:=by have:=L4.out;have:=M4.out;omega
     have q4:d4 ≤ cap:=by have:=M4.out;have:=HN.out;omega
     have q1I:(a4:Int) ≤ (cap:Int):=by omega
     have q2I:(b4:Int) ≤ (a4:Int):=by omega
     have q3I:(c4:Int) ≤ (d4:Int):=by omega
     have q4I:(d4:Int) ≤ (cap:Int):=by omega
     have e1:a4 - b4 = 4:=by have:=H4.out;have:=K4.out;omega
     have e2:d4 - c4 = 4:=by have:=L4.out;have:=M4.out;omega
     clear hI hP hN hwl
     obtain ⟨T,hT,HT⟩:∃ T,T = ((wordsGo key m).drop (4 * m + 12)).take 4 ∧ Hid (T = ((wordsGo key m).drop (4 * m + 12)).take 4):=⟨_,rfl,rfl⟩
     have hTl:T.length = 4:=by rw [hT,List.length_take,List.length_drop,wordsGo_length key hk m];omega
     have rowT0:RowAt wr (some ⟨g,b4,none⟩) T:=by rw [hT,K4.out];exact row.mid _
     have HB:=hid_of (bytes_any (some ⟨g,b4,none⟩) (cap - b4) T wr (by omega) (by omega) rowT0)
     rw [hTl] at HB
     have HNl:Hid ((wordsGo key m).length = N):=hid_of (by rw [wordsGo_length key hk m,HN.out])
     clear hT
     go_wp2_with fail
     refine HB.out.mono ?_
     rintro e w2 ⟨rfl,own2,bel2⟩
     clear HB rowT0
     have row2:RowAt w2 (some ⟨wr.heap.size,0,none⟩) T:=by
       obtain ⟨g',c',-,hv',row'⟩:=own_at own2 hTl (by omega)
       cases hv'
       exact row'
     have rowg:=row.below bel2
     have hown2:=hown.below bel2
     have b2:=hbel.trans (bel2.mono hbel.size)
     obtain ⟨G,hG⟩:∃ G,G = wr.heap.size:=⟨_,rfl⟩
     rw [← hG] at row2 ⊢
     clear own2 bel2 row hown hbel hownN hG
     obtain ⟨rr,hrr,Hrr⟩:∃ r:Nat,Int.tmod (I:Int) 4 = (r:Int) ∧ Hid (r = m % 4):=⟨m % 4,by have:=HI.out;rw [Int.tmod_eq_emod_of_nonneg (by omega)];omega,rfl⟩
     by_cases h4m:m % 4 = 0
     · obtain rfl:rr = 0:=by rw [Hrr.out,h4m]
       obtain ⟨bb,oo,e0,hcT⟩:=row2.at (show 0 < T.length by omega)
       cases e0
       obtain ⟨x0,l0,X0⟩:∃ y:Nat,y < 256 ∧ Hid (y = (T.getD 0 0).toNat):=⟨_,UInt8.toNat_lt _,rfl⟩
       obtain ⟨x1,l1,X1⟩:∃ y:Nat,y < 256 ∧ Hid (y = (T.getD 1 0).toNat):=⟨_,UInt8.toNat_lt _,rfl⟩
       obtain ⟨x2,l2,X2⟩:∃ y:Nat,y < 256 ∧ Hid (y = (T.getD 2 0).toNat):=⟨_,UInt8.toNat_lt _,rfl⟩
       obtain ⟨x3,l3,X3⟩:∃ y:Nat,y < 256 ∧ Hid (y = (T.getD 3 0).toNat):=⟨_,UInt8.toNat_lt _,rfl⟩
       have d0:w2.cell? ⟨G,0,none⟩ = some (.int .u8 (x0:Int)):=by rw [X0.out];have:=hcT 0 (by omega);simpa using this
       have d1:w2.cell? ⟨G,1,none⟩ = some (.int .u8 (x1:Int)):=by rw [X1.out];have:=hcT 1 (by omega);simpa using this
       have d2:w2.cell? ⟨G,2,none⟩ = some (.int .u8 (x2:Int)):=by rw [X2.out];have:=hcT 2 (by omega);simpa using this
       have d3:w2.cell? ⟨G,3,none⟩ = some (.int .u8 (x3:Int)):=by rw [X3.out];have:=hcT 3 (by omega);simpa using this
       have s1:=subI_lt x1
       obtain ⟨z,hz,Hz⟩:∃ z:Nat,bits BinOp.xor IntKind.u8 ((subI x1:Nat):Int) (P:Int) = (z:Int) ∧ Hid (z = subI x1 ^^^ P):=⟨_,u8_xor_nat _ _ s1 hP8,rfl⟩
       clear hcT
       go_upto_region 8 with fail
       go_cut [6] (fun p wx=>p = .slice (some ⟨w2.heap.size,0,none⟩) 4 4 ∧ wx = (w2.alloc (.cells #[.int .u8 (z:Int),.int .u8 ((subI x2:Nat):Int),.int .u8 ((subI x3:Nat):Int),.int .u8 ((subI x0:Nat):Int)] 5)).drew)
       case first =>
         go_region_held3 (fun w'=>w'.cell? ⟨G,0,none⟩ = some (.int .u8 (x0:Int)) ∧ w'.cell? ⟨G,1,none⟩ = some (.int .u8 (x1:Int)) ∧ w'.cell? ⟨G,2,none⟩ = some (.int .u8 (x2:Int)) ∧ w'.cell? ⟨G,3,none⟩ = some (.int .u8 (x3:Int))) (first | exact ⟨d0,d1,d2,d3⟩ | go_keep)
           (first | (go_at_call 174;refine (sub_I _ _ (by assumption)).mono ?_;rintro e w' ⟨rfl,rfl⟩))
         all_goals
           go_wp2_with fail
           go_meet
           case rel=>exact ⟨rfl,rfl⟩
       case rest =>
         obtain ⟨rfl,hwc⟩:=hcut
         obtain ⟨TT,HTT0⟩:∃ TT:List UInt8,Hid (TT = [subB (T.getD 1 0) ^^^ powB (m / 4),subB (T.getD 2 0),subB (T.getD 3 0),subB (T.getD 0 0)]):=⟨_,hid_of rfl⟩
         have hTl:TT.length = 4:=by rw [HTT0.out];rfl
         have HTT:Hid (TT = tailW m (wordsGo key m)):=hid_of (by
           rw [HTT0.out]
           unfold tailW
           rw [if_pos h4m]
           have gd:∀ k,k < 4 → T.getD k 0 = (wordsGo key m).getD (4 * m + (12 + k)) 0:=by
             intro k hk4
             rw [HT.out,List.getD_eq_getElem?_getD,List.getD_eq_getElem?_getD,List.getElem?_take_of_lt hk4,List.getElem?_drop,show 4 * m + 12 + k = 4 * m + (12 + k) from by omega]
           rw [gd 0 (by omega),gd 1 (by omega),gd 2 (by omega),gd 3 (by omega)])
         obtain ⟨TB,hTB⟩:∃ n,n = w2.heap.size:=⟨_,rfl⟩
         have rowT:RowAt wc (some ⟨TB,0,none⟩) TT:=by
           have hb:Blk wc TB 5 (TT.map byte):=by
             have e:TT.map byte = [.int .u8 (z:Int),.int .u8 ((subI x2:Nat):Int),.int .u8 ((subI x3:Nat):Int),.int .u8 ((subI x0:Nat):Int)]:=by
               rw [HTT0.out,Hz.out,X0.out,X1.out,X2.out,X3.out]
               show [byte (subB (T.getD 1 0) ^^^ powB (m / 4)),byte (subB (T.getD 2 0)),byte (subB (T.getD 3 0)),byte (subB (T.getD 0 0))] = _
               rw [HP.out,show (m + 3) / 4 = m / 4 from by omega]
               unfold byte
               rw [UInt8.toNat_xor]
               rfl
             rw [hwc,e,hTB]
             exact Blk.drew1 (Blk.new w2 _ _)
           exact rowAt_block hb
         have rowW:RowAt wc (some ⟨g,0,none⟩) (wordsGo key m):=by rw [hwc];exact RowAt.drew1 (rowg.below (below_new _ _))
         have hownW:OwnB wc w.heap.size (.slice (some ⟨g,0,none⟩) N cap) (wordsGo key m):=by rw [hwc];exact OwnB.drew1 (hown2.below (below_new _ _))
         have belW:Below w.heap.size w wc:=by rw [hwc];exact (b2.alloc b2.size _).drew
         obtain ⟨pn,hpn,Hpn⟩:∃ n:Nat,mulN P 2 = n ∧ Hid (n = (powB ((m + 1 + 3) / 4)).toNat):=⟨_,rfl,hid_of (by rw [pow_next m h4m,tXB_nat,← HP.out,tX_mul P hP8])⟩
         rw [← hTB]
         clear hwc rowg hown2 b2 row2 d0 d1 d2 d3 hz hTB
         go_wp2_with fail
         refine (mul_any P 2 _ hP8 (by decide)).mono ?_
         rintro e w4 ⟨rfl,hw4⟩
         subst w4
         rw [hpn]
         clear hpn
         obtain ⟨Y,hY⟩:∃ Y,Y = ((wordsGo key m).drop (4 * m)).take 4:=⟨_,rfl⟩
         have hYl:Y.length = 4:=by rw [hY,List.length_take,List.length_drop,wordsGo_length key hk m];omega
         have rowY:RowAt wc (some ⟨g,c4,none⟩) Y:=by rw [hY,L4.out];exact (rowW.mid (4 * m))
         have hXl:(xorL Y TT).length = 4:=by rw [xorL_length _ _ (by omega),hYl]
         have HX:=hid_of (xor_any (some ⟨g,c4,none⟩) (some ⟨TB,0,none⟩) (cap - c4) 4 Y TT wc (by omega) (by omega) rowY rowT)
         rw [hYl,hTl] at HX
         have HY:Hid (wordsGo key (m + 1) = wordsGo key m ++ xorL Y TT):=hid_of (by rw [hY,HTT.out];rfl)
         clear hY
         go_wp2_with fail
         refine HX.out.mono ?_
         rintro e w5 ⟨rfl,own5,bel5⟩
         clear HX
         have hown5:=own_num (hownW.below bel5) HNl.out
         have row5:RowAt w5 (some ⟨wc.heap.size,0,none⟩) (xorL Y TT):=by
           obtain ⟨g',c',-,hv',row'⟩:=own_at own5 hXl (by omega)
           cases hv'
           exact row'
         have b5:=belW.trans (bel5.mono belW.size)
         have hs5:=b5.size
         go_wp2_with (at_builtin;refine wpList_append_own _ rfl _ _ 22 rfl w.heap.size 5 i0 (.int .u8 0) 1 1 Tryz.underlying22 hi0 hz0 hz1 hz2 rfl (by decide) _ _ _ rfl hown5 ⟨wc.heap.size,0,none⟩ 4 4 ((xorL Y TT).map byte) rfl (by rw [List.length_map,hXl]) row5.news (by intro u hu;simp only [List.mem_map] at hu;obtain ⟨q,-,rfl⟩:=hu;rfl) (by unfold maxLen;have:=HN.out;omega) (by have:=HN.out;omega) hs5 ?_;intro v6 w6 hown6 hgrow6 hnil6)
         have b6:=b5.grown hgrow6 hs5 (fun j hj=>(hown5.lt j hj).1)
         have R6:OwnB w6 w.heap.size v6 (wordsGo key (m + 1)):=by rw [HY.out];exact app_own HNl.out hXl hown6
         clear hown6 hgrow6 hown5 row5 own5 bel5
         go_wp2
         go_roundw
         case rel=>exact ⟨m + 1,by omega,by have:=HI.out;go_num,by rw [Hpn.out],R6,b6⟩
         case measure=>have:=HI.out;simp [intOf];omega
     · have hrrI:¬ ((rr:Int) = 0):=by have:=Hrr.out;omega
       have hrrB:((rr:Int) == 0) = false:=by simpa using hrrI
       obtain ⟨TT,HTT1⟩:∃ TT:List UInt8,Hid (TT = T):=⟨_,hid_of rfl⟩
       have hTl:TT.length = 4:=by rw [HTT1.out];exact hTl
       have HTT:Hid (TT = tailW m (wordsGo key m)):=hid_of (by rw [HTT1.out,HT.out];unfold tailW;rw [if_neg h4m])
       have rowT:RowAt w2 (some ⟨G,0,none⟩) TT:=by rw [HTT1.out];exact row2
       have rowW:=rowg
       have hownW:=hown2
       have belW:=b2
       have Hpn:Hid (P = (powB ((m + 1 + 3) / 4)).toNat):=hid_of (by rw [HP.out,show (m + 1 + 3) / 4 = (m + 3) / 4 from by omega])
       clear rowg hown2 b2 row2
       obtain ⟨Y,hY⟩:∃ Y,Y = ((wordsGo key m).drop (4 * m)).take 4:=⟨_,rfl⟩
       have hYl:Y.length = 4:=by rw [hY,List.length_take,List.length_drop,wordsGo_length key hk m];omega
       have rowY:RowAt w2 (some ⟨g,c4,none⟩) Y:=by rw [hY,L4.out];exact (rowW.mid (4 * m))
       have hXl:(xorL Y TT).length = 4:=by rw [xorL_length _ _ (by omega),hYl]
       have HX:=hid_of (xor_any (some ⟨g,c4,none⟩) (some ⟨G,0,none⟩) (cap - c4) 4 Y TT w2 (by omega) (by omega) rowY rowT)
       rw [hYl,hTl] at HX
       have HY:Hid (wordsGo key (m + 1) = wordsGo key m ++ xorL Y TT):=hid_of (by rw [hY,HTT.out];rfl)
       clear hY
       go_wp2_with fail
       refine HX.out.mono ?_
       rintro e w5 ⟨rfl,own5,bel5⟩
       clear HX
       have hown5:=own_num (hownW.below bel5) HNl.out
       have row5:RowAt w5 (some ⟨w2.heap.size,0,none⟩) (xorL Y TT):=by
         obtain ⟨g',c',-,hv',row'⟩:=own_at own5 hXl (by omega)
         cases hv'
         exact row'
       have b5:=belW.trans (bel5.mono belW.size)
       have hs5:=b5.size
       go_wp2_with (at_builtin;refine wpList_append_own _ rfl _ _ 22 rfl w.heap.size 5 i0 (.int .u8 0) 1 1 Tryz.underlying22 hi0 hz0 hz1 hz2 rfl (by decide) _ _ _ rfl hown5 ⟨w2.heap.size,0,none⟩ 4 4 ((xorL Y TT).map byte) rfl (by rw [List.length_map,hXl]) row5.news (by intro u hu;simp only [List.mem_map] at hu;obtain ⟨q,-,rfl⟩:=hu;rfl) (by unfold maxLen;have:=HN.out;omega) (by have:=HN.out;omega) hs5 ?_;intro v6 w6 hown6 hgrow6 hnil6)
       have b6:=b5.grown hgrow6 hs5 (fun j hj=>(hown5.lt j hj).1)
       have R6:OwnB w6 w.heap.size v6 (wordsGo key (m + 1)):=by rw [HY.out];exact app_own HNl.out hXl hown6
       clear hown6 hgrow6 hown5 row5 own5 bel5
       go_wp2
       go_roundw
       case rel=>exact ⟨m + 1,by omega,by have:=HI.out;go_num,by rw [Hpn.out],R6,b6⟩
       case measure=>have:=HI.out;simp [intOf];omega
   · obtain rfl:m = 40:=by omega
     go_wp2
     go_ret
     exact ⟨_,rfl,hown,hbel⟩
end Go.Proofs.YtbkokcjolanpeaaGreatDoor
