import Derived.Test.YtoajfbkblpaejaaGreatDoorGrI
import Derived.Test.YtoajfbkblpaejaaGreatDoorGrG
import Derived.Test.YtoajfbkblpaejaaGreatDoorLawUnwrap
import Derived.Test.YtoajfbkblpaejaaGreatDoorRingI
import Derived.Test.YtoajfbkblpaejaaGreatDoorGfP
import Derived.Test.YtoajfbkblpaejaaGreatDoorTransDef
import Derived.Test.YtoajfbkblpaejaaGreatDoorTransT
namespace Go.Proofs.YtoajfbkblpaejaaGreatDoor
open Go.RowKit
theorem tXN_xor (a b:Nat) (ha:a < 256) (hb:b < 256):tXN (a ^^^ b) = tXN a ^^^ tXN b:=by
 have e1:∀ n:Nat,n * 2 % 256 = (n <<< 1) &&& 255:=fun n=>by
   rw [Nat.shiftLeft_eq,show (255:Nat) = 2 ^ 8 - 1 from rfl,Nat.and_two_pow_sub_one_eq_mod]
 have e2:∀ n:Nat,n / 128 = n >>> 7:=fun n=>by rw [Nat.shiftRight_eq_div_pow]
 have h1:(a ^^^ b) / 128 = a / 128 ^^^ b / 128:=by rw [e2,e2,e2,Nat.shiftRight_xor_distrib]
 have h2:(a ^^^ b) * 2 % 256 = (a * 2 % 256) ^^^ (b * 2 % 256):=by rw [e1,e1,e1,Nat.shiftLeft_xor_distrib,Nat.and_xor_distrib_right]
 unfold tXN
 rw [h1,h2]
 have ca:a / 128 = 0 ∨ a / 128 = 1:=by omega
 have cb:b / 128 = 0 ∨ b / 128 = 1:=by omega
 rcases ca with h | h <;> rcases cb with h' | h' <;> rw [h,h']
 · simp
 · simp [Nat.xor_assoc]
 · simp only [Nat.xor_zero,Nat.one_mul,Nat.zero_mul];ac_rfl
 · simp only [Nat.xor_self,Nat.one_mul,Nat.zero_mul,Nat.xor_zero]
   rw [show a * 2 % 256 ^^^ 27 ^^^ (b * 2 % 256 ^^^ 27) = a * 2 % 256 ^^^ b * 2 % 256 ^^^ (27 ^^^ 27) from by ac_rfl,Nat.xor_self,Nat.xor_zero]
theorem tXB_xor (a b:UInt8):tXB (a ^^^ b) = tXB a ^^^ tXB b:=by
 apply UInt8.toNat.inj
 rw [UInt8.toNat_xor,tXB_nat,tXB_nat,tXB_nat,UInt8.toNat_xor]
 exact tXN_xor _ _ a.toNat_lt b.toNat_lt
theorem mulN_all:∀ n:Nat,n < 256 → mulN n 1 = n ∧ mulN n 2 = tXN n ∧ mulN n 3 = tXN n ^^^ n ∧ mulN n 9 = tXN (tXN (tXN n)) ^^^ n ∧ mulN n 11 = tXN (tXN (tXN n)) ^^^ tXN n ^^^ n ∧ mulN n 13 = tXN (tXN (tXN n)) ^^^ tXN (tXN n) ^^^ n ∧ mulN n 14 = tXN (tXN (tXN n)) ^^^ tXN (tXN n) ^^^ tXN n:=by decide +kernel
theorem mul1 (x:UInt8):mulB x 1 = x:=UInt8.toNat.inj (by rw [mulB_nat];exact (mulN_all _ x.toNat_lt).1)
theorem mul2 (x:UInt8):mulB x 2 = tXB x:=UInt8.toNat.inj (by rw [mulB_nat,tXB_nat];exact (mulN_all _ x.toNat_lt).2.1)
theorem mul3 (x:UInt8):mulB x 3 = tXB x ^^^ x:=UInt8.toNat.inj (by rw [mulB_nat,UInt8.toNat_xor,tXB_nat];exact (mulN_all _ x.toNat_lt).2.2.1)
theorem mul9 (x:UInt8):mulB x 9 = tXB (tXB (tXB x)) ^^^ x:=UInt8.toNat.inj (by rw [mulB_nat,UInt8.toNat_xor,tXB_nat,tXB_nat,tXB_nat];exact (mulN_all _ x.toNat_lt).2.2.2.1)
theorem mul11 (x:UInt8):mulB x 11 = tXB (tXB (tXB x)) ^^^ tXB x ^^^ x:=UInt8.toNat.inj (by rw [mulB_nat,UInt8.toNat_xor,UInt8.toNat_xor,tXB_nat,tXB_nat,tXB_nat];exact (mulN_all _ x.toNat_lt).2.2.2.2.1)
theorem mul13 (x:UInt8):mulB x 13 = tXB (tXB (tXB x)) ^^^ tXB (tXB x) ^^^ x:=UInt8.toNat.inj (by rw [mulB_nat,UInt8.toNat_xor,UInt8.toNat_xor,tXB_nat,tXB_nat,tXB_nat];exact (mulN_all _ x.toNat_lt).2.2.2.2.2.1)
theorem mul14 (x:UInt8):mulB x 14 = tXB (tXB (tXB x)) ^^^ tXB (tXB x) ^^^ tXB x:=UInt8.toNat.inj (by rw [mulB_nat,UInt8.toNat_xor,UInt8.toNat_xor,tXB_nat,tXB_nat,tXB_nat];exact (mulN_all _ x.toNat_lt).2.2.2.2.2.2)
def colE (a b c d:UInt8):UInt8:=mulB a 2 ^^^ mulB b 3 ^^^ mulB c 1 ^^^ mulB d 1
def colD (a b c d:UInt8):UInt8:=mulB a 14 ^^^ mulB b 11 ^^^ mulB c 13 ^^^ mulB d 9
theorem xor_back (a b:UInt8):a ^^^ (a ^^^ b) = b:=by rw [← UInt8.xor_assoc,UInt8.xor_self,UInt8.zero_xor]
theorem xor_lc (a b c:UInt8):a ^^^ (b ^^^ c) = b ^^^ (a ^^^ c):=by rw [← UInt8.xor_assoc,UInt8.xor_comm a b,UInt8.xor_assoc]
set_option maxHeartbeats 4000000 in
theorem col_DE (a b c d:UInt8):colD (colE a b c d) (colE b c d a) (colE c d a b) (colE d a b c) = a:=by
 simp only [colE,colD,mul1,mul2,mul3,mul9,mul11,mul13,mul14,tXB_xor]
 generalize tXB (tXB (tXB (tXB a))) = a4;generalize tXB (tXB (tXB (tXB b))) = b4;generalize tXB (tXB (tXB (tXB c))) = c4;generalize tXB (tXB (tXB (tXB d))) = d4
 generalize tXB (tXB (tXB a)) = a3;generalize tXB (tXB (tXB b)) = b3;generalize tXB (tXB (tXB c)) = c3;generalize tXB (tXB (tXB d)) = d3
 generalize tXB (tXB a) = a2;generalize tXB (tXB b) = b2;generalize tXB (tXB c) = c2;generalize tXB (tXB d) = d2
 generalize tXB a = a1;generalize tXB b = b1;generalize tXB c = c1;generalize tXB d = d1
 simp only [UInt8.xor_comm,xor_lc,UInt8.xor_self,UInt8.xor_zero,xor_back]
theorem sumE0 (s:List UInt8) (c:Nat):mulSum rowE s c 0 4 = colE (s.getD (4 * c + 0) 0) (s.getD (4 * c + 1) 0) (s.getD (4 * c + 2) 0) (s.getD (4 * c + 3) 0):=by
 show 0 ^^^ mulB (s.getD (4 * c + 0) 0) 2 ^^^ mulB (s.getD (4 * c + 1) 0) 3 ^^^ mulB (s.getD (4 * c + 2) 0) 1 ^^^ mulB (s.getD (4 * c + 3) 0) 1 = _
 rw [UInt8.zero_xor]
 unfold colE
 ac_rfl
theorem sumE1 (s:List UInt8) (c:Nat):mulSum rowE s c 1 4 = colE (s.getD (4 * c + 1) 0) (s.getD (4 * c + 2) 0) (s.getD (4 * c + 3) 0) (s.getD (4 * c + 0) 0):=by
 show 0 ^^^ mulB (s.getD (4 * c + 0) 0) 1 ^^^ mulB (s.getD (4 * c + 1) 0) 2 ^^^ mulB (s.getD (4 * c + 2) 0) 3 ^^^ mulB (s.getD (4 * c + 3) 0) 1 = _
 rw [UInt8.zero_xor]
 unfold colE
 ac_rfl
theorem sumE2 (s:List UInt8) (c:Nat):mulSum rowE s c 2 4 = colE (s.getD (4 * c + 2) 0) (s.getD (4 * c + 3) 0) (s.getD (4 * c + 0) 0) (s.getD (4 * c + 1) 0):=by
 show 0 ^^^ mulB (s.getD (4 * c + 0) 0) 1 ^^^ mulB (s.getD (4 * c + 1) 0) 1 ^^^ mulB (s.getD (4 * c + 2) 0) 2 ^^^ mulB (s.getD (4 * c + 3) 0) 3 = _
 rw [UInt8.zero_xor]
 unfold colE
 ac_rfl
theorem sumE3 (s:List UInt8) (c:Nat):mulSum rowE s c 3 4 = colE (s.getD (4 * c + 3) 0) (s.getD (4 * c + 0) 0) (s.getD (4 * c + 1) 0) (s.getD (4 * c + 2) 0):=by
 show 0 ^^^ mulB (s.getD (4 * c + 0) 0) 3 ^^^ mulB (s.getD (4 * c + 1) 0) 1 ^^^ mulB (s.getD (4 * c + 2) 0) 1 ^^^ mulB (s.getD (4 * c + 3) 0) 2 = _
 rw [UInt8.zero_xor]
 unfold colE
 ac_rfl
theorem sumD0 (s:List UInt8) (c:Nat):mulSum rowD s c 0 4 = colD (s.getD (4 * c + 0) 0) (s.getD (4 * c + 1) 0) (s.getD (4 * c + 2) 0) (s.getD (4 * c + 3) 0):=by
 show 0 ^^^ mulB (s.getD (4 * c + 0) 0) 14 ^^^ mulB (s.getD (4 * c + 1) 0) 11 ^^^ mulB (s.getD (4 * c + 2) 0) 13 ^^^ mulB (s.getD (4 * c + 3) 0) 9 = _
 rw [UInt8.zero_xor]
 unfold colD
 ac_rfl
theorem sumD1 (s:List UInt8) (c:Nat):mulSum rowD s c 1 4 = colD (s.getD (4 * c + 1) 0) (s.getD (4 * c + 2) 0) (s.getD (4 * c + 3) 0) (s.getD (4 * c + 0) 0):=by
 show 0 ^^^ mulB (s.getD (4 * c + 0) 0) 9 ^^^ mulB (s.getD (4 * c + 1) 0) 14 ^^^ mulB (s.getD (4 * c + 2) 0) 11 ^^^ mulB (s.getD (4 * c + 3) 0) 13 = _
 rw [UInt8.zero_xor]
 unfold colD
 ac_rfl
theorem sumD2 (s:List UInt8) (c:Nat):mulSum rowD s c 2 4 = colD (s.getD (4 * c + 2) 0) (s.getD (4 * c + 3) 0) (s.getD (4 * c + 0) 0) (s.getD (4 * c + 1) 0):=by
 show 0 ^^^ mulB (s.getD (4 * c + 0) 0) 13 ^^^ mulB (s.getD (4 * c + 1) 0) 9 ^^^ mulB (s.getD (4 * c + 2) 0) 14 ^^^ mulB (s.getD (4 * c + 3) 0) 11 = _
 rw [UInt8.zero_xor]
 unfold colD
 ac_rfl
theorem sumD3 (s:List UInt8) (c:Nat):mulSum rowD s c 3 4 = colD (s.getD (4 * c + 3) 0) (s.getD (4 * c + 0) 0) (s.getD (4 * c + 1) 0) (s.getD (4 * c + 2) 0):=by
 show 0 ^^^ mulB (s.getD (4 * c + 0) 0) 11 ^^^ mulB (s.getD (4 * c + 1) 0) 13 ^^^ mulB (s.getD (4 * c + 2) 0) 9 ^^^ mulB (s.getD (4 * c + 3) 0) 14 = _
 rw [UInt8.zero_xor]
 unfold colD
 ac_rfl
theorem mixS_lit (row s:List UInt8):mixS row s = [mulSum row s 0 0 4,mulSum row s 0 1 4,mulSum row s 0 2 4,mulSum row s 0 3 4,mulSum row s 1 0 4,mulSum row s 1 1 4,mulSum row s 1 2 4,mulSum row s 1 3 4,mulSum row s 2 0 4,mulSum row s 2 1 4,mulSum row s 2 2 4,mulSum row s 2 3 4,mulSum row s 3 0 4,mulSum row s 3 1 4,mulSum row s 3 2 4,mulSum row s 3 3 4]:=rfl
theorem mixE_lit (a0 a1 a2 a3 a4 a5 a6 a7 a8 a9 a10 a11 a12 a13 a14 a15:UInt8):mixS rowE [a0,a1,a2,a3,a4,a5,a6,a7,a8,a9,a10,a11,a12,a13,a14,a15] = [colE a0 a1 a2 a3,colE a1 a2 a3 a0,colE a2 a3 a0 a1,colE a3 a0 a1 a2,colE a4 a5 a6 a7,colE a5 a6 a7 a4,colE a6 a7 a4 a5,colE a7 a4 a5 a6,colE a8 a9 a10 a11,colE a9 a10 a11 a8,colE a10 a11 a8 a9,colE a11 a8 a9 a10,colE a12 a13 a14 a15,colE a13 a14 a15 a12,colE a14 a15 a12 a13,colE a15 a12 a13 a14]:=by
 rw [mixS_lit]
 simp only [sumE0,sumE1,sumE2,sumE3]
 rfl
theorem mixD_lit (a0 a1 a2 a3 a4 a5 a6 a7 a8 a9 a10 a11 a12 a13 a14 a15:UInt8):mixS rowD [a0,a1,a2,a3,a4,a5,a6,a7,a8,a9,a10,a11,a12,a13,a14,a15] = [colD a0 a1 a2 a3,colD a1 a2 a3 a0,colD a2 a3 a0 a1,colD a3 a0 a1 a2,colD a4 a5 a6 a7,colD a5 a6 a7 a4,colD a6 a7 a4 a5,colD a7 a4 a5 a6,colD a8 a9 a10 a11,colD a9 a10 a11 a8,colD a10 a11 a8 a9,colD a11 a8 a9 a10,colD a12 a13 a14 a15,colD a13 a14 a15 a12,colD a14 a15 a12 a13,colD a15 a12 a13 a14]:=by
 rw [mixS_lit]
 simp only [sumD0,sumD1,sumD2,sumD3]
 rfl
theorem mix_DE (s:List UInt8) (hs:s.length = 16):mixS rowD (mixS rowE s) = s:=by
 obtain ⟨a0,a1,a2,a3,a4,a5,a6,a7,a8,a9,a10,a11,a12,a13,a14,a15,rfl⟩:=sixteenL s hs
 rw [mixE_lit,mixD_lit]
 simp only [col_DE]
theorem turn_31 (s:List UInt8) (hs:s.length = 16):turnL 3 (turnL 1 s) = s:=by
 obtain ⟨a0,a1,a2,a3,a4,a5,a6,a7,a8,a9,a10,a11,a12,a13,a14,a15,rfl⟩:=sixteenL s hs
 rfl
theorem unsub_sub (b:UInt8):unsubB (subB b) = b:=UInt8.toNat.inj (inv_sub b.toNat b.toNat_lt)
theorem map_unsub_sub (s:List UInt8):(s.map subB).map unsubB = s:=by
 rw [List.map_map]
 have:(unsubB ∘ subB) = id:=funext unsub_sub
 rw [this,List.map_id]
theorem dec_at (K:Nat → List UInt8) (b:List UInt8) (hb:b.length = 16) (hK:∀ r,(K r).length = 16) (k:Nat) (hk:k ≤ 9):decGo K (encL K b) k = encGo K b (9 - k):=by
 have hl:=encGo_length K b hb hK
 induction k with
 | zero =>
   show (turnL 3 (xorL (encL K b) (K 10))).map unsubB = _
   rw [encL_step K b hb hK,xorL_twice _ _ (by rw [turnL_length,hK]),turn_31 _ (by rw [List.length_map,hl]),map_unsub_sub]
 | succ k ih =>
   rw [decGo_step K _ hK,ih (by omega),show 9 - k = (8 - k) + 1 from by omega,encGo_step K b hb hK,xorL_twice _ _ (by rw [mixS_length,hK]),mix_DE _ (turnL_length _ _),turn_31 _ (by rw [List.length_map,hl]),map_unsub_sub,show 9 - (k + 1) = 8 - k from by omega]
theorem aes_dec_enc (K:Nat → List UInt8) (b:List UInt8) (hb:b.length = 16) (hK:∀ r,(K r).length = 16):decL K (encL K b) = b:=by
 show xorL (decGo K (encL K b) 9) (K 0) = b
 rw [dec_at K b hb hK 9 (Nat.le_refl _)]
 show xorL (xorL b (K 0)) (K 0) = b
 exact xorL_twice _ _ (by rw [hb,hK])
theorem block_word8 (a b c d e f g h:UInt8):blockN (wordN [a,b,c,d,e,f,g,h]) = [a,b,c,d,e,f,g,h]:=by
 have ha:=a.toNat_lt;have hb:=b.toNat_lt;have hc:=c.toNat_lt;have hd:=d.toNat_lt
 have he:=e.toNat_lt;have hf:=f.toNat_lt;have hg:=g.toNat_lt;have hh:=h.toNat_lt
 have u:∀ (x:UInt8) (n:Nat),n % 256 = x.toNat → UInt8.ofNat n = x:=by
   intro x n hn
   apply UInt8.toNat.inj
   rw [UInt8.toNat_ofNat',hn]
 simp only [blockN,wordN,List.foldl_cons,List.foldl_nil,List.range,List.range.loop,List.map_cons,List.map_nil]
 simp only [List.cons.injEq,and_true]
 refine ⟨u _ _ ?_,u _ _ ?_,u _ _ ?_,u _ _ ?_,u _ _ ?_,u _ _ ?_,u _ _ ?_,u _ _ ?_⟩ <;> simp <;> omega
theorem takeN_bitk (w width:Nat) (tab:List UInt8) (k:Nat) (hk:k ≤ tab.length):∀ i,i < k → (takeN w width (tab.take k)).testBit i = w.testBit (width - (tab.getD (k - 1 - i) 0).toNat):=by
 induction k with
 | zero=>intro i hi;omega
 | succ k ih =>
   intro i hi
   rw [take_snoc tab k (by omega),takeN_snoc]
   cases i with
   | zero =>
     have e:tab.getD (k + 1 - 1 - 0) 0 = tab[k]:=by simp [show k < tab.length from by omega]
     rw [e,Nat.testBit_zero,Nat.testBit_eq_decide_div_mod_eq]
     congr 1
     simp only [eq_iff_iff]
     omega
   | succ i =>
     rw [show k + 1 - 1 - (i + 1) = k - 1 - i from by omega,← ih (by omega) i (by omega),Nat.testBit_succ]
     congr 1
     omega
theorem takeN_bit (w width:Nat) (tab:List UInt8) (i:Nat) (hi:i < tab.length):(takeN w width tab).testBit i = w.testBit (width - (tab.getD (tab.length - 1 - i) 0).toNat):=by
 have h:=takeN_bitk w width tab tab.length (Nat.le_refl _) i hi
 rw [List.take_length] at h
 exact h
theorem bit_at (t a p p':Nat):(t / 2 ^ a % 2 * 2 ^ p).testBit p' = (decide (p = p') && t.testBit a):=by
 rcases Nat.mod_two_eq_zero_or_one (t / 2 ^ a) with h | h
 · rw [h,Nat.zero_mul,Nat.zero_testBit,Nat.testBit_eq_decide_div_mod_eq,h];simp
 · rw [h,Nat.one_mul,Nat.testBit_two_pow,Nat.testBit_eq_decide_div_mod_eq,h];simp
theorem ip_apart:∀ i,i < 64 → ∀ j,j < 64 → 64 - (ipTab.getD i 0).toNat = 64 - (ipTab.getD j 0).toNat → i = j:=by decide +kernel
theorem ip_onto:∀ p,p < 64 → ∃ j,j < 64 ∧ 64 - (ipTab.getD j 0).toNat = p:=by decide +kernel
theorem putN_bit (t:Nat) (j0:Nat) (h0:j0 < 64) (k:Nat) (hk:k ≤ 64):(putN t 64 ipTab k).testBit (64 - (ipTab.getD j0 0).toNat) = (decide (j0 < k) && t.testBit (63 - j0)):=by
 induction k with
 | zero=>simp [putN]
 | succ k ih =>
   rw [putN,Nat.testBit_or,ih (by omega),bit_at,show ipTab.length - 1 - k = 63 - k from rfl]
   by_cases e:k = j0
   · subst e;simp
   · have:¬ (64 - (ipTab.getD k 0).toNat = 64 - (ipTab.getD j0 0).toNat):=fun h=>e (ip_apart k (by omega) j0 h0 h)
     have e2:decide (j0 < k + 1) = decide (j0 < k):=by simp;omega
     rw [e2,decide_eq_false this,Bool.false_and,Bool.or_false]
theorem start_end (t:Nat) (ht:t < 2 ^ 64):takeN (putN t 64 ipTab 64) 64 ipTab = t:=by
 apply Nat.eq_of_testBit_eq
 intro i
 by_cases hi:i < 64
 · rw [takeN_bit _ _ ipTab i hi,show ipTab.length - 1 - i = 63 - i from rfl,putN_bit t (63 - i) (by omega) 64 (Nat.le_refl _),show 63 - (63 - i) = i from by omega]
   simp;omega
 · rw [Nat.testBit_lt_two_pow (Nat.lt_of_lt_of_le (takeN_lt _ _ ipTab) (Nat.pow_le_pow_right (by omega) (show ipTab.length ≤ i from by show 64 ≤ i;omega))),Nat.testBit_lt_two_pow (Nat.lt_of_lt_of_le ht (Nat.pow_le_pow_right (by omega) (by omega)))]
theorem end_start (w:Nat) (hw:w < 2 ^ 64):putN (takeN w 64 ipTab) 64 ipTab 64 = w:=by
 apply Nat.eq_of_testBit_eq
 intro p
 by_cases hp:p < 64
 · obtain ⟨j,hj,rfl⟩:=ip_onto p hp
   rw [putN_bit _ j hj 64 (Nat.le_refl _),takeN_bit _ _ ipTab (63 - j) (by show 63 - j < 64;omega),show ipTab.length - 1 - (63 - j) = j from by show 64 - 1 - (63 - j) = j;omega]
   simp;omega
 · have h1:putN (takeN w 64 ipTab) 64 ipTab 64 < 2 ^ 64:=putN_lt _ 64 ipTab (Nat.le_refl _) ip_in 64 (Nat.le_refl _)
   rw [Nat.testBit_lt_two_pow (Nat.lt_of_lt_of_le h1 (Nat.pow_le_pow_right (by omega) (by omega))),Nat.testBit_lt_two_pow (Nat.lt_of_lt_of_le hw (Nat.pow_le_pow_right (by omega) (by omega)))]
theorem word_block (y:Nat) (hy:y < 2 ^ 64):wordN (blockN y) = y:=by
 simp only [blockN,wordN,List.range,List.range.loop,List.map_cons,List.map_nil,List.foldl_cons,List.foldl_nil,UInt8.toNat_ofNat']
 simp
 omega
theorem feis_back (ks:List Nat) (hks:ks.length = 16) (L R:Nat) (j:Nat) (hj:j ≤ 16) :
   feisN ks.reverse (feisN ks L R 16).2 (feisN ks L R 16).1 j = ((feisN ks L R (16 - j)).2,(feisN ks L R (16 - j)).1):=by
 induction j with
 | zero=>rfl
 | succ j ih =>
   have hk:ks.reverse.getD j 0 = ks.getD (15 - j) 0:=by
     rw [List.getD_eq_getElem?_getD,List.getElem?_reverse (by omega),hks,← List.getD_eq_getElem?_getD,show 16 - 1 - j = 15 - j from by omega]
   rw [feisN,ih (by omega),hk]
   have e:16 - j = (15 - j) + 1:=by omega
   rw [e,feisN,show 16 - (j + 1) = 15 - j from by omega]
   simp only [Prod.mk.injEq,true_and]
   rw [Nat.xor_assoc,Nat.xor_self,Nat.xor_zero]
theorem run_back (ks:List Nat) (hks:ks.length = 16) (x:List UInt8) (hx:x.length = 8):runN ks.reverse (runN ks x) = x:=by
 obtain ⟨x0,x1,x2,x3,x4,x5,x6,x7,rfl⟩:=eight x hx
 have hw:wordN [x0,x1,x2,x3,x4,x5,x6,x7] < 2 ^ 64:=by
   have h:=wordN_lt [x0,x1,x2,x3,x4,x5,x6,x7]
   rw [show [x0,x1,x2,x3,x4,x5,x6,x7].length = 8 from rfl] at h
   exact Nat.lt_of_lt_of_le h (by decide)
 have hs:=startN_lt [x0,x1,x2,x3,x4,x5,x6,x7]
 obtain ⟨t,ht⟩:∃ t,t = startN [x0,x1,x2,x3,x4,x5,x6,x7]:=⟨_,rfl⟩
 have hl:=feisN_lt ks (t / 4294967296) (t % 4294967296) (by omega) (by omega) 16
 have hb:=feis_back ks hks (t / 4294967296) (t % 4294967296) 16 (Nat.le_refl _)
 have e1:runN ks [x0,x1,x2,x3,x4,x5,x6,x7] = endN (feisN ks (t / 4294967296) (t % 4294967296) 16).1 (feisN ks (t / 4294967296) (t % 4294967296) 16).2:=by rw [ht];rfl
 obtain ⟨l,hle⟩:∃ l,l = (feisN ks (t / 4294967296) (t % 4294967296) 16).1:=⟨_,rfl⟩
 obtain ⟨r,hre⟩:∃ r,r = (feisN ks (t / 4294967296) (t % 4294967296) 16).2:=⟨_,rfl⟩
 rw [← hle,← hre] at hl hb e1
 have hlt:r * 4294967296 + l < 2 ^ 64:=by omega
 have e2:startN (endN l r) = r * 4294967296 + l:=by
   unfold startN endN
   rw [word_block _ (putN_lt _ 64 ipTab (Nat.le_refl _) ip_in 64 (Nat.le_refl _)),start_end _ hlt]
 rw [e1]
 show endN (feisN ks.reverse (startN (endN l r) / 4294967296) (startN (endN l r) % 4294967296) 16).1 (feisN ks.reverse (startN (endN l r) / 4294967296) (startN (endN l r) % 4294967296) 16).2 = _
 rw [e2,show (r * 4294967296 + l) / 4294967296 = r from by omega,show (r * 4294967296 + l) % 4294967296 = l from by omega,hb]
 show blockN (putN (t / 4294967296 * 4294967296 + t % 4294967296) 64 ipTab 64) = _
 rw [show t / 4294967296 * 4294967296 + t % 4294967296 = t from by omega,ht]
 unfold startN
 rw [end_start _ hw,block_word8]
theorem dec_enc (key x:List UInt8) (hx:x.length = 8):decN key (encN key x) = x:=run_back _ (keyNums_length _) x hx
theorem enc_dec (key x:List UInt8) (hx:x.length = 8):encN key (decN key x) = x:=by
 have h:=run_back (keyNums key).reverse (by rw [List.length_reverse];exact keyNums_length _) x hx
 rw [List.reverse_reverse] at h
 exact h
theorem wrap_open (master key:List UInt8) (u gen:Nat) (hm:master.length = 16) (hk:key.length = 16) (hu1:1 ≤ u) (hu3:u ≤ 3) (hg:gen ≤ 255) :
   formOK master (wrapN master key u gen) = true ∧ tagOK master (wrapN master key u gen) = true ∧ uOf (wrapN master key u gen) = u ∧ gOf (wrapN master key u gen) = gen ∧ unkeyN master (wrapN master key u gen) = key:=by
 obtain ⟨B,hB⟩:∃ B,B = wrapN master key u gen:=⟨_,rfl⟩
 have hl:B.length = 36:=by rw [hB];exact wrapN_length _ _ _ _ hm
 have hTl:(tagN master key u gen).length = 16:=cmacN_length _ _ (cmacN_length master [77] hm)
 have hE:(sealK master).length = 16:=cmacN_length master [69] hm
 obtain ⟨T,hT⟩:∃ T,T = tagN master key u gen:=⟨_,rfl⟩
 have hB2:B = 75 :: UInt8.ofNat u :: UInt8.ofNat gen :: 16 :: (T ++ aesN (sealK master) (xorL key T) false):=by
   rw [hB,hT]
   unfold wrapN headL
   simp
 rw [← hT] at hTl
 have hXl:(xorL key T).length = 16:=by rw [xorL_length _ _ (by omega),hk]
 have hu:uOf B = u:=by
   rw [hB2]
   show (UInt8.ofNat u).toNat = u
   rw [UInt8.toNat_ofNat']
   omega
 have hgn:gOf B = gen:=by
   rw [hB2]
   show (UInt8.ofNat gen).toNat = gen
   rw [UInt8.toNat_ofNat']
   omega
 have hkey:unkeyN master B = key:=by
   have e1:(B.drop 4).take 16 = T:=by
     rw [hB2]
     show (T ++ aesN (sealK master) (xorL key T) false).take 16 = T
     rw [← hTl]
     exact List.take_left
   have e2:B.drop 20 = aesN (sealK master) (xorL key T) false:=by
     rw [hB2]
     show (T ++ aesN (sealK master) (xorL key T) false).drop 16 = _
     rw [← hTl]
     exact List.drop_left
   have e3:aesN (sealK master) (aesN (sealK master) (xorL key T) false) true = xorL key T:=aes_dec_enc (keyR (sealK master)) (xorL key T) hXl (fun r=>keyR_length _ hE r)
   unfold unkeyN
   rw [e1,e2,e3]
   exact xorL_twice _ _ (by omega)
 rw [← hB]
 refine ⟨?_,?_,hu,hgn,hkey⟩
 · have hh:headOK B = true:=by
     unfold headOK
     rw [hu,hB2]
     simp
     omega
   unfold formOK
   rw [hh,decide_eq_true hm,decide_eq_true hl]
   rfl
 · unfold tagOK
   rw [hkey,hu,hgn,← hB]
   exact decide_eq_true rfl
theorem tdea_undo (key x:List UInt8) (hk:key.length = 16) (hx:x.length = 8):tdeaL key (tdeaL key x false) true = x:=by
 have h1:(tdeaN key x false).length = 8:=tdeaN_length _ _ _
 have e1:tdeaL key x false = tdeaN key x false:=by unfold tdeaL;rw [if_pos ⟨hk,hx⟩]
 rw [e1]
 unfold tdeaL
 rw [if_pos ⟨hk,h1⟩,tdeaN_enc,tdeaN_dec]
 have e8:∀ k y:List UInt8,(encN k y).length = 8:=fun k y=>encN_length k y
 have d8:∀ k y:List UInt8,(decN k y).length = 8:=fun k y=>decN_length k y
 rw [dec_enc _ _ (d8 _ _),enc_dec _ _ (e8 _ _),dec_enc _ _ hx]
theorem wrap_facts (fk:List UInt8) (u g:Nat) (hk:fk.length = 16) (h1:1 ≤ u) (h3:u ≤ 3) (hg:g ≤ 255) :
   okO masterL (wrapL masterL fk (u:Int) (g:Int)) = true ∧ opU masterL (wrapL masterL fk (u:Int) (g:Int)) = (u:Int) ∧ unkeyN masterL (wrapL masterL fk (u:Int) (g:Int)) = fk ∧ opKey masterL (wrapL masterL fk (u:Int) (g:Int)) = fk:=by
 have e:wrapL masterL fk (u:Int) (g:Int) = wrapN masterL fk u g:=by
   unfold wrapL
   rw [if_pos ⟨rfl,hk,by omega,by omega,by omega,by omega⟩]
   rfl
 obtain ⟨q1,q2,q3,q4,q5⟩:=wrap_open masterL fk u g rfl hk h1 h3 hg
 have hok:okO masterL (wrapN masterL fk u g) = true:=by unfold okO;rw [q1,q2];rfl
 rw [e]
 refine ⟨hok,?_,q5,?_⟩
 · unfold opU;rw [hok,if_pos rfl,q3]
 · unfold opKey;rw [hok,if_pos rfl,q5]
theorem move_made (K T d draws:List UInt8) (f t:Nat) (pin pan:ByteArray) (hK:K.length = 16) (hg:goodPin (f:Int) pin pan = true) (hd:f = 3 → 14 - pin.size ≤ d.length) (ht:goodPin (t:Int) pin pan = true) (hdr:t = 3 → 14 - pin.size ≤ draws.length) :
   mvC K (tdeaL K (mkL (f:Int) pin pan d) false) draws (f:Int) (t:Int) pan = 0 ∧ mvL K T (tdeaL K (mkL (f:Int) pin pan d) false) draws (f:Int) (t:Int) pan = tdeaL T (mkL (t:Int) pin pan draws) false ∧ mvU K (tdeaL K (mkL (f:Int) pin pan d) false) draws (f:Int) (t:Int) pan = mkU (t:Int) pin pan draws.length:=by
 have hm:∀ (g:Nat) (e:List UInt8),goodPin (g:Int) pin pan = true → (g = 3 → 14 - pin.size ≤ e.length) → mkC (g:Int) pin pan e.length = 0:=by
   intro g e h1 h2
   unfold mkC
   rw [if_pos h1,if_neg (by rintro ⟨h3,h4⟩;have:=h2 (by omega);omega)]
 have hl:=mkL_ok (f:Int) pin pan d (hm f d hg hd)
 have hu:=tdea_undo K (mkL (f:Int) pin pan d) hK hl
 obtain ⟨r1,r2,-⟩:=read_made f pin pan d hg hd
 have hok:mvOK K (tdeaL K (mkL (f:Int) pin pan d) false) (f:Int) pan = true:=by unfold mvOK;rw [hu];exact r1
 have hP:mvP K (tdeaL K (mkL (f:Int) pin pan d) false) pan = pin:=by unfold mvP;rw [hu];exact r2
 have hc:=hm t draws ht hdr
 unfold mvC mvL mvU
 rw [hok,hP,hc]
 exact ⟨rfl,rfl,rfl⟩
theorem trans_made (fk tk ks d draws:List UInt8) (use gf gt f t:Nat) (pin pan:ByteArray) (hf16:fk.length = 16) (ht16:tk.length = 16) (hu:(use = 1 ∧ ks = []) ∨ (use = 3 ∧ ks.length = 10)) (hgf:gf ≤ 255) (hgt:gt ≤ 255)
   (hg:goodPin (f:Int) pin pan = true) (hd:f = 3 → 14 - pin.size ≤ d.length) (ht:goodPin (t:Int) pin pan = true) (hdr:t = 3 → 14 - pin.size ≤ draws.length) :
   trC masterL (wrapL masterL fk (use:Int) (gf:Int)) ks (wrapL masterL tk 1 (gt:Int)) (tdeaL (if use = 3 then variantL (keyL fk ks) 1 else fk) (mkL (f:Int) pin pan d) false) draws (f:Int) (t:Int) pan = 0 ∧
   trL masterL (wrapL masterL fk (use:Int) (gf:Int)) ks (wrapL masterL tk 1 (gt:Int)) (tdeaL (if use = 3 then variantL (keyL fk ks) 1 else fk) (mkL (f:Int) pin pan d) false) draws (f:Int) (t:Int) pan = tdeaL tk (mkL (t:Int) pin pan draws) false ∧
   trU masterL (wrapL masterL fk (use:Int) (gf:Int)) ks (wrapL masterL tk 1 (gt:Int)) (tdeaL (if use = 3 then variantL (keyL fk ks) 1 else fk) (mkL (f:Int) pin pan d) false) draws (f:Int) (t:Int) pan = mkU (t:Int) pin pan draws.length:=by
 obtain ⟨a1,a2,a3,-⟩:=wrap_facts fk use gf hf16 (by omega) (by omega) hgf
 obtain ⟨b1,b2,b3,-⟩:=wrap_facts tk 1 gt ht16 (by omega) (by omega) hgt
 have hF:trF masterL (wrapL masterL fk (use:Int) (gf:Int)) = true:=by
   unfold trF;rw [a1,a2]
   rcases hu with ⟨rfl,-⟩ | ⟨rfl,-⟩ <;> rfl
 have hT:trT masterL (wrapL masterL tk 1 (gt:Int)) = true:=by
   have b1':okO masterL (wrapL masterL tk 1 (gt:Int)) = true:=b1
   have b2':opU masterL (wrapL masterL tk 1 (gt:Int)) = 1:=b2
   unfold trT;rw [b1',b2'];rfl
 have b3':unkeyN masterL (wrapL masterL tk 1 (gt:Int)) = tk:=b3
 have hfit:fitK (opU masterL (wrapL masterL fk (use:Int) (gf:Int))) ks = true:=by
   rw [a2]
   unfold fitK
   rcases hu with ⟨rfl,rfl⟩ | ⟨rfl,h⟩
   · rfl
   · rw [h];rfl
 have hK:trK masterL (wrapL masterL fk (use:Int) (gf:Int)) ks = if use = 3 then variantL (keyL fk ks) 1 else fk:=by
   unfold trK srcK
   rw [a2,a3]
   rcases hu with ⟨rfl,-⟩ | ⟨rfl,-⟩ <;> rfl
 have hK16:(if use = 3 then variantL (keyL fk ks) 1 else fk).length = 16:=by
   rcases hu with ⟨rfl,-⟩ | ⟨rfl,h⟩
   · exact hf16
   · have hDl:(keyL fk ks).length = 16:=by unfold keyL;rw [if_pos ⟨hf16,h⟩];exact keyN16_length _ _
     rw [if_pos rfl]
     unfold variantL
     rw [if_pos ⟨hDl,.inl rfl⟩,xorL_length _ _ (by rw [List.length_append,maskL_length,hDl])]
     exact hDl
 obtain ⟨m1,m2,m3⟩:=move_made (if use = 3 then variantL (keyL fk ks) 1 else fk) tk d draws f t pin pan hK16 hg hd ht hdr
 unfold trC trL trU
 rw [hF,hT,hfit,hK,b3']
 exact ⟨m1,m2,m3⟩
theorem opCode_ok2 (master block:List UInt8):okO master block = true → opCode master block = 0:=by
 unfold opCode okO
 cases formOK master block <;> cases tagOK master block <;> simp
theorem len_tdea (key block:List UInt8) (hk:key.length = 16) (hb:block.length = 8) (dec:Bool):(tdeaL key block dec).length = 8:=by
 unfold tdeaL
 rw [if_pos ⟨hk,hb⟩]
 exact tdeaN_length _ _ _
theorem fntrans_pure (fk tk ks d1 drs:List UInt8) (use gf gt ff tf:Nat) (pin pan:ByteArray) (hfk:fk.length = 16) (htk:tk.length = 16) (hd1:d1.length = 10) (hdr:drs.length = 10) (huse:(use = 1 ∧ ks = []) ∨ (use = 3 ∧ ks.length = 10)) (hgf:gf ≤ 255) (hgt:gt ≤ 255) (hff:ff = 0 ∨ ff = 3) (htf:tf = 0 ∨ tf = 3)
   (pl4:4 ≤ pin.size) (pl12:pin.size ≤ 12) (pdg:digs pin = true) (ql13:13 ≤ pan.size) (ql19:pan.size ≤ 19) (qdg:digs pan = true) :
   ∃ (FR TO BL XM X0 L1 L2:List UInt8) (U1:Int),(wrapL masterL fk (use:Int) (gf:Int) = FR ∧ wrapL masterL tk 1 (gt:Int) = TO ∧ tdeaL (if use = 3 then variantL (keyL fk ks) 1 else fk) (mkL (ff:Int) pin pan d1) false = BL) ∧
     (FR.length = 36 ∧ TO.length = 36 ∧ BL.length = 8 ∧ XM.length = 8 ∧ X0.length = 8 ∧ L1.length = 8 ∧ L2.length = 8) ∧
     (trC masterL FR ks TO BL drs (ff:Int) (tf:Int) pan = 0 ∧ trL masterL FR ks TO BL drs (ff:Int) (tf:Int) pan = L1 ∧ trU masterL FR ks TO BL drs (ff:Int) (tf:Int) pan = U1) ∧
     (trC masterL TO [] TO L1 [] (tf:Int) 0 pan = 0 ∧ trL masterL TO [] TO L1 [] (tf:Int) 0 pan = L2 ∧ trU masterL TO [] TO L1 [] (tf:Int) 0 pan = 0) ∧
     tdeaL tk L1 true = XM ∧ tdeaL tk X0 false = L2 ∧ (opCode masterL TO = 0 ∧ opU masterL TO = 1 ∧ opKey masterL TO = tk) ∧
     readV (readOK (tf:Int) XM pan) (readD XM pan) = .agg #[.int .i64 0,.string pin] ∧ (mkC 0 pin pan ([]:List UInt8).length = 0 ∧ mkU 0 pin pan ([]:List UInt8).length = 0 ∧ mkL 0 pin pan [] = X0):=by
 have gpf:goodPin (ff:Int) pin pan = true:=goodPin_of hff pl4 pl12 pdg ql13 ql19 qdg
 have gpt:goodPin (tf:Int) pin pan = true:=goodPin_of htf pl4 pl12 pdg ql13 ql19 qdg
 have gp0:goodPin ((0:Nat):Int) pin pan = true:=goodPin_of (.inl rfl) pl4 pl12 pdg ql13 ql19 qdg
 have t:=trans_made fk tk ks d1 drs use gf gt ff tf pin pan hfk htk huse hgf hgt gpf (by intro _;omega) gpt (by intro _;omega)
 have s:=trans_made tk tk [] drs [] 1 gt gt tf 0 pin pan htk htk (.inl ⟨rfl,rfl⟩) hgt hgt gpt (by intro _;omega) gp0 (by intro h;omega)
 rw [if_neg (by decide)] at s
 have hFl:(wrapL masterL fk (use:Int) (gf:Int)).length = 36:=wrap36 _ _ _ _ ⟨rfl,hfk,by omega,by omega,by omega,by omega⟩
 have hTl:(wrapL masterL tk 1 (gt:Int)).length = 36:=wrap36 _ _ _ _ ⟨rfl,htk,by omega,by omega,by omega,by omega⟩
 have hmt:(mkL (tf:Int) pin pan drs).length = 8:=mkL_ok _ _ _ _ (mkC_ok gpt (by omega))
 have hmc0:mkC ((0:Nat):Int) pin pan ([]:List UInt8).length = 0:=by unfold mkC;rw [if_pos gp0,if_neg (by rintro ⟨h,-⟩;omega)]
 have hmu0:mkU ((0:Nat):Int) pin pan ([]:List UInt8).length = 0:=by unfold mkU;rw [if_pos gp0,if_neg (by rintro ⟨h,-⟩;omega)]
 have hm0:(mkL ((0:Nat):Int) pin pan []).length = 8:=mkL_ok _ _ _ _ hmc0
 have hmf:(mkL (ff:Int) pin pan d1).length = 8:=mkL_ok _ _ _ _ (mkC_ok gpf (by omega))
 have hK16:(if use = 3 then variantL (keyL fk ks) 1 else fk).length = 16:=by
   rcases huse with ⟨rfl,-⟩ | ⟨rfl,h⟩
   · exact hfk
   · have hDl:(keyL fk ks).length = 16:=by unfold keyL;rw [if_pos ⟨hfk,h⟩];exact keyN16_length _ _
     rw [if_pos rfl]
     unfold variantL
     rw [if_pos ⟨hDl,.inl rfl⟩,xorL_length _ _ (by rw [List.length_append,maskL_length,hDl])]
     exact hDl
 have hun:=tdea_undo tk _ htk hmt
 have hwf:=wrap_facts tk 1 gt htk (by omega) (by omega) hgt
 have rdm:=read_made tf pin pan drs gpt (by intro _;omega)
 have hrv:readV (readOK (tf:Int) (mkL (tf:Int) pin pan drs) pan) (readD (mkL (tf:Int) pin pan drs) pan) = .agg #[.int .i64 0,.string pin]:=by unfold readV;rw [rdm.1,rdm.2.1];rfl
 refine ⟨_,_,_,_,_,_,_,_,⟨rfl,rfl,rfl⟩,⟨hFl,hTl,len_tdea _ _ hK16 hmf false,hmt,hm0,len_tdea tk _ htk hmt false,len_tdea tk _ htk hm0 false⟩,t,⟨s.1,s.2.1,s.2.2.trans hmu0⟩,hun,rfl,⟨opCode_ok2 _ _ hwf.1,hwf.2.1,hwf.2.2.2⟩,hrv,⟨hmc0,hmu0,rfl⟩⟩
set_option maxRecDepth 100000 in
set_option maxHeartbeats 8000000 in
theorem lawFnTrans_main (ao:Option Addr) (cap:Nat) (code:List UInt8) (x0 x1:Addr) (u:Nat) (pv:Value) (w:World) (hn:code.length ≤ 1048576) (hs:Sents w x0 x1) (hg:w.cell? ⟨2,0,none⟩ = some (.iface u pv)) (hr:RowAt w ao code) :
   Calls Tryz.prog 3 #[.slice ao code.length cap] w fun e w'=>e = .returned (.bool true) ∧ Below w.heap.size w w':=by
 have hz:=(zero_of_info Tryz.zeroO8).1
 have hzm:=(zero_of_info Tryz.zeroMv).1
 have hzp:=(zero_of_info Tryz.zeroPT).1
 have hg0:=World.block_lt_of_cell? w _ hg
 have HB:Hid (∀ {x},Below w.heap.size w x → Sents x x0 x1 ∧ x.cell? ⟨2,0,none⟩ = some (.iface u pv)):=fun h=>⟨hs.below h,(h.cell (p:=⟨2,0,none⟩) hg0).trans hg⟩
 have HD:=hide (drawOrder_any ao cap code w hn hr)
 have hnI:¬ ((1048576:Int) < (code.length:Int)):=by omega
 obtain ⟨nc,hnc⟩:∃ n,n = code.length:=⟨_,rfl⟩
 rw [← hnc] at HD hnI ⊢
 clear hnc hr hg hs
 go_enter Tryz.func3,Tryz.ntmps3
 go_wp2_with fail
 refine HD.out.mono ?_
 rintro e w1 ⟨gm,v,pin,rfl,rm,-,dr,bz1⟩
 obtain ⟨fk,tkk,ks,d1,drs,use,gf,gt,ff,tf,pan,ak,g1,c1,ck,g3,c3,g5,c5,g7,c7,rfl,⟨hfk,htk,hd1,hdr⟩,huse,⟨hgf,hgt⟩,hff,htf,⟨pl4,pl12,pdg⟩,⟨ql13,ql19,qdg⟩,⟨hc1,hck,hc3,hc5,hc7⟩,-,r1,rk,r3,r5,r7⟩:=dr.ex
 have hpm:pin.size ≤ maxLen:=by unfold maxLen;omega
 have hqm:pan.size ≤ maxLen:=by unfold maxLen;omega
 have hks10:ks.length ≤ 1048576:=by rcases huse with ⟨-,h⟩ | ⟨-,h⟩ <;> rw [h] <;> simp
 obtain ⟨FR,TO,BL,XM,X0,L1,L2,U1,⟨eF,eT,eB⟩,⟨hFl,hTl,hBl,hmt,hm0,hL1,hL2⟩,⟨t1,t2,t3⟩,⟨s1',s2',s3'⟩,hun,hen,⟨u1,u2,u3⟩,hrv,⟨mc0,mu0,ml0⟩⟩:=fntrans_pure fk tkk ks d1 drs use gf gt ff tf pin pan hfk htk hd1 hdr huse hgf hgt hff htf pl4 pl12 pdg ql13 ql19 qdg
 rw [eF] at r1
 rw [eT] at r3
 rw [eB] at r5
 clear eF eT eB pl4 pl12 pdg ql13 ql19 qdg hff htf huse hgf hgt hfk hd1
 have Hun:=hide hun
 have Hen:=hide hen
 have Hrv:=hide hrv
 have HS:=hide (And.intro s1' (And.intro s2' s3'))
 have HU:=hide (And.intro u1 (And.intro u2 u3))
 have HMC:=hide (And.intro mc0 (And.intro mu0 ml0))
 clear hun hen hrv s1' s2' s3' u1 u2 u3 mc0 mu0 ml0
 obtain ⟨W1,hW1⟩:∃ x,x = w1.alloc (.cells #[.slice (some ⟨g1,0,none⟩) 36 c1,.int .i64 (ff:Int),.slice ak ks.length ck,.slice (some ⟨g3,0,none⟩) 36 c3,.int .i64 (tf:Int),.slice (some ⟨g5,0,none⟩) 8 c5,.string pan,.slice (some ⟨g7,0,none⟩) 10 c7] 24):=⟨_,rfl⟩
 have b11:Below w1.heap.size w1 W1:=by rw [hW1];exact below_new _ _
 have bW1:=bz1.trans (b11.mono bz1.size)
 have HT1:=hide (transI_any masterL FR ks TO BL drs (some ⟨gm,0,none⟩) (some ⟨g1,0,none⟩) ak (some ⟨g3,0,none⟩) (some ⟨g5,0,none⟩) (some ⟨g7,0,none⟩) 16 c1 ck c3 c5 c7 (ff:Int) (tf:Int) pan x0 x1 u pv W1 hks10 (by omega) (by omega) (by omega) hck (by omega) (by omega) (by omega) hqm (HB.out bW1).1 (HB.out bW1).2 (rm.below b11) (r1.below b11) (rk.below b11) (r3.below b11) (r5.below b11) (r7.below b11))
 rw [t1,t2,t3,show masterL.length = 16 from rfl,hFl,hTl,hBl,hdr] at HT1
 obtain ⟨nks,hnks⟩:∃ n,n = ks.length:=⟨_,rfl⟩
 rw [← hnks] at HT1 hW1 ⊢
 have HW1:=hide hW1
 have kO:Blk W1 w1.heap.size 24 [.slice (some ⟨g1,0,none⟩) 36 c1,.int .i64 (ff:Int),.slice ak nks ck,.slice (some ⟨g3,0,none⟩) 36 c3,.int .i64 (tf:Int),.slice (some ⟨g5,0,none⟩) 8 c5,.string pan,.slice (some ⟨g7,0,none⟩) 10 c7]:=by rw [hW1];exact Blk.new _ _ _
 have rmx:=rm.below b11
 have r3x:=r3.below b11
 clear hnks hW1 b11 bz1 dr rm r1 rk r3 r5 r7 t1 t2 t3 hFl hBl hks10 hc1 hck hc5 hc7 hdr
 obtain ⟨GO,hGO⟩:∃ x,x = w1.heap.size:=⟨_,rfl⟩
 rw [← hGO] at kO
 have HGO:=hide hGO
 clear hGO
 go_upto_region 4 with fail
 rw [← show W1 = _ from HW1,← show GO = _ from HGO]
 clear HW1 HGO
 go_wp2_with (refine load_blk rfl 24 _ rfl GO rfl kO Tryz.underlying24 rfl (by kernel_rfl) ?_)
 refine HT1.out.mono ?_
 rintro e w2 ⟨v2,rfl,own2,bel2⟩
 obtain ⟨gL,cL,hcL,rfl,rowL,-,-⟩:=own2.at' hL1 (by omega)
 have rL:=row_of rowL
 obtain ⟨W2,hW2⟩:∃ x,x = w2.alloc (.cells #[.int .i64 0,.slice (some ⟨gL,0,none⟩) 8 cL,.int .i64 U1] 28):=⟨_,rfl⟩
 have kM:Blk W2 w2.heap.size 28 [.int .i64 0,.slice (some ⟨gL,0,none⟩) 8 cL,.int .i64 U1]:=by rw [hW2];exact Blk.new _ _ _
 have b22:Below w2.heap.size w2 W2:=by rw [hW2];exact below_new _ _
 have b12:Below W1.heap.size W1 W2:=bel2.trans (b22.mono bel2.size)
 have kO2:=kO.below b12 kO.lt
 have rm2:=rmx.below b12
 have r32:=r3x.below b12
 have rL2:=rL.below b22
 have bW2:=bW1.trans (b12.mono bW1.size)
 obtain ⟨GM,hGM⟩:∃ x,x = w2.heap.size:=⟨_,rfl⟩
 rw [← hGM] at kM
 have HW2:=hide hW2
 have HGM:=hide hGM
 clear own2 bel2 rowL rL b22 b12 kO rmx r3x bW1 hW2 hGM HT1
 go_upto_region 5 with fail
 rw [← show W2 = _ from HW2,← show GM = _ from HGM]
 clear HW2 HGM
 have m0:=kM.cell 0 (by simp)
 have m1:=kM.cell 1 (by simp)
 have o3:=kO2.cell 3 (by simp)
 have HUN:=hide (unwrap_any masterL TO (some ⟨gm,0,none⟩) (some ⟨g3,0,none⟩) 16 c3 x0 x1 W2 (by omega) (HB.out bW2).1 rm2 r32)
 have hgG:∃ G,G = opG masterL TO:=⟨_,rfl⟩
 obtain ⟨G,hG⟩:=hgG
 rw [HU.out.1,HU.out.2.1,← hG,HU.out.2.2,show masterL.length = 16 from rfl,hTl] at HUN
 clear hG HU
 go_wp2_with fail
 refine HUN.out.mono ?_
 rintro e w3 ⟨v3,rfl,own3,bel3⟩
 obtain ⟨gk,ckk,hckk,rfl,rowk,-,-⟩:=own3.at' htk (by omega)
 have rK:=row_of rowk
 have kO3:=kO2.below bel3 kO2.lt
 have kM3:=kM.below bel3 kM.lt
 have rm3:=rm2.below bel3
 have r33:=r32.below bel3
 have rL3:=rL2.below bel3
 have bW3:=bW2.trans (bel3.mono bW2.size)
 have hf1:=fun (wx:World)=>(show (Instr.field 33 (.agg #[.int .i64 0,.int .i64 1,.int .i64 G,.slice (some ⟨gk,0,none⟩) 16 ckk]) 1).run Tryz.prog wx = .ok (.agg #[.int .i64 1,.int .i64 G,.slice (some ⟨gk,0,none⟩) 16 ckk]) wx by kernel_rfl)
 have hf2:=fun (wx:World)=>(show (Instr.field 31 (.agg #[.int .i64 1,.int .i64 G,.slice (some ⟨gk,0,none⟩) 16 ckk]) 2).run Tryz.prog wx = .ok (.slice (some ⟨gk,0,none⟩) 16 ckk) wx by kernel_rfl)
 clear own3 bel3 rowk kO2 kM rm2 r32 rL2 bW2 m0 m1 o3 HUN
 go_upto_region 8 with fail
 clear hf1 hf2
 have HTD:=hide (fun (c:Nat) (h0:8 ≤ c) (wx:World) (q1:RowAt wx (some ⟨gk,0,none⟩) tkk) (q2:RowAt wx (some ⟨gL,0,none⟩) L1)=>tdea_all tkk L1 true (some ⟨gk,0,none⟩) (some ⟨gL,0,none⟩) ckk c wx (by omega) (by omega) (by omega) (by omega) q1 q2)
 rw [Hun.out,htk,hL1] at HTD
 have HRD:=hide (fun (a:Option Addr) (c:Nat) (wx:World) (q0:Below w.heap.size w wx) (q1:RowAt wx a XM)=>readI_all (tf:Int) XM pan a c u pv wx hqm (by omega) (HB.out q0).2 q1)
 rw [Hrv.out,hmt] at HRD
 have Hmt:=hide hmt
 clear hmt
 clear Hrv Hun
 go_cut [8] (fun p wx=>∃ GP,p = .pointer (some ⟨GP,0,none⟩) ∧ w3.heap.size ≤ GP ∧ Blk wx GP 36 [.int .i64 0,.string pin] ∧ Below w3.heap.size w3 wx)
 case first =>
   obtain ⟨V,hV⟩:∃ V,V = World.drew w3:=⟨_,rfl⟩
   have b_0:Below w3.heap.size w3 V:=by rw [hV];exact (Below.refl _ _).drew
   have hWV:=b_0.size
   have keep:Hid (∀ {x},Below w3.heap.size w3 x → x.cell? ⟨GO,4,none⟩ = some (.int .i64 (tf:Int)) ∧ x.cell? ⟨GM,1,none⟩ = some (.slice (some ⟨gL,0,none⟩) 8 cL) ∧ x.cell? ⟨GO,6,none⟩ = some (.string pan)):=fun h=>⟨(kO3.below h kO3.lt).cell 4 (by simp),(kM3.below h kM3.lt).cell 1 (by simp),(kO3.below h kO3.lt).cell 6 (by simp)⟩
   refine wp_region_held_drew (S:=fun x=>x.cell? ⟨GO,4,none⟩ = some (.int .i64 (tf:Int)) ∧ x.cell? ⟨GM,1,none⟩ = some (.slice (some ⟨gL,0,none⟩) 8 cL) ∧ x.cell? ⟨GO,6,none⟩ = some (.string pan)) (by kernel_rfl) (by rw [← hV];exact keep.out b_0) (fun hHeld=>?_)
   rw [← hV] at hHeld ⊢
   clear hV
   refine tk (i:=0) (v:=(.pointer (some ⟨GO,4,none⟩))) rfl (Or.inl ⟨by rfl,?_⟩) hHeld ?_
   · intro _ _;go_simp
   dsimp only [Act.put,List.getElem_toArray,List.getElem_cons_zero,List.getElem_cons_succ]
   simp only [List.setIfInBounds_toArray,List.set_cons_succ,List.set_cons_zero]
   refine tk (i:=1) (v:=(.int .i64 (tf:Int))) rfl (Or.inl ⟨by rfl,fun w1 h=>by have hc:=h.1;go_simp⟩) hHeld ?_
   dsimp only [Act.put,List.getElem_toArray,List.getElem_cons_zero,List.getElem_cons_succ]
   simp only [List.setIfInBounds_toArray,List.set_cons_succ,List.set_cons_zero]
   refine tk (i:=2) (v:=(.slice (some ⟨gk,0,none⟩) 16 ckk)) rfl (Or.inl ⟨by rfl,?_⟩) hHeld ?_
   · intro _ _;go_simp
   dsimp only [Act.put,List.getElem_toArray,List.getElem_cons_zero,List.getElem_cons_succ]
   simp only [List.setIfInBounds_toArray,List.set_cons_succ,List.set_cons_zero]
   refine tk (i:=3) (v:=(.pointer (some ⟨GM,1,none⟩))) rfl (Or.inl ⟨by rfl,?_⟩) hHeld ?_
   · intro _ _;go_simp
   dsimp only [Act.put,List.getElem_toArray,List.getElem_cons_zero,List.getElem_cons_succ]
   simp only [List.setIfInBounds_toArray,List.set_cons_succ,List.set_cons_zero]
   refine tk (i:=4) (v:=(.slice (some ⟨gL,0,none⟩) 8 cL)) rfl (Or.inl ⟨by rfl,fun w1 h=>by have hc:=h.2.1;go_simp⟩) hHeld ?_
   dsimp only [Act.put,List.getElem_toArray,List.getElem_cons_zero,List.getElem_cons_succ]
   simp only [List.setIfInBounds_toArray,List.set_cons_succ,List.set_cons_zero]
   refine tk (i:=6) (v:=(.pointer (some ⟨GO,6,none⟩))) rfl (Or.inl ⟨by rfl,?_⟩) hHeld ?_
   · intro _ _;go_simp
   dsimp only [Act.put,List.getElem_toArray,List.getElem_cons_zero,List.getElem_cons_succ]
   simp only [List.setIfInBounds_toArray,List.set_cons_succ,List.set_cons_zero]
   refine tk (i:=7) (v:=(.string pan)) rfl (Or.inl ⟨by rfl,fun w1 h=>by have hc:=h.2.2;go_simp⟩) hHeld ?_
   dsimp only [Act.put,List.getElem_toArray,List.getElem_cons_zero,List.getElem_cons_succ]
   simp only [List.setIfInBounds_toArray,List.set_cons_succ,List.set_cons_zero]
   refine wpAnyH_ready (rs:=[5,9]) (by kernel_rfl) (by simp) ?_
   refine AllReadyH.cons rfl (fun KQ hK=>?_) (AllReadyH.cons rfl (fun KQ hK=>?_) (AllReadyH.nil))
   · go_simp
     refine (HTD.out _ hcL _ (rK.below b_0) (rL3.below b_0)).mono ?_
     rintro e w_1 ⟨v_1,rfl,own_1,bel_1⟩
     have b_1:=b_0.trans (bel_1.mono (by have:=b_0.size;omega))
     obtain ⟨aD,cD,rfl,rD,-,-,-⟩:=own_1.shape
     rw [Hmt.out]
     clear own_1
     go_wp2_with fail
     refine hK.out _ _ (keep.out b_1) (fun hHeld=>?_)
     clear hK KQ
     try dsimp only [Act.put]
     refine wpAnyH_ready (rs:=[8,9]) (by kernel_rfl) (by simp) ?_
     refine AllReadyH.cons rfl (fun KQ hK=>?_) (AllReadyH.cons rfl (fun KQ hK=>?_) (AllReadyH.nil))
     · go_simp
       refine (HRD.out _ _ _ (bW3.trans (b_1.mono bW3.size)) rD).mono ?_
       rintro e w_2 ⟨rfl,bel_2⟩
       have rD_2:=rD.below bel_2
       have b_2:=b_1.trans (bel_2.mono (by have:=b_1.size;omega))
       go_wp2_with fail
       refine hK.out _ _ (keep.out b_2) (fun hHeld=>?_)
       clear hK KQ
       try dsimp only [Act.put]
       refine rdy1 9 (fun KQ hK=>?_)
       go_simp
       obtain ⟨w_3,hw_3⟩:∃ x,x = World.alloc w_2 (.cells (zeroPT).toArray 36):=⟨_,rfl⟩
       have bel_3:Below w_2.heap.size w_2 w_3:=by rw [hw_3];exact below_new _ _
       have G_3:Blk w_3 w_2.heap.size 36 (zeroPT):=by rw [hw_3];exact Blk.new _ _ _
       have le_G_3:=b_2.size
       have lt_G_3:=G_3.lt
       have rD_3:=rD_2.below bel_3
       have b_3:=below_step b_2 bel_3
       rw [← hw_3]
       clear hw_3
       refine hK.out _ _ (keep.out b_3) (fun hHeld=>?_)
       clear hK KQ
       try dsimp only [Act.put]
       refine rdy1 10 (fun KQ hK=>?_)
       rw [if_pos (by rfl)]
       refine wp_store_blk rfl 36 _ _ rfl w_2.heap.size rfl rfl G_3 (by kernel_rfl) rfl (by kernel_rfl) ?_
       have G_4:=Blk.setRow G_3 ([.int .i64 0,.string pin])
       have b_4:=below_setRow' (g:=w_2.heap.size) b_3 le_G_3 ([.int .i64 0,.string pin]).toArray
       refine hK.out _ _ (keep.out b_4) (fun hHeld=>?_)
       clear hK KQ
       try dsimp only [Act.put]
       refine wpAnyH_done (by kernel_rfl) ?_ _
       go_wp2_with fail
       go_meet
       case rel=>exact ⟨_,rfl,le_G_3,G_4,b_4⟩
     · go_simp
       obtain ⟨w_5,hw_5⟩:∃ x,x = World.alloc w_1 (.cells (zeroPT).toArray 36):=⟨_,rfl⟩
       have bel_5:Below w_1.heap.size w_1 w_5:=by rw [hw_5];exact below_new _ _
       have G_5:Blk w_5 w_1.heap.size 36 (zeroPT):=by rw [hw_5];exact Blk.new _ _ _
       have le_G_5:=b_1.size
       have lt_G_5:=G_5.lt
       have rD_5:=rD.below bel_5
       have b_5:=below_step b_1 bel_5
       rw [← hw_5]
       clear hw_5
       refine hK.out _ _ (keep.out b_5) (fun hHeld=>?_)
       clear hK KQ
       try dsimp only [Act.put]
       refine rdy1 8 (fun KQ hK=>?_)
       go_simp
       refine (HRD.out _ _ _ (bW3.trans (b_5.mono bW3.size)) rD_5).mono ?_
       rintro e w_6 ⟨rfl,bel_6⟩
       have rD_6:=rD_5.below bel_6
       have G_6:=G_5.below bel_6 G_5.lt
       have b_6:=b_5.trans (bel_6.mono (by have:=b_5.size;omega))
       go_wp2_with fail
       refine hK.out _ _ (keep.out b_6) (fun hHeld=>?_)
       clear hK KQ
       try dsimp only [Act.put]
       refine rdy1 10 (fun KQ hK=>?_)
       rw [if_pos (by rfl)]
       refine wp_store_blk rfl 36 _ _ rfl w_1.heap.size rfl rfl G_6 (by kernel_rfl) rfl (by kernel_rfl) ?_
       have G_7:=Blk.setRow G_6 ([.int .i64 0,.string pin])
       have b_7:=below_setRow' (g:=w_1.heap.size) b_6 le_G_5 ([.int .i64 0,.string pin]).toArray
       refine hK.out _ _ (keep.out b_7) (fun hHeld=>?_)
       clear hK KQ
       try dsimp only [Act.put]
       refine wpAnyH_done (by kernel_rfl) ?_ _
       go_wp2_with fail
       go_meet
       case rel=>exact ⟨_,rfl,le_G_5,G_7,b_7⟩
   · go_simp
     obtain ⟨w_8,hw_8⟩:∃ x,x = World.alloc V (.cells (zeroPT).toArray 36):=⟨_,rfl⟩
     have bel_8:Below V.heap.size V w_8:=by rw [hw_8];exact below_new _ _
     have G_8:Blk w_8 V.heap.size 36 (zeroPT):=by rw [hw_8];exact Blk.new _ _ _
     have le_G_8:=b_0.size
     have lt_G_8:=G_8.lt
     have b_8:=below_step b_0 bel_8
     rw [← hw_8]
     clear hw_8
     refine hK.out _ _ (keep.out b_8) (fun hHeld=>?_)
     clear hK KQ
     try dsimp only [Act.put]
     refine rdy1 5 (fun KQ hK=>?_)
     go_simp
     refine (HTD.out _ hcL _ (rK.below b_8) (rL3.below b_8)).mono ?_
     rintro e w_9 ⟨v_9,rfl,own_9,bel_9⟩
     have G_9:=G_8.below bel_9 G_8.lt
     have b_9:=b_8.trans (bel_9.mono (by have:=b_8.size;omega))
     obtain ⟨aD,cD,rfl,rD,-,-,-⟩:=own_9.shape
     rw [Hmt.out]
     clear own_9
     go_wp2_with fail
     refine hK.out _ _ (keep.out b_9) (fun hHeld=>?_)
     clear hK KQ
     try dsimp only [Act.put]
     refine rdy1 8 (fun KQ hK=>?_)
     go_simp
     refine (HRD.out _ _ _ (bW3.trans (b_9.mono bW3.size)) rD).mono ?_
     rintro e w_10 ⟨rfl,bel_10⟩
     have G_10:=G_9.below bel_10 G_9.lt
     have rD_10:=rD.below bel_10
     have b_10:=b_9.trans (bel_10.mono (by have:=b_9.size;omega))
     go_wp2_with fail
     refine hK.out _ _ (keep.out b_10) (fun hHeld=>?_)
     clear hK KQ
     try dsimp only [Act.put]
     refine rdy1 10 (fun KQ hK=>?_)
     rw [if_pos (by rfl)]
     refine wp_store_blk rfl 36 _ _ rfl V.heap.size rfl rfl G_10 (by kernel_rfl) rfl (by kernel_rfl) ?_
     have G_11:=Blk.setRow G_10 ([.int .i64 0,.string pin])
     have b_11:=below_setRow' (g:=V.heap.size) b_10 le_G_8 ([.int .i64 0,.string pin]).toArray
     refine hK.out _ _ (keep.out b_11) (fun hHeld=>?_)
     clear hK KQ
     try dsimp only [Act.put]
     refine wpAnyH_done (by kernel_rfl) ?_ _
     go_wp2_with fail
     go_meet
     case rel=>exact ⟨_,rfl,le_G_8,G_11,b_11⟩
 case rest =>
   obtain ⟨GP,rfl,-,kP,bc⟩:=hcut
   have kO4:=kO3.below bc kO3.lt
   have kM4:=kM3.below bc kM3.lt
   have rm4:=rm3.below bc
   have r34:=r33.below bc
   have rL4:=rL3.below bc
   have rK4:=rK.below bc
   have bW4:=bW3.trans (bc.mono bW3.size)
   clear kO3 kM3 rm3 r33 rL3 rK bc bW3 HTD HRD
   have p0:=kP.cell 0 (by simp)
   have p1:=kP.cell 1 (by simp)
   have hpp:(pin == pin) = true:=by rw [beq_bytes];exact decide_eq_true rfl
   have hpn:(pin != pin) = false:=by unfold bne;rw [hpp];rfl
   have o3:=kO4.cell 3 (by simp)
   have o4:=kO4.cell 4 (by simp)
   have o6:=kO4.cell 6 (by simp)
   have m1:=kM4.cell 1 (by simp)
   have HT2:=hide (transI_any masterL TO [] TO L1 [] (some ⟨gm,0,none⟩) (some ⟨g3,0,none⟩) none (some ⟨g3,0,none⟩) (some ⟨gL,0,none⟩) none 16 c3 0 c3 cL 0 (tf:Int) 0 pan x0 x1 u pv wc (by simp) (by omega) (by simp) (by omega) (Nat.le_refl _) (by omega) (by omega) (Nat.le_refl _) hqm (HB.out bW4).1 (HB.out bW4).2 rm4 r34 (.inl rfl) r34 rL4 (.inl rfl))
   rw [HS.out.1,HS.out.2.1,HS.out.2.2,show masterL.length = 16 from rfl,hTl,hL1] at HT2
   change Hid (Calls Tryz.prog 6 #[.slice (some ⟨gm,0,none⟩) 16 16,.agg ([.slice (some ⟨g3,0,none⟩) 36 c3,.int .i64 (tf:Int),.slice none 0 0,.slice (some ⟨g3,0,none⟩) 36 c3,.int .i64 0,.slice (some ⟨gL,0,none⟩) 8 cL,.string pan,.slice none 0 0]:List Value).toArray] wc fun e w'=>∃ v,e = .returned (.agg #[.int .i64 0,v,.int .i64 0]) ∧ Own w' wc.heap.size v L2 ∧ Below wc.heap.size wc w') at HT2
   clear HS kP
   go_wp2_with fail
   refine HT2.out.mono ?_
   rintro e w5 ⟨v5,rfl,own5,bel5⟩
   obtain ⟨gN,cN,hcN,rfl,rowN,-,-⟩:=own5.at' hL2 (by omega)
   have rN:=row_of rowN
   obtain ⟨W5,hW5⟩:∃ x,x = w5.alloc (.cells #[.int .i64 0,.slice (some ⟨gN,0,none⟩) 8 cN,.int .i64 0] 28):=⟨_,rfl⟩
   have kN:Blk W5 w5.heap.size 28 [.int .i64 0,.slice (some ⟨gN,0,none⟩) 8 cN,.int .i64 0]:=by rw [hW5];exact Blk.new _ _ _
   have b55:Below w5.heap.size w5 W5:=by rw [hW5];exact below_new _ _
   have b45:Below wc.heap.size wc W5:=bel5.trans (b55.mono bel5.size)
   have kO5:=kO4.below b45 kO4.lt
   have rK5:=rK4.below b45
   have rN5:=rN.below b55
   have bW5:=bW4.trans (b45.mono bW4.size)
   obtain ⟨GX,hGX⟩:∃ x,x = w5.heap.size:=⟨_,rfl⟩
   rw [← hGX] at kN
   have HW5:=hide hW5
   have HGX:=hide hGX
   clear own5 bel5 rowN rN b55 b45 kO4 kM4 rm4 r34 rL4 rK4 bW4 hW5 hGX p0 p1 o3 o4 o6 m1 HT2
   go_upto_region 12 with fail
   rw [← show W5 = _ from HW5,← show GX = _ from HGX]
   clear HW5 HGX
   have HM0:=hide (fun (wx:World)=>(make_any 0 pin pan [] hpm hqm (by simp)).1 none 0 wx (Nat.le_refl _) (.inl rfl))
   rw [HMC.out.1,HMC.out.2.1,HMC.out.2.2] at HM0
   change Hid (∀ wx:World,Calls Tryz.prog 11 #[.int .i64 0,.string pin,.string pan,.slice none 0 0] wx fun e w'=>∃ v,e = .returned (.agg #[.int .i64 0,v,.int .i64 0]) ∧ Own w' wx.heap.size v X0 ∧ Below wx.heap.size wx w') at HM0
   have HTE:=hide (fun (g c:Nat) (h0:8 ≤ c) (wx:World) (q1:RowAt wx (some ⟨gk,0,none⟩) tkk) (q2:RowAt wx (some ⟨g,0,none⟩) X0)=>tdea_all tkk X0 false (some ⟨gk,0,none⟩) (some ⟨g,0,none⟩) ckk c wx (by omega) (by omega) (by omega) (by omega) q1 q2)
   rw [Hen.out,htk,hm0] at HTE
   have HSM:=hide (fun (a:Option Addr) (c:Nat) (wx:World) (q1:RowAt wx (some ⟨gN,0,none⟩) L2) (q2:RowAt wx a L2)=>same_any L2 (some ⟨gN,0,none⟩) a 8 cN c wx hL2 (by omega) q1 q2)
   have HL2:=hide hL2
   have Hm0:=hide hm0
   clear Hen HMC hL2 hm0 htk hL1 hTl
   obtain ⟨V,hV⟩:∃ V,V = World.drew W5:=⟨_,rfl⟩
   have b_0:Below W5.heap.size W5 V:=by rw [hV];exact (Below.refl _ _).drew
   have hWV:=b_0.size
   have keep:Hid (∀ {x},Below W5.heap.size W5 x → x.cell? ⟨GX,0,none⟩ = some (.int .i64 0) ∧ x.cell? ⟨GX,2,none⟩ = some (.int .i64 0) ∧ x.cell? ⟨GX,1,none⟩ = some (.slice (some ⟨gN,0,none⟩) 8 cN) ∧ x.cell? ⟨GO,6,none⟩ = some (.string pan)):=fun h=>⟨(kN.below h kN.lt).cell 0 (by simp),(kN.below h kN.lt).cell 2 (by simp),(kN.below h kN.lt).cell 1 (by simp),(kO5.below h kO5.lt).cell 6 (by simp)⟩
   refine wp_region_held_drew (S:=fun x=>x.cell? ⟨GX,0,none⟩ = some (.int .i64 0) ∧ x.cell? ⟨GX,2,none⟩ = some (.int .i64 0) ∧ x.cell? ⟨GX,1,none⟩ = some (.slice (some ⟨gN,0,none⟩) 8 cN) ∧ x.cell? ⟨GO,6,none⟩ = some (.string pan)) (by kernel_rfl) (by rw [← hV];exact keep.out b_0) (fun hHeld=>?_)
   rw [← hV] at hHeld ⊢
   clear hV
   refine tk (i:=0) (v:=(.pointer (some ⟨GX,0,none⟩))) rfl (Or.inl ⟨by rfl,?_⟩) hHeld ?_
   · intro _ _;go_simp
   dsimp only [Act.put,List.getElem_toArray,List.getElem_cons_zero,List.getElem_cons_succ]
   simp only [List.setIfInBounds_toArray,List.set_cons_succ,List.set_cons_zero]
   refine tk (i:=1) (v:=(.int .i64 0)) rfl (Or.inl ⟨by rfl,fun w1 h=>by have hc:=h.1;go_simp⟩) hHeld ?_
   dsimp only [Act.put,List.getElem_toArray,List.getElem_cons_zero,List.getElem_cons_succ]
   simp only [List.setIfInBounds_toArray,List.set_cons_succ,List.set_cons_zero]
   refine tk (i:=2) (v:=(.bool true)) rfl (Or.inl ⟨by rfl,?_⟩) hHeld ?_
   · intro _ _;go_simp
   dsimp only [Act.put,List.getElem_toArray,List.getElem_cons_zero,List.getElem_cons_succ]
   simp only [List.setIfInBounds_toArray,List.set_cons_succ,List.set_cons_zero]
   refine tk (i:=3) (v:=(.bool true)) rfl (Or.inl ⟨by rfl,?_⟩) hHeld ?_
   · intro _ _;go_simp
   dsimp only [Act.put,List.getElem_toArray,List.getElem_cons_zero,List.getElem_cons_succ]
   simp only [List.setIfInBounds_toArray,List.set_cons_succ,List.set_cons_zero]
   refine tk (i:=4) (v:=(.pointer (some ⟨GX,2,none⟩))) rfl (Or.inl ⟨by rfl,?_⟩) hHeld ?_
   · intro _ _;go_simp
   dsimp only [Act.put,List.getElem_toArray,List.getElem_cons_zero,List.getElem_cons_succ]
   simp only [List.setIfInBounds_toArray,List.set_cons_succ,List.set_cons_zero]
   refine tk (i:=5) (v:=(.int .i64 0)) rfl (Or.inl ⟨by rfl,fun w1 h=>by have hc:=h.2.1;go_simp⟩) hHeld ?_
   dsimp only [Act.put,List.getElem_toArray,List.getElem_cons_zero,List.getElem_cons_succ]
   simp only [List.setIfInBounds_toArray,List.set_cons_succ,List.set_cons_zero]
   refine tk (i:=6) (v:=(.bool true)) rfl (Or.inl ⟨by rfl,?_⟩) hHeld ?_
   · intro _ _;go_simp
   dsimp only [Act.put,List.getElem_toArray,List.getElem_cons_zero,List.getElem_cons_succ]
   simp only [List.setIfInBounds_toArray,List.set_cons_succ,List.set_cons_zero]
   refine tk (i:=7) (v:=(.bool true)) rfl (Or.inl ⟨by rfl,?_⟩) hHeld ?_
   · intro _ _;go_simp
   dsimp only [Act.put,List.getElem_toArray,List.getElem_cons_zero,List.getElem_cons_succ]
   simp only [List.setIfInBounds_toArray,List.set_cons_succ,List.set_cons_zero]
   refine tk (i:=8) (v:=(.bool true)) rfl (Or.inl ⟨by rfl,?_⟩) hHeld ?_
   · intro _ _;go_simp
   dsimp only [Act.put,List.getElem_toArray,List.getElem_cons_zero,List.getElem_cons_succ]
   simp only [List.setIfInBounds_toArray,List.set_cons_succ,List.set_cons_zero]
   refine tk (i:=9) (v:=(.pointer (some ⟨GX,1,none⟩))) rfl (Or.inl ⟨by rfl,?_⟩) hHeld ?_
   · intro _ _;go_simp
   dsimp only [Act.put,List.getElem_toArray,List.getElem_cons_zero,List.getElem_cons_succ]
   simp only [List.setIfInBounds_toArray,List.set_cons_succ,List.set_cons_zero]
   refine tk (i:=10) (v:=(.slice (some ⟨gN,0,none⟩) 8 cN)) rfl (Or.inl ⟨by rfl,fun w1 h=>by have hc:=h.2.2.1;go_simp⟩) hHeld ?_
   dsimp only [Act.put,List.getElem_toArray,List.getElem_cons_zero,List.getElem_cons_succ]
   simp only [List.setIfInBounds_toArray,List.set_cons_succ,List.set_cons_zero]
   refine tk (i:=11) (v:=(.slice (some ⟨gk,0,none⟩) 16 ckk)) rfl (Or.inl ⟨by rfl,?_⟩) hHeld ?_
   · intro _ _;go_simp
   dsimp only [Act.put,List.getElem_toArray,List.getElem_cons_zero,List.getElem_cons_succ]
   simp only [List.setIfInBounds_toArray,List.set_cons_succ,List.set_cons_zero]
   refine tk (i:=12) (v:=(.string pin)) rfl (Or.inl ⟨by rfl,?_⟩) hHeld ?_
   · intro _ _;go_simp
   dsimp only [Act.put,List.getElem_toArray,List.getElem_cons_zero,List.getElem_cons_succ]
   simp only [List.setIfInBounds_toArray,List.set_cons_succ,List.set_cons_zero]
   refine tk (i:=13) (v:=(.pointer (some ⟨GO,6,none⟩))) rfl (Or.inl ⟨by rfl,?_⟩) hHeld ?_
   · intro _ _;go_simp
   dsimp only [Act.put,List.getElem_toArray,List.getElem_cons_zero,List.getElem_cons_succ]
   simp only [List.setIfInBounds_toArray,List.set_cons_succ,List.set_cons_zero]
   refine tk (i:=14) (v:=(.string pan)) rfl (Or.inl ⟨by rfl,fun w1 h=>by have hc:=h.2.2.2;go_simp⟩) hHeld ?_
   dsimp only [Act.put,List.getElem_toArray,List.getElem_cons_zero,List.getElem_cons_succ]
   simp only [List.setIfInBounds_toArray,List.set_cons_succ,List.set_cons_zero]
   refine rdy1 15 (fun KQ hK=>?_)
   go_simp
   refine (HM0.out _).mono ?_
   rintro e w_1 ⟨v_1,rfl,own_1,bel_1⟩
   have b_1:=b_0.trans (bel_1.mono (by have:=b_0.size;omega))
   obtain ⟨gz,cz,hcz,rfl,rowZ,-,-⟩:=own_1.at' Hm0.out (by omega)
   have rZ:=row_of rowZ
   clear own_1 rowZ
   have hfd:=fun (wx:World)=>(show (Instr.field 40 (.agg #[.int .i64 0,.slice (some ⟨gz,0,none⟩) 8 cz,.int .i64 0]) 1).run Tryz.prog wx = .ok (.slice (some ⟨gz,0,none⟩) 8 cz) wx by kernel_rfl)
   go_wp2_with fail
   refine hK.out _ _ (keep.out b_1) (fun hHeld=>?_)
   clear hK KQ
   try dsimp only [Act.put]
   refine tk (i:=16) (v:=(.slice (some ⟨gz,0,none⟩) 8 cz)) rfl (Or.inl ⟨by rfl,?_⟩) hHeld ?_
   · intro _ _;go_simp
   dsimp only [Act.put,List.getElem_toArray,List.getElem_cons_zero,List.getElem_cons_succ]
   simp only [List.setIfInBounds_toArray,List.set_cons_succ,List.set_cons_zero]
   refine rdy1 17 (fun KQ hK=>?_)
   go_simp
   refine (HTE.out _ _ hcz _ (rK5.below b_1) rZ).mono ?_
   rintro e w_2 ⟨v_2,rfl,own_2,bel_2⟩
   have rZ_2:=rZ.below bel_2
   have b_2:=b_1.trans (bel_2.mono (by have:=b_1.size;omega))
   obtain ⟨aE,cE,rfl,rE,-,-,-⟩:=own_2.shape
   rw [HL2.out]
   clear own_2 hfd
   go_wp2_with fail
   refine hK.out _ _ (keep.out b_2) (fun hHeld=>?_)
   clear hK KQ
   try dsimp only [Act.put]
   refine rdy1 18 (fun KQ hK=>?_)
   go_simp
   refine (HSM.out _ _ _ (rN5.below b_2) rE).mono ?_
   rintro e w_3 ⟨rfl,hw_3⟩
   subst w_3
   go_wp2_with fail
   refine hK.out _ _ (keep.out b_2) (fun hHeld=>?_)
   clear hK KQ
   try dsimp only [Act.put]
   refine tk (i:=19) (v:=(.bool true)) rfl (Or.inl ⟨by rfl,?_⟩) hHeld ?_
   · intro _ _;go_simp
   dsimp only [Act.put,List.getElem_toArray,List.getElem_cons_zero,List.getElem_cons_succ]
   simp only [List.setIfInBounds_toArray,List.set_cons_succ,List.set_cons_zero]
   refine rdy1 20 (fun KQ hK=>?_)
   go_simp
   refine hK.out _ _ (keep.out b_2) (fun hHeld=>?_)
   clear hK KQ
   try dsimp only [Act.put]
   refine wpAnyH_done (by kernel_rfl) ?_ _
   go_wp2_with fail
   go_ret
   exact ⟨rfl,bW5.trans (b_2.mono bW5.size)⟩
set_option maxHeartbeats 1000000 in
theorem lawFnTrans (ao:Option Addr) (cap:Nat) (code:List UInt8) (x0 x1:Addr) (u:Nat) (pv:Value) (w:World) (_hn:code.length ≤ maxLen) (hs:Sents w x0 x1) (hg:w.cell? ⟨2,0,none⟩ = some (.iface u pv)) (hr:RowAt w ao code) :
   Calls Tryz.prog 3 #[.slice ao code.length cap] w fun e w'=>e = .returned (.bool true) ∧ Below w.heap.size w w':=by
 by_cases h:code.length ≤ 1048576
 · exact lawFnTrans_main ao cap code x0 x1 u pv w h hs hg hr
 · have hnI:(1048576:Int) < (code.length:Int):=by omega
   clear hg hr hs
   go_enter Tryz.func3,Tryz.ntmps3
   go_wp2_with fail
   go_ret
   exact ⟨rfl,Below.refl _ _⟩
end Go.Proofs.YtoajfbkblpaejaaGreatDoor
