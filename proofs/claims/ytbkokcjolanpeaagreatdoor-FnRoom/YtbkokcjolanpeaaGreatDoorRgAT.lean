import Derived.Test.YtbkokcjolanpeaaGreatDoorRgAR
import Derived.Test.YtbkokcjolanpeaaGreatDoorRgI
import Derived.Test.YtbkokcjolanpeaaGreatDoorRgT
import Derived.Lib.SlBytesConst
import Derived.Test.YtbkokcjolanpeaaGreatDoorRgB
import Derived.Test.YtbkokcjolanpeaaGreatDoorRgW
import Derived.Test.YtbkokcjolanpeaaGreatDoorRgAS
import Derived.Lib.RabinKarpLaws
namespace Go.Proofs.YtbkokcjolanpeaaGreatDoor
open Go.RowKit
theorem RunR.inv_msg {l tl:Nat} {stan:ByteArray} {s t:SS} {es:List Ev} (h:RunR l tl stan s (es ++ [.msg]) t):∃ (u:SS) (nx:Nat) (x:Value),RunR l tl stan s es u ∧ u.next = (nx:Int) ∧ t = askS u (l:Int) tl nx stan x:=by
 generalize hE:es ++ [Ev.msg] = E at h
 cases h with
 | nil=>simp at hE
 | msg x h1 h2 =>
   obtain ⟨rfl,-⟩:=List.append_inj' hE rfl
   exact ⟨_,_,x,h1,h2,rfl⟩
 | tick n h1 =>
   have:=(List.append_inj' hE rfl).2
   simp at this
theorem RunR.inv_tick {l tl:Nat} {stan:ByteArray} {s t:SS} {es:List Ev} {n:Int} (h:RunR l tl stan s (es ++ [.tick n]) t):∃ u:SS,RunR l tl stan s es u ∧ t = { u with clock:=u.clock + n,W:=tkW (u.clock + n) u.W,L:=u.L ++ tkL (u.clock + n) u.W }:=by
 generalize hE:es ++ [Ev.tick n] = E at h
 cases h with
 | nil=>simp at hE
 | msg x h1 h2 =>
   have:=(List.append_inj' hE rfl).2
   simp at this
 | tick m h1 =>
   obtain ⟨rfl,h2⟩:=List.append_inj' hE rfl
   simp at h2
   subst h2
   exact ⟨_,h1,rfl⟩
theorem RunR.inv_nil {l tl:Nat} {stan:ByteArray} {s t:SS} (h:RunR l tl stan s [] t):t = s:=by
 generalize hE:([]:List Ev) = E at h
 cases h with
 | nil=>rfl
 | msg x h1 h2=>simp at hE
 | tick n h1=>simp at hE
structure Pn (r tl l n:Nat) (t:SS):Prop where
 room:t.room = (r:Int)
 clock:t.clock = 0
 W:t.W.length = min n r
 Wt:∀ e ∈ t.W,e.2.2.2.2 = 30
 S:t.S.length = n
 L:t.L.length = n
 sl:∀ i,i < n → (t.S.getD i (0,undef)).1 = if i < r then (tl:Int) else (l:Int)
 lc:∀ i,i < n → (t.L.getD i (0,0,⟨#[]⟩)).1 = if i < r then 0 else 91
theorem Pn.step {r tl l n nx:Nat} {t:SS} (h:Pn r tl l n t) (stan:ByteArray) (x:Value):Pn r tl l (n + 1) (askS t (l:Int) tl nx stan x):=by
 unfold askS
 by_cases hf:t.room ≤ (t.W.length:Int)
 · rw [if_pos hf]
   have hrn:r ≤ n:=by rw [h.room,h.W] at hf;omega
   refine ⟨h.room,h.clock,by show t.W.length = _;rw [h.W];omega,h.Wt,by show (t.S ++ _).length = _;rw [List.length_append,h.S];rfl,by show (t.L ++ _).length = _;rw [List.length_append,h.L];rfl,fun i hi=>?_,fun i hi=>?_⟩
   · show ((t.S ++ [((l:Int),x)]).getD i (0,undef)).1 = _
     by_cases hc:i < n
     · rw [getD_left _ _ _ _ (by rw [h.S];exact hc)];exact h.sl i hc
     · rw [getD_last _ _ _ _ (by rw [h.S];omega),if_neg (by omega)]
   · show ((t.L ++ [(91,(l:Int),stan)]).getD i (0,0,⟨#[]⟩)).1 = _
     by_cases hc:i < n
     · rw [getD_left _ _ _ _ (by rw [h.L];exact hc)];exact h.lc i hc
     · rw [getD_last _ _ _ _ (by rw [h.L];omega),if_neg (by omega)]
 · rw [if_neg hf]
   have hrn:n < r:=by rw [h.room,h.W] at hf;omega
   refine ⟨h.room,h.clock,by show (t.W ++ _).length = _;rw [List.length_append,h.W];simp;omega,fun e he=>?_,by show (t.S ++ _).length = _;rw [List.length_append,h.S];rfl,by show (t.L ++ _).length = _;rw [List.length_append,h.L];rfl,fun i hi=>?_,fun i hi=>?_⟩
   · rcases List.mem_append.1 he with q | q
     · exact h.Wt e q
     · rw [List.mem_singleton] at q
       rw [q]
       show t.clock + 30 = 30
       rw [h.clock];rfl
   · show ((t.S ++ [((tl:Int),x)]).getD i (0,undef)).1 = _
     by_cases hc:i < n
     · rw [getD_left _ _ _ _ (by rw [h.S];exact hc)];exact h.sl i hc
     · rw [getD_last _ _ _ _ (by rw [h.S];omega),if_pos (by omega)]
   · show ((t.L ++ [(0,(l:Int),stan)]).getD i (0,0,⟨#[]⟩)).1 = _
     by_cases hc:i < n
     · rw [getD_left _ _ _ _ (by rw [h.L];exact hc)];exact h.lc i hc
     · rw [getD_last _ _ _ _ (by rw [h.L];omega),if_pos (by omega)]
theorem run_msgs {r tl l:Nat} {stan:ByteArray} {s:SS} (h0:Pn r tl l 0 s):∀ (n:Nat) (t:SS),RunR l tl stan s (List.replicate n .msg) t → Pn r tl l n t
 | 0,t,h=>by rw [RunR.inv_nil h];exact h0
 | n + 1,t,h=>by
   rw [List.replicate_succ'] at h
   obtain ⟨u,nx,x,h1,-,rfl⟩:=h.inv_msg
   exact (run_msgs h0 n u h1).step stan x
theorem run_30 {r tl l n:Nat} {stan:ByteArray} {s t:SS} (h0:Pn r tl l 0 s) (h:RunR l tl stan s (List.replicate n .msg ++ [.tick 30]) t):t.W.length = min n r:=by
 obtain ⟨u,h1,rfl⟩:=h.inv_tick
 have p:=run_msgs h0 n u h1
 show (tkW (u.clock + 30) u.W).length = _
 have e:tkW (u.clock + 30) u.W = u.W:=by
   unfold tkW
   rw [List.filter_eq_self]
   intro e he
   rw [p.Wt e he,p.clock]
   rfl
 rw [e,p.W]
theorem run_31 {r tl l n:Nat} {stan:ByteArray} {s t:SS} (hr:1 ≤ r) (h0:Pn r tl l 0 s) (h:RunR l tl stan s (List.replicate n .msg ++ [.tick 30] ++ [.tick 1] ++ [.msg]) t) :
   t.W.length = 1 ∧ t.S.length = n + 1 ∧ (t.S.getD n (0,undef)).1 = (tl:Int) ∧ t.L.length = n + min n r + 1 ∧ (0 < min n r → (t.L.getD n (0,0,⟨#[]⟩)).1 = 68):=by
 obtain ⟨u,nx,x,h1,-,rfl⟩:=h.inv_msg
 obtain ⟨v,h2,rfl⟩:=h1.inv_tick
 obtain ⟨q,h3,rfl⟩:=h2.inv_tick
 have p:=run_msgs h0 n q h3
 have e1:tkW (q.clock + 30) q.W = q.W:=by
   unfold tkW
   rw [List.filter_eq_self]
   intro e he
   rw [p.Wt e he,p.clock]
   rfl
 have e2:tkL (q.clock + 30) q.W = []:=by
   unfold tkL
   rw [List.filter_eq_nil_iff.2 (fun e he=>by rw [p.Wt e he,p.clock];decide)]
   rfl
 have e3:tkW (q.clock + 30 + 1) q.W = []:=by
   unfold tkW
   rw [List.filter_eq_nil_iff]
   intro e he
   rw [p.Wt e he,p.clock]
   decide
 have e4:(tkL (q.clock + 30 + 1) q.W).length = min n r:=by
   unfold tkL
   rw [List.length_map,List.filter_eq_self.2 (fun e he=>by rw [p.Wt e he,p.clock];decide),p.W]
 have e5:∀ z ∈ tkL (q.clock + 30 + 1) q.W,z.1 = 68:=by
   unfold tkL
   intro z hz
   obtain ⟨e,-,rfl⟩:=List.mem_map.1 hz
   rfl
 rw [e1,e2,List.append_nil]
 unfold askS
 rw [if_neg (by
   show ¬ q.room ≤ ((tkW (q.clock + 30 + 1) q.W).length:Int)
   rw [e3,p.room]
   simp
   omega)]
 refine ⟨by show (tkW _ _ ++ _).length = 1;rw [e3];rfl,by show (q.S ++ _).length = _;rw [List.length_append,p.S];rfl,?_,?_,fun hm=>?_⟩
 · show ((q.S ++ [((tl:Int),x)]).getD n (0,undef)).1 = _
   rw [getD_last _ _ _ _ p.S.symm]
 · show ((q.L ++ tkL _ _) ++ _).length = _
   rw [List.length_append,List.length_append,p.L,e4]
   rfl
 · show ((q.L ++ tkL (q.clock + 30 + 1) q.W ++ _).getD n (0,0,⟨#[]⟩)).1 = 68
   rw [getD_left _ _ _ _ (by rw [List.length_append,p.L,e4];omega)]
   have hg:(q.L ++ tkL (q.clock + 30 + 1) q.W).getD n (0,0,⟨#[]⟩) = (tkL (q.clock + 30 + 1) q.W).getD 0 (0,0,⟨#[]⟩):=by
     rw [List.getD_eq_getElem?_getD,List.getElem?_append_right (by rw [p.L];exact Nat.le_refl _),p.L,Nat.sub_self,List.getD_eq_getElem?_getD]
   rw [hg]
   have h0l:0 < (tkL (q.clock + 30 + 1) q.W).length:=by rw [e4];exact hm
   rw [List.getD_eq_getElem?_getD,List.getElem?_eq_getElem h0l]
   exact e5 _ (List.getElem_mem h0l)
theorem tXN_xor (a b:Nat) (ha:a < 256) (hb:b < 256):tXN (a ^^^ b) = tXN a ^^^ tXN b:=by
 have e1:∀ n:Nat,n * 2 % 256 = (n <<< 1) &&& 255:=fun n=>by
   rw [Nat.shiftLeft_eq,show (255:Nat) = 2 ^ 8 - 1 from rfl,Nat.and_two_pow_sub_one_eq_mod]
 have e2:∀ n:Nat,n / 128 = n >>> 7:=fun n=>by rw [Nat.shiftRight_eq_div_pow]
 have h1:(a ^^^ b) / 128 = a / 128 ^^^ b / 128:=by rw [e2,e2,e2,Nat.shiftRight_xor_distrib]
 have h2:(a ^^^ b) * 2 % 256 = (a * 2 % 256) ^^^ (b * 2 % 256):=by rw [e1,e1,e1,Nat.shiftLeft_xor_distrib,Nat.and_xor_distrib_right]
 unfold tXN
 rw [h1,h2]
 have ca:a / 128 = 0 ∨ a / 128 = 1:=by omega
 have cb:b / 128 = 0 ∨ b / 128 = 1:=by omega
 rcases ca with h | h <;> rcases cb with h' | h' <;> rw [h,h']
 · simp
 · simp [Nat.xor_assoc]
 · simp only [Nat.xor_zero,Nat.one_mul,Nat.zero_mul];ac_rfl
 · simp only [Nat.xor_self,Nat.one_mul,Nat.zero_mul,Nat.xor_zero]
   rw [show a * 2 % 256 ^^^ 27 ^^^ (b * 2 % 256 ^^^ 27) = a * 2 % 256 ^^^ b * 2 % 256 ^^^ (27 ^^^ 27) from by ac_rfl,Nat.xor_self,Nat.xor_zero]
theorem tXB_xor (a b:UInt8):tXB (a ^^^ b) = tXB a ^^^ tXB b:=by
 apply UInt8.toNat.inj
 rw [UInt8.toNat_xor,tXB_nat,tXB_nat,tXB_nat,UInt8.toNat_xor]
 exact tXN_xor _ _ a.toNat_lt b.toNat_lt
theorem mulN_all:∀ n:Nat,n < 256 → mulN n 1 = n ∧ mulN n 2 = tXN n ∧ mulN n 3 = tXN n ^^^ n ∧ mulN n 9 = tXN (tXN (tXN n)) ^^^ n ∧ mulN n 11 = tXN (tXN (tXN n)) ^^^ tXN n ^^^ n ∧ mulN n 13 = tXN (tXN (tXN n)) ^^^ tXN (tXN n) ^^^ n ∧ mulN n 14 = tXN (tXN (tXN n)) ^^^ tXN (tXN n) ^^^ tXN n:=by decide +kernel
theorem mul1 (x:UInt8):mulB x 1 = x:=UInt8.toNat.inj (by rw [mulB_nat];exact (mulN_all _ x.toNat_lt).1)
theorem mul2 (x:UInt8):mulB x 2 = tXB x:=UInt8.toNat.inj (by rw [mulB_nat,tXB_nat];exact (mulN_all _ x.toNat_lt).2.1)
theorem mul3 (x:UInt8):mulB x 3 = tXB x ^^^ x:=UInt8.toNat.inj (by rw [mulB_nat,UInt8.toNat_xor,tXB_nat];exact (mulN_all _ x.toNat_lt).2.2.1)
theorem mul9 (x:UInt8):mulB x 9 = tXB (tXB (tXB x)) ^^^ x:=UInt8.toNat.inj (by rw [mulB_nat,UInt8.toNat_xor,tXB_nat,tXB_nat,tXB_nat];exact (mulN_all _ x.toNat_lt).2.2.2.1)
theorem mul11 (x:UInt8):mulB x 11 = tXB (tXB (tXB x)) ^^^ tXB x ^^^ x:=UInt8.toNat.inj (by rw [mulB_nat,UInt8.toNat_xor,UInt8.toNat_xor,tXB_nat,tXB_nat,tXB_nat];exact (mulN_all _ x.toNat_lt).2.2.2.2.1)
theorem mul13 (x:UInt8):mulB x 13 = tXB (tXB (tXB x)) ^^^ tXB (tXB x) ^^^ x:=UInt8.toNat.inj (by rw [mulB_nat,UInt8.toNat_xor,UInt8.toNat_xor,tXB_nat,tXB_nat,tXB_nat];exact (mulN_all _ x.toNat_lt).2.2.2.2.2.1)
theorem mul14 (x:UInt8):mulB x 14 = tXB (tXB (tXB x)) ^^^ tXB (tXB x) ^^^ tXB x:=UInt8.toNat.inj (by rw [mulB_nat,UInt8.toNat_xor,UInt8.toNat_xor,tXB_nat,tXB_nat,tXB_nat];exact (mulN_all _ x.toNat_lt).2.2.2.2.2.2)
def colE (a b c d:UInt8):UInt8:=mulB a 2 ^^^ mulB b 3 ^^^ mulB c 1 ^^^ mulB d 1
def colD (a b c d:UInt8):UInt8:=mulB a 14 ^^^ mulB b 11 ^^^ mulB c 13 ^^^ mulB d 9
theorem xor_back (a b:UInt8):a ^^^ (a ^^^ b) = b:=by rw [← UInt8.xor_assoc,UInt8.xor_self,UInt8.zero_xor]
theorem xor_lc (a b c:UInt8):a ^^^ (b ^^^ c) = b ^^^ (a ^^^ c):=by rw [← UInt8.xor_assoc,UInt8.xor_comm a b,UInt8.xor_assoc]
set_option maxHeartbeats 4000000 in
theorem col_DE (a b c d:UInt8):colD (colE a b c d) (colE b c d a) (colE c d a b) (colE d a b c) = a:=by
 simp only [colE,colD,mul1,mul2,mul3,mul9,mul11,mul13,mul14,tXB_xor]
 generalize tXB (tXB (tXB (tXB a))) = a4;generalize tXB (tXB (tXB (tXB b))) = b4;generalize tXB (tXB (tXB (tXB c))) = c4;generalize tXB (tXB (tXB (tXB d))) = d4
 generalize tXB (tXB (tXB a)) = a3;generalize tXB (tXB (tXB b)) = b3;generalize tXB (tXB (tXB c)) = c3;generalize tXB (tXB (tXB d)) = d3
 generalize tXB (tXB a) = a2;generalize tXB (tXB b) = b2;generalize tXB (tXB c) = c2;generalize tXB (tXB d) = d2
 generalize tXB a = a1;generalize tXB b = b1;generalize tXB c = c1;generalize tXB d = d1
 simp only [UInt8.xor_comm,xor_lc,UInt8.xor_self,UInt8.xor_zero,xor_back]
theorem sumE0 (s:List UInt8) (c:Nat):mulSum rowE s c 0 4 = colE (s.getD (4 * c + 0) 0) (s.getD (4 * c + 1) 0) (s.getD (4 * c + 2) 0) (s.getD (4 * c + 3) 0):=by
 show 0 ^^^ mulB (s.getD (4 * c + 0) 0) 2 ^^^ mulB (s.getD (4 * c + 1) 0) 3 ^^^ mulB (s.getD (4 * c + 2) 0) 1 ^^^ mulB (s.getD (4 * c + 3) 0) 1 = _
 rw [UInt8.zero_xor]
 unfold colE
 ac_rfl
theorem sumE1 (s:List UInt8) (c:Nat):mulSum rowE s c 1 4 = colE (s.getD (4 * c + 1) 0) (s.getD (4 * c + 2) 0) (s.getD (4 * c + 3) 0) (s.getD (4 * c + 0) 0):=by
 show 0 ^^^ mulB (s.getD (4 * c + 0) 0) 1 ^^^ mulB (s.getD (4 * c + 1) 0) 2 ^^^ mulB (s.getD (4 * c + 2) 0) 3 ^^^ mulB (s.getD (4 * c + 3) 0) 1 = _
 rw [UInt8.zero_xor]
 unfold colE
 ac_rfl
theorem sumE2 (s:List UInt8) (c:Nat):mulSum rowE s c 2 4 = colE (s.getD (4 * c + 2) 0) (s.getD (4 * c + 3) 0) (s.getD (4 * c + 0) 0) (s.getD (4 * c + 1) 0):=by
 show 0 ^^^ mulB (s.getD (4 * c + 0) 0) 1 ^^^ mulB (s.getD (4 * c + 1) 0) 1 ^^^ mulB (s.getD (4 * c + 2) 0) 2 ^^^ mulB (s.getD (4 * c + 3) 0) 3 = _
 rw [UInt8.zero_xor]
 unfold colE
 ac_rfl
theorem sumE3 (s:List UInt8) (c:Nat):mulSum rowE s c 3 4 = colE (s.getD (4 * c + 3) 0) (s.getD (4 * c + 0) 0) (s.getD (4 * c + 1) 0) (s.getD (4 * c + 2) 0):=by
 show 0 ^^^ mulB (s.getD (4 * c + 0) 0) 3 ^^^ mulB (s.getD (4 * c + 1) 0) 1 ^^^ mulB (s.getD (4 * c + 2) 0) 1 ^^^ mulB (s.getD (4 * c + 3) 0) 2 = _
 rw [UInt8.zero_xor]
 unfold colE
 ac_rfl
theorem sumD0 (s:List UInt8) (c:Nat):mulSum rowD s c 0 4 = colD (s.getD (4 * c + 0) 0) (s.getD (4 * c + 1) 0) (s.getD (4 * c + 2) 0) (s.getD (4 * c + 3) 0):=by
 show 0 ^^^ mulB (s.getD (4 * c + 0) 0) 14 ^^^ mulB (s.getD (4 * c + 1) 0) 11 ^^^ mulB (s.getD (4 * c + 2) 0) 13 ^^^ mulB (s.getD (4 * c + 3) 0) 9 = _
 rw [UInt8.zero_xor]
 unfold colD
 ac_rfl
theorem sumD1 (s:List UInt8) (c:Nat):mulSum rowD s c 1 4 = colD (s.getD (4 * c + 1) 0) (s.getD (4 * c + 2) 0) (s.getD (4 * c + 3) 0) (s.getD (4 * c + 0) 0):=by
 show 0 ^^^ mulB (s.getD (4 * c + 0) 0) 9 ^^^ mulB (s.getD (4 * c + 1) 0) 14 ^^^ mulB (s.getD (4 * c + 2) 0) 11 ^^^ mulB (s.getD (4 * c + 3) 0) 13 = _
 rw [UInt8.zero_xor]
 unfold colD
 ac_rfl
theorem sumD2 (s:List UInt8) (c:Nat):mulSum rowD s c 2 4 = colD (s.getD (4 * c + 2) 0) (s.getD (4 * c + 3) 0) (s.getD (4 * c + 0) 0) (s.getD (4 * c + 1) 0):=by
 show 0 ^^^ mulB (s.getD (4 * c + 0) 0) 13 ^^^ mulB (s.getD (4 * c + 1) 0) 9 ^^^ mulB (s.getD (4 * c + 2) 0) 14 ^^^ mulB (s.getD (4 * c + 3) 0) 11 = _
 rw [UInt8.zero_xor]
 unfold colD
 ac_rfl
theorem sumD3 (s:List UInt8) (c:Nat):mulSum rowD s c 3 4 = colD (s.getD (4 * c + 3) 0) (s.getD (4 * c + 0) 0) (s.getD (4 * c + 1) 0) (s.getD (4 * c + 2) 0):=by
 show 0 ^^^ mulB (s.getD (4 * c + 0) 0) 11 ^^^ mulB (s.getD (4 * c + 1) 0) 13 ^^^ mulB (s.getD (4 * c + 2) 0) 9 ^^^ mulB (s.getD (4 * c + 3) 0) 14 = _
 rw [UInt8.zero_xor]
 unfold colD
 ac_rfl
theorem mixS_lit (row s:List UInt8):mixS row s = [mulSum row s 0 0 4,mulSum row s 0 1 4,mulSum row s 0 2 4,mulSum row s 0 3 4,mulSum row s 1 0 4,mulSum row s 1 1 4,mulSum row s 1 2 4,mulSum row s 1 3 4,mulSum row s 2 0 4,mulSum row s 2 1 4,mulSum row s 2 2 4,mulSum row s 2 3 4,mulSum row s 3 0 4,mulSum row s 3 1 4,mulSum row s 3 2 4,mulSum row s 3 3 4]:=rfl
theorem mixE_lit (a0 a1 a2 a3 a4 a5 a6 a7 a8 a9 a10 a11 a12 a13 a14 a15:UInt8):mixS rowE [a0,a1,a2,a3,a4,a5,a6,a7,a8,a9,a10,a11,a12,a13,a14,a15] = [colE a0 a1 a2 a3,colE a1 a2 a3 a0,colE a2 a3 a0 a1,colE a3 a0 a1 a2,colE a4 a5 a6 a7,colE a5 a6 a7 a4,colE a6 a7 a4 a5,colE a7 a4 a5 a6,colE a8 a9 a10 a11,colE a9 a10 a11 a8,colE a10 a11 a8 a9,colE a11 a8 a9 a10,colE a12 a13 a14 a15,colE a13 a14 a15 a12,colE a14 a15 a12 a13,colE a15 a12 a13 a14]:=by
 rw [mixS_lit]
 simp only [sumE0,sumE1,sumE2,sumE3]
 rfl
theorem mixD_lit (a0 a1 a2 a3 a4 a5 a6 a7 a8 a9 a10 a11 a12 a13 a14 a15:UInt8):mixS rowD [a0,a1,a2,a3,a4,a5,a6,a7,a8,a9,a10,a11,a12,a13,a14,a15] = [colD a0 a1 a2 a3,colD a1 a2 a3 a0,colD a2 a3 a0 a1,colD a3 a0 a1 a2,colD a4 a5 a6 a7,colD a5 a6 a7 a4,colD a6 a7 a4 a5,colD a7 a4 a5 a6,colD a8 a9 a10 a11,colD a9 a10 a11 a8,colD a10 a11 a8 a9,colD a11 a8 a9 a10,colD a12 a13 a14 a15,colD a13 a14 a15 a12,colD a14 a15 a12 a13,colD a15 a12 a13 a14]:=by
 rw [mixS_lit]
 simp only [sumD0,sumD1,sumD2,sumD3]
 rfl
theorem mix_DE (s:List UInt8) (hs:s.length = 16):mixS rowD (mixS rowE s) = s:=by
 obtain ⟨a0,a1,a2,a3,a4,a5,a6,a7,a8,a9,a10,a11,a12,a13,a14,a15,rfl⟩:=sixteenL s hs
 rw [mixE_lit,mixD_lit]
 simp only [col_DE]
theorem turn_31 (s:List UInt8) (hs:s.length = 16):turnL 3 (turnL 1 s) = s:=by
 obtain ⟨a0,a1,a2,a3,a4,a5,a6,a7,a8,a9,a10,a11,a12,a13,a14,a15,rfl⟩:=sixteenL s hs
 rfl
theorem unsub_sub (b:UInt8):unsubB (subB b) = b:=UInt8.toNat.inj (inv_sub b.toNat b.toNat_lt)
theorem map_unsub_sub (s:List UInt8):(s.map subB).map unsubB = s:=by
 rw [List.map_map]
 have:(unsubB ∘ subB) = id:=funext unsub_sub
 rw [this,List.map_id]
theorem xorL_twice (a b:List UInt8) (h:a.length = b.length):xorL (xorL a b) b = a:=by
 apply List.ext_getElem
 · rw [xorL_length _ _ (by rw [xorL_length _ _ h];exact h),xorL_length _ _ h]
 · intro i h1 h2
   have hb:i < b.length:=by omega
   rw [xorL_get (xorL a b) b i (by rw [xorL_length _ _ h];exact h2) hb,xorL_get a b i h2 hb,UInt8.xor_assoc,UInt8.xor_self,UInt8.xor_zero]
theorem dec_at (K:Nat → List UInt8) (b:List UInt8) (hb:b.length = 16) (hK:∀ r,(K r).length = 16) (k:Nat) (hk:k ≤ 9):decGo K (encL K b) k = encGo K b (9 - k):=by
 have hl:=encGo_length K b hb hK
 induction k with
 | zero =>
   show (turnL 3 (xorL (encL K b) (K 10))).map unsubB = _
   rw [encL_step K b hb hK,xorL_twice _ _ (by rw [turnL_length,hK]),turn_31 _ (by rw [List.length_map,hl]),map_unsub_sub]
 | succ k ih =>
   rw [decGo_step K _ hK,ih (by omega),show 9 - k = (8 - k) + 1 from by omega,encGo_step K b hb hK,xorL_twice _ _ (by rw [mixS_length,hK]),mix_DE _ (turnL_length _ _),turn_31 _ (by rw [List.length_map,hl]),map_unsub_sub,show 9 - (k + 1) = 8 - k from by omega]
theorem aes_dec_enc (K:Nat → List UInt8) (b:List UInt8) (hb:b.length = 16) (hK:∀ r,(K r).length = 16):decL K (encL K b) = b:=by
 show xorL (decGo K (encL K b) 9) (K 0) = b
 rw [dec_at K b hb hK 9 (Nat.le_refl _)]
 show xorL (xorL b (K 0)) (K 0) = b
 exact xorL_twice _ _ (by rw [hb,hK])
theorem wrap_open (master key:List UInt8) (u gen:Nat) (hm:master.length = 16) (hk:key.length = 16) (hu1:1 ≤ u) (hu3:u ≤ 3) (hg:gen ≤ 255) :
   formOK master (wrapN master key u gen) = true ∧ tagOK master (wrapN master key u gen) = true ∧ uOf (wrapN master key u gen) = u ∧ gOf (wrapN master key u gen) = gen ∧ unkeyN master (wrapN master key u gen) = key:=by
 obtain ⟨B,hB⟩:∃ B,B = wrapN master key u gen:=⟨_,rfl⟩
 have hl:B.length = 36:=by rw [hB];exact wrapN_length _ _ _ _ hm
 have hTl:(tagN master key u gen).length = 16:=cmacN_length _ _ (cmacN_length master [77] hm)
 have hE:(sealK master).length = 16:=cmacN_length master [69] hm
 obtain ⟨T,hT⟩:∃ T,T = tagN master key u gen:=⟨_,rfl⟩
 have hB2:B = 75 :: UInt8.ofNat u :: UInt8.ofNat gen :: 16 :: (T ++ aesN (sealK master) (xorL key T) false):=by
   rw [hB,hT]
   unfold wrapN headL
   simp
 rw [← hT] at hTl
 have hXl:(xorL key T).length = 16:=by rw [xorL_length _ _ (by omega),hk]
 have hu:uOf B = u:=by
   rw [hB2]
   show (UInt8.ofNat u).toNat = u
   rw [UInt8.toNat_ofNat']
   omega
 have hgn:gOf B = gen:=by
   rw [hB2]
   show (UInt8.ofNat gen).toNat = gen
   rw [UInt8.toNat_ofNat']
   omega
 have hkey:unkeyN master B = key:=by
   have e1:(B.drop 4).take 16 = T:=by
     rw [hB2]
     show (T ++ aesN (sealK master) (xorL key T) false).take 16 = T
     rw [← hTl]
     exact List.take_left
   have e2:B.drop 20 = aesN (sealK master) (xorL key T) false:=by
     rw [hB2]
     show (T ++ aesN (sealK master) (xorL key T) false).drop 16 = _
     rw [← hTl]
     exact List.drop_left
   have e3:aesN (sealK master) (aesN (sealK master) (xorL key T) false) true = xorL key T:=aes_dec_enc (keyR (sealK master)) (xorL key T) hXl (fun r=>keyR_length _ hE r)
   unfold unkeyN
   rw [e1,e2,e3]
   exact xorL_twice _ _ (by omega)
 rw [← hB]
 refine ⟨?_,?_,hu,hgn,hkey⟩
 · have hh:headOK B = true:=by
     unfold headOK
     rw [hu,hB2]
     simp
     omega
   unfold formOK
   rw [hh,decide_eq_true hm,decide_eq_true hl]
   rfl
 · unfold tagOK
   rw [hkey,hu,hgn,← hB]
   exact decide_eq_true rfl
theorem open_vals {master block:List UInt8} (h1:formOK master block = true) (h2:tagOK master block = true):opCode master block = 0 ∧ opU master block = (uOf block:Nat) ∧ opG master block = (gOf block:Nat) ∧ opKey master block = unkeyN master block:=by
 unfold opCode opU opG opKey okO
 rw [h1,h2]
 exact ⟨rfl,rfl,rfl,rfl⟩
def rtsN:List Rt:=[(⟨#[52]⟩,0),(⟨#[52,53]⟩,1),(⟨#[53]⟩,1),(⟨#[52,53,57]⟩,0),(⟨#[52,53]⟩,0),(⟨#[55]⟩,2)]
def pan5:List UInt8:=[53,48,48,48,48,48,48,48,48,48,48,48,48]
theorem pre_5:preB ⟨#[53]⟩ ⟨pan5.toArray⟩ = true:=by kernel_rfl
theorem pre_4:preB ⟨#[52]⟩ ⟨pan5.toArray⟩ = false:=by kernel_rfl
theorem pre_45:preB ⟨#[52,53]⟩ ⟨pan5.toArray⟩ = false:=by kernel_rfl
theorem pre_459:preB ⟨#[52,53,57]⟩ ⟨pan5.toArray⟩ = false:=by kernel_rfl
theorem pre_7:preB ⟨#[55]⟩ ⟨pan5.toArray⟩ = false:=by kernel_rfl
theorem best5:BestOf (rtsN.take 20) ⟨pan5.toArray⟩ 1:=by
 refine ⟨1,.inr ⟨2,(⟨#[53]⟩,1),by decide,rfl,pre_5,rfl,rfl,fun j q hj hq hp=>?_,fun j q hj hq hp=>?_⟩⟩
 · have hj6:j = 0 ∨ j = 1 ∨ j = 2 ∨ j = 3 ∨ j = 4 ∨ j = 5:=by simp [rtsN] at hj;omega
   rcases hj6 with rfl | rfl | rfl | rfl | rfl | rfl
   · cases hq;rw [show preB _ _ = false from pre_4] at hp;cases hp
   · cases hq;rw [show preB _ _ = false from pre_45] at hp;cases hp
   · cases hq;exact Nat.le_refl _
   · cases hq;rw [show preB _ _ = false from pre_459] at hp;cases hp
   · cases hq;rw [show preB _ _ = false from pre_45] at hp;cases hp
   · cases hq;rw [show preB _ _ = false from pre_7] at hp;cases hp
 · have hj2:j = 0 ∨ j = 1:=by omega
   rcases hj2 with rfl | rfl
   · cases hq;rw [show preB _ _ = false from pre_4] at hp;cases hp
   · cases hq;rw [show preB _ _ = false from pre_45] at hp;cases hp
theorem best5_one (a:Int) (h:BestOf (rtsN.take 20) ⟨pan5.toArray⟩ a):a = ((1:Nat):Int):=h.one best5
def qrN:List (List Value):=rtsN.map fun r=>[.string r.1,.int .i64 r.2]
theorem qrN_ok:∀ i,i < qrN.length → ∃ t l,qrN.getD i [] = [.string t,.int .i64 l] ∧ 0 < t.size ∧ t.size ≤ 19 ∧ digs t = true ∧ 0 ≤ l ∧ l < ((3:Nat):Int):=by
 intro i hi
 have h6:i = 0 ∨ i = 1 ∨ i = 2 ∨ i = 3 ∨ i = 4 ∨ i = 5:=by simp [qrN,rtsN] at hi;omega
 rcases h6 with rfl | rfl | rfl | rfl | rfl | rfl <;> exact ⟨_,_,rfl,by decide,by decide,by kernel_rfl,by decide,by decide⟩
theorem blk_ok (n u g:Nat) (hu1:1 ≤ u) (hu3:u ≤ 3) (hg:g ≤ 1):formOK masterL (blkN n u g) = true ∧ tagOK masterL (blkN n u g) = true ∧ opU masterL (blkN n u g) = (u:Int):=by
 have hk:(keyQ n u g).length = 16:=by unfold keyQ;rw [List.length_set,List.length_set];rfl
 have e:blkN n u g = wrapN masterL (keyQ n u g) u g:=by
   unfold blkN wrapL
   rw [if_pos (by unfold okW;exact ⟨rfl,hk,by omega,by omega,by omega,by omega⟩),Int.toNat_natCast,Int.toNat_natCast]
 obtain ⟨h1,h2,h3,-,-⟩:=wrap_open masterL (keyQ n u g) u g rfl hk hu1 hu3 (by omega)
 have hv:=open_vals h1 h2
 rw [e]
 exact ⟨h1,h2,by rw [hv.2.1,h3]⟩
def pinU (k:Nat):Nat:=if k = 2 then 3 else 1
def fmtN (c k:Nat):Nat:=c / 2 ^ (2 + k) % 2 * 3
def lkN (c k:Nat):Lk:=(blkN k (pinU k) 0,blkN k 2 1,(fmtN c k:Int))
theorem lkN_ok (c k:Nat):KeysOk masterL (lkN c k):=by
 have h1:=blk_ok k (pinU k) 0 (by unfold pinU;split <;> omega) (by unfold pinU;split <;> omega) (by omega)
 have h2:=blk_ok k 2 1 (by omega) (by omega) (by omega)
 refine ⟨⟨h1.1,h1.2.1,?_⟩,h2.1,h2.2.1,h2.2.2⟩
 show opU masterL (blkN k (pinU k) 0) = 1 ∨ opU masterL (blkN k (pinU k) 0) = 3
 rw [h1.2.2]
 unfold pinU
 split
 · exact .inr rfl
 · exact .inl rfl
theorem fmtN_ok (c k:Nat):(fmtN c k:Int) = 0 ∨ (fmtN c k:Int) = 3:=by
 unfold fmtN
 have:c / 2 ^ (2 + k) % 2 = 0 ∨ c / 2 ^ (2 + k) % 2 = 1:=by omega
 rcases this with e | e
 · exact .inl (by rw [e];rfl)
 · exact .inr (by rw [e];rfl)
def LkX (w:World) (c k:Nat) (xs:List Value) (P:Nat → Prop):Prop:=∀ j,j < k → ∃ a1 c1 a2 c2,xs[j * 3]? = some (.slice a1 (lkN c j).1.length c1) ∧ xs[j * 3 + 1]? = some (.slice a2 (lkN c j).2.1.length c2) ∧ xs[j * 3 + 2]? = some (.int .i64 (lkN c j).2.2) ∧ (lkN c j).1.length ≤ c1 ∧ (lkN c j).2.1.length ≤ c2 ∧ (RowAt w a1 (lkN c j).1 ∧ ∀ p,a1 = some p → ¬ P p.block ∧ p.block < w.heap.size) ∧ (RowAt w a2 (lkN c j).2.1 ∧ ∀ p,a2 = some p → ¬ P p.block ∧ p.block < w.heap.size)
theorem LkX.snoc {w y:World} {c k:Nat} {xs:List Value} {P Q:Nat → Prop} (hl:xs.length = k * 3) (h:LkX w c k xs P) (kp:Kp P w y) (hs:w.heap.size ≤ y.heap.size) (hq:∀ q,q < w.heap.size → ¬ P q → ¬ Q q) {a1 a2:Option Addr} {c1 c2:Nat} (h1:(lkN c k).1.length ≤ c1) (h2:(lkN c k).2.1.length ≤ c2) (r1:RowAt y a1 (lkN c k).1) (r2:RowAt y a2 (lkN c k).2.1) (q1:∀ p,a1 = some p → ¬ Q p.block ∧ p.block < y.heap.size) (q2:∀ p,a2 = some p → ¬ Q p.block ∧ p.block < y.heap.size) :
   LkX y c (k + 1) (xs ++ [.slice a1 (lkN c k).1.length c1,.slice a2 (lkN c k).2.1.length c2,.int .i64 (lkN c k).2.2]) Q:=by
 intro j hj
 by_cases hc:j < k
 · obtain ⟨b1,d1,b2,d2,e1,e2,e3,e4,e5,⟨s1,t1⟩,⟨s2,t2⟩⟩:=h j hc
   refine ⟨b1,d1,b2,d2,by rw [List.getElem?_append_left (by omega)];exact e1,by rw [List.getElem?_append_left (by omega)];exact e2,by rw [List.getElem?_append_left (by omega)];exact e3,e4,e5,⟨s1.kp kp (fun p hp=>(t1 p hp).1),fun p hp=>⟨hq _ (t1 p hp).2 (t1 p hp).1,Nat.lt_of_lt_of_le (t1 p hp).2 hs⟩⟩,⟨s2.kp kp (fun p hp=>(t2 p hp).1),fun p hp=>⟨hq _ (t2 p hp).2 (t2 p hp).1,Nat.lt_of_lt_of_le (t2 p hp).2 hs⟩⟩⟩
 · obtain rfl:j = k:=by omega
   refine ⟨a1,c1,a2,c2,?_,?_,?_,h1,h2,⟨r1,q1⟩,⟨r2,q2⟩⟩
   · rw [List.getElem?_append_right (by omega),show j * 3 - xs.length = 0 from by omega];rfl
   · rw [List.getElem?_append_right (by omega),show j * 3 + 1 - xs.length = 1 from by omega];rfl
   · rw [List.getElem?_append_right (by omega),show j * 3 + 2 - xs.length = 2 from by omega];rfl
theorem LkX.lks {w:World} {c:Nat} {xs:List Value} {P:Nat → Prop} {lo cap:Nat} {a:Option Addr} (h:LkX w c 3 xs P) (row:w.ownsRow lo 35 3 (.slice a 3 cap) 3 xs):LksAt w a ((List.range 3).map (lkN c)):=by
 intro i hi
 have hi3:i < 3:=by simpa using hi
 obtain ⟨b1,d1,b2,d2,e1,e2,e3,e4,e5,⟨s1,-⟩,⟨s2,-⟩⟩:=h i hi3
 have hg:((List.range 3).map (lkN c)).getD i ([],[],0) = lkN c i:=by
   rw [List.getD_eq_getElem?_getD,List.getElem?_map,List.getElem?_range hi3];rfl
 rw [hg]
 rcases row.2 with ⟨hv,hz⟩ | ⟨g,cc,cur,hv,-⟩
 · omega
 · cases hv
   exact ⟨g,0,b1,d1,b2,d2,rfl,by rw [Nat.zero_add,row.cellAt (i * 3) (by omega)];exact e1,by rw [Nat.zero_add,row.cellAt (i * 3 + 1) (by omega)];exact e2,by rw [Nat.zero_add,row.cellAt (i * 3 + 2) (by omega)];exact e3,e4,e5,s1,s2⟩
end Go.Proofs.YtbkokcjolanpeaaGreatDoor
