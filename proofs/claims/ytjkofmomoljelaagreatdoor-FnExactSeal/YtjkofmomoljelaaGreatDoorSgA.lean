import Derived.Deep.RegionHeld3
import Derived.WalkKit
import Derived.Test.YtjkofmomoljelaaGreatDoorGrA
import Derived.Laws.CopyOwn
import Derived.WideShapes
import Derived.Deep.MidRow
import Derived.Test.YtjkofmomoljelaaGreatDoorMacI
import Derived.WalkSpells
import Derived.Lib.OthersKept
import Derived.Laws.BitsAllLaws
import Derived.Deep.DeepCutAuto
namespace Go.Proofs.YtjkofmomoljelaaGreatDoor
open Go.RowKit
section
variable {P:Program} {md:Region.Mode} {ops:Array Oper} {Q:Exit → Act → World → Prop} {S:World → Prop} {fuel:Nat} {listed:Array Bool} {a:Act} {w:World}
theorem rdy1 (i:Nat) {o:Oper}
   (h:∀ K':Act → World → Prop,Shut (∀ a w,S w → (S w → wpAnyH P md ops Q S fuel (listed.setIfInBounds i true) a w) → K' a w) → if Region.wanted o (yielded ops a.tmps) = true then Oper.wp P o a w K' Q else K' (a.put o.dst undef) w)
   (hr:Region.ready md ops listed = [i]:=by kernel_rfl) (ho:ops[i]? = some o:=by rfl):wpAnyH P md ops Q S (fuel + 1) listed a w :=
 wpAnyH_ready hr (by simp) (AllReadyH.cons ho h AllReadyH.nil)
theorem tk {i:Nat} {oi:Oper} {v:Value} (hi:ops[i]? = some oi) (hy:YieldsIf P ops S oi v a) (hS:S w) (h:wpAnyH P md ops Q S fuel (listed.setIfInBounds i true) (a.put oi.dst v) w)
   (hs:Region.noSelect ops = true:=by kernel_rfl) (hf:Region.free md ops listed i = true:=by kernel_rfl) (hr:(Region.ready md ops listed).contains i = true:=by kernel_rfl)
   (hQ:∀ c a w,Q (.panic c) (a.put oi.dst v) w → Q (.panic c) a w:=by exact fun _ _ _ h=>h):wpAnyH P md ops Q S (fuel + 1) listed a w :=
 wpAnyH_take hi hs hf hr hQ hy hS h
end
end Go.Proofs.YtjkofmomoljelaaGreatDoor
namespace Go.Proofs.YtjkofmomoljelaaGreatDoor
open Go.RowKit
def dig (b:UInt8):Bool:=decide (48 ≤ b.toNat) && decide (b.toNat ≤ 57)
def digs (s:ByteArray):Bool:=s.data.toList.all dig
theorem digs_at {s:ByteArray} (h:digs s = true) (k:Nat) (hk:k < s.size):dig s[k] = true:=by
 unfold digs at h
 rw [List.all_eq_true] at h
 exact h _ (by show s.data[k] ∈ s.data.toList;simp)
theorem digs_yes {s:ByteArray} (h:∀ k (hk:k < s.size),dig s[k] = true):digs s = true:=by
 unfold digs
 rw [List.all_eq_true]
 intro b hb
 obtain ⟨k,hk,rfl⟩:=List.getElem_of_mem hb
 exact h k hk
theorem digs_no {s:ByteArray} (k:Nat) (hk:k < s.size) (h:dig s[k] = false):digs s = false:=by
 cases hd:digs s
 · rfl
 · rw [digs_at hd k hk] at h;cases h
theorem dig_of {b:UInt8} (h1:48 ≤ b.toNat) (h2:b.toNat ≤ 57):dig b = true:=by simp [dig,h1,h2]
theorem dig_to {b:UInt8} (h:dig b = true):48 ≤ b.toNat ∧ b.toNat ≤ 57:=by simpa [dig] using h
theorem dig_int (b:UInt8):(decide (48 ≤ (b.toNat:Int)) && decide ((b.toNat:Int) ≤ 57)) = dig b:=by
 unfold dig
 rw [decide_eq_decide.2 (show (48 ≤ (b.toNat:Int)) ↔ 48 ≤ b.toNat from by omega),decide_eq_decide.2 (show ((b.toNat:Int) ≤ 57) ↔ b.toNat ≤ 57 from by omega)]
set_option maxHeartbeats 400000 in
theorem isDigit_any (r:Int) (w:World) :
   Calls Tryz.prog 135 #[.int .i32 r] w fun e w'=>e = .returned (.bool (decide (48 ≤ r) && decide (r ≤ 57))) ∧ w' = w:=by
 by_cases h:48 ≤ r
 · go_enter Tryz.func135,Tryz.ntmps135
   go_wp2
   go_ret
   exact ⟨by simp [h],rfl⟩
 · go_enter Tryz.func135,Tryz.ntmps135
   go_wp2
   go_ret
   exact ⟨by rw [show decide (48 ≤ r) = false from by simp;omega];rfl,rfl⟩
set_option maxHeartbeats 1000000 in
theorem l4Digits_any (s:ByteArray) (lo hi:Nat) (w:World) (_hs:s.size ≤ maxLen) (hh:hi ≤ 1000) (_hl:lo ≤ 1000) :
   Calls Tryz.prog 79 #[.string s,.int .i64 lo,.int .i64 hi] w fun e w'=>e = .returned (.bool (decide (lo ≤ s.size) && decide (s.size ≤ hi) && digs s)) ∧ w' = w:=by
 by_cases h1:s.size < lo
 · go_enter Tryz.func79,Tryz.ntmps79
   go_wp2
   go_ret
   exact ⟨by simp [show ¬ lo ≤ s.size from by omega],rfl⟩
 · by_cases h2:hi < s.size
   · go_enter Tryz.func79,Tryz.ntmps79
     go_wp2
     go_ret
     exact ⟨by simp [show ¬ s.size ≤ hi from by omega],rfl⟩
   · go_enter Tryz.func79,Tryz.ntmps79
     go_wp2_with fail
     go_loopw [7] (fun i wr=>∃ k:Nat,k ≤ s.size ∧ i = .int .i64 k ∧ Hid (∀ j (hj:j < s.size),j < k → dig s[j] = true) ∧ wr = w) (fun i _=>s.size - (intOf i).toNat)
     case atStart=>exact ⟨0,Nat.zero_le _,rfl,fun j _ h=>absurd h (Nat.not_lt_zero j),rfl⟩
     case round =>
       obtain ⟨k,hk,rfl,HD,hw⟩:=hrel
       subst hw
       by_cases hlt:k < s.size
       · by_cases ha:s[k].toNat < 48
         · go_wp2_with fail
           go_ret
           exact ⟨by rw [digs_no k hlt (by simp [dig];omega)];simp,rfl⟩
         · by_cases hb:57 < s[k].toNat
           · go_wp2_with fail
             go_ret
             exact ⟨by rw [digs_no k hlt (by simp [dig];omega)];simp,rfl⟩
           · go_wp2_with fail
             go_roundw
             case rel =>
               refine ⟨k + 1,by omega,by go_num,?_,by trivial⟩
               show ∀ j (hj:j < s.size),j < k + 1 → dig s[j] = true
               intro j hj hjk
               by_cases hjk2:j = k
               · subst hjk2;exact dig_of (by omega) (by omega)
               · exact HD.out j hj (by omega)
             case measure=>simp [intOf];omega
       · go_wp2_with fail
         go_ret
         exact ⟨by rw [digs_yes (fun j hj=>HD.out j hj (by omega))];simp;omega,rfl⟩
set_option maxHeartbeats 1000000 in
theorem allDigits_any (s:ByteArray) (w:World) :
   Calls Tryz.prog 102 #[.string s] w fun e w'=>e = .returned (.bool (digs s)) ∧ Below w.heap.size w w':=by
 go_enter Tryz.func102,Tryz.ntmps102
 go_wp2_with fail
 go_loopw [] (fun wr=>∃ pos:Nat,pos ≤ s.size ∧ wr.heap[w.heap.size]? = some (.stringIter s pos) ∧ Hid (∀ j (hj:j < s.size),j < pos → dig s[j] = true) ∧ Below w.heap.size w wr) (fun wr=>s.size - wr.iterPos w.heap.size)
 case atStart =>
   refine ⟨0,Nat.zero_le _,by simpa using World.iter_heap w s 0,fun j _ h=>absurd h (Nat.not_lt_zero j),(Below.refl _ w).alloc (Nat.le_refl _) _⟩
 case round =>
   obtain ⟨pos,hp0,hit,HD,hbel⟩:=hrel
   by_cases hp:pos < s.size
   · by_cases ha:s[pos].toNat < 128
     · have hnx:∀ ty,(Instr.next (.pointer (some ⟨w.heap.size,0,none⟩)) true ty).run Tryz.prog wr = _:=fun ty=>Lib.run_next_ascii_at wr w.heap.size s pos ty hit hp ha
       have hit2:=Lib.iterAt_heap wr w.heap.size s pos (pos + 1) hit
       have hbw2:=Lib.below_iterAt hbel (k:=w.heap.size) (Nat.le_refl _) s (pos + 1)
       cases hd:dig s[pos]
       · go_wp2_with (go_at_call 135;refine (isDigit_any _ _).mono ?_;rintro e w1 ⟨rfl,hw1⟩;subst w1;rw [dig_int,hd])
         go_ret
         exact ⟨by rw [digs_no pos hp hd];rfl,hbw2⟩
       · go_wp2_with (go_at_call 135;refine (isDigit_any _ _).mono ?_;rintro e w1 ⟨rfl,hw1⟩;subst w1;rw [dig_int,hd])
         go_roundw
         case rel =>
           refine ⟨pos + 1,by omega,hit2,?_,hbw2⟩
           show ∀ j (hj:j < s.size),j < pos + 1 → dig s[j] = true
           intro j hj hjk
           by_cases hjk2:j = pos
           · subst hjk2;exact hd
           · exact HD.out j hj (by omega)
         case measure =>
           simp only [World.iterPos,hit2,hit]
           omega
     · have hdh:=(decode_high s pos hp (by omega)).1
       have hnx:∀ ty,(Instr.next (.pointer (some ⟨w.heap.size,0,none⟩)) true ty).run Tryz.prog wr = _:=fun ty=>Lib.run_next_any_at wr w.heap.size s pos ty hit hp
       have hbw2:=Lib.below_iterAt hbel (k:=w.heap.size) (Nat.le_refl _) s (pos + (Utf8.decode s pos).2)
       have hno:(decide (48 ≤ ((Utf8.decode s pos).1:Int)) && decide (((Utf8.decode s pos).1:Int) ≤ 57)) = false:=by
         rw [decide_eq_false (show ¬ ((Utf8.decode s pos).1:Int) ≤ 57 from by omega),Bool.and_false]
       go_wp2_with (go_at_call 135;refine (isDigit_any _ _).mono ?_;rintro e w1 ⟨rfl,hw1⟩;subst w1;rw [hno])
       go_ret
       exact ⟨by rw [digs_no pos hp (by simp [dig];omega)];rfl,hbw2⟩
   · have hnx:∀ ty,(Instr.next (.pointer (some ⟨w.heap.size,0,none⟩)) true ty).run Tryz.prog wr = _:=fun ty=>Lib.run_next_end_at wr w.heap.size s pos ty hit hp
     go_wp2_with fail
     go_ret
     exact ⟨by rw [digs_yes (fun j hj=>HD.out j hj (by omega))];rfl,hbel⟩
theorem goodPan_any (s:ByteArray) (w:World) (hs:s.size ≤ maxLen) :
   Calls Tryz.prog 145 #[.string s] w fun e w'=>e = .returned (.bool (decide (13 ≤ s.size) && decide (s.size ≤ 19) && digs s)) ∧ w' = w:=by
 go_enter Tryz.func145,Tryz.ntmps145
 go_wp2_with (go_at_call 79;refine (l4Digits_any s 13 19 _ hs (by omega) (by omega)).mono ?_;rintro e w1 ⟨rfl,hw1⟩;subst w1)
 go_ret
 exact ⟨rfl,rfl⟩
def kindOf (no:Int):Int × Int:=if no = 2 then (4,2) else if no = 3 then (1,6) else if no = 11 then (1,6) else if no = 4 then (1,12) else if no = 7 then (1,10) else if no = 70 then (1,3) else if no = 37 then (2,12) else if no = 39 then (2,2) else if no = 41 then (2,8) else if no = 48 then (5,3) else if no = 52 then (3,8) else if no = 64 then (3,8) else if no = 128 then (3,8) else if no = 53 then (3,10) else (0,0)
set_option maxRecDepth 100000 in
set_option maxHeartbeats 4000000 in
theorem l6Kind_any (no:Int) (w:World):Calls Tryz.prog 84 #[.int .i64 no] w fun e w'=>e = .returned (.tuple #[.int .i64 (kindOf no).1,.int .i64 (kindOf no).2]) ∧ w' = w:=by
 by_cases h2:no = 2
 · subst h2
   go_enter Tryz.func84,Tryz.ntmps84
   go_wp2
   go_ret2
   exact ⟨rfl,rfl⟩
 by_cases h3:no = 3
 · subst h3
   go_enter Tryz.func84,Tryz.ntmps84
   go_wp2
   go_ret2
   exact ⟨rfl,rfl⟩
 by_cases h11:no = 11
 · subst h11
   go_enter Tryz.func84,Tryz.ntmps84
   go_wp2
   go_ret2
   exact ⟨rfl,rfl⟩
 by_cases h4:no = 4
 · subst h4
   go_enter Tryz.func84,Tryz.ntmps84
   go_wp2
   go_ret2
   exact ⟨rfl,rfl⟩
 by_cases h7:no = 7
 · subst h7
   go_enter Tryz.func84,Tryz.ntmps84
   go_wp2
   go_ret2
   exact ⟨rfl,rfl⟩
 by_cases h70:no = 70
 · subst h70
   go_enter Tryz.func84,Tryz.ntmps84
   go_wp2
   go_ret2
   exact ⟨rfl,rfl⟩
 by_cases h37:no = 37
 · subst h37
   go_enter Tryz.func84,Tryz.ntmps84
   go_wp2
   go_ret2
   exact ⟨rfl,rfl⟩
 by_cases h39:no = 39
 · subst h39
   go_enter Tryz.func84,Tryz.ntmps84
   go_wp2
   go_ret2
   exact ⟨rfl,rfl⟩
 by_cases h41:no = 41
 · subst h41
   go_enter Tryz.func84,Tryz.ntmps84
   go_wp2
   go_ret2
   exact ⟨rfl,rfl⟩
 by_cases h48:no = 48
 · subst h48
   go_enter Tryz.func84,Tryz.ntmps84
   go_wp2
   go_ret2
   exact ⟨rfl,rfl⟩
 by_cases h52:no = 52
 · subst h52
   go_enter Tryz.func84,Tryz.ntmps84
   go_wp2
   go_ret2
   exact ⟨rfl,rfl⟩
 by_cases h64:no = 64
 · subst h64
   go_enter Tryz.func84,Tryz.ntmps84
   go_wp2
   go_ret2
   exact ⟨rfl,rfl⟩
 by_cases h128:no = 128
 · subst h128
   go_enter Tryz.func84,Tryz.ntmps84
   go_wp2
   go_ret2
   exact ⟨rfl,rfl⟩
 by_cases h53:no = 53
 · subst h53
   go_enter Tryz.func84,Tryz.ntmps84
   go_wp2
   go_ret2
   exact ⟨rfl,rfl⟩
 have hk:kindOf no = (0,0):=by unfold kindOf;rw [if_neg h2,if_neg h3,if_neg h11,if_neg h4,if_neg h7,if_neg h70,if_neg h37,if_neg h39,if_neg h41,if_neg h48,if_neg h52,if_neg h64,if_neg h128,if_neg h53]
 rw [hk]
 have b2:(no == 2) = false:=by rw [beq_eq_false_iff_ne];exact h2
 have b3:(no == 3) = false:=by rw [beq_eq_false_iff_ne];exact h3
 have b11:(no == 11) = false:=by rw [beq_eq_false_iff_ne];exact h11
 have b4:(no == 4) = false:=by rw [beq_eq_false_iff_ne];exact h4
 have b7:(no == 7) = false:=by rw [beq_eq_false_iff_ne];exact h7
 have b70:(no == 70) = false:=by rw [beq_eq_false_iff_ne];exact h70
 have b37:(no == 37) = false:=by rw [beq_eq_false_iff_ne];exact h37
 have b39:(no == 39) = false:=by rw [beq_eq_false_iff_ne];exact h39
 have b41:(no == 41) = false:=by rw [beq_eq_false_iff_ne];exact h41
 have b48:(no == 48) = false:=by rw [beq_eq_false_iff_ne];exact h48
 have b52:(no == 52) = false:=by rw [beq_eq_false_iff_ne];exact h52
 have b64:(no == 64) = false:=by rw [beq_eq_false_iff_ne];exact h64
 have b128:(no == 128) = false:=by rw [beq_eq_false_iff_ne];exact h128
 have b53:(no == 53) = false:=by rw [beq_eq_false_iff_ne];exact h53
 clear hk h2 h3 h11 h4 h7 h70 h37 h39 h41 h48 h52 h64 h128 h53
 go_enter Tryz.func84,Tryz.ntmps84
 go_wp2
 go_ret2
 exact ⟨rfl,rfl⟩
end Go.Proofs.YtjkofmomoljelaaGreatDoor
namespace Go.Proofs.YtjkofmomoljelaaGreatDoor
open Go.RowKit
theorem grown_setCellT (w:World) (a:Addr) (v:Value):w.grownBy (w.setCell a v) (some a.block) :=
 ⟨rfl,rfl,rfl,by simp,fun k _ hk=>heap_setCell_other w a k v (fun e=>hk (by rw [e]))⟩
theorem grown_drewT {w w':World} {r:Option Nat} (h:w.grownBy w' r):w.grownBy w'.drew r:=⟨h.os,h.tape,h.output,h.size,h.block⟩
theorem below_newT (w:World) (o:Obj):Below w.heap.size w (w.alloc o):=(Below.refl _ w).alloc (Nat.le_refl _) o
def tabCellsI:List Value:=[.int .i64 2,.iface 161 (.agg #[.int .i64 2,.int .i64 13,.int .i64 19]),.int .i64 3,.iface 164 (.agg #[.int .i64 6]),.int .i64 4,.iface 164 (.agg #[.int .i64 12]),.int .i64 7,.iface 164 (.agg #[.int .i64 10]),.int .i64 11,.iface 164 (.agg #[.int .i64 6]),.int .i64 37,.iface 167 (.agg #[.int .i64 12]),.int .i64 39,.iface 167 (.agg #[.int .i64 2]),.int .i64 41,.iface 167 (.agg #[.int .i64 8]),.int .i64 48,.iface 170 (.agg #[.int .i64 3,.int .i64 0,.int .i64 200]),.int .i64 52,.iface 172 (.agg #[.int .i64 8]),.int .i64 53,.iface 172 (.agg #[.int .i64 10]),.int .i64 64,.iface 172 (.agg #[.int .i64 8]),.int .i64 70,.iface 164 (.agg #[.int .i64 3]),.int .i64 128,.iface 172 (.agg #[.int .i64 8])]
set_option maxRecDepth 100000 in
set_option maxHeartbeats 4000000 in
theorem fieldTable_any (w:World):Calls Tryz.prog 63 #[] w fun e w'=>e = .returned (.slice (some ⟨w.heap.size,0,none⟩) 14 14) ∧ Blk w' w.heap.size 80 tabCellsI ∧ Below w.heap.size w w':=by
 go_enter Tryz.func63,Tryz.ntmps63
 go_wp2
 go_ret
 exact ⟨rfl,Blk.new w _ _,below_newT _ _⟩
theorem ext_countedDigits (d l m:Int) (w:World):(Go.method 394 161 (.agg #[.int .i64 d,.int .i64 l,.int .i64 m]) "loop.example/s01728/impl.extent").run Tryz.prog w = .ok (233,.agg #[.int .i64 d,.int .i64 l,.int .i64 m]) w:=by kernel_rfl
theorem ext_countedBytes (d l m:Int) (w:World):(Go.method 394 170 (.agg #[.int .i64 d,.int .i64 l,.int .i64 m]) "loop.example/s01728/impl.extent").run Tryz.prog w = .ok (233,.agg #[.int .i64 d,.int .i64 l,.int .i64 m]) w:=by kernel_rfl
theorem ext_fixedDigits (n:Int) (w:World):(Go.method 394 164 (.agg #[.int .i64 n]) "loop.example/s01728/impl.extent").run Tryz.prog w = .ok (235,.int .i64 n) w:=by kernel_rfl
theorem ext_fixedText (n:Int) (w:World):(Go.method 394 167 (.agg #[.int .i64 n]) "loop.example/s01728/impl.extent").run Tryz.prog w = .ok (235,.int .i64 n) w:=by kernel_rfl
theorem ext_fixedBytes (n:Int) (w:World):(Go.method 394 172 (.agg #[.int .i64 n]) "loop.example/s01728/impl.extent").run Tryz.prog w = .ok (235,.int .i64 n) w:=by kernel_rfl
theorem all_countedDigits (d l m:Int) (w:World):(Go.method 394 161 (.agg #[.int .i64 d,.int .i64 l,.int .i64 m]) "loop.example/s01728/impl.allows").run Tryz.prog w = .ok (234,.agg #[]) w:=by kernel_rfl
theorem all_countedBytes (d l m:Int) (w:World):(Go.method 394 170 (.agg #[.int .i64 d,.int .i64 l,.int .i64 m]) "loop.example/s01728/impl.allows").run Tryz.prog w = .ok (237,.agg #[]) w:=by kernel_rfl
theorem all_fixedDigits (n:Int) (w:World):(Go.method 394 164 (.agg #[.int .i64 n]) "loop.example/s01728/impl.allows").run Tryz.prog w = .ok (234,.agg #[]) w:=by kernel_rfl
theorem all_fixedText (n:Int) (w:World):(Go.method 394 167 (.agg #[.int .i64 n]) "loop.example/s01728/impl.allows").run Tryz.prog w = .ok (236,.agg #[]) w:=by kernel_rfl
theorem all_fixedBytes (n:Int) (w:World):(Go.method 394 172 (.agg #[.int .i64 n]) "loop.example/s01728/impl.allows").run Tryz.prog w = .ok (237,.agg #[]) w:=by kernel_rfl
set_option maxHeartbeats 1000000 in
theorem extent_fixed (n:Int) (w:World):Calls Tryz.prog 235 #[.int .i64 n] w fun e w'=>e = .returned (.agg #[.int .i64 0,.int .i64 n,.int .i64 n]) ∧ Below w.heap.size w w':=by
 go_enter Tryz.func235,Tryz.ntmps235
 go_wp2
 exact bodyPost_ret (v:=.agg [.int .i64 0,.int .i64 n,.int .i64 n].toArray) (results_blk Tryz.results235 _ _ rfl (show Blk _ _ 117 [.int .i64 0,.int .i64 n,.int .i64 n] from Blk.new w _ #[.int .i64 0,.int .i64 n,.int .i64 n]) Tryz.underlying117 rfl (by kernel_rfl)) rfl ⟨rfl,below_newT _ _⟩
set_option maxHeartbeats 1000000 in
theorem extent_counted (d l m:Int) (w:World):Calls Tryz.prog 233 #[.agg #[.int .i64 d,.int .i64 l,.int .i64 m]] w fun e w'=>e = .returned (.agg #[.int .i64 d,.int .i64 l,.int .i64 m]) ∧ Below w.heap.size w w':=by
 go_enter Tryz.func233,Tryz.ntmps233
 go_wp2
 exact bodyPost_ret (v:=.agg [.int .i64 d,.int .i64 l,.int .i64 m].toArray) (results_blk Tryz.results233 _ _ rfl (show Blk _ _ 117 [.int .i64 d,.int .i64 l,.int .i64 m] from Blk.new2 w _ _ #[.int .i64 d,.int .i64 l,.int .i64 m]) Tryz.underlying117 rfl (by kernel_rfl)) rfl ⟨rfl,((Below.refl _ w).alloc (Nat.le_refl _) _).alloc (by simp) _⟩
set_option maxHeartbeats 1000000 in
theorem allow_digits (b:UInt8) (w:World):Calls Tryz.prog 234 #[.agg #[],.int .u8 (b.toNat:Int)] w fun e w'=>e = .returned (.bool (decide (48 ≤ b.toNat ∧ b.toNat ≤ 57))) ∧ Below w.heap.size w w':=by
 have hb:=UInt8.toNat_lt b
 obtain ⟨x,hx⟩:∃ x,x = b.toNat:=⟨_,rfl⟩
 rw [← hx] at hb ⊢
 clear hx
 have hw:IntKind.i32.wrap (x:Int) = (x:Int):=by rw [IntKind.wrap_i32];omega
 by_cases h1:48 ≤ x
 · have g1:(48:Int) ≤ (x:Int):=by omega
   by_cases h2:x ≤ 57
   · have g2:(x:Int) ≤ 57:=by omega
     rw [decide_eq_true ⟨h1,h2⟩]
     go_enter Tryz.func234,Tryz.ntmps234
     go_wp2
     go_ret
     exact ⟨rfl,below_newT _ _⟩
   · have g2:¬ ((x:Int) ≤ 57):=by omega
     rw [decide_eq_false (fun h=>h2 h.2)]
     go_enter Tryz.func234,Tryz.ntmps234
     go_wp2
     go_ret
     exact ⟨by simp,below_newT _ _⟩
 · have g1:¬ ((48:Int) ≤ (x:Int)):=by omega
   rw [decide_eq_false (fun h=>h1 h.1)]
   go_enter Tryz.func234,Tryz.ntmps234
   go_wp2
   go_ret
   exact ⟨rfl,below_newT _ _⟩
set_option maxHeartbeats 1000000 in
theorem allow_text (b:UInt8) (w:World):Calls Tryz.prog 236 #[.agg #[],.int .u8 (b.toNat:Int)] w fun e w'=>e = .returned (.bool (decide (32 ≤ b.toNat ∧ b.toNat ≤ 126))) ∧ Below w.heap.size w w':=by
 obtain ⟨x,hx⟩:∃ x,x = b.toNat:=⟨_,rfl⟩
 rw [← hx]
 clear hx
 by_cases h1:32 ≤ x
 · have g1:(32:Int) ≤ (x:Int):=by omega
   by_cases h2:x ≤ 126
   · have g2:(x:Int) ≤ 126:=by omega
     rw [decide_eq_true ⟨h1,h2⟩]
     go_enter Tryz.func236,Tryz.ntmps236
     go_wp2
     go_ret
     exact ⟨rfl,below_newT _ _⟩
   · have g2:¬ ((x:Int) ≤ 126):=by omega
     rw [decide_eq_false (fun h=>h2 h.2)]
     go_enter Tryz.func236,Tryz.ntmps236
     go_wp2
     go_ret
     exact ⟨by simp,below_newT _ _⟩
 · have g1:¬ ((32:Int) ≤ (x:Int)):=by omega
   rw [decide_eq_false (fun h=>h1 h.1)]
   go_enter Tryz.func236,Tryz.ntmps236
   go_wp2
   go_ret
   exact ⟨rfl,below_newT _ _⟩
set_option maxHeartbeats 1000000 in
theorem allow_bytes (b:UInt8) (w:World):Calls Tryz.prog 237 #[.agg #[],.int .u8 (b.toNat:Int)] w fun e w'=>e = .returned (.bool true) ∧ Below w.heap.size w w':=by
 go_enter Tryz.func237,Tryz.ntmps237
 go_wp2
 go_ret
 exact ⟨rfl,below_newT _ _⟩
end Go.Proofs.YtjkofmomoljelaaGreatDoor
