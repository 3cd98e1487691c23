import Derived.Test.YtbkokcjolanpeaaGreatDoorRows
import Derived.Test.YtbkokcjolanpeaaGreatDoorRgB
import Derived.WalkLawsBesides
import Derived.WalkSpells
import Derived.Deep.RegionWith
namespace Go.Proofs.YtbkokcjolanpeaaGreatDoor
open Go.RowKit
abbrev Rt:=ByteArray × Int
def RtsAt (w:World) (ao:Option Addr) (rs:List Rt):Prop :=
 rs = [] ∨ ∃ b off,ao = some ⟨b,off,none⟩ ∧ ∀ i r,rs[i]? = some r → w.cell? ⟨b,off + i * 2,none⟩ = some (.string r.1) ∧ w.cell? ⟨b,off + i * 2 + 1,none⟩ = some (.int .i64 r.2)
theorem RtsAt.at {w:World} {ao:Option Addr} {rs:List Rt} (h:RtsAt w ao rs) {k:Nat} (hk:k < rs.length) :
   ∃ b off,ao = some ⟨b,off,none⟩ ∧ ∀ i r,rs[i]? = some r → w.cell? ⟨b,off + i * 2,none⟩ = some (.string r.1) ∧ w.cell? ⟨b,off + i * 2 + 1,none⟩ = some (.int .i64 r.2):=by
 rcases h with rfl | h
 · simp at hk
 · exact h
theorem RtsAt.below {w w':World} {ao:Option Addr} {rs:List Rt} (h:RtsAt w ao rs) (hb:Below w.heap.size w w'):RtsAt w' ao rs:=by
 rcases h with rfl | ⟨b,off,rfl,hc⟩
 · exact .inl rfl
 · refine .inr ⟨b,off,rfl,fun i r hr=>?_⟩
   obtain ⟨h1,h2⟩:=hc i r hr
   exact ⟨by rw [hb.cell (p:=⟨b,off + i * 2,none⟩) (World.block_lt_of_cell? w _ h1)];exact h1,by rw [hb.cell (p:=⟨b,off + i * 2 + 1,none⟩) (World.block_lt_of_cell? w _ h2)];exact h2⟩
theorem RtsAt.take {w:World} {ao:Option Addr} {rs:List Rt} (h:RtsAt w ao rs) (n:Nat):RtsAt w ao (rs.take n):=by
 rcases h with rfl | ⟨b,off,rfl,hc⟩
 · exact .inl (by simp)
 · refine .inr ⟨b,off,rfl,fun i r hr=>hc i r ?_⟩
   rw [List.getElem?_take] at hr
   split at hr
   · exact hr
   · cases hr
def preB (p s:ByteArray):Bool:=decide (p.size ≤ s.size) && (s.extract 0 p.size).toList == p.toList
set_option maxHeartbeats 400000 in
theorem hasPrefix0_any (s p:ByteArray) (w:World) :
   Calls Tryz.prog 198 #[.string s,.string p] w fun e w'=>e = .returned (.bool (preB p s)) ∧ w' = w:=by
 by_cases hl:p.size ≤ s.size
 · go_enter Tryz.func198,Tryz.ntmps198
   go_wp2
   go_ret
   exact ⟨by simp [preB,hl],rfl⟩
 · go_enter Tryz.func198,Tryz.ntmps198
   go_wp2
   go_ret
   exact ⟨by simp [preB,hl],rfl⟩
set_option maxHeartbeats 400000 in
theorem hasPrefix_any (s p:ByteArray) (w:World) :
   Calls Tryz.prog 162 #[.string s,.string p] w fun e w'=>e = .returned (.bool (preB p s)) ∧ w' = w:=by
 go_enter Tryz.func162,Tryz.ntmps162
 go_wp2_with (go_at_call 198;refine (hasPrefix0_any s p _).mono ?_;rintro e w' ⟨rfl,rfl⟩)
 go_ret
 exact ⟨rfl,rfl⟩
def Best (L:List Rt) (pan:ByteArray) (k:Nat) (link len:Int):Prop :=
 (link = -1 ∧ len = -1 ∧ ∀ j r,j < k → L[j]? = some r → preB r.1 pan = false) ∨
 ∃ i r,i < k ∧ L[i]? = some r ∧ preB r.1 pan = true ∧ link = r.2 ∧ len = (r.1.size:Int) ∧ (∀ j q,j < k → L[j]? = some q → preB q.1 pan = true → q.1.size ≤ r.1.size) ∧ (∀ j q,j < i → L[j]? = some q → preB q.1 pan = true → q.1.size < r.1.size)
theorem Best.zero (L:List Rt) (pan:ByteArray):Best L pan 0 (-1) (-1):=.inl ⟨rfl,rfl,fun j _ h=>absurd h (Nat.not_lt_zero j)⟩
theorem Best.skip {L:List Rt} {pan:ByteArray} {k:Nat} {link len:Int} {r:Rt} (h:Best L pan k link len) (hr:L[k]? = some r) (hno:¬ (len < (r.1.size:Int) ∧ preB r.1 pan = true)):Best L pan (k + 1) link len:=by
 rcases h with ⟨h1,h2,h3⟩ | ⟨i,q,hi,hq,hp,h1,h2,h3,h4⟩
 · refine .inl ⟨h1,h2,fun j q hj hq=>?_⟩
   by_cases hjk:j = k
   · subst hjk
     rw [hr] at hq;cases hq
     have:len < (r.1.size:Int):=by omega
     simpa [this] using hno
   · exact h3 j q (by omega) hq
 · refine .inr ⟨i,q,by omega,hq,hp,h1,h2,fun j x hj hx hpx=>?_,h4⟩
   by_cases hjk:j = k
   · subst hjk
     rw [hr] at hx;cases hx
     have:¬ len < (r.1.size:Int):=fun hc=>hno ⟨hc,hpx⟩
     omega
   · exact h3 j x (by omega) hx hpx
theorem Best.take {L:List Rt} {pan:ByteArray} {k:Nat} {link len:Int} {r:Rt} (h:Best L pan k link len) (hr:L[k]? = some r) (hl:len < (r.1.size:Int)) (hp:preB r.1 pan = true):Best L pan (k + 1) r.2 r.1.size:=by
 refine .inr ⟨k,r,by omega,hr,hp,rfl,rfl,fun j q hj hq hpq=>?_,fun j q hj hq hpq=>?_⟩
 · by_cases hjk:j = k
   · subst hjk;rw [hr] at hq;cases hq;exact Nat.le_refl _
   · rcases h with ⟨-,-,h3⟩ | ⟨i,x,hi,hx,hpx,h1,h2,h3,h4⟩
     · rw [h3 j q (by omega) hq] at hpq;cases hpq
     · have:=h3 j q (by omega) hq hpq;omega
 · rcases h with ⟨-,-,h3⟩ | ⟨i,x,hi,hx,hpx,h1,h2,h3,h4⟩
   · rw [h3 j q hj hq] at hpq;cases hpq
   · have:=h3 j q hj hq hpq;omega
theorem Best.one {L:List Rt} {pan:ByteArray} {a b c d:Int} (h:Best L pan L.length a b) (g:Best L pan L.length c d):a = c:=by
 rcases h with ⟨h1,-,h3⟩ | ⟨i,x,hi,hx,hpx,h1,h2,h3,h4⟩ <;> rcases g with ⟨g1,-,g3⟩ | ⟨j,y,hj,hy,hpy,g1,g2,g3,g4⟩
 · omega
 · rw [h3 j y hj hy] at hpy;cases hpy
 · rw [g3 i x hi hx] at hpx;cases hpx
 · have e1:=h3 j y hj hy hpy
   have e2:=g3 i x hi hx hpx
   by_cases hij:i = j
   · subst hij;rw [hx] at hy;cases hy;omega
   · by_cases hlt:i < j
     · have:=g4 i x hlt hx hpx;omega
     · have:=h4 j y (by omega) hy hpy;omega
def BestOf (L:List Rt) (pan:ByteArray) (a:Int):Prop:=∃ b,Best L pan L.length a b
theorem BestOf.one {L:List Rt} {pan:ByteArray} {a c:Int} (h:BestOf L pan a) (g:BestOf L pan c):a = c:=by
 obtain ⟨_,h⟩:=h;obtain ⟨_,g⟩:=g;exact h.one g
set_option maxHeartbeats 1000000 in
theorem routeI_few (ao:Option Addr) (cap n0:Nat) (L:List Rt) (pan:ByteArray) (w:World) (hn:n0 ≤ 1048576) (hc0:n0 ≤ cap) (hs:∀ r ∈ L,r.1.size ≤ maxLen) (hr:RtsAt w ao L) (hL:L.length = n0) (h20:n0 ≤ 20) :
   Calls Tryz.prog 119 #[.slice ao n0 cap,.string pan] w fun e w' =>
     ∃ a,e = .returned (.int .i64 a) ∧ BestOf L pan a ∧ Below w.heap.size w w':=by
 go_enter Tryz.func119,Tryz.ntmps119
 go_wp2_with fail
 go_loopw [5,6,15] (fun li lo i wr=>∃ (k:Nat) (a b:Int),k ≤ L.length ∧ i = .int .i64 k ∧ li = .int .i64 a ∧ lo = .int .i64 b ∧ -1 ≤ b ∧ Best L pan k a b ∧ Below w.heap.size w wr) (fun _ _ i _=>L.length - (intOf i).toNat)
 case atStart=>exact ⟨0,-1,-1,Nat.zero_le _,rfl,rfl,rfl,by omega,Best.zero L pan,Below.refl _ _⟩
 case round =>
   obtain ⟨k,a,b,hk,rfl,rfl,rfl,hb1,hbest,hbel⟩:=hrel
   by_cases hlt:k < L.length
   · obtain ⟨g,off,rfl,hc⟩:=hr.at hlt
     obtain ⟨r,hrk⟩:∃ r,L[k]? = some r:=⟨L[k],List.getElem?_eq_getElem hlt⟩
     have hsz:r.1.size ≤ maxLen:=hs r (List.mem_of_getElem? hrk)
     unfold maxLen at hsz
     obtain ⟨hc1,hc2⟩:=hc k r hrk
     have hx1:wr.cell? ⟨g,off + k * 2,none⟩ = some (.string r.1):=(hbel.cell (World.block_lt_of_cell? w _ hc1)).trans hc1
     have hx2:wr.cell? ⟨g,off + k * 2 + 1,none⟩ = some (.int .i64 r.2):=(hbel.cell (World.block_lt_of_cell? w _ hc2)).trans hc2
     have hlt':(k:Int) < (n0:Int):=by omega
     have Hr:Hid (L[k]? = some r):=hrk
     have HB:Hid (Best L pan k a b):=hbest
     have hbel1:=hbel.alloc hbel.size (Obj.cells #[.string r.1,.int .i64 r.2] 105)
     clear hc1 hc2 hc hrk hs hr hbest
     by_cases hl:b < (r.1.size:Int)
     · cases hp:preB r.1 pan
       · go_wp2_with (go_at_call 162;refine (hasPrefix_any pan r.1 _).mono ?_;rintro e w1 ⟨rfl,hw1⟩;subst w1;rw [hp])
         go_roundw
         case rel=>exact ⟨k + 1,a,b,by omega,by go_num,rfl,rfl,hb1,HB.out.skip Hr.out (by rw [hp];simp),hbel1⟩
         case measure=>simp [intOf];omega
       · go_wp2_with (go_at_call 162;refine (hasPrefix_any pan r.1 _).mono ?_;rintro e w1 ⟨rfl,hw1⟩;subst w1;rw [hp])
         go_region
         all_goals
           go_wp2_with fail
           go_roundw
           case rel=>exact ⟨k + 1,r.2,r.1.size,by omega,by go_num,rfl,rfl,by omega,HB.out.take Hr.out hl hp,hbel1.drew⟩
           case measure=>simp [intOf];omega
     · go_wp2_with fail
       go_roundw
       case rel=>exact ⟨k + 1,a,b,by omega,by go_num,rfl,rfl,hb1,HB.out.skip Hr.out (fun h=>hl h.1),hbel1⟩
       case measure=>simp [intOf];omega
   · have hkl:k = L.length:=by omega
     have hlt':¬ (k:Int) < (n0:Int):=by omega
     have HB:Hid (Best L pan k a b):=hbest
     clear hbest
     go_wp2
     go_ret
     exact ⟨a,rfl,⟨b,hkl ▸ HB.out⟩,hbel⟩
set_option maxHeartbeats 1000000 in
theorem routeI_many (ao:Option Addr) (cap n0:Nat) (L:List Rt) (pan:ByteArray) (w:World) (hn:n0 ≤ 1048576) (hc0:n0 ≤ cap) (hs:∀ r ∈ L,r.1.size ≤ maxLen) (hr:RtsAt w ao L) (hL:L.length = 20) (h20:20 < n0) :
   Calls Tryz.prog 119 #[.slice ao n0 cap,.string pan] w fun e w' =>
     ∃ a,e = .returned (.int .i64 a) ∧ BestOf L pan a ∧ Below w.heap.size w w':=by
 go_enter Tryz.func119,Tryz.ntmps119
 go_wp2_with fail
 go_loopw [5,6,15] (fun li lo i wr=>∃ (k:Nat) (a b:Int),k ≤ L.length ∧ i = .int .i64 k ∧ li = .int .i64 a ∧ lo = .int .i64 b ∧ -1 ≤ b ∧ Best L pan k a b ∧ Below w.heap.size w wr) (fun _ _ i _=>L.length - (intOf i).toNat)
 case atStart=>exact ⟨0,-1,-1,Nat.zero_le _,rfl,rfl,rfl,by omega,Best.zero L pan,Below.refl _ _⟩
 case round =>
   obtain ⟨k,a,b,hk,rfl,rfl,rfl,hb1,hbest,hbel⟩:=hrel
   by_cases hlt:k < L.length
   · obtain ⟨g,off,rfl,hc⟩:=hr.at hlt
     obtain ⟨r,hrk⟩:∃ r,L[k]? = some r:=⟨L[k],List.getElem?_eq_getElem hlt⟩
     have hsz:r.1.size ≤ maxLen:=hs r (List.mem_of_getElem? hrk)
     unfold maxLen at hsz
     obtain ⟨hc1,hc2⟩:=hc k r hrk
     have hx1:wr.cell? ⟨g,off + k * 2,none⟩ = some (.string r.1):=(hbel.cell (World.block_lt_of_cell? w _ hc1)).trans hc1
     have hx2:wr.cell? ⟨g,off + k * 2 + 1,none⟩ = some (.int .i64 r.2):=(hbel.cell (World.block_lt_of_cell? w _ hc2)).trans hc2
     have hlt':(k:Int) < (20:Int):=by omega
     have Hr:Hid (L[k]? = some r):=hrk
     have HB:Hid (Best L pan k a b):=hbest
     have hbel1:=hbel.alloc hbel.size (Obj.cells #[.string r.1,.int .i64 r.2] 105)
     clear hc1 hc2 hc hrk hs hr hbest
     by_cases hl:b < (r.1.size:Int)
     · cases hp:preB r.1 pan
       · go_wp2_with (go_at_call 162;refine (hasPrefix_any pan r.1 _).mono ?_;rintro e w1 ⟨rfl,hw1⟩;subst w1;rw [hp])
         go_roundw
         case rel=>exact ⟨k + 1,a,b,by omega,by go_num,rfl,rfl,hb1,HB.out.skip Hr.out (by rw [hp];simp),hbel1⟩
         case measure=>simp [intOf];omega
       · go_wp2_with (go_at_call 162;refine (hasPrefix_any pan r.1 _).mono ?_;rintro e w1 ⟨rfl,hw1⟩;subst w1;rw [hp])
         go_region
         all_goals
           go_wp2_with fail
           go_roundw
           case rel=>exact ⟨k + 1,r.2,r.1.size,by omega,by go_num,rfl,rfl,by omega,HB.out.take Hr.out hl hp,hbel1.drew⟩
           case measure=>simp [intOf];omega
     · go_wp2_with fail
       go_roundw
       case rel=>exact ⟨k + 1,a,b,by omega,by go_num,rfl,rfl,hb1,HB.out.skip Hr.out (fun h=>hl h.1),hbel1⟩
       case measure=>simp [intOf];omega
   · have hkl:k = L.length:=by omega
     have hlt':¬ (k:Int) < (20:Int):=by omega
     have HB:Hid (Best L pan k a b):=hbest
     clear hbest
     go_wp2
     go_ret
     exact ⟨a,rfl,⟨b,hkl ▸ HB.out⟩,hbel⟩
theorem routeI_any (ao:Option Addr) (cap:Nat) (rs:List Rt) (pan:ByteArray) (w:World) (hn:rs.length ≤ 1048576) (hc0:rs.length ≤ cap) (hs:∀ r ∈ rs,r.1.size ≤ maxLen) (hr:RtsAt w ao rs) :
   Calls Tryz.prog 119 #[.slice ao rs.length cap,.string pan] w fun e w' =>
     ∃ a,e = .returned (.int .i64 a) ∧ BestOf (rs.take 20) pan a ∧ Below w.heap.size w w':=by
 have hs':∀ r ∈ rs.take 20,r.1.size ≤ maxLen:=fun r h=>hs r (List.mem_of_mem_take h)
 by_cases h20:rs.length ≤ 20
 · exact routeI_few ao cap rs.length (rs.take 20) pan w hn hc0 hs' (hr.take 20) (by simp;omega) h20
 · exact routeI_many ao cap rs.length (rs.take 20) pan w hn hc0 hs' (hr.take 20) (by simp;omega) (by omega)
end Go.Proofs.YtbkokcjolanpeaaGreatDoor
