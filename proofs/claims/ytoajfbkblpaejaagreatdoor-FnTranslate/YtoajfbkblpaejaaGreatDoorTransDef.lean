import Derived.Test.YtoajfbkblpaejaaGreatDoorReadM
import Derived.Test.YtoajfbkblpaejaaGreatDoorMakePinS2
import Derived.Test.YtoajfbkblpaejaaGreatDoorRingI
namespace Go.Proofs.YtoajfbkblpaejaaGreatDoor
open Go.RowKit
theorem own_shape2 {w:World} {base:Nat} {v:Value} {bs:List UInt8} (h:Own w base v bs):∃ ao cap,v = .slice ao bs.length cap ∧ RowAt w ao bs ∧ bs.length ≤ cap:=by
 obtain ⟨ao,cap,hv,row,-,-,-⟩:=h.shape
 by_cases h0:bs.length = 0
 · exact ⟨ao,cap,hv,row,by omega⟩
 · obtain ⟨g,c,hc,hv2,-⟩:=h.at' rfl (by omega)
   rw [hv] at hv2
   simp only [Value.slice.injEq] at hv2
   obtain ⟨-,-,rfl⟩:=hv2
   exact ⟨ao,cap,hv,row,hc⟩
def mkC (f:Int) (pin pan:ByteArray) (n:Nat):Int:=if goodPin f pin pan then (if f = 3 ∧ n < 14 - pin.size then 2 else 0) else 1
def mkU (f:Int) (pin pan:ByteArray) (n:Nat):Int:=if goodPin f pin pan then (if f = 3 ∧ ¬ n < 14 - pin.size then ((14 - pin.size:Nat):Int) else 0) else 0
def mkL (f:Int) (pin pan:ByteArray) (draws:List UInt8):List UInt8:=if goodPin f pin pan then (if f = 3 ∧ draws.length < 14 - pin.size then [] else pinL f.toNat pin pan draws) else []
theorem mkC_cases (f:Int) (pin pan:ByteArray) (n:Nat):mkC f pin pan n = 0 ∨ mkC f pin pan n = 1 ∨ mkC f pin pan n = 2:=by
 unfold mkC;split
 · split
   · exact .inr (.inr rfl)
   · exact .inl rfl
 · exact .inr (.inl rfl)
theorem mkL_le (f:Int) (pin pan:ByteArray) (draws:List UInt8):(mkL f pin pan draws).length ≤ 8:=by
 unfold mkL;split
 · split
   · simp
   · rw [pinL_length];omega
 · simp
theorem mkL_ok (f:Int) (pin pan:ByteArray) (draws:List UInt8) (h:mkC f pin pan draws.length = 0):(mkL f pin pan draws).length = 8:=by
 unfold mkC at h;unfold mkL
 split
 · rename_i hg
   rw [if_pos hg] at h
   split
   · rename_i h2
     rw [if_pos h2] at h
     exact absurd h (by decide)
   · exact pinL_length _ _ _ _
 · rename_i hg
   rw [if_neg hg] at h
   exact absurd h (by decide)
def AnsP (fn:Nat) (f:Int) (pin pan:ByteArray) (draws:List UInt8) (C U:Int) (L:List UInt8):Prop :=
 ∀ (ao:Option Addr) (cap:Nat) (w:World),draws.length ≤ cap → RowAt w ao draws →
   Calls Tryz.prog fn #[.int .i64 f,.string pin,.string pan,.slice ao draws.length cap] w fun e w'=>∃ v,e = .returned (.agg #[.int .i64 C,v,.int .i64 U]) ∧ Own w' w.heap.size v L ∧ Below w.heap.size w w'
theorem make_any (f:Int) (pin pan:ByteArray) (draws:List UInt8) (hp:pin.size ≤ maxLen) (hq:pan.size ≤ maxLen) (hn:draws.length ≤ 1048576) :
   AnsP 11 f pin pan draws (mkC f pin pan draws.length) (mkU f pin pan draws.length) (mkL f pin pan draws) ∧ AnsP 53 f pin pan draws (mkC f pin pan draws.length) (mkU f pin pan draws.length) (mkL f pin pan draws):=by
 unfold mkC mkU mkL
 cases hg:goodPin f pin pan
 · simp only [Bool.false_eq_true,if_false]
   refine ⟨fun ao cap w _ _=>?_,fun ao cap w _ _=>?_⟩
   · refine (makeI_bad f pin pan ao _ cap w hp hq hg).mono ?_
     rintro e w' ⟨rfl,bel⟩
     exact ⟨_,rfl,⟨5,World.ownsRow_nil _ _ _ _⟩,bel⟩
   · refine (makeS_bad f pin pan ao _ cap w hp hq hg).mono ?_
     rintro e w' ⟨rfl,bel⟩
     exact ⟨_,rfl,⟨5,World.ownsRow_nil _ _ _ _⟩,bel⟩
 · simp only [if_true]
   rcases (good_parts hg).1 with rfl | rfl
   · rw [if_neg (by rintro ⟨h,-⟩;exact absurd h (by decide)),if_neg (by rintro ⟨h,-⟩;exact absurd h (by decide)),if_neg (by rintro ⟨h,-⟩;exact absurd h (by decide))]
     refine ⟨fun ao cap w hc hr=>?_,fun ao cap w _ hr=>?_⟩
     · refine (makeI_good0 pin pan draws ao cap w hg hn hc hr).mono ?_
       rintro e w' ⟨g,rfl,own,bel⟩
       exact ⟨_,rfl,own,bel⟩
     · exact makeS_good0 pin pan draws ao cap w hg hn hr
   · by_cases hen:14 - pin.size ≤ draws.length
     · rw [if_neg (by rintro ⟨-,h⟩;omega),if_pos ⟨rfl,by omega⟩,if_neg (by rintro ⟨-,h⟩;omega)]
       refine ⟨fun ao cap w hc hr=>?_,fun ao cap w _ hr=>?_⟩
       · refine (makeI_good3 pin pan draws ao cap w hg hn hc hr hen).mono ?_
         rintro e w' ⟨g,rfl,own,bel⟩
         exact ⟨_,rfl,own,bel⟩
       · exact makeS_good3 pin pan draws ao cap w hg hn hr hen
     · rw [if_pos ⟨rfl,by omega⟩,if_neg (by rintro ⟨-,h⟩;omega),if_pos ⟨rfl,by omega⟩]
       refine ⟨fun ao cap w _ _=>?_,fun ao cap w _ hr=>?_⟩
       · refine (makeI_short pin pan ao _ cap w hg hn (by omega)).mono ?_
         rintro e w' ⟨rfl,bel⟩
         exact ⟨_,rfl,⟨5,World.ownsRow_nil _ _ _ _⟩,bel⟩
       · refine (makeS_short pin pan draws ao cap w hg hn hr (by omega)).mono ?_
         rintro e w' ⟨rfl,bel⟩
         exact ⟨_,rfl,⟨5,World.ownsRow_nil _ _ _ _⟩,bel⟩
def mvP (K block:List UInt8) (pan:ByteArray):ByteArray:=textOf (pinD (readD (tdeaL K block true) pan))
theorem mvP_size (K block:List UInt8) (pan:ByteArray):(mvP K block pan).size ≤ maxLen:=by
 unfold mvP maxLen
 rw [text_size]
 have h1:(pinD (readD (tdeaL K block true) pan)).length ≤ 16:=by
   unfold pinD
   rw [List.length_take,List.length_drop]
   have:(readD (tdeaL K block true) pan).length ≤ 16:=by
     unfold readD
     rw [nibL_length]
     unfold xorL
     rw [List.length_zipWith,blockN_length]
     omega
   omega
 omega
def mvOK (K block:List UInt8) (ff:Int) (pan:ByteArray):Bool:=readOK ff (tdeaL K block true) pan
def mvC (K block draws:List UInt8) (ff tf:Int) (pan:ByteArray):Int:=if mvOK K block ff pan then (if mkC tf (mvP K block pan) pan draws.length = 1 then 4 else if mkC tf (mvP K block pan) pan draws.length = 2 then 5 else 0) else 4
def mvL (K T block draws:List UInt8) (ff tf:Int) (pan:ByteArray):List UInt8:=if mvOK K block ff pan then (if mkC tf (mvP K block pan) pan draws.length = 0 then tdeaL T (mkL tf (mvP K block pan) pan draws) false else []) else []
def mvU (K block draws:List UInt8) (ff tf:Int) (pan:ByteArray):Int:=if mvOK K block ff pan then (if mkC tf (mvP K block pan) pan draws.length = 0 then mkU tf (mvP K block pan) pan draws.length else 0) else 0
def fitK (U:Int) (ksn:List UInt8):Bool:=(decide (U = 1) && decide (ksn.length = 0)) || (decide (U = 3) && decide (ksn.length = 10))
def srcK (U:Int) (K ksn:List UInt8):List UInt8:=if U = 3 then variantL (keyL K ksn) 1 else K
def trF (master fr:List UInt8):Bool:=okO master fr && (decide (opU master fr = 1) || decide (opU master fr = 3))
def trT (master tow:List UInt8):Bool:=okO master tow && decide (opU master tow = 1)
def trK (master fr ksn:List UInt8):List UInt8:=srcK (opU master fr) (unkeyN master fr) ksn
def trC (master fr ksn tow block draws:List UInt8) (ff tf:Int) (pan:ByteArray):Int :=
 if trF master fr then (if trT master tow then (if fitK (opU master fr) ksn then mvC (trK master fr ksn) block draws ff tf pan else 3) else 2) else 1
def trL (master fr ksn tow block draws:List UInt8) (ff tf:Int) (pan:ByteArray):List UInt8 :=
 if trF master fr then (if trT master tow then (if fitK (opU master fr) ksn then mvL (trK master fr ksn) (unkeyN master tow) block draws ff tf pan else []) else []) else []
def trU (master fr ksn tow block draws:List UInt8) (ff tf:Int) (pan:ByteArray):Int :=
 if trF master fr then (if trT master tow then (if fitK (opU master fr) ksn then mvU (trK master fr ksn) block draws ff tf pan else 0) else 0) else 0
end Go.Proofs.YtoajfbkblpaejaaGreatDoor
