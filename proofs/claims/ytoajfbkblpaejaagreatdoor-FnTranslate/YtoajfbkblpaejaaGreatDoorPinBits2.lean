import Derived.Test.YtoajfbkblpaejaaGreatDoorPinImpl
namespace Go.Proofs.YtoajfbkblpaejaaGreatDoor
open Go.RowKit
section
variable {P:Program} {op:Oper} {a:Act} {w:World} {K:Act → World → Prop} {Q:Exit → Act → World → Prop}
end
section
variable {P:Program} {ops:Array Oper} {rest:List Oper} {op:Oper} {a:Act} {w:World} {Q:Exit → Act → World → Prop}
theorem wpList_build2 (hgd:op.guard = none) (t:TypeId) (x y:Operand) (ho:op.op = .buildSlice t 2 #[(0,x),(1,y)]) (e N:Nat) (z:Value) (A B:List Value) (hx:a.eval x = .agg A.toArray) (hy:a.eval y = .agg B.toArray)
   (ht:P.underlying t = some (.slice e)) (hz:(P.info? e).map (fun i=>(i.zero,i.size)) = some (some z,N)) (hA:A.length = N) (hB:B.length = N) (h0:0 < N) (hN:N ≤ 1048576)
   (h:wpList P ops Q rest (a.put op.dst (.slice (some ⟨w.heap.size,0,none⟩) 2 2)) (w.alloc (.cells (A ++ B).toArray e))):wpList P ops Q (op :: rest) a w :=
 wpList_plain hgd fun _ hK=>wp_build2 op.dst rfl t x y ho e N z A B hx hy ht hz hA hB h0 hN (hK _ _ h)
end
def fillN (f:Nat) (pin:ByteArray) (draws:List UInt8):List Nat:=if f = 3 then (draws.take (14 - pin.size)).map (fun d=>10 + d.toNat % 6) else List.replicate (14 - pin.size) 15
def pinN (f:Nat) (pin:ByteArray) (draws:List UInt8):List Nat:=[f,pin.size] ++ pin.data.toList.map pdigN ++ fillN f pin draws
theorem pinN_length (f:Nat) (pin:ByteArray) (draws:List UInt8) (h12:pin.size ≤ 12) (hd:f = 3 → 14 - pin.size ≤ draws.length):(pinN f pin draws).length = 16:=by
 have hp:pin.data.toList.length = pin.size:=rfl
 unfold pinN fillN
 rw [List.length_append,List.length_append,List.length_map,hp]
 split
 · rename_i h
   have:=hd h
   rw [List.length_map,List.length_take]
   show 2 + _ + _ = _
   omega
 · rw [List.length_replicate]
   show 2 + _ + _ = _
   omega
theorem pinN_lt (f:Nat) (pin:ByteArray) (draws:List UInt8) (hf:f < 16) (h12:pin.size ≤ 12) (hp:digs pin = true):∀ d ∈ pinN f pin draws,d < 16:=by
 intro d hd
 unfold pinN at hd
 rw [List.mem_append,List.mem_append] at hd
 rcases hd with (hd | hd) | hd
 · simp at hd;omega
 · obtain ⟨b,hb,rfl⟩:=List.mem_map.1 hd
   unfold digs at hp
   rw [List.all_eq_true] at hp
   have:=dig_to (hp b hb)
   unfold pdigN
   omega
 · unfold fillN at hd
   split at hd
   · obtain ⟨b,-,rfl⟩:=List.mem_map.1 hd
     omega
   · have:=List.eq_of_mem_replicate hd
     omega
theorem digs_text (pin:ByteArray) (hp:digs pin = true):(pin.data.toList.map pdigN).map hexC = pin.data.toList:=map_digs _ (by unfold digs at hp;rw [List.all_eq_true] at hp;exact hp)
theorem repeat_F (n:Nat):Lib.repeatL [70] n = (List.replicate n 15).map hexC:=by
 induction n with
 | zero=>rfl
 | succ n ih =>
   show [70] ++ Lib.repeatL [70] n = _
   rw [ih,List.replicate_succ]
   rfl
theorem text0 (pin:ByteArray) (hp:digs pin = true) (draws:List UInt8):(ByteArray.mk #[hexC 0]) ++ (ByteArray.mk #[hexC pin.size]) ++ pin ++ ⟨(Lib.repeatL [70] (14 - pin.size)).toArray⟩ = ⟨((pinN 0 pin draws).map hexC).toArray⟩:=by
 apply ByteArray.ext
 rw [ByteArray.data_append,ByteArray.data_append,ByteArray.data_append]
 apply Array.ext'
 rw [Array.toList_append,Array.toList_append,Array.toList_append]
 unfold pinN fillN
 rw [List.map_append,List.map_append,digs_text pin hp,if_neg (by omega),repeat_F]
 rfl
theorem text3 (pin:ByteArray) (hp:digs pin = true) (draws:List UInt8):(ByteArray.mk #[hexC 3]) ++ (ByteArray.mk #[hexC pin.size]) ++ pin ++ ⟨((draws.take (14 - pin.size)).map drawnC).toArray⟩ = ⟨((pinN 3 pin draws).map hexC).toArray⟩:=by
 apply ByteArray.ext
 rw [ByteArray.data_append,ByteArray.data_append,ByteArray.data_append]
 apply Array.ext'
 rw [Array.toList_append,Array.toList_append,Array.toList_append]
 unfold pinN fillN
 rw [List.map_append,List.map_append,digs_text pin hp,if_pos rfl,List.map_map]
 rfl
def pinL (f:Nat) (pin pan:ByteArray) (draws:List UInt8):List UInt8:=xorL (blockN (wordH (pinN f pin draws))) (blockN (wordH (acctN pan)))
theorem pinL_length (f:Nat) (pin pan:ByteArray) (draws:List UInt8):(pinL f pin pan draws).length = 8:=by
 unfold pinL
 rw [xorL_length _ _ (by rw [blockN_length,blockN_length]),blockN_length]
end Go.Proofs.YtoajfbkblpaejaaGreatDoor
