import Derived.Test.YtoajfbkblpaejaaGreatDoorMakePinS
import Derived.Recover
namespace Go.Proofs.YtoajfbkblpaejaaGreatDoor
open Go.RowKit
def nibL (bs:List UInt8):List Nat:=bs.flatMap fun b=>[b.toNat / 16,b.toNat % 16]
theorem nibL_snoc (l:List UInt8) (b:UInt8):nibL (l ++ [b]) = nibL l ++ [b.toNat / 16,b.toNat % 16]:=by simp [nibL]
theorem nibL_length (l:List UInt8):(nibL l).length = 2 * l.length:=by
 induction l with
 | nil=>rfl
 | cons a l ih=>simp [nibL] at ih ⊢;omega
theorem nibL_lt (l:List UInt8):∀ d ∈ nibL l,d < 16:=by
 intro d hd
 simp only [nibL,List.mem_flatMap] at hd
 obtain ⟨b,-,hb⟩:=hd
 have:=b.toNat_lt
 simp at hb
 omega
set_option maxRecDepth 100000 in
set_option maxHeartbeats 1000000 in
theorem unpacked_any (bs:List UInt8) (w:World) (h8:bs.length = 8) :
   Calls Tryz.prog 34 #[.agg (bs.map byte).toArray] w fun e w'=>e = .returned (.string ⟨((nibL bs).map hexC).toArray⟩) ∧ Below w.heap.size w w':=by
 have h8m:(bs.map byte).length = 8:=by rw [List.length_map,h8]
 go_enter Tryz.func34,Tryz.ntmps34
 go_wp2_with (refine load_blk rfl 79 _ rfl w.heap.size rfl ((Blk.new w 79 (bs.map byte).toArray).alloc _) Tryz.underlying79 rfl (by rw [h8m];kernel_rfl) ?_)
 go_loopw [5,7] (fun _ i wr=>∃ k:Nat,k ≤ 8 ∧ i = .int .i64 k ∧ Lib.IsBuilderF 115 5 (w.heap.size + 1) (w.heap.size + 1) (Lib.byteCells ((nibL (bs.take k)).map hexC)) wr ∧ w.heap.size + 1 < wr.heap.size ∧ Below w.heap.size w wr) (fun _ i _=>8 - (intOf i).toNat)
 case atStart =>
   refine ⟨0,Nat.zero_le _,rfl,?_,by simp,((Below.refl _ w).alloc (Nat.le_refl _) _).alloc (by simp) _⟩
   have h:=Lib.IsBuilderF.of (Lib.fresh_isBuilder 115 5 (w.alloc (.cells (bs.map byte).toArray 79)))
   simp at h
   exact h
 case round =>
   obtain ⟨k,hk,rfl,hI,hsz,hbel⟩:=hrel
   have HI:Hid (Lib.IsBuilderF 115 5 (w.heap.size + 1) (w.heap.size + 1) (Lib.byteCells ((nibL (bs.take k)).map hexC)) wr):=hI
   clear hI
   have hnl:=nibL_length (bs.take k)
   rw [List.length_take] at hnl
   by_cases hlt:k < 8
   · have hlt':k < bs.length:=by omega
     have hix:=run_index_agg (P:=Tryz.prog) Tryz.underlying79 Tryz.underlying5 rfl (by kernel_rfl) (bs.map byte).toArray .i64 k hlt (.int .u8 (bs[k].toNat:Int)) (by simp [hlt',byte])
     have hx:=bs[k].toNat_lt
     have HX:Hid (Lib.byteCells ((nibL (bs.take (k + 1))).map hexC) = Lib.byteCells ((nibL (bs.take k)).map hexC) ++ Lib.strCells ⟨#[hexC (bs[k].toNat / 16)]⟩ ++ Lib.strCells ⟨#[hexC (bs[k].toNat % 16)]⟩):=by
       show _ = _
       rw [take_snoc bs k hlt',nibL_snoc,List.map_append,Lib.byteCells_append,List.append_assoc];rfl
     obtain ⟨x,hxe⟩:∃ x,x = bs[k].toNat:=⟨_,rfl⟩
     rw [← hxe] at hix hx HX
     clear hxe
     have HH:=hid_eq (fun (q:Nat) (wx:World) (h:q < 16)=>hexDigit_any q wx h)
     have hand:bits BinOp.and IntKind.u8 (x:Int) 15 = ((x % 16:Nat):Int):=by have:=u8_and_nat x 15 (by omega) (by omega);rw [show ((15:Nat):Int) = 15 from rfl] at this;rw [this,show x &&& 15 = x % 16 from Nat.and_two_pow_sub_one_eq_mod x 4]
     go_wp2_with fail
     rw [show ((x:Int) / 16) = ((x / 16:Nat):Int) from by omega]
     refine (HH.out (x / 16) _ (by omega)).mono ?_
     rintro e w1 ⟨rfl,hw1⟩
     subst w1
     go_wp2_with fail
     refine (writeString_any (w.heap.size + 1) (w.heap.size + 1) _ _ _ HI.out (by rw [Lib.byteCells_length,List.length_map,hnl];show _ + 1 ≤ _;omega) (by omega)).mono ?_
     rintro e w2 ⟨rfl,h1,b1,k1⟩
     have hs1:=b1.size
     have hb1:=hbel.trans (b1.mono (Nat.le_succ _))
     go_wp2_with fail
     rw [show ((x:Int) % 16) = ((x % 16:Nat):Int) from by omega]
     refine (HH.out (x % 16) _ (by omega)).mono ?_
     rintro e w3 ⟨rfl,hw3⟩
     subst w3
     go_wp2_with fail
     refine (writeString_any (w.heap.size + 1) (w.heap.size + 1) _ _ _ (Or.inr h1) (by rw [List.length_append,Lib.byteCells_length,List.length_map,hnl];show _ + 1 + 1 ≤ _;omega) (by omega)).mono ?_
     rintro e w4 ⟨rfl,h2,b2,k2⟩
     have hs2:=b2.size
     have hb2:=hb1.trans (b2.mono (Nat.le_succ _))
     go_wp2_with fail
     go_roundw
     case rel=>exact ⟨k + 1,by omega,by go_num,by rw [HX.out];exact Or.inr h2,by omega,hb2⟩
     case measure=>simp [intOf];omega
   · have HK:Hid (k = 8):=hid_eq (by omega)
     go_wp2_with (go_at_call 74;refine (string_any (w.heap.size + 1) (w.heap.size + 1) _ _ HI.out (by omega)).mono ?_;rintro e w2 ⟨rfl,b1⟩)
     go_ret
     exact ⟨by rw [HK.out,List.take_of_length_le (by omega)];rfl,hbel.trans (b1.mono (Nat.le_succ _))⟩
set_option maxHeartbeats 1000000 in
theorem must_true (w:World):Calls Tryz.prog 31 #[.bool true] w fun e w'=>e = .returned (.tuple #[]) ∧ w' = w:=by
 go_enter Tryz.func31,Tryz.ntmps31
 go_wp2
 go_end0
 exact ⟨rfl,rfl⟩
set_option maxHeartbeats 1000000 in
theorem must_false (u:Nat) (pv:Value) (w:World) (hg:w.cell? ⟨2,0,none⟩ = some (.iface u pv)):Calls Tryz.prog 31 #[.bool false] w fun e w'=>e = .panicked [{ v:=.iface u pv,recovered:=false }] ∧ w' = w:=by
 go_enter Tryz.func31,Tryz.ntmps31
 go_wp2
 exact ⟨rfl,rfl,rfl⟩
end Go.Proofs.YtoajfbkblpaejaaGreatDoor
