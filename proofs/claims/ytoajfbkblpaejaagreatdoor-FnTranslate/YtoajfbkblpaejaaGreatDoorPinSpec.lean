import Derived.Test.YtoajfbkblpaejaaGreatDoorMakePinI
import Derived.Lib.ConvBytes
import Derived.Maps.AppendAt
namespace Go.Proofs.YtoajfbkblpaejaaGreatDoor
open Go.RowKit
theorem conv_bytes (s:ByteArray) (w:World):∃ cap w',(convert 9 22 (.string s)).run Tryz.prog w = .ok (.slice (some ⟨w.heap.size,0,none⟩) s.size cap) w' ∧ RowAt w' (some ⟨w.heap.size,0,none⟩) s.data.toList ∧ Below w.heap.size w w' ∧ w'.heap.size = w.heap.size + 1:=by
 refine ⟨_,_,Lib.run_convert_string_bytes w 9 22 5 s Tryz.underlying9 Tryz.underlying22 Tryz.underlying5,.inr ⟨_,_,rfl,fun i hi=>?_⟩,?_,Lib.bytesWorld_size w _ s⟩
 · rw [Nat.zero_add]
   exact Lib.bytesWorld_cell w _ s i hi
 · exact ⟨rfl,rfl,rfl,by rw [Lib.bytesWorld_size];omega,fun k hk=>Lib.bytesWorld_at_old w _ s k hk⟩
def ofN (d:Nat):UInt8:=UInt8.ofNat d
theorem sub48:∀ n:Nat,n < 256 → 48 ≤ n → ((n:Int) - 48) % 256 = ((n - 48:Nat):Int):=by decide +kernel
set_option maxRecDepth 100000 in
set_option maxHeartbeats 1000000 in
theorem l4Account_any (pan:ByteArray) (w:World) (h13:13 ≤ pan.size) (h19:pan.size ≤ 19) (hd:digs pan = true) :
   Calls Tryz.prog 93 #[.string pan] w fun e w'=>∃ v,e = .returned v ∧ OwnB w' w.heap.size v ((acctN pan).map ofN) ∧ Below w.heap.size w w':=by
 obtain ⟨i0,hi,hz0,hz1,hz2⟩:=info_parts Tryz.info5
 obtain ⟨T,hT⟩:∃ T:ByteArray,T = pan.extract (pan.size - 13) (pan.size - 1):=⟨_,rfl⟩
 have hTl:T.data.toList = (pan.data.toList.drop (pan.size - 13)).take 12:=by rw [hT,extract_list,show pan.size - 1 - (pan.size - 13) = 12 from by omega]
 have hTs:T.size = 12:=by rw [hT,ByteArray.size_extract];omega
 have hTd:∀ b ∈ T.data.toList,dig b = true:=by
   intro b hm
   rw [hTl] at hm
   unfold digs at hd
   rw [List.all_eq_true] at hd
   exact hd _ (List.mem_of_mem_drop (List.mem_of_mem_take hm))
 have HAN:Hid ((acctN pan).map ofN = [0,0,0,0] ++ T.data.toList.map (fun b=>ofN (pdigN b))):=by
   show _ = _
   unfold acctN
   rw [List.map_append,List.map_map,← hTl]
   rfl
 have hTL:T.data.toList.length = 12:=hTs
 obtain ⟨L,hL⟩:∃ L,L = T.data.toList:=⟨_,rfl⟩
 rw [← hL] at HAN hTL hTd
 obtain ⟨capT,wT,hcv,rowT,belT,hsT⟩:=conv_bytes T (w.alloc (.cells #[.int .u8 0,.int .u8 0,.int .u8 0,.int .u8 0] 5))
 rw [← hL] at rowT
 have own0:OwnB (w.alloc (.cells #[.int .u8 0,.int .u8 0,.int .u8 0,.int .u8 0] 5)) w.heap.size (.slice (some ⟨w.heap.size,0,none⟩) 4 4) ([0,0,0,0] ++ ((L.take 0).map (fun b=>ofN (pdigN b)))):=by
   refine ⟨rfl,.inr ⟨w.heap.size,4,_,rfl,Nat.le_refl _,Blk.new w _ _,by simp,by unfold maxLen;omega,rfl,rfl⟩⟩
 have own1:=own0.below belT
 have bel1:Below w.heap.size w wT:=((Below.refl _ w).alloc (Nat.le_refl _) _).trans (belT.mono (by simp))
 have hasz:(w.alloc (.cells #[.int .u8 0,.int .u8 0,.int .u8 0,.int .u8 0] 5)).heap.size = w.heap.size + 1:=by simp
 rw [hasz] at hcv rowT hsT
 have HT:=hid_eq hT
 have HTd:=hid_eq hTd
 have hTs2:(pan.extract (pan.size - 13) (pan.size - 1)).size = 12:=by rw [← hT];exact hTs
 clear own0 hTl hTs hL hd hTd belT hasz
 have HsT:=hid_eq hsT
 clear hsT
 go_enter Tryz.func93,Tryz.ntmps93
 rw [hT] at hcv
 go_wp2_with fail
 go_loopw [3,5,17] (fun v _ i wr=>∃ k:Nat,k ≤ 12 ∧ i = .int .i64 k ∧ OwnB wr w.heap.size v ([0,0,0,0] ++ ((L.take k).map (fun b=>ofN (pdigN b)))) ∧ v.ownBlock ≠ some (w.heap.size + 1) ∧ w.heap.size + 1 < wr.heap.size ∧ RowAt wr (some ⟨w.heap.size + 1,0,none⟩) L ∧ Below w.heap.size w wr) (fun _ _ i _=>12 - (intOf i).toNat)
 case atStart=>exact ⟨0,by omega,rfl,own1,by simp [Value.ownBlock],by have:=HsT.out;omega,rowT,bel1⟩
 case round =>
   clear own1 rowT bel1 hcv
   obtain ⟨k,hk,rfl,hown,hne,hsz,hrow,hbel⟩:=hrel
   have hll:([0,0,0,0] ++ ((L.take k).map (fun b=>ofN (pdigN b)))).length = 4 + k:=by
     rw [List.length_append,List.length_map,List.length_take]
     show 4 + _ = _
     omega
   obtain ⟨ao6,c6,hv6,-,-,-,-⟩:=hown.own.shape
   rw [hll] at hv6
   subst hv6
   by_cases hlt:k < 12
   · have hlt':k < L.length:=by omega
     obtain ⟨b',o',he,hc⟩:=hrow.at hlt'
     cases he
     have hcx:wr.cell? ⟨w.heap.size + 1,k,none⟩ = some (.int .u8 (L[k].toNat:Int)):=by have h:=hc k hlt';rw [Nat.zero_add] at h;rw [h];simp [hlt']
     have hdk:=dig_to (HTd.out L[k] (List.getElem_mem _))
     have hown':=own_num hown hll
     have hs48:=sub48 L[k].toNat (by omega) (by omega)
     have hdn:pdigN L[k] = L[k].toNat - 48:=rfl
     have HNX:Hid ([0,0,0,0] ++ ((L.take (k + 1)).map (fun b=>ofN (pdigN b))) = [0,0,0,0] ++ ((L.take k).map (fun b=>ofN (pdigN b))) ++ [ofN (pdigN L[k])]):=by
       show _ = _
       rw [take_snoc L k hlt',List.map_append,← List.append_assoc]
       rfl
     obtain ⟨d,hde⟩:∃ d,d = pdigN L[k]:=⟨_,rfl⟩
     have hd16:d < 10:=by rw [hde,hdn];omega
     have hbd:byte (ofN d) = .int .u8 (d:Int):=by
       unfold byte ofN
       rw [UInt8.toNat_ofNat']
       congr 1
       omega
     have Hbd:=hid_eq hbd
     have Hne:=hid_eq hne
     rw [← hde] at HNX hdn
     rw [← hdn] at hs48
     obtain ⟨x,hx⟩:∃ x,x = L[k].toNat:=⟨_,rfl⟩
     rw [← hx] at hcx hs48 hdk
     obtain ⟨pre,hpre⟩:∃ pre,pre = [0,0,0,0] ++ ((L.take k).map (fun b=>ofN (pdigN b))):=⟨_,rfl⟩
     rw [← hpre] at HNX hown' hll
     have Hrow:=hid_eq hrow
     clear hc hown hde hdn hx hpre hbd hne hrow hT hTs2 HT
     have hbel':=hbel.size
     have hs48b:(x:Int) - 48 = (d:Int):=by omega
     go_wp2_with (at_builtin;refine wpList_append_own_at _ rfl _ _ 22 rfl w.heap.size 5 i0 (.int .u8 0) 1 1 Tryz.underlying22 hi hz0 hz1 hz2 rfl (by decide) _ _ _ rfl (hown'.alloc _) ⟨wr.heap.size,0,none⟩ 1 1 [.int .u8 (d:Int)] rfl rfl (cell_one_new _ _ _) (by intro u hu;simp at hu;subst hu;rfl) (by unfold maxLen;omega) (by omega) (by simp;omega) ?_;intro v7 w7 hown7 hgrow7 hnil7 hat7)
     have R1:OwnB w7 w.heap.size v7 ([0,0,0,0] ++ ((L.take (k + 1)).map (fun b=>ofN (pdigN b)))):=by
       unfold OwnB
       rw [HNX.out,List.length_append,hll,List.map_append,List.map_cons,List.map_nil,Hbd.out]
       exact hown7
     have R2:=(hbel.alloc hbel' _).grown hgrow7 (by simp;omega) (fun k hk=>(hown'.lt k hk).1)
     have row7:RowAt w7 (some ⟨w.heap.size + 1,0,none⟩) L:=RowAt.grown (Hrow.out.below (below_new _ _)) hgrow7 (by intro a ha hc;cases ha;exact Hne.out hc)
     have ne7:v7.ownBlock ≠ some (w.heap.size + 1):=by
       rcases hat7 with h | h
       · rw [h];exact Hne.out
       · intro hc;rw [hc] at h;simp at h;omega
     have lt7:w.heap.size + 1 < w7.heap.size:=by have:=hgrow7.size;simp at this;omega
     clear hown7 hgrow7 hnil7 hat7 hown' hbel Hrow
     go_roundw
     case rel=>exact ⟨k + 1,by omega,by go_num,R1,ne7,lt7,row7,R2⟩
     case measure=>simp [intOf];omega
   · have hk12:k = 12:=by omega
     go_wp2_with fail
     go_ret
     refine ⟨_,rfl,?_,hbel⟩
     rw [HAN.out]
     rw [List.take_of_length_le (by omega)] at hown
     exact hown
end Go.Proofs.YtoajfbkblpaejaaGreatDoor
