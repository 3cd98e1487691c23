import Derived.Test.YtoajfbkblpaejaaGreatDoorPinShelfD
namespace Go.Proofs.YtoajfbkblpaejaaGreatDoor
open Go.RowKit
theorem hid_eq {p:Prop} (h:p):Hid p:=h
def hexC (v:Nat):UInt8:=if v < 10 then UInt8.ofNat (48 + v) else UInt8.ofNat (55 + v)
theorem hex_extract:∀ v:Nat,v < 16 → (ByteArray.mk #[48,49,50,51,52,53,54,55,56,57,65,66,67,68,69,70]).extract v (v + 1) = ⟨#[hexC v]⟩:=by decide +kernel
theorem hexC_val:∀ v:Nat,v < 16 → hexN (hexC v).toNat = v ∧ (hexC v).toNat < 128:=by decide +kernel
set_option maxHeartbeats 400000 in
theorem hexDigit_any (v:Nat) (w:World) (hv:v < 16) :
   Calls Tryz.prog 45 #[.int .i64 v] w fun e w'=>e = .returned (.string ⟨#[hexC v]⟩) ∧ w' = w:=by
 have he:=hex_extract v hv
 go_enter Tryz.func45,Tryz.ntmps45
 go_wp2
 go_ret
 exact ⟨by rw [← he];rfl,rfl⟩
def drawnC (d:UInt8):UInt8:=hexC (10 + d.toNat % 6)
set_option maxHeartbeats 1000000 in
theorem drawnDigits_any (ao:Option Addr) (cap:Nat) (ds:List UInt8) (w:World) (hn:ds.length ≤ 14) (hr:RowAt w ao ds) :
   Calls Tryz.prog 44 #[.slice ao ds.length cap] w fun e w'=>e = .returned (.string ⟨(ds.map drawnC).toArray⟩) ∧ Below w.heap.size w w':=by
 go_enter Tryz.func44,Tryz.ntmps44
 go_wp2_with fail
 go_loopw [5,8] (fun _ i wr=>∃ k:Nat,k ≤ ds.length ∧ i = .int .i64 k ∧ Lib.IsBuilderF 115 5 w.heap.size w.heap.size (Lib.byteCells ((ds.take k).map drawnC)) wr ∧ w.heap.size < wr.heap.size ∧ Below w.heap.size w wr) (fun _ i _=>ds.length - (intOf i).toNat)
 case atStart=>exact ⟨0,Nat.zero_le _,rfl,Lib.IsBuilderF.of (Lib.fresh_isBuilder _ _ w),by simp,(Below.refl _ w).alloc (Nat.le_refl _) _⟩
 case round =>
   obtain ⟨k,hk,rfl,hI,hsz,hbel⟩:=hrel
   have HI:Hid (Lib.IsBuilderF 115 5 w.heap.size w.heap.size (Lib.byteCells ((ds.take k).map drawnC)) wr):=hI
   clear hI
   by_cases hlt:k < ds.length
   · obtain ⟨b,off,rfl,hc⟩:=hr.at hlt
     have hcx:wr.cell? ⟨b,off + k,none⟩ = some (.int .u8 (ds[k].toNat:Int)):=(hbel.cell (RowAt.lt hc hlt)).trans ((hc k hlt).trans (by simp [hlt]))
     clear hc
     have hx:=ds[k].toNat_lt
     have HX:Hid (Lib.byteCells ((ds.take (k + 1)).map drawnC) = Lib.byteCells ((ds.take k).map drawnC) ++ Lib.strCells ⟨#[hexC (10 + ds[k].toNat % 6)]⟩):=by
       show _ = _
       rw [take_snoc ds k hlt,List.map_append,Lib.byteCells_append];rfl
     obtain ⟨x,hxe⟩:∃ x,x = ds[k].toNat:=⟨_,rfl⟩
     have hmod:Int.tmod (x:Int) 6 = ((x % 6:Nat):Int):=by rw [Int.tmod_eq_emod_of_nonneg (by omega)];omega
     rw [← hxe] at hcx hx HX
     clear hxe
     go_wp2_with (first
       | (go_at_call 45;rw [show ((10:Int) + (x:Int) % 6) = ((10 + x % 6:Nat):Int) from (by omega)];refine (hexDigit_any (10 + x % 6) _ (by omega)).mono ?_;rintro e w1 ⟨rfl,hw1⟩;subst w1)
       | (go_at_call 73;refine (writeString_any w.heap.size w.heap.size _ _ _ HI.out (by rw [Lib.byteCells_length,List.length_map,List.length_take];show _ + 1 ≤ _;omega) (by omega)).mono ?_;rintro e w2 ⟨rfl,h1,b1,k1⟩))
     have hsz2:=b1.size
     go_roundw
     case rel=>exact ⟨k + 1,by omega,by go_num,by rw [HX.out];exact Or.inr h1,by omega,hbel.trans b1⟩
     case measure=>simp [intOf];omega
   · have HK:Hid (k = ds.length):=hid_eq (by omega)
     go_wp2_with (go_at_call 74;refine (string_any w.heap.size w.heap.size _ _ HI.out (by omega)).mono ?_;rintro e w2 ⟨rfl,b1⟩)
     go_ret
     exact ⟨by rw [HK.out,List.take_of_length_le (by simp)];rfl,hbel.trans b1⟩
def wordH (ds:List Nat):Nat:=ds.foldl (fun t d=>16 * t + d) 0
theorem wordH_snoc (l:List Nat) (d:Nat):wordH (l ++ [d]) = 16 * wordH l + d:=by simp [wordH]
theorem wordH_lt (l:List Nat) (h:∀ d ∈ l,d < 16):wordH l < 16 ^ l.length:=by
 have:∀ (l:List Nat),(∀ d ∈ l,d < 16) → ∀ t,l.foldl (fun t d=>16 * t + d) t < (t + 1) * 16 ^ l.length:=by
   intro l
   induction l with
   | nil=>intro _ t;simp
   | cons a l ih =>
     intro h t
     have ha:=h a (by simp)
     refine Nat.lt_of_lt_of_le (ih (fun d hd=>h d (by simp [hd])) (16 * t + a)) ?_
     rw [List.length_cons,Nat.pow_succ,Nat.mul_comm (16 ^ l.length) 16,← Nat.mul_assoc]
     exact Nat.mul_le_mul_right _ (by omega)
 have h0:=this l h 0
 simpa [wordH] using h0
theorem word_step16 (r b:Nat) (hr:r < 1152921504606846976) (hb:b < 16):bits BinOp.or IntKind.u64 ((r:Int) * 16) (b:Int) = ((16 * r + b:Nat):Int):=by
 have e1:(r:Int) * 16 = ((16 * r:Nat):Int):=by omega
 rw [e1,u64_or_nat _ _ (by omega) (by omega),nat_join 4 (16 * r) _ (by omega) (by omega)]
theorem pow16_lt {k:Nat} (h:k < 16):(16:Nat) ^ k ≤ 1152921504606846976:=Nat.le_trans (Nat.pow_le_pow_right (by omega) (show k ≤ 15 by omega)) (by decide)
set_option maxHeartbeats 1000000 in
theorem packed_any (ds:List Nat) (w:World) (h16:ds.length = 16) (hd:∀ d ∈ ds,d < 16) :
   Calls Tryz.prog 46 #[.string ⟨(ds.map hexC).toArray⟩] w fun e w'=>e = .returned (.agg ((blockN (wordH ds)).map byte).toArray) ∧ Below w.heap.size w w':=by
 have hz:=(zero_of_info Tryz.zero79).1
 obtain ⟨s,hs⟩:∃ s:ByteArray,s = ⟨(ds.map hexC).toArray⟩:=⟨_,rfl⟩
 have hsz:s.size = 16:=by rw [hs];show (ds.map hexC).toArray.size = 16;simp [h16]
 have hat:∀ k (hk:k < s.size) (hk2:k < ds.length),s[k] = hexC ds[k]:=by
   intro k hk hk2
   subst hs
   show (ds.map hexC).toArray[k]'_ = _
   simp
 rw [← hs]
 clear hs
 go_enter Tryz.func46,Tryz.ntmps46
 go_wp2_with fail
 go_loopw [3] (fun t wr=>∃ k:Nat,k ≤ 16 ∧ t = .int .u64 (wordH (ds.take k):Nat) ∧ wr.heap[w.heap.size + 1]? = some (.stringIter s k) ∧ Blk wr w.heap.size 79 (zerosOf 8 .u8) ∧ Below w.heap.size w wr) (fun _ wr=>16 - wr.iterPos (w.heap.size + 1))
 case atStart =>
   refine ⟨0,Nat.zero_le _,rfl,?_,(Blk.new w _ _).alloc _,((Below.refl _ w).alloc (Nat.le_refl _) _).alloc (by simp) _⟩
   have:=World.iter_heap (w.alloc (.cells (zerosOf 8 .u8).toArray 79)) s 0
   simpa using this
 case round =>
   obtain ⟨k,hk,rfl,hit,hb0,hbel⟩:=hrel
   by_cases hlt:k < 16
   · have hp:k < s.size:=by omega
     have hk2:k < ds.length:=by omega
     have hdk:=hd ds[k] (List.getElem_mem _)
     have hv:=hexC_val ds[k] hdk
     have hsk:=hat k hp hk2
     have hnx:∀ ty,(Instr.next (.pointer (some ⟨w.heap.size + 1,0,none⟩)) true ty).run Tryz.prog wr = _:=fun ty=>Lib.run_next_ascii_at wr (w.heap.size + 1) s k ty hit hp (by rw [hsk];exact hv.2)
     rw [hsk] at hnx
     have hit2:=Lib.iterAt_heap wr (w.heap.size + 1) s k (k + 1) hit
     have hbw2:=Lib.below_iterAt hbel (k:=w.heap.size + 1) (by omega) s (k + 1)
     have hb02:Blk (wr.iterAt (w.heap.size + 1) s (k + 1)) w.heap.size 79 (zerosOf 8 .u8):=(Lib.iterAt_other wr (w.heap.size + 1) w.heap.size s (k + 1) (by omega)).trans hb0
     have HS:Hid (wordH (ds.take (k + 1)) = 16 * wordH (ds.take k) + ds[k]):=by
       show _ = _
       rw [List.take_succ_eq_append_getElem hk2];exact wordH_snoc _ _
     have hlt2:wordH (ds.take k) < 1152921504606846976:=Nat.lt_of_lt_of_le (wordH_lt (ds.take k) (fun d h=>hd d (List.mem_of_mem_take h))) (pow16_lt (by simp;omega))
     obtain ⟨c,hc⟩:∃ c,c = (hexC ds[k]).toNat:=⟨_,rfl⟩
     obtain ⟨W,hW⟩:∃ W,W = wordH (ds.take k):=⟨_,rfl⟩
     obtain ⟨d,hde⟩:∃ d,d = ds[k]:=⟨_,rfl⟩
     rw [← hc] at hnx hv
     rw [← hW] at HS hlt2 ⊢
     rw [← hde] at HS hv hdk
     have Hv:Hid (hexN c = d):=hv.1
     have hc128:=hv.2
     have hcm:(c:Int) % 256 = (c:Int):=by omega
     have hwk:=word_step16 W d hlt2 hdk
     clear hv hsk hat hc hW hde hd
     go_wp2_with (go_at_call 75;refine (hexValue_any c _ (by omega)).mono ?_;rintro e w1 ⟨rfl,hw1⟩;subst w1;rw [Hv.out])
     go_roundw
     case rel=>exact ⟨k + 1,by omega,by rw [HS.out];rfl,hit2,hb02,hbw2⟩
     case measure =>
       simp only [World.iterPos,hit2,hit]
       omega
   · have hk16:k = 16:=by omega
     have hall:ds.take k = ds:=List.take_of_length_le (by omega)
     rw [hall]
     have hwl:wordH ds < 18446744073709551616:=Nat.lt_of_lt_of_le (wordH_lt ds hd) (by rw [h16];decide)
     obtain ⟨W,hW⟩:∃ W,W = wordH ds:=⟨_,rfl⟩
     have HW:=hid_eq hW
     rw [← hW] at hwl ⊢
     have hnx:∀ ty,(Instr.next (.pointer (some ⟨w.heap.size + 1,0,none⟩)) true ty).run Tryz.prog wr = _:=fun ty=>Lib.run_next_end_at wr (w.heap.size + 1) s k ty hit (by omega)
     have hl0:=hb0.lt
     have hml:((blockN W).map byte).length = 8:=by rw [List.length_map,blockN_length]
     clear hW hall hat hd
     go_wp2_with (first
       | (go_at_call 85;refine (blockOf_any W _ hwl).mono ?_;rintro e w1 ⟨rfl,bel1⟩)
       | (refine store_blk rfl 79 _ _ rfl _ rfl rfl (hb0.below bel1 hl0) (by rw [hml];kernel_rfl) (by rw [hml];exact zerosOf_length _ _) (allOne_bytes _) ?_;intro w3 hb3 hg3 hs3))
     exact bodyPost_ret (v:=.agg ((blockN W).map byte).toArray) (results_blk Tryz.results46 _ _ rfl hb3 Tryz.underlying79 rfl (by rw [hml];kernel_rfl)) rfl ⟨by rw [HW.out],(hbel.trans (bel1.mono (by omega))).grown hg3 (Nat.le_trans (Nat.le_of_lt hl0) bel1.size) (by intro k hk;cases hk;omega)⟩
def pdigN (b:UInt8):Nat:=b.toNat - 48
theorem hexC_dig {b:UInt8} (h:dig b = true):hexC (pdigN b) = b:=by
 have:=dig_to h
 unfold hexC pdigN
 rw [if_pos (by omega),show 48 + (b.toNat - 48) = b.toNat from by omega]
 simp
theorem map_digs (l:List UInt8) (h:∀ b ∈ l,dig b = true):(l.map pdigN).map hexC = l:=by
 rw [List.map_map]
 conv=>rhs;rw [← List.map_id l]
 apply List.map_congr_left
 intro b hb
 exact hexC_dig (h b hb)
def acctN (pan:ByteArray):List Nat:=[0,0,0,0] ++ ((pan.data.toList.drop (pan.size - 13)).take 12).map pdigN
theorem acctN_length (pan:ByteArray) (h:13 ≤ pan.size):(acctN pan).length = 16:=by
 have:pan.data.toList.length = pan.size:=rfl
 unfold acctN
 rw [List.length_append,List.length_map,List.length_take,List.length_drop,this]
 show 4 + _ = _
 omega
theorem acctN_lt (pan:ByteArray) (h:digs pan = true):∀ d ∈ acctN pan,d < 16:=by
 intro d hd
 unfold acctN at hd
 rw [List.mem_append] at hd
 rcases hd with hd | hd
 · simp at hd;omega
 · obtain ⟨b,hb,rfl⟩:=List.mem_map.1 hd
   have hb2:=List.mem_of_mem_drop (List.mem_of_mem_take hb)
   unfold digs at h
   rw [List.all_eq_true] at h
   have:=dig_to (h b hb2)
   unfold pdigN
   omega
theorem extract_list (s:ByteArray) (a b:Nat):(s.extract a b).data.toList = (s.data.toList.drop a).take (b - a):=by
 rw [ByteArray.data_extract,Array.toList_extract,List.extract_eq_take_drop]
theorem acct_text (pan:ByteArray) (h13:13 ≤ pan.size) (h:digs pan = true):(ByteArray.mk #[48,48,48,48]) ++ pan.extract (pan.size - 13) (pan.size - 1) = ⟨((acctN pan).map hexC).toArray⟩:=by
 apply ByteArray.ext
 rw [ByteArray.data_append]
 apply Array.ext'
 rw [Array.toList_append,extract_list,show pan.size - 1 - (pan.size - 13) = 12 from by omega]
 unfold acctN
 rw [List.map_append,map_digs]
 · rfl
 · intro b hb
   unfold digs at h
   rw [List.all_eq_true] at h
   exact h b (List.mem_of_mem_drop (List.mem_of_mem_take hb))
set_option maxHeartbeats 1000000 in
theorem account_any (pan:ByteArray) (w:World) (h13:13 ≤ pan.size) (h19:pan.size ≤ 19) (hd:digs pan = true) :
   Calls Tryz.prog 36 #[.string pan] w fun e w'=>e = .returned (.agg ((blockN (wordH (acctN pan))).map byte).toArray) ∧ Below w.heap.size w w':=by
 have hz:=(zero_of_info Tryz.zero79).1
 have htx:=acct_text pan h13 hd
 have hP:=fun wx=>packed_any (acctN pan) wx (acctN_length pan h13) (acctN_lt pan hd)
 obtain ⟨tx,htxe⟩:∃ tx:ByteArray,tx = ⟨((acctN pan).map hexC).toArray⟩:=⟨_,rfl⟩
 obtain ⟨R,hR⟩:∃ R,R = blockN (wordH (acctN pan)):=⟨_,rfl⟩
 have hml:(R.map byte).length = 8:=by rw [List.length_map,hR,blockN_length]
 rw [← hR] at hP ⊢
 rw [← htxe] at hP htx
 have HP:=hid_eq hP
 have e1:IntKind.i64.wrap ((pan.size:Int) - 1) = (pan.size:Int) - 1:=by rw [IntKind.wrap_i64];omega
 have HT:=hid_eq htx
 clear hP hR htxe
 go_enter Tryz.func36,Tryz.ntmps36
 go_wp2_with fail
 rw [show pan.size - 1 - 12 = pan.size - 13 from by omega,HT.out]
 refine (HP.out _).mono ?_
 rintro e w1 ⟨rfl,bel1⟩
 go_wp2_with (refine store_blk rfl 79 _ _ rfl _ rfl rfl ((Blk.new w 79 (zerosOf 8 .u8).toArray).below bel1 (by simp)) (by rw [hml];kernel_rfl) (by rw [hml];exact zerosOf_length _ _) (allOne_bytes _) ?_;intro w3 hb3 hg3 hs3)
 exact bodyPost_ret (v:=.agg (R.map byte).toArray) (results_blk Tryz.results36 _ _ rfl hb3 Tryz.underlying79 rfl (by rw [hml];kernel_rfl)) rfl ⟨rfl,(((Below.refl _ w).alloc (Nat.le_refl _) _).trans (bel1.mono (by simp))).grown hg3 (by have:=bel1.size;simp at this;omega) (by intro k hk;cases hk;omega)⟩
end Go.Proofs.YtoajfbkblpaejaaGreatDoor
