import Derived.Test.YtoajfbkblpaejaaGreatDoorPinBits2
namespace Go.Proofs.YtoajfbkblpaejaaGreatDoor
open Go.RowKit
def goodPin (f:Int) (pin pan:ByteArray):Bool:=(decide (f = 0) || decide (f = 3)) && (decide (4 ≤ pin.size) && decide (pin.size ≤ 12) && digs pin) && (decide (13 ≤ pan.size) && decide (pan.size ≤ 19) && digs pan)
set_option maxRecDepth 100000 in
set_option maxHeartbeats 1000000 in
theorem makeI_bad (f:Int) (pin pan:ByteArray) (ao:Option Addr) (n cap:Nat) (w:World) (hp:pin.size ≤ maxLen) (hq:pan.size ≤ maxLen) (hg:goodPin f pin pan = false) :
   Calls Tryz.prog 11 #[.int .i64 f,.string pin,.string pan,.slice ao n cap] w fun e w'=>e = .returned (.agg #[.int .i64 1,.slice none 0 0,.int .i64 0]) ∧ Below w.heap.size w w':=by
 cases h1:(decide (f = 0) || decide (f = 3))
 · go_enter Tryz.func11,Tryz.ntmps11
   go_wp2_with (go_at_call 32;refine (isFormat_any _ _).mono ?_;rintro e w1 ⟨rfl,hw1⟩;subst w1;rw [h1])
   exact bodyPost_ret (v:=.agg [.int .i64 1,.slice none 0 0,.int .i64 0].toArray) (results_blk Tryz.results11 _ _ rfl (show Blk _ _ 40 [.int .i64 1,.slice none 0 0,.int .i64 0] from Blk.new w 40 #[.int .i64 1,.slice none 0 0,.int .i64 0]) Tryz.underlying40 rfl (by kernel_rfl)) rfl ⟨rfl,(Below.refl _ w).alloc (Nat.le_refl _) _⟩
 have hbk:Blk (w.alloc (.cells #[.int .i64 0,.slice none 0 0,.int .i64 0] 40)) w.heap.size 40 [.int .i64 0,.slice none 0 0,.int .i64 0]:=Blk.new w _ _
 have bz0:Below w.heap.size w (w.alloc (.cells #[.int .i64 0,.slice none 0 0,.int .i64 0] 40)):=(Below.refl _ w).alloc (Nat.le_refl _) _
 cases h2:(decide (4 ≤ pin.size) && decide (pin.size ≤ 12) && digs pin)
 · go_enter Tryz.func11,Tryz.ntmps11
   go_wp2_with (first | (go_at_call 32;refine (isFormat_any _ _).mono ?_;rintro e w1 ⟨rfl,hw1⟩;subst w1;rw [h1]) | (go_at_call 42;refine (isPin_any pin _ hp).mono ?_;rintro e w2 ⟨rfl,bel2⟩;rw [h2];have bzw2:=bz0.trans (bel2.mono bz0.size);replace hbk:=hbk.below bel2 hbk.lt;have c0_:w2.cell? ⟨w.heap.size,0,none⟩ = some (.int .i64 0):=hbk.cell 0 (by simp);have c1_:w2.cell? ⟨w.heap.size,1,none⟩ = some (.slice none 0 0):=hbk.cell 1 (by simp);have c2_:w2.cell? ⟨w.heap.size,2,none⟩ = some (.int .i64 0):=hbk.cell 2 (by simp);have f0_:=hbk.free 0;have f1_:=hbk.free 1;have f2_:=hbk.free 2))
   exact bodyPost_ret (v:=.agg [.int .i64 1,.slice none 0 0,.int .i64 0].toArray) (results_blk Tryz.results11 _ _ rfl (show Blk _ _ 40 [.int .i64 1,.slice none 0 0,.int .i64 0] from ((hbk.set 0 (.int .i64 1)).set 1 (.slice none 0 0)).set 2 (.int .i64 0)) Tryz.underlying40 rfl (by kernel_rfl)) rfl ⟨rfl,((bzw2.setCell (p:=⟨w.heap.size,0,none⟩) (Nat.le_refl _) _).setCell (p:=⟨w.heap.size,1,none⟩) (Nat.le_refl _) _).setCell (p:=⟨w.heap.size,2,none⟩) (Nat.le_refl _) _⟩
 · cases h3:(decide (13 ≤ pan.size) && decide (pan.size ≤ 19) && digs pan)
   · go_enter Tryz.func11,Tryz.ntmps11
     go_wp2_with (first | (go_at_call 32;refine (isFormat_any _ _).mono ?_;rintro e w1 ⟨rfl,hw1⟩;subst w1;rw [h1]) | (go_at_call 42;refine (isPin_any pin _ hp).mono ?_;rintro e w2 ⟨rfl,bel2⟩;rw [h2];have bzw2:=bz0.trans (bel2.mono bz0.size);replace hbk:=hbk.below bel2 hbk.lt) | (go_at_call 33;refine (isPan_any pan _ hq).mono ?_;rintro e w3 ⟨rfl,bel3⟩;rw [h3];have bzw3:=bzw2.trans (bel3.mono bzw2.size);replace hbk:=hbk.below bel3 hbk.lt;have c0_:w3.cell? ⟨w.heap.size,0,none⟩ = some (.int .i64 0):=hbk.cell 0 (by simp);have c1_:w3.cell? ⟨w.heap.size,1,none⟩ = some (.slice none 0 0):=hbk.cell 1 (by simp);have c2_:w3.cell? ⟨w.heap.size,2,none⟩ = some (.int .i64 0):=hbk.cell 2 (by simp);have f0_:=hbk.free 0;have f1_:=hbk.free 1;have f2_:=hbk.free 2))
     exact bodyPost_ret (v:=.agg [.int .i64 1,.slice none 0 0,.int .i64 0].toArray) (results_blk Tryz.results11 _ _ rfl (show Blk _ _ 40 [.int .i64 1,.slice none 0 0,.int .i64 0] from ((hbk.set 0 (.int .i64 1)).set 1 (.slice none 0 0)).set 2 (.int .i64 0)) Tryz.underlying40 rfl (by kernel_rfl)) rfl ⟨rfl,((bzw3.setCell (p:=⟨w.heap.size,0,none⟩) (Nat.le_refl _) _).setCell (p:=⟨w.heap.size,1,none⟩) (Nat.le_refl _) _).setCell (p:=⟨w.heap.size,2,none⟩) (Nat.le_refl _) _⟩
   · rw [goodPin,h1,h2,h3] at hg;cases hg
theorem good_parts {f:Int} {pin pan:ByteArray} (h:goodPin f pin pan = true):(f = 0 ∨ f = 3) ∧ 4 ≤ pin.size ∧ pin.size ≤ 12 ∧ digs pin = true ∧ 13 ≤ pan.size ∧ pan.size ≤ 19 ∧ digs pan = true:=by
 simp only [goodPin,Bool.and_eq_true,Bool.or_eq_true,decide_eq_true_eq] at h
 obtain ⟨⟨h1,⟨h2,h3⟩,h4⟩,⟨h5,h6⟩,h7⟩:=h
 exact ⟨h1,h2,h3,h4,h5,h6,h7⟩
set_option maxRecDepth 100000 in
set_option maxHeartbeats 2000000 in
theorem makeI_short (pin pan:ByteArray) (ao:Option Addr) (n cap:Nat) (w:World) (hg:goodPin 3 pin pan = true) (_hn:n ≤ 1048576) (hsh:n < 14 - pin.size) :
   Calls Tryz.prog 11 #[.int .i64 3,.string pin,.string pan,.slice ao n cap] w fun e w'=>e = .returned (.agg #[.int .i64 2,.slice none 0 0,.int .i64 0]) ∧ Below w.heap.size w w':=by
 obtain ⟨-,hp4,hp12,hpd,hq13,hq19,hqd⟩:=good_parts hg
 have hp:pin.size ≤ maxLen:=by unfold maxLen;omega
 have hq:pan.size ≤ maxLen:=by unfold maxLen;omega
 have h1:(decide ((3:Int) = 0) || decide ((3:Int) = 3)) = true:=by decide
 have h2:(decide (4 ≤ pin.size) && decide (pin.size ≤ 12) && digs pin) = true:=by simp [hp4,hp12,hpd]
 have h3:(decide (13 ≤ pan.size) && decide (pan.size ≤ 19) && digs pan) = true:=by simp [hq13,hq19,hqd]
 obtain ⟨room,hroom⟩:∃ room,room = 14 - pin.size:=⟨_,rfl⟩
 have hrI:(14:Int) - (pin.size:Int) = (room:Int):=by omega
 have HREP:=hid_eq (fun wx=>repeat_any ⟨#[70]⟩ room wx (by omega) (by show 1 ≤ 1000;omega))
 have hbk:Blk (w.alloc (.cells #[.int .i64 0,.slice none 0 0,.int .i64 0] 40)) w.heap.size 40 [.int .i64 0,.slice none 0 0,.int .i64 0]:=Blk.new w _ _
 have bz0:Below w.heap.size w (w.alloc (.cells #[.int .i64 0,.slice none 0 0,.int .i64 0] 40)):=(Below.refl _ w).alloc (Nat.le_refl _) _
 have hlI:(n:Int) < (room:Int):=by omega
 clear hroom hpd hqd hp4 hq13
 go_enter Tryz.func11,Tryz.ntmps11
 go_wp2_with (first | (go_at_call 32;refine (isFormat_any _ _).mono ?_;rintro e w1 ⟨rfl,hw1⟩;subst w1;rw [h1]) | (go_at_call 42;refine (isPin_any pin _ hp).mono ?_;rintro e w2 ⟨rfl,bel2⟩;rw [h2];have bzw2:=bz0.trans (bel2.mono bz0.size);replace hbk:=hbk.below bel2 hbk.lt) | (go_at_call 33;refine (isPan_any pan _ hq).mono ?_;rintro e w3 ⟨rfl,bel3⟩;rw [h3];have bzw3:=bzw2.trans (bel3.mono bzw2.size);replace hbk:=hbk.below bel3 hbk.lt) | (go_at_call 43;refine (HREP.out _).mono ?_;rintro e w4 ⟨rfl,bel4⟩;have bzw4:=bzw3.trans (bel4.mono bzw3.size);replace hbk:=hbk.below bel4 hbk.lt;have c0_:w4.cell? ⟨w.heap.size,0,none⟩ = some (.int .i64 0):=hbk.cell 0 (by simp);have c1_:w4.cell? ⟨w.heap.size,1,none⟩ = some (.slice none 0 0):=hbk.cell 1 (by simp);have c2_:w4.cell? ⟨w.heap.size,2,none⟩ = some (.int .i64 0):=hbk.cell 2 (by simp);have f0_:=hbk.free 0;have f1_:=hbk.free 1;have f2_:=hbk.free 2))
 exact bodyPost_ret (v:=.agg [.int .i64 2,.slice none 0 0,.int .i64 0].toArray) (results_blk Tryz.results11 _ _ rfl (show Blk _ _ 40 [.int .i64 2,.slice none 0 0,.int .i64 0] from ((hbk.set 0 (.int .i64 2)).set 1 (.slice none 0 0)).set 2 (.int .i64 0)) Tryz.underlying40 rfl (by kernel_rfl)) rfl ⟨rfl,((bzw4.setCell (p:=⟨w.heap.size,0,none⟩) (Nat.le_refl _) _).setCell (p:=⟨w.heap.size,1,none⟩) (Nat.le_refl _) _).setCell (p:=⟨w.heap.size,2,none⟩) (Nat.le_refl _) _⟩
set_option maxRecDepth 100000 in
set_option maxHeartbeats 2000000 in
theorem makeI_good0 (pin pan:ByteArray) (draws:List UInt8) (ao:Option Addr) (cap:Nat) (w:World) (hg:goodPin 0 pin pan = true) (_hn:draws.length ≤ 1048576) (_hcap:draws.length ≤ cap) (_hr:RowAt w ao draws)  :
   Calls Tryz.prog 11 #[.int .i64 0,.string pin,.string pan,.slice ao draws.length cap] w fun e w'=>∃ g,e = .returned (.agg #[.int .i64 0,.slice (some ⟨g,0,none⟩) 8 8,.int .i64 0]) ∧ Own w' w.heap.size (.slice (some ⟨g,0,none⟩) 8 8) (pinL 0 pin pan draws) ∧ Below w.heap.size w w':=by
 obtain ⟨-,hp4,hp12,hpd,hq13,hq19,hqd⟩:=good_parts hg
 have hp:pin.size ≤ maxLen:=by unfold maxLen;omega
 have hq:pan.size ≤ maxLen:=by unfold maxLen;omega
 have h1:(decide ((0:Int) = 0) || decide ((0:Int) = 3)) = true:=by decide
 have h2:(decide (4 ≤ pin.size) && decide (pin.size ≤ 12) && digs pin) = true:=by simp [hp4,hp12,hpd]
 have h3:(decide (13 ≤ pan.size) && decide (pan.size ≤ 19) && digs pan) = true:=by simp [hq13,hq19,hqd]
 obtain ⟨room,hroom⟩:∃ room,room = 14 - pin.size:=⟨_,rfl⟩
 have hrI:(14:Int) - (pin.size:Int) = (room:Int):=by omega
 have HREP:=hid_eq (fun wx=>repeat_any ⟨#[70]⟩ room wx (by omega) (by show 1 ≤ 1000;omega))
 have hbk:Blk (w.alloc (.cells #[.int .i64 0,.slice none 0 0,.int .i64 0] 40)) w.heap.size 40 [.int .i64 0,.slice none 0 0,.int .i64 0]:=Blk.new w _ _
 have bz0:Below w.heap.size w (w.alloc (.cells #[.int .i64 0,.slice none 0 0,.int .i64 0] 40)):=(Below.refl _ w).alloc (Nat.le_refl _) _
 have htx:=text0 pin hpd draws
 have hz8:=(zero_of_info Tryz.zero79).1
 have hPK:=fun wx=>packed_any (pinN 0 pin draws) wx (pinN_length _ _ _ hp12 (by intro h;omega)) (pinN_lt _ _ _ (by omega) hp12 hpd)
 have hAC:=fun wx=>account_any pan wx hq13 hq19 hqd
 have hH0:=fun wx=>hexDigit_any 0 wx (by omega)
 have hHn:=fun wx=>hexDigit_any pin.size wx (by omega)
 have hPL:pinL 0 pin pan draws = xorL (blockN (wordH (pinN 0 pin draws))) (blockN (wordH (acctN pan))):=rfl
 have hpl:=pinL_length 0 pin pan draws
 rw [← hroom] at htx
 obtain ⟨tx,htxe⟩:∃ tx:ByteArray,tx = ⟨((pinN 0 pin draws).map hexC).toArray⟩:=⟨_,rfl⟩
 obtain ⟨A,hA⟩:∃ A,A = blockN (wordH (pinN 0 pin draws)):=⟨_,rfl⟩
 obtain ⟨B,hB⟩:∃ B,B = blockN (wordH (acctN pan)):=⟨_,rfl⟩
 have hAl:A.length = 8:=by rw [hA,blockN_length]
 have hBl:B.length = 8:=by rw [hB,blockN_length]
 rw [← hA,← hB] at hPL
 rw [← htxe] at htx hPK
 rw [← hA] at hPK
 rw [← hB] at hAC
 obtain ⟨P,hP⟩:∃ P,P = pinL 0 pin pan draws:=⟨_,rfl⟩
 rw [← hP] at hPL hpl ⊢
 have HTX:=hid_eq htx
 have HPK:=hid_eq hPK
 have HAC:=hid_eq hAC
 have HH0:=hid_eq hH0
 have HHn:=hid_eq hHn
 have HPL:=hid_eq hPL
 have hAm:(A.map byte).length = 8:=by rw [List.length_map,hAl]
 have hBm:(B.map byte).length = 8:=by rw [List.length_map,hBl]
 have hPm:(P.map byte).length = 8:=by rw [List.length_map,hpl]
 obtain ⟨FS,hFS⟩:∃ FS:ByteArray,FS = ⟨(Lib.repeatL [70] room).toArray⟩:=⟨_,rfl⟩
 have hFz:FS.size ≤ 14:=by
   rw [hFS,repeat_F]
   show ((List.replicate room 15).map hexC).toArray.size ≤ 14
   simp;omega
 replace HREP:=hid_eq (fun wx=>by have h:=HREP.out wx;rw [show (ByteArray.mk #[70]).data.toList = [70] from rfl,← hFS] at h;exact h)
 rw [← hFS] at HTX
 have HR:=hid_eq hroom
 clear htx hPK hAC hH0 hHn hPL hA hB hP htxe hpd hqd hroom hFS
 go_enter Tryz.func11,Tryz.ntmps11
 go_wp2_with (first | (go_at_call 32;refine (isFormat_any _ _).mono ?_;rintro e w1 ⟨rfl,hw1⟩;subst w1;rw [h1]) | (go_at_call 42;refine (isPin_any pin _ hp).mono ?_;rintro e w2 ⟨rfl,bel2⟩;rw [h2];have bzw2:=bz0.trans (bel2.mono bz0.size);replace hbk:=hbk.below bel2 hbk.lt) | (go_at_call 33;refine (isPan_any pan _ hq).mono ?_;rintro e w3 ⟨rfl,bel3⟩;rw [h3];have bzw3:=bzw2.trans (bel3.mono bzw2.size);replace hbk:=hbk.below bel3 hbk.lt) | (go_at_call 43;refine (HREP.out _).mono ?_;rintro e w4 ⟨rfl,bel4⟩;have bzw4:=bzw3.trans (bel4.mono bzw3.size);replace hbk:=hbk.below bel4 hbk.lt))
 refine (HH0.out _).mono ?_
 rintro e wa ⟨rfl,hwa⟩
 subst wa
 go_wp2_with fail
 refine (HHn.out _).mono ?_
 rintro e wa ⟨rfl,hwa⟩
 subst wa
 go_wp2_with fail
 rw [HTX.out]
 refine (HPK.out _).mono ?_
 rintro e w6 ⟨rfl,bel6⟩
 have bzw6:=bzw4.trans (bel6.mono bzw4.size)
 replace hbk:=hbk.below bel6 hbk.lt
 go_wp2_with fail
 refine (HAC.out _).mono ?_
 rintro e w7 ⟨rfl,bel7⟩
 have bzw7:=bzw6.trans (bel7.mono bzw6.size)
 replace hbk:=hbk.below bel7 hbk.lt
 have hs7:=bzw7.size
 have hB8:=Blk.new w7 79 (A.map byte ++ B.map byte).toArray
 go_wp2_with (first
   | (refine wpList_build2 rfl 120 _ _ rfl 79 8 _ (A.map byte) (B.map byte) rfl rfl Tryz.underlying120 Tryz.zero79 hAm hBm (by omega) (by omega) ?_)
   | (go_at_call 35;refine (xor8_two A B w7.heap.size _ _ _ hAl hBl hB8).mono ?_;rintro e w8 ⟨rfl,bel8⟩;rw [← HPL.out];have bzw8:=(bzw7.alloc hs7 (.cells (A.map byte ++ B.map byte).toArray 79)).trans (bel8.mono (by simp;omega));have hs8:=bzw8.size;have hlt8:=hbk.lt;replace hbk:=(hbk.alloc (.cells (A.map byte ++ B.map byte).toArray 79)).below bel8 (by simp;omega))
   | (refine store_blk rfl 79 _ _ rfl _ rfl rfl (Blk.new w8 _ _) (by rw [hPm];kernel_rfl) (by rw [hPm];exact zerosOf_length _ _) (allOne_bytes _) ?_;intro w9 hb9 hg9 hs9;have hlt9:=hbk.lt;replace hbk:=(hbk.alloc (.cells (zerosOf 8 .u8).toArray 79)).grown hg9 (by simp;omega);have bzw9:=(bzw8.alloc hs8 (.cells (zerosOf 8 .u8).toArray 79)).grown hg9 (by simp;omega) (by intro k hk;cases hk;omega);have c0_:w9.cell? ⟨w.heap.size,0,none⟩ = some (.int .i64 0):=hbk.cell 0 (by simp);have c1_:w9.cell? ⟨w.heap.size,1,none⟩ = some (.slice none 0 0):=hbk.cell 1 (by simp);have c2_:w9.cell? ⟨w.heap.size,2,none⟩ = some (.int .i64 0):=hbk.cell 2 (by simp);have f0_:=hbk.free 0;have f1_:=hbk.free 1;have f2_:=hbk.free 2))
 have hne:w8.heap.size ≠ w.heap.size:=by omega
 have hO:=((hb9.other ⟨w.heap.size,0,none⟩ (.int .i64 0) hne).other ⟨w.heap.size,1,none⟩ (.slice (some ⟨w8.heap.size,0,none⟩) 8 8) hne).other ⟨w.heap.size,2,none⟩ (.int .i64 0) hne
 exact bodyPost_ret (v:=.agg [.int .i64 0,.slice (some ⟨w8.heap.size,0,none⟩) 8 8,.int .i64 0].toArray) (results_blk Tryz.results11 _ _ rfl (show Blk _ _ 40 [.int .i64 0,.slice (some ⟨w8.heap.size,0,none⟩) 8 8,.int .i64 0] from ((hbk.set 0 (.int .i64 0)).set 1 (.slice (some ⟨w8.heap.size,0,none⟩) 8 8)).set 2 (.int .i64 0)) Tryz.underlying40 rfl (by kernel_rfl)) rfl
   ⟨w8.heap.size,rfl,own_of_blk hO hs8 hpl (by unfold maxLen;omega),((bzw9.setCell (p:=⟨w.heap.size,0,none⟩) (Nat.le_refl _) _).setCell (p:=⟨w.heap.size,1,none⟩) (Nat.le_refl _) _).setCell (p:=⟨w.heap.size,2,none⟩) (Nat.le_refl _) _⟩
set_option maxRecDepth 100000 in
set_option maxHeartbeats 2000000 in
theorem makeI_good3 (pin pan:ByteArray) (draws:List UInt8) (ao:Option Addr) (cap:Nat) (w:World) (hg:goodPin 3 pin pan = true) (_hn:draws.length ≤ 1048576) (hcap:draws.length ≤ cap) (hr:RowAt w ao draws) (hen:14 - pin.size ≤ draws.length) :
   Calls Tryz.prog 11 #[.int .i64 3,.string pin,.string pan,.slice ao draws.length cap] w fun e w'=>∃ g,e = .returned (.agg #[.int .i64 0,.slice (some ⟨g,0,none⟩) 8 8,.int .i64 (14 - pin.size:Nat)]) ∧ Own w' w.heap.size (.slice (some ⟨g,0,none⟩) 8 8) (pinL 3 pin pan draws) ∧ Below w.heap.size w w':=by
 obtain ⟨-,hp4,hp12,hpd,hq13,hq19,hqd⟩:=good_parts hg
 have hp:pin.size ≤ maxLen:=by unfold maxLen;omega
 have hq:pan.size ≤ maxLen:=by unfold maxLen;omega
 have h1:(decide ((3:Int) = 0) || decide ((3:Int) = 3)) = true:=by decide
 have h2:(decide (4 ≤ pin.size) && decide (pin.size ≤ 12) && digs pin) = true:=by simp [hp4,hp12,hpd]
 have h3:(decide (13 ≤ pan.size) && decide (pan.size ≤ 19) && digs pan) = true:=by simp [hq13,hq19,hqd]
 obtain ⟨room,hroom⟩:∃ room,room = 14 - pin.size:=⟨_,rfl⟩
 have hrI:(14:Int) - (pin.size:Int) = (room:Int):=by omega
 have HREP:=hid_eq (fun wx=>repeat_any ⟨#[70]⟩ room wx (by omega) (by show 1 ≤ 1000;omega))
 have hbk:Blk (w.alloc (.cells #[.int .i64 0,.slice none 0 0,.int .i64 0] 40)) w.heap.size 40 [.int .i64 0,.slice none 0 0,.int .i64 0]:=Blk.new w _ _
 have bz0:Below w.heap.size w (w.alloc (.cells #[.int .i64 0,.slice none 0 0,.int .i64 0] 40)):=(Below.refl _ w).alloc (Nat.le_refl _) _
 have htx:=text3 pin hpd draws
 have hz8:=(zero_of_info Tryz.zero79).1
 have hPK:=fun wx=>packed_any (pinN 3 pin draws) wx (pinN_length _ _ _ hp12 (by intro h;omega)) (pinN_lt _ _ _ (by omega) hp12 hpd)
 have hAC:=fun wx=>account_any pan wx hq13 hq19 hqd
 have hH0:=fun wx=>hexDigit_any 3 wx (by omega)
 have hHn:=fun wx=>hexDigit_any pin.size wx (by omega)
 have hPL:pinL 3 pin pan draws = xorL (blockN (wordH (pinN 3 pin draws))) (blockN (wordH (acctN pan))):=rfl
 have hpl:=pinL_length 3 pin pan draws
 rw [← hroom] at htx hen
 obtain ⟨tx,htxe⟩:∃ tx:ByteArray,tx = ⟨((pinN 3 pin draws).map hexC).toArray⟩:=⟨_,rfl⟩
 obtain ⟨A,hA⟩:∃ A,A = blockN (wordH (pinN 3 pin draws)):=⟨_,rfl⟩
 obtain ⟨B,hB⟩:∃ B,B = blockN (wordH (acctN pan)):=⟨_,rfl⟩
 have hAl:A.length = 8:=by rw [hA,blockN_length]
 have hBl:B.length = 8:=by rw [hB,blockN_length]
 rw [← hA,← hB] at hPL
 rw [← htxe] at htx hPK
 rw [← hA] at hPK
 rw [← hB] at hAC
 obtain ⟨P,hP⟩:∃ P,P = pinL 3 pin pan draws:=⟨_,rfl⟩
 rw [← hP] at hPL hpl ⊢
 have HTX:=hid_eq htx
 have HPK:=hid_eq hPK
 have HAC:=hid_eq hAC
 have HH0:=hid_eq hH0
 have HHn:=hid_eq hHn
 have HPL:=hid_eq hPL
 have hAm:(A.map byte).length = 8:=by rw [List.length_map,hAl]
 have hBm:(B.map byte).length = 8:=by rw [List.length_map,hBl]
 have hPm:(P.map byte).length = 8:=by rw [List.length_map,hpl]
 obtain ⟨FS,hFS⟩:∃ FS:ByteArray,FS = ⟨(Lib.repeatL [70] room).toArray⟩:=⟨_,rfl⟩
 have hFz:FS.size ≤ 14:=by
   rw [hFS,repeat_F]
   show ((List.replicate room 15).map hexC).toArray.size ≤ 14
   simp;omega
 replace HREP:=hid_eq (fun wx=>by have h:=HREP.out wx;rw [show (ByteArray.mk #[70]).data.toList = [70] from rfl,← hFS] at h;exact h)
 have hlI:¬ ((draws.length:Int) < (room:Int)):=by omega
 have hcI:(room:Int) ≤ (cap:Int):=by omega
 have HDD:=hid_eq (fun (wx:World) (h:RowAt wx ao (draws.take room))=>drawnDigits_any ao cap (draws.take room) wx (by rw [List.length_take];omega) h)
 have hdl:(draws.take room).length = room:=by rw [List.length_take];omega
 rw [hdl] at HDD
 obtain ⟨DS,hDS⟩:∃ DS:ByteArray,DS = ⟨((draws.take room).map drawnC).toArray⟩:=⟨_,rfl⟩
 have hDz:DS.size ≤ 14:=by
   rw [hDS]
   show ((draws.take room).map drawnC).toArray.size ≤ 14
   simp;omega
 rw [← hDS] at HDD HTX
 have rT:RowAt w ao (draws.take room):=hr.take room
 have HR:=hid_eq hroom
 clear htx hPK hAC hH0 hHn hPL hA hB hP htxe hpd hqd hroom hFS hDS
 go_enter Tryz.func11,Tryz.ntmps11
 go_wp2_with (first | (go_at_call 32;refine (isFormat_any _ _).mono ?_;rintro e w1 ⟨rfl,hw1⟩;subst w1;rw [h1]) | (go_at_call 42;refine (isPin_any pin _ hp).mono ?_;rintro e w2 ⟨rfl,bel2⟩;rw [h2];have bzw2:=bz0.trans (bel2.mono bz0.size);replace hbk:=hbk.below bel2 hbk.lt) | (go_at_call 33;refine (isPan_any pan _ hq).mono ?_;rintro e w3 ⟨rfl,bel3⟩;rw [h3];have bzw3:=bzw2.trans (bel3.mono bzw2.size);replace hbk:=hbk.below bel3 hbk.lt) | (go_at_call 43;refine (HREP.out _).mono ?_;rintro e w4 ⟨rfl,bel4⟩;have bzw4:=bzw3.trans (bel4.mono bzw3.size);replace hbk:=hbk.below bel4 hbk.lt) | (go_at_call 44;refine (HDD.out _ (rT.below bzw4)).mono ?_;rintro e w5 ⟨rfl,bel5⟩;have bzw5:=bzw4.trans (bel5.mono bzw4.size);replace hbk:=hbk.below bel5 hbk.lt))
 refine (HH0.out _).mono ?_
 rintro e wa ⟨rfl,hwa⟩
 subst wa
 go_wp2_with fail
 refine (HHn.out _).mono ?_
 rintro e wa ⟨rfl,hwa⟩
 subst wa
 go_wp2_with fail
 rw [HTX.out]
 refine (HPK.out _).mono ?_
 rintro e w6 ⟨rfl,bel6⟩
 have bzw6:=bzw5.trans (bel6.mono bzw5.size)
 replace hbk:=hbk.below bel6 hbk.lt
 go_wp2_with fail
 refine (HAC.out _).mono ?_
 rintro e w7 ⟨rfl,bel7⟩
 have bzw7:=bzw6.trans (bel7.mono bzw6.size)
 replace hbk:=hbk.below bel7 hbk.lt
 have hs7:=bzw7.size
 have hB8:=Blk.new w7 79 (A.map byte ++ B.map byte).toArray
 go_wp2_with (first
   | (refine wpList_build2 rfl 120 _ _ rfl 79 8 _ (A.map byte) (B.map byte) rfl rfl Tryz.underlying120 Tryz.zero79 hAm hBm (by omega) (by omega) ?_)
   | (go_at_call 35;refine (xor8_two A B w7.heap.size _ _ _ hAl hBl hB8).mono ?_;rintro e w8 ⟨rfl,bel8⟩;rw [← HPL.out];have bzw8:=(bzw7.alloc hs7 (.cells (A.map byte ++ B.map byte).toArray 79)).trans (bel8.mono (by simp;omega));have hs8:=bzw8.size;have hlt8:=hbk.lt;replace hbk:=(hbk.alloc (.cells (A.map byte ++ B.map byte).toArray 79)).below bel8 (by simp;omega))
   | (refine store_blk rfl 79 _ _ rfl _ rfl rfl (Blk.new w8 _ _) (by rw [hPm];kernel_rfl) (by rw [hPm];exact zerosOf_length _ _) (allOne_bytes _) ?_;intro w9 hb9 hg9 hs9;have hlt9:=hbk.lt;replace hbk:=(hbk.alloc (.cells (zerosOf 8 .u8).toArray 79)).grown hg9 (by simp;omega);have bzw9:=(bzw8.alloc hs8 (.cells (zerosOf 8 .u8).toArray 79)).grown hg9 (by simp;omega) (by intro k hk;cases hk;omega);have c0_:w9.cell? ⟨w.heap.size,0,none⟩ = some (.int .i64 0):=hbk.cell 0 (by simp);have c1_:w9.cell? ⟨w.heap.size,1,none⟩ = some (.slice none 0 0):=hbk.cell 1 (by simp);have c2_:w9.cell? ⟨w.heap.size,2,none⟩ = some (.int .i64 0):=hbk.cell 2 (by simp);have f0_:=hbk.free 0;have f1_:=hbk.free 1;have f2_:=hbk.free 2))
 have hne:w8.heap.size ≠ w.heap.size:=by omega
 have hO:=((hb9.other ⟨w.heap.size,0,none⟩ (.int .i64 0) hne).other ⟨w.heap.size,1,none⟩ (.slice (some ⟨w8.heap.size,0,none⟩) 8 8) hne).other ⟨w.heap.size,2,none⟩ (.int .i64 (room:Int)) hne
 exact bodyPost_ret (v:=.agg [.int .i64 0,.slice (some ⟨w8.heap.size,0,none⟩) 8 8,.int .i64 (room:Int)].toArray) (results_blk Tryz.results11 _ _ rfl (show Blk _ _ 40 [.int .i64 0,.slice (some ⟨w8.heap.size,0,none⟩) 8 8,.int .i64 (room:Int)] from ((hbk.set 0 (.int .i64 0)).set 1 (.slice (some ⟨w8.heap.size,0,none⟩) 8 8)).set 2 (.int .i64 (room:Int))) Tryz.underlying40 rfl (by kernel_rfl)) rfl
   ⟨w8.heap.size,by rw [HR.out],own_of_blk hO hs8 hpl (by unfold maxLen;omega),((bzw9.setCell (p:=⟨w.heap.size,0,none⟩) (Nat.le_refl _) _).setCell (p:=⟨w.heap.size,1,none⟩) (Nat.le_refl _) _).setCell (p:=⟨w.heap.size,2,none⟩) (Nat.le_refl _) _⟩
end Go.Proofs.YtoajfbkblpaejaaGreatDoor
