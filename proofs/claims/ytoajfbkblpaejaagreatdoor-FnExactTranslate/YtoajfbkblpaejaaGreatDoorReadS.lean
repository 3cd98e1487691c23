import Derived.Test.YtoajfbkblpaejaaGreatDoorReadM
namespace Go.Proofs.YtoajfbkblpaejaaGreatDoor
open Go.RowKit
theorem goodPan_of (pan:ByteArray) (h13:13 ≤ pan.size) (h19:pan.size ≤ 19) (hd:digs pan = true):(decide (13 ≤ pan.size) && decide (pan.size ≤ 19) && digs pan) = true:=by simp [h13,h19,hd]
theorem retS (ok:Bool) (g:Nat) (ds:List Nat) (tmps:Array Value) (B:Nat) (w x:World) (hok:ok = false) (ht:tmps.getD 6 undef = .pointer (some ⟨g,0,none⟩)) (hb:Blk x g 36 [.int .i64 1,.string emptyS]) (hbel:Below B w x) :
   bodyPost Tryz.prog Tryz.f51 (fun e w'=>e = .returned (readV ok ds) ∧ Below B w w') .ret { tmps:=tmps,defers:=[] } x:=by
 subst hok
 exact ⟨rfl,_,results_blk Tryz.results51 tmps x ht hb Tryz.underlying36 rfl (by kernel_rfl),rfl,hbel⟩
theorem retG (ok:Bool) (g:Nat) (ds:List Nat) (tmps:Array Value) (B:Nat) (w x:World) (hok:ok = true) (ht:tmps.getD 6 undef = .pointer (some ⟨g,0,none⟩)) (hb:Blk x g 36 [.int .i64 0,.string (textOf (pinD ds))]) (hbel:Below B w x) :
   bodyPost Tryz.prog Tryz.f51 (fun e w'=>e = .returned (readV ok ds) ∧ Below B w w') .ret { tmps:=tmps,defers:=[] } x:=by
 subst hok
 exact ⟨rfl,_,results_blk Tryz.results51 tmps x ht hb Tryz.underlying36 rfl (by kernel_rfl),rfl,hbel⟩
set_option maxRecDepth 100000 in
set_option maxHeartbeats 1000000 in
theorem readS_bad (f:Int) (m:Nat) (pan:ByteArray) (ao:Option Addr) (cap:Nat) (w:World) (hp:pan.size ≤ maxLen)
   (hno:((decide (f = 0) || decide (f = 3)) && (decide (13 ≤ pan.size) && decide (pan.size ≤ 19) && digs pan) && decide (m = 8)) = false) :
   Calls Tryz.prog 51 #[.int .i64 f,.slice ao m cap,.string pan] w fun e w'=>e = .returned (readV false []) ∧ Below w.heap.size w w':=by
 have HP:=hid_eq (fun (wx:World)=>goodPan_any pan wx hp)
 have hbel:Below w.heap.size w ((w.alloc (.cells #[.int .i64 1,.string emptyS] 36)).alloc (.cells #[.int .i64 1,.string emptyS] 36)):=((Below.refl _ _).alloc (Nat.le_refl _) _).alloc (by simp) _
 have hblk:Blk ((w.alloc (.cells #[.int .i64 1,.string emptyS] 36)).alloc (.cells #[.int .i64 1,.string emptyS] 36)) w.heap.size 36 [.int .i64 1,.string emptyS]:=(Blk.new w _ _).alloc _
 by_cases hf:f = 0 ∨ f = 3
 · have h0:((f != 0) && (f != 3)) = false:=by rcases hf with rfl | rfl <;> rfl
   rw [show (decide (f = 0) || decide (f = 3)) = true from by rcases hf with rfl | rfl <;> rfl] at hno
   cases h2:(decide (13 ≤ pan.size) && decide (pan.size ≤ 19) && digs pan)
   · rw [h2] at HP
     rcases hf with rfl | rfl
     all_goals
       go_enter Tryz.func51,Tryz.ntmps51
       go_wp2_with (go_at_call 92;refine (HP.out _).mono ?_;rintro e w1 ⟨rfl,hw1⟩;subst w1)
       exact retS false w.heap.size [] _ w.heap.size w _ rfl rfl hblk hbel
   · rw [h2] at HP hno
     have hm8:((m:Int) != 8) = true:=by
       rw [bne_iff_ne]
       intro e
       have:m = 8:=by omega
       simp [this] at hno
     rcases hf with rfl | rfl
     all_goals
       go_enter Tryz.func51,Tryz.ntmps51
       go_wp2_with (go_at_call 92;refine (HP.out _).mono ?_;rintro e w1 ⟨rfl,hw1⟩;subst w1)
       exact retS false w.heap.size [] _ w.heap.size w _ rfl rfl hblk hbel
 · have h0:(f != 0) = true:=by rw [bne_iff_ne];omega
   have h3:(f != 3) = true:=by rw [bne_iff_ne];omega
   go_enter Tryz.func51,Tryz.ntmps51
   go_wp2_with fail
   exact retS false w.heap.size [] _ w.heap.size w _ rfl rfl hblk hbel
set_option maxRecDepth 100000 in
set_option maxHeartbeats 2000000 in
theorem readS_good (f:Nat) (block:List UInt8) (pan:ByteArray) (ao:Option Addr) (cap:Nat) (w:World) (hf:f = 0 ∨ f = 3) (h13:13 ≤ pan.size) (h19:pan.size ≤ 19) (hpd:digs pan = true) (h8:block.length = 8) (hr:RowAt w ao block) :
   Calls Tryz.prog 51 #[.int .i64 (f:Int),.slice ao 8 cap,.string pan] w fun e w'=>e = .returned (readV (clearOK f (readD block pan)) (readD block pan)) ∧ Below w.heap.size w w':=by
 obtain ⟨i0,hi,hz0,hz1,hz2⟩:=info_parts Tryz.info5
 have HP:=hid_eq (fun (wx:World)=>goodPan_any pan wx (by unfold maxLen;omega))
 rw [goodPan_of pan h13 h19 hpd] at HP
 have HA:=hid_eq (fun (wx:World)=>l4Account_any pan wx h13 h19 hpd)
 have hAl:((acctN pan).map ofN).length = 16:=by rw [List.length_map,acctN_length pan h13]
 have hNl:∀ k,k ≤ 8 → ((nibL (block.take k)).map ofN).length = 2 * k:=by intro k hk;rw [List.length_map,nibL_length,List.length_take,h8];omega
 have hNe:=nib_eq block (acctN pan) h8 (acctN_length pan h13) (acctN_lt pan hpd)
 have hdl:(readD block pan).length = 16:=by unfold readD;rw [nibL_length,xorL_length _ _ (by rw [blockN_length,h8]),h8]
 have hd16:∀ d ∈ readD block pan,d < 16:=nibL_lt _
 change _ = (readD block pan).map ofN at hNe
 obtain ⟨ds,hds⟩:∃ ds,ds = readD block pan:=⟨_,rfl⟩
 rw [← hds] at hdl hd16 hNe ⊢
 clear hds
 have HNE:=hid_eq hNe
 have HNL:=hid_eq hNl
 obtain ⟨AL,hAL⟩:∃ A,A = (acctN pan).map ofN:=⟨_,rfl⟩
 rw [← hAL] at HA hAl HNE
 clear hAL hNe hNl
 have hfI:((f:Int) != 0 && (f:Int) != 3) = false:=by rcases hf with rfl | rfl <;> rfl
 obtain ⟨W,hW⟩:∃ W,W = ((w.alloc (.cells #[.int .i64 0,.string emptyS] 36)).alloc (.cells #[.int .i64 1,.string emptyS] 36)):=⟨_,rfl⟩
 have k6:Blk W w.heap.size 36 [.int .i64 0,.string emptyS]:=by rw [hW];exact (Blk.new w _ _).alloc _
 have k7:Blk W (w.heap.size + 1) 36 [.int .i64 1,.string emptyS]:=by rw [hW];exact Blk.new2 w _ _ _
 have bW:Below w.heap.size w W:=by rw [hW];exact ((Below.refl _ _).alloc (Nat.le_refl _) _).alloc (by simp) _
 have hWs:W.heap.size = w.heap.size + 2:=by rw [hW];simp
 have HWs:=hid_eq hWs
 have HW:=hid_eq hW
 clear hW hWs
 have HK:Hid (∀ {x},Below W.heap.size W x → Blk x w.heap.size 36 [.int .i64 0,.string emptyS] ∧ Blk x (w.heap.size + 1) 36 [.int .i64 1,.string emptyS] ∧ Below w.heap.size w x ∧ RowAt x ao block):=by
   intro x hx
   have hb:Below w.heap.size w x:=bW.trans (hx.mono bW.size)
   exact ⟨k6.below hx k6.lt,k7.below hx k7.lt,hb,hr.below hb⟩
 clear k6 k7 bW hr
 rcases hf with rfl | rfl
 · have hfn:∀ d:Nat,fillOK 0 d = (decide (d = 15) || (decide (0 = 3) && decide (10 ≤ d))):=fun d=>rfl
   have HFN:=hid_eq hfn
   clear hfn
   go_enter Tryz.func51,Tryz.ntmps51
   go_wp2_with (go_at_call 92;rw [← show W = _ from HW];refine (HP.out _).mono ?_;rintro e w1 ⟨rfl,hw1⟩;subst w1)
   go_loopw [8,10,35] (fun v _ i wr=>∃ k:Nat,k ≤ 8 ∧ i = .int .i64 k ∧ OwnB wr W.heap.size v ((nibL (block.take k)).map ofN) ∧ Below W.heap.size W wr) (fun _ _ i _=>8 - (intOf i).toNat)
   case atStart=>exact ⟨0,by omega,rfl,World.ownsRow_nil _ _ _ _,Below.refl _ _⟩
   case round =>
     obtain ⟨k,hk,rfl,hown,hbel⟩:=hrel
     have hll:=HNL.out k hk
     obtain ⟨ao6,c6,hv6,-,-,-,-⟩:=hown.own.shape
     rw [hll] at hv6
     subst hv6
     by_cases hlt:k < 8
     · have hlt':k < block.length:=by omega
       obtain ⟨-,-,-,hrow⟩:=HK.out hbel
       obtain ⟨b',o',rfl,hc⟩:=hrow.at hlt'
       have hcx:wr.cell? ⟨b',o' + k,none⟩ = some (.int .u8 (block[k].toNat:Int)):=by rw [hc k hlt'];simp [hlt']
       have hown':=own_num hown hll
       have hx:=block[k].toNat_lt
       have HNX:Hid ((nibL (block.take (k + 1))).map ofN = (nibL (block.take k)).map ofN ++ [ofN (block[k].toNat / 16),ofN (block[k].toNat % 16)]):=by
         show _ = _
         rw [take_snoc block k hlt',nibL_snoc,List.map_append]
         rfl
       have hl2:=HNL.out (k + 1) (by omega)
       obtain ⟨xx,hxe⟩:∃ x,x = block[k].toNat:=⟨_,rfl⟩
       rw [← hxe] at hcx hx HNX
       have hand:bits BinOp.and IntKind.u8 (xx:Int) 15 = ((xx % 16:Nat):Int):=by have:=u8_and_nat xx 15 (by omega) (by omega);rw [show ((15:Nat):Int) = 15 from rfl] at this;rw [this,show xx &&& 15 = xx % 16 from Nat.and_two_pow_sub_one_eq_mod xx 4]
       have Hb1:=hid_eq (byte_ofN (xx / 16) (by omega))
       have Hb2:=hid_eq (byte_ofN (xx % 16) (by omega))
       obtain ⟨pre,hpre⟩:∃ pre,pre = (nibL (block.take k)).map ofN:=⟨_,rfl⟩
       rw [← hpre] at HNX hown' hll
       have hbel':=hbel.size
       clear hc hown hxe hpre hrow hlt'
       go_wp2_with (at_builtin;refine wpList_append_own _ rfl _ _ 22 rfl W.heap.size 5 i0 (.int .u8 0) 1 1 Tryz.underlying22 hi hz0 hz1 hz2 rfl (by decide) _ _ _ rfl (hown'.alloc _) ⟨wr.heap.size,0,none⟩ 2 2 [.int .u8 ((xx:Int) / 16),.int .u8 ((xx:Int) % 16)] rfl rfl (news_new wr [.int .u8 ((xx:Int) / 16),.int .u8 ((xx:Int) % 16)] 5) (by intro u hu;simp at hu;rcases hu with rfl | rfl <;> rfl) (by unfold maxLen;omega) (by omega) (by simp;omega) ?_;intro v7 w7 hown7 hgrow7 hnil7)
       have R1:OwnB w7 W.heap.size v7 ((nibL (block.take (k + 1))).map ofN):=by
         unfold OwnB
         rw [hl2,HNX.out,List.map_append,List.map_cons,List.map_cons,List.map_nil,Hb1.out,Hb2.out,show 2 * (k + 1) = 2 * k + 2 from by omega]
         exact hown7
       have R2:=(hbel.alloc hbel' _).grown hgrow7 (by simp;omega) (fun k hk=>(hown'.lt k hk).1)
       clear hown7 hgrow7 hnil7 hown' hbel
       go_roundw
       case rel=>exact ⟨k + 1,by omega,by go_num,R1,R2⟩
       case measure=>simp [intOf];omega
     · have hk8:k = 8:=by omega
       subst hk8
       rw [List.take_of_length_le (by omega)] at hown hll
       obtain ⟨g8,c8,hc8,hv8,row8⟩:=own_at hown hll (by omega)
       cases hv8
       have hnb:((nibL block).map ofN).length = 16:=hll
       obtain ⟨NB,hNB⟩:∃ N,N = (nibL block).map ofN:=⟨_,rfl⟩
       rw [← hNB] at HNE hnb row8
       clear hown hll hNB hlt hk
       go_wp2_with fail
       refine (HA.out _).mono ?_
       rintro e w2 ⟨v2,rfl,own2,bel2⟩
       obtain ⟨g2,c2,hc2,rfl,row2⟩:=own_at own2 hAl (by omega)
       have b2:=below_step hbel bel2
       have HX:=hid_eq (xor_any (some ⟨g8,0,none⟩) (some ⟨g2,0,none⟩) c6 c2 NB AL w2 (by omega) (by omega) (row8.below bel2) row2)
       rw [hnb,hAl,HNE.out] at HX
       clear own2 bel2 hbel row8 row2
       go_wp2_with fail
       refine HX.out.mono ?_
       rintro e w3 ⟨rfl,own3,bel3⟩
       have b3:=below_step b2 bel3
       obtain ⟨g3,c3,hc3,hv3,row3⟩:=own_at own3 (by rw [List.length_map,hdl]) (by omega)
       cases hv3
       have hs2:=b2.size
       clear own3 bel3 b2 HX
       have hcell:∀ j (hj:j < ds.length),w3.cell? ⟨w2.heap.size,j,none⟩ = some (.int .u8 (ds[j]:Int)):=by
         intro j hj
         obtain ⟨b',o',he,hc⟩:=row3.at (k:=j) (by rw [List.length_map];exact hj)
         cases he
         have h:=hc j (by rw [List.length_map];exact hj)
         rw [Nat.zero_add] at h
         have hbo:=byte_ofN ds[j] (by have:=hd16 _ (List.getElem_mem hj);omega)
         unfold byte at hbo
         rw [h]
         simp [hj,hbo]
       have hd0:ds.getD 0 0 = ds[0]:=by simp [hdl]
       have hd1:ds.getD 1 0 = ds[1]:=by simp [hdl]
       have hc0:=hcell 0 (by omega)
       have hc1:=hcell 1 (by omega)
       rw [← hd0] at hc0
       rw [← hd1] at hc1
       have hn16:ds.getD 1 0 < 16:=by rw [hd1];exact hd16 _ (List.getElem_mem _)
       have h016:ds.getD 0 0 < 16:=by rw [hd0];exact hd16 _ (List.getElem_mem _)
       have HCE:=hid_eq hcell
       have HCL:Hid (clearOK 0 ds = (decide (ds.getD 0 0 = 0) && (decide (4 ≤ ds.getD 1 0) && decide (ds.getD 1 0 ≤ 12) && (pinD ds).all (fun d=>decide (d < 10))) && (fillD ds).all (fillOK 0))):=rfl
       have HPD:Hid (pinD ds = (ds.drop 2).take (ds.getD 1 0)):=rfl
       have HFD:Hid (fillD ds = (ds.drop 2).drop (ds.getD 1 0)):=rfl
       obtain ⟨n,hn⟩:∃ n,n = ds.getD 1 0:=⟨_,rfl⟩
       obtain ⟨d0,hd0'⟩:∃ d,d = ds.getD 0 0:=⟨_,rfl⟩
       rw [← hn] at hc1 hn16 HCL HPD HFD
       rw [← hd0'] at hc0 h016 HCL
       clear hcell hd0 hd1 hn hd0' row3
       obtain ⟨k6,k7,bw3,-⟩:=HK.out b3
       by_cases hbad:¬ (d0 = 0 ∧ 4 ≤ n ∧ n ≤ 12)
       · have HF:Hid (clearOK 0 ds = false):=by
           show _ = _
           rw [HCL.out]
           by_cases h1:d0 = 0
           · by_cases h2:4 ≤ n
             · rw [show decide (n ≤ 12) = false from by simp;omega];simp
             · rw [show decide (4 ≤ n) = false from by simp;omega];simp
           · rw [show decide (d0 = 0) = false from by simp [h1]];simp
         have q0:=k6.cell 0 (by simp)
         have q1:=k6.cell 1 (by simp)
         have q2:=k7.cell 0 (by simp)
         have q3:=k7.cell 1 (by simp)
         have f0:=k6.free 0
         have f1:=k6.free 1
         simp only [List.getElem_cons_zero,List.getElem_cons_succ] at q0 q1 q2 q3
         have hk4:=(k6.set 0 (.int .i64 1)).set 1 (.string emptyS)
         have hb4:=(bw3.setCell (p:=⟨w.heap.size,0,none⟩) (Nat.le_refl _) (.int .i64 1)).setCell (p:=⟨w.heap.size,1,none⟩) (Nat.le_refl _) (.string emptyS)
         clear k6 k7 bw3 b3
         by_cases h1:d0 = 0
         · have h1b:((d0:Int) != 0) = false:=by rw [bne_eq_false_iff_eq];omega
           by_cases h2:n < 4
           · have h2I:(n:Int) < 4:=by omega
             go_wp2_with fail
             exact retS _ w.heap.size ds _ w.heap.size w _ HF.out rfl hk4 hb4
           · have h2I:¬ ((n:Int) < 4):=by omega
             have h3I:(12:Int) < (n:Int):=by omega
             go_wp2_with fail
             exact retS _ w.heap.size ds _ w.heap.size w _ HF.out rfl hk4 hb4
         · have h1b:((d0:Int) != 0) = true:=by rw [bne_iff_ne];omega
           go_wp2_with fail
           exact retS _ w.heap.size ds _ w.heap.size w _ HF.out rfl hk4 hb4
       · clear k6 k7 bw3
         have h1:d0 = 0:=by omega
         have h1b:((d0:Int) != 0) = false:=by rw [bne_eq_false_iff_eq];omega
         have h2I:¬ ((n:Int) < 4):=by omega
         have h3I:¬ ((12:Int) < (n:Int)):=by omega
         have HCL2:Hid (clearOK 0 ds = ((pinD ds).all (fun d=>decide (d < 10)) && (fillD ds).all (fillOK 0))):=by
           show _ = _
           rw [HCL.out,show decide (d0 = 0) = true from by simp [h1],show decide (4 ≤ n) = true from by simp;omega,show decide (n ≤ 12) = true from by simp;omega]
           simp
         have hn12:n ≤ 12:=by omega
         have hpl:(pinD ds).length = n:=by rw [HPD.out,List.length_take,List.length_drop,hdl];omega
         clear hbad h1 HCL
         have h16I:(2:Int) ≤ 16:=by omega
         go_wp2_with fail
         clear hc0 hc1
         go_loopw [12,13,14,73,78,87,97] (fun p _ _ i _ _ _ wr=>∃ k:Nat,k ≤ 14 ∧ i = .int .i64 k ∧ p = .string (textOf ((pinD ds).take k)) ∧ Hid (∀ j (hj:2 + j < ds.length),j < k → (if j < n then ds[2 + j] < 10 else fillOK 0 ds[2 + j] = true)) ∧ Below w3.heap.size w3 wr) (fun _ _ _ i _ _ _ _=>14 - (intOf i).toNat)
         case atStart=>exact ⟨0,by omega,rfl,by simp [textOf],fun j _ h=>absurd h (Nat.not_lt_zero j),Below.refl _ _⟩
         case round =>
           obtain ⟨k,hk,rfl,rfl,HD,hbr⟩:=hrel
           by_cases hlt:k < 14
           · have hj2:2 + k < ds.length:=by omega
             have hd:=hd16 ds[2 + k] (List.getElem_mem _)
             have hcx:wr.cell? ⟨w2.heap.size,2 + k,none⟩ = some (.int .u8 (ds[2 + k]:Int)):=(hbr.cell (p:=⟨w2.heap.size,2 + k,none⟩) (World.block_lt_of_cell? w3 _ (HCE.out (2 + k) hj2))).trans (HCE.out (2 + k) hj2)
             have bWr:Below W.heap.size W wr:=b3.trans (hbr.mono b3.size)
             obtain ⟨k6,k7,bwr,-⟩:=HK.out bWr
             have HPT:Hid (k < n → (pinD ds).take (k + 1) = (pinD ds).take k ++ [ds[2 + k]]):=by
               show _ → _
               intro hkn
               rw [List.take_succ_eq_append_getElem (by omega)]
               congr 2
               simp [HPD.out]
             have HPT2:Hid (¬ k < n → (pinD ds).take (k + 1) = (pinD ds).take k):=by
               show _ → _
               intro hkn
               rw [List.take_of_length_le (by omega),List.take_of_length_le (by omega)]
             have HB1:Hid (k < n → ¬ ds[2 + k] < 10 → clearOK 0 ds = false):=by
               show _ → _ → _
               intro hkn h10
               rw [HCL2.out]
               cases ha:(pinD ds).all (fun d=>decide (d < 10))
               · rfl
               · rw [List.all_eq_true] at ha
                 have hm:ds[2 + k] ∈ pinD ds:=by rw [HPD.out,List.mem_take_iff_getElem];exact ⟨k,by rw [List.length_drop];omega,by simp⟩
                 have:=ha _ hm
                 simp at this
                 omega
             have HB2:Hid (¬ k < n → fillOK 0 ds[2 + k] = false → clearOK 0 ds = false):=by
               show _ → _ → _
               intro hkn hfk
               rw [HCL2.out]
               cases ha:(fillD ds).all (fillOK 0)
               · simp
               · rw [List.all_eq_true] at ha
                 have hm:ds[2 + k] ∈ fillD ds:=by rw [HFD.out,List.drop_drop,List.mem_drop_iff_getElem];exact ⟨k - n,by omega,by congr 1;omega⟩
                 rw [ha _ hm] at hfk
                 cases hfk
             have HN1:Hid ((if k < n then ds[2 + k] < 10 else fillOK 0 ds[2 + k] = true) → ∀ j (hj:2 + j < ds.length),j < k + 1 → (if j < n then ds[2 + j] < 10 else fillOK 0 ds[2 + j] = true)):=by
               show _ → _
               intro hh j hj hjk
               by_cases e:j = k
               · subst e;exact hh
               · exact HD.out j hj (by omega)
             have HFE:=hid_eq (HFN.out ds[2 + k])
             have HPS:=hid_eq (text_snoc ((pinD ds).take k) ds[2 + k])
             obtain ⟨d,hde⟩:∃ d,d = ds[2 + k]:=⟨_,rfl⟩
             rw [← hde] at hd hcx HPT HB1 HB2 HN1 HFE HPS
             clear hde HD
             have q0:=k6.cell 0 (by simp)
             have q1:=k6.cell 1 (by simp)
             have q2:=k7.cell 0 (by simp)
             have q3:=k7.cell 1 (by simp)
             have f0:=k6.free 0
             have f1:=k6.free 1
             simp only [List.getElem_cons_zero,List.getElem_cons_succ] at q0 q1 q2 q3
             have hk4:=(k6.set 0 (.int .i64 1)).set 1 (.string emptyS)
             have hb4:=(bwr.setCell (p:=⟨w.heap.size,0,none⟩) (Nat.le_refl _) (.int .i64 1)).setCell (p:=⟨w.heap.size,1,none⟩) (Nat.le_refl _) (.string emptyS)
             clear k6 k7 bwr bWr
             obtain ⟨pt,hpt⟩:∃ t,t = textOf ((pinD ds).take k):=⟨_,rfl⟩
             rw [← hpt] at HPS ⊢
             have HPQ:=hid_eq hpt
             have hps:pt.size ≤ 14:=by rw [hpt,text_size,List.length_take];omega
             clear hpt
             by_cases hkn:k < n
             · have hknI:(k:Int) < (n:Int):=by omega
               by_cases h10:d < 10
               · have h9I:¬ ((9:Int) < (d:Int)):=by omega
                 have hcv:=conv_one d wr h10
                 have hbe:=hbr.alloc hbr.size (.cells #[.int .u8 (48 + (d:Int))] 5)
                 go_wp2_with fail
                 go_roundw
                 case rel=>exact ⟨k + 1,by omega,by go_num,by rw [HPT.out hkn,← HPS.out],HN1.out (by rw [if_pos hkn];exact h10),hbe⟩
                 case measure=>simp [intOf];omega
               · have h9I:(9:Int) < (d:Int):=by omega
                 have HF:=hid_eq (HB1.out hkn h10)
                 go_wp2_with fail
                 exact retS _ w.heap.size ds _ w.heap.size w _ HF.out rfl hk4 hb4
             · have hknI:¬ ((k:Int) < (n:Int)):=by omega
               by_cases h15:d = 15
               · have hd15:((d:Int) != 15) = false:=by rw [bne_eq_false_iff_eq];omega
                 have hd10:¬ ((d:Int) < 10):=by omega
                 have HG:Hid (fillOK 0 d = true):=by show _ = _;rw [HFE.out];simp;omega
                 go_wp2_with fail
                 go_roundw
                 case rel=>exact ⟨k + 1,by omega,by go_num,by rw [HPT2.out hkn,HPQ.out],HN1.out (by rw [if_neg hkn];exact HG.out),hbr⟩
                 case measure=>simp [intOf];omega
               · have hd15:((d:Int) != 15) = true:=by rw [bne_iff_ne];omega
                 have HF:=hid_eq (HB2.out hkn (by rw [HFE.out];simp;omega))
                 go_wp2_with fail
                 exact retS _ w.heap.size ds _ w.heap.size w _ HF.out rfl hk4 hb4
           · have HT:Hid (clearOK 0 ds = true):=by
               show _ = _
               rw [HCL2.out,Bool.and_eq_true,List.all_eq_true,List.all_eq_true]
               constructor
               · intro d hd
                 rw [HPD.out,List.mem_take_iff_getElem] at hd
                 obtain ⟨j,hj,rfl⟩:=hd
                 have:=HD.out j (by rw [List.length_drop] at hj;omega) (by omega)
                 rw [if_pos (by omega)] at this
                 simpa using this
               · intro d hd
                 rw [HFD.out,List.drop_drop,List.mem_drop_iff_getElem] at hd
                 obtain ⟨j,hj,rfl⟩:=hd
                 have:=HD.out (n + j) (by omega) (by omega)
                 rw [if_neg (by omega)] at this
                 have e:ds[2 + n + j] = ds[2 + (n + j)]:=by congr 1;omega
                 rw [e]
                 exact this
             have HPA:Hid ((pinD ds).take k = pinD ds):=hid_eq (by rw [List.take_of_length_le (by omega)])
             rw [HPA.out]
             have bWr:Below W.heap.size W wr:=b3.trans (hbr.mono b3.size)
             obtain ⟨k6,k7,bwr,-⟩:=HK.out bWr
             have q0:=k6.cell 0 (by simp)
             have q1:=k6.cell 1 (by simp)
             have f0:=k6.free 0
             have f1:=k6.free 1
             simp only [List.getElem_cons_zero,List.getElem_cons_succ] at q0 q1
             have hk4:=(k6.set 0 (.int .i64 0)).set 1 (.string (textOf (pinD ds)))
             have hb4:=(bwr.setCell (p:=⟨w.heap.size,0,none⟩) (Nat.le_refl _) (.int .i64 0)).setCell (p:=⟨w.heap.size,1,none⟩) (Nat.le_refl _) (.string (textOf (pinD ds)))
             clear k6 k7 bwr bWr
             go_wp2_with fail
             exact retG _ w.heap.size ds _ w.heap.size w _ HT.out rfl hk4 hb4
 · have hfn:∀ d:Nat,fillOK 3 d = (decide (d = 15) || (decide (3 = 3) && decide (10 ≤ d))):=fun d=>rfl
   have HFN:=hid_eq hfn
   clear hfn
   go_enter Tryz.func51,Tryz.ntmps51
   go_wp2_with (go_at_call 92;rw [← show W = _ from HW];refine (HP.out _).mono ?_;rintro e w1 ⟨rfl,hw1⟩;subst w1)
   go_loopw [8,10,35] (fun v _ i wr=>∃ k:Nat,k ≤ 8 ∧ i = .int .i64 k ∧ OwnB wr W.heap.size v ((nibL (block.take k)).map ofN) ∧ Below W.heap.size W wr) (fun _ _ i _=>8 - (intOf i).toNat)
   case atStart=>exact ⟨0,by omega,rfl,World.ownsRow_nil _ _ _ _,Below.refl _ _⟩
   case round =>
     obtain ⟨k,hk,rfl,hown,hbel⟩:=hrel
     have hll:=HNL.out k hk
     obtain ⟨ao6,c6,hv6,-,-,-,-⟩:=hown.own.shape
     rw [hll] at hv6
     subst hv6
     by_cases hlt:k < 8
     · have hlt':k < block.length:=by omega
       obtain ⟨-,-,-,hrow⟩:=HK.out hbel
       obtain ⟨b',o',rfl,hc⟩:=hrow.at hlt'
       have hcx:wr.cell? ⟨b',o' + k,none⟩ = some (.int .u8 (block[k].toNat:Int)):=by rw [hc k hlt'];simp [hlt']
       have hown':=own_num hown hll
       have hx:=block[k].toNat_lt
       have HNX:Hid ((nibL (block.take (k + 1))).map ofN = (nibL (block.take k)).map ofN ++ [ofN (block[k].toNat / 16),ofN (block[k].toNat % 16)]):=by
         show _ = _
         rw [take_snoc block k hlt',nibL_snoc,List.map_append]
         rfl
       have hl2:=HNL.out (k + 1) (by omega)
       obtain ⟨xx,hxe⟩:∃ x,x = block[k].toNat:=⟨_,rfl⟩
       rw [← hxe] at hcx hx HNX
       have hand:bits BinOp.and IntKind.u8 (xx:Int) 15 = ((xx % 16:Nat):Int):=by have:=u8_and_nat xx 15 (by omega) (by omega);rw [show ((15:Nat):Int) = 15 from rfl] at this;rw [this,show xx &&& 15 = xx % 16 from Nat.and_two_pow_sub_one_eq_mod xx 4]
       have Hb1:=hid_eq (byte_ofN (xx / 16) (by omega))
       have Hb2:=hid_eq (byte_ofN (xx % 16) (by omega))
       obtain ⟨pre,hpre⟩:∃ pre,pre = (nibL (block.take k)).map ofN:=⟨_,rfl⟩
       rw [← hpre] at HNX hown' hll
       have hbel':=hbel.size
       clear hc hown hxe hpre hrow hlt'
       go_wp2_with (at_builtin;refine wpList_append_own _ rfl _ _ 22 rfl W.heap.size 5 i0 (.int .u8 0) 1 1 Tryz.underlying22 hi hz0 hz1 hz2 rfl (by decide) _ _ _ rfl (hown'.alloc _) ⟨wr.heap.size,0,none⟩ 2 2 [.int .u8 ((xx:Int) / 16),.int .u8 ((xx:Int) % 16)] rfl rfl (news_new wr [.int .u8 ((xx:Int) / 16),.int .u8 ((xx:Int) % 16)] 5) (by intro u hu;simp at hu;rcases hu with rfl | rfl <;> rfl) (by unfold maxLen;omega) (by omega) (by simp;omega) ?_;intro v7 w7 hown7 hgrow7 hnil7)
       have R1:OwnB w7 W.heap.size v7 ((nibL (block.take (k + 1))).map ofN):=by
         unfold OwnB
         rw [hl2,HNX.out,List.map_append,List.map_cons,List.map_cons,List.map_nil,Hb1.out,Hb2.out,show 2 * (k + 1) = 2 * k + 2 from by omega]
         exact hown7
       have R2:=(hbel.alloc hbel' _).grown hgrow7 (by simp;omega) (fun k hk=>(hown'.lt k hk).1)
       clear hown7 hgrow7 hnil7 hown' hbel
       go_roundw
       case rel=>exact ⟨k + 1,by omega,by go_num,R1,R2⟩
       case measure=>simp [intOf];omega
     · have hk8:k = 8:=by omega
       subst hk8
       rw [List.take_of_length_le (by omega)] at hown hll
       obtain ⟨g8,c8,hc8,hv8,row8⟩:=own_at hown hll (by omega)
       cases hv8
       have hnb:((nibL block).map ofN).length = 16:=hll
       obtain ⟨NB,hNB⟩:∃ N,N = (nibL block).map ofN:=⟨_,rfl⟩
       rw [← hNB] at HNE hnb row8
       clear hown hll hNB hlt hk
       go_wp2_with fail
       refine (HA.out _).mono ?_
       rintro e w2 ⟨v2,rfl,own2,bel2⟩
       obtain ⟨g2,c2,hc2,rfl,row2⟩:=own_at own2 hAl (by omega)
       have b2:=below_step hbel bel2
       have HX:=hid_eq (xor_any (some ⟨g8,0,none⟩) (some ⟨g2,0,none⟩) c6 c2 NB AL w2 (by omega) (by omega) (row8.below bel2) row2)
       rw [hnb,hAl,HNE.out] at HX
       clear own2 bel2 hbel row8 row2
       go_wp2_with fail
       refine HX.out.mono ?_
       rintro e w3 ⟨rfl,own3,bel3⟩
       have b3:=below_step b2 bel3
       obtain ⟨g3,c3,hc3,hv3,row3⟩:=own_at own3 (by rw [List.length_map,hdl]) (by omega)
       cases hv3
       have hs2:=b2.size
       clear own3 bel3 b2 HX
       have hcell:∀ j (hj:j < ds.length),w3.cell? ⟨w2.heap.size,j,none⟩ = some (.int .u8 (ds[j]:Int)):=by
         intro j hj
         obtain ⟨b',o',he,hc⟩:=row3.at (k:=j) (by rw [List.length_map];exact hj)
         cases he
         have h:=hc j (by rw [List.length_map];exact hj)
         rw [Nat.zero_add] at h
         have hbo:=byte_ofN ds[j] (by have:=hd16 _ (List.getElem_mem hj);omega)
         unfold byte at hbo
         rw [h]
         simp [hj,hbo]
       have hd0:ds.getD 0 0 = ds[0]:=by simp [hdl]
       have hd1:ds.getD 1 0 = ds[1]:=by simp [hdl]
       have hc0:=hcell 0 (by omega)
       have hc1:=hcell 1 (by omega)
       rw [← hd0] at hc0
       rw [← hd1] at hc1
       have hn16:ds.getD 1 0 < 16:=by rw [hd1];exact hd16 _ (List.getElem_mem _)
       have h016:ds.getD 0 0 < 16:=by rw [hd0];exact hd16 _ (List.getElem_mem _)
       have HCE:=hid_eq hcell
       have HCL:Hid (clearOK 3 ds = (decide (ds.getD 0 0 = 3) && (decide (4 ≤ ds.getD 1 0) && decide (ds.getD 1 0 ≤ 12) && (pinD ds).all (fun d=>decide (d < 10))) && (fillD ds).all (fillOK 3))):=rfl
       have HPD:Hid (pinD ds = (ds.drop 2).take (ds.getD 1 0)):=rfl
       have HFD:Hid (fillD ds = (ds.drop 2).drop (ds.getD 1 0)):=rfl
       obtain ⟨n,hn⟩:∃ n,n = ds.getD 1 0:=⟨_,rfl⟩
       obtain ⟨d0,hd0'⟩:∃ d,d = ds.getD 0 0:=⟨_,rfl⟩
       rw [← hn] at hc1 hn16 HCL HPD HFD
       rw [← hd0'] at hc0 h016 HCL
       clear hcell hd0 hd1 hn hd0' row3
       obtain ⟨k6,k7,bw3,-⟩:=HK.out b3
       by_cases hbad:¬ (d0 = 3 ∧ 4 ≤ n ∧ n ≤ 12)
       · have HF:Hid (clearOK 3 ds = false):=by
           show _ = _
           rw [HCL.out]
           by_cases h1:d0 = 3
           · by_cases h2:4 ≤ n
             · rw [show decide (n ≤ 12) = false from by simp;omega];simp
             · rw [show decide (4 ≤ n) = false from by simp;omega];simp
           · rw [show decide (d0 = 3) = false from by simp [h1]];simp
         have q0:=k6.cell 0 (by simp)
         have q1:=k6.cell 1 (by simp)
         have q2:=k7.cell 0 (by simp)
         have q3:=k7.cell 1 (by simp)
         have f0:=k6.free 0
         have f1:=k6.free 1
         simp only [List.getElem_cons_zero,List.getElem_cons_succ] at q0 q1 q2 q3
         have hk4:=(k6.set 0 (.int .i64 1)).set 1 (.string emptyS)
         have hb4:=(bw3.setCell (p:=⟨w.heap.size,0,none⟩) (Nat.le_refl _) (.int .i64 1)).setCell (p:=⟨w.heap.size,1,none⟩) (Nat.le_refl _) (.string emptyS)
         clear k6 k7 bw3 b3
         by_cases h1:d0 = 3
         · have h1b:((d0:Int) != 3) = false:=by rw [bne_eq_false_iff_eq];omega
           by_cases h2:n < 4
           · have h2I:(n:Int) < 4:=by omega
             go_wp2_with fail
             exact retS _ w.heap.size ds _ w.heap.size w _ HF.out rfl hk4 hb4
           · have h2I:¬ ((n:Int) < 4):=by omega
             have h3I:(12:Int) < (n:Int):=by omega
             go_wp2_with fail
             exact retS _ w.heap.size ds _ w.heap.size w _ HF.out rfl hk4 hb4
         · have h1b:((d0:Int) != 3) = true:=by rw [bne_iff_ne];omega
           go_wp2_with fail
           exact retS _ w.heap.size ds _ w.heap.size w _ HF.out rfl hk4 hb4
       · clear k6 k7 bw3
         have h1:d0 = 3:=by omega
         have h1b:((d0:Int) != 3) = false:=by rw [bne_eq_false_iff_eq];omega
         have h2I:¬ ((n:Int) < 4):=by omega
         have h3I:¬ ((12:Int) < (n:Int)):=by omega
         have HCL2:Hid (clearOK 3 ds = ((pinD ds).all (fun d=>decide (d < 10)) && (fillD ds).all (fillOK 3))):=by
           show _ = _
           rw [HCL.out,show decide (d0 = 3) = true from by simp [h1],show decide (4 ≤ n) = true from by simp;omega,show decide (n ≤ 12) = true from by simp;omega]
           simp
         have hn12:n ≤ 12:=by omega
         have hpl:(pinD ds).length = n:=by rw [HPD.out,List.length_take,List.length_drop,hdl];omega
         clear hbad h1 HCL
         have h16I:(2:Int) ≤ 16:=by omega
         go_wp2_with fail
         clear hc0 hc1
         go_loopw [12,13,14,73,78,87,97] (fun p _ _ i _ _ _ wr=>∃ k:Nat,k ≤ 14 ∧ i = .int .i64 k ∧ p = .string (textOf ((pinD ds).take k)) ∧ Hid (∀ j (hj:2 + j < ds.length),j < k → (if j < n then ds[2 + j] < 10 else fillOK 3 ds[2 + j] = true)) ∧ Below w3.heap.size w3 wr) (fun _ _ _ i _ _ _ _=>14 - (intOf i).toNat)
         case atStart=>exact ⟨0,by omega,rfl,by simp [textOf],fun j _ h=>absurd h (Nat.not_lt_zero j),Below.refl _ _⟩
         case round =>
           obtain ⟨k,hk,rfl,rfl,HD,hbr⟩:=hrel
           by_cases hlt:k < 14
           · have hj2:2 + k < ds.length:=by omega
             have hd:=hd16 ds[2 + k] (List.getElem_mem _)
             have hcx:wr.cell? ⟨w2.heap.size,2 + k,none⟩ = some (.int .u8 (ds[2 + k]:Int)):=(hbr.cell (p:=⟨w2.heap.size,2 + k,none⟩) (World.block_lt_of_cell? w3 _ (HCE.out (2 + k) hj2))).trans (HCE.out (2 + k) hj2)
             have bWr:Below W.heap.size W wr:=b3.trans (hbr.mono b3.size)
             obtain ⟨k6,k7,bwr,-⟩:=HK.out bWr
             have HPT:Hid (k < n → (pinD ds).take (k + 1) = (pinD ds).take k ++ [ds[2 + k]]):=by
               show _ → _
               intro hkn
               rw [List.take_succ_eq_append_getElem (by omega)]
               congr 2
               simp [HPD.out]
             have HPT2:Hid (¬ k < n → (pinD ds).take (k + 1) = (pinD ds).take k):=by
               show _ → _
               intro hkn
               rw [List.take_of_length_le (by omega),List.take_of_length_le (by omega)]
             have HB1:Hid (k < n → ¬ ds[2 + k] < 10 → clearOK 3 ds = false):=by
               show _ → _ → _
               intro hkn h10
               rw [HCL2.out]
               cases ha:(pinD ds).all (fun d=>decide (d < 10))
               · rfl
               · rw [List.all_eq_true] at ha
                 have hm:ds[2 + k] ∈ pinD ds:=by rw [HPD.out,List.mem_take_iff_getElem];exact ⟨k,by rw [List.length_drop];omega,by simp⟩
                 have:=ha _ hm
                 simp at this
                 omega
             have HB2:Hid (¬ k < n → fillOK 3 ds[2 + k] = false → clearOK 3 ds = false):=by
               show _ → _ → _
               intro hkn hfk
               rw [HCL2.out]
               cases ha:(fillD ds).all (fillOK 3)
               · simp
               · rw [List.all_eq_true] at ha
                 have hm:ds[2 + k] ∈ fillD ds:=by rw [HFD.out,List.drop_drop,List.mem_drop_iff_getElem];exact ⟨k - n,by omega,by congr 1;omega⟩
                 rw [ha _ hm] at hfk
                 cases hfk
             have HN1:Hid ((if k < n then ds[2 + k] < 10 else fillOK 3 ds[2 + k] = true) → ∀ j (hj:2 + j < ds.length),j < k + 1 → (if j < n then ds[2 + j] < 10 else fillOK 3 ds[2 + j] = true)):=by
               show _ → _
               intro hh j hj hjk
               by_cases e:j = k
               · subst e;exact hh
               · exact HD.out j hj (by omega)
             have HFE:=hid_eq (HFN.out ds[2 + k])
             have HPS:=hid_eq (text_snoc ((pinD ds).take k) ds[2 + k])
             obtain ⟨d,hde⟩:∃ d,d = ds[2 + k]:=⟨_,rfl⟩
             rw [← hde] at hd hcx HPT HB1 HB2 HN1 HFE HPS
             clear hde HD
             have q0:=k6.cell 0 (by simp)
             have q1:=k6.cell 1 (by simp)
             have q2:=k7.cell 0 (by simp)
             have q3:=k7.cell 1 (by simp)
             have f0:=k6.free 0
             have f1:=k6.free 1
             simp only [List.getElem_cons_zero,List.getElem_cons_succ] at q0 q1 q2 q3
             have hk4:=(k6.set 0 (.int .i64 1)).set 1 (.string emptyS)
             have hb4:=(bwr.setCell (p:=⟨w.heap.size,0,none⟩) (Nat.le_refl _) (.int .i64 1)).setCell (p:=⟨w.heap.size,1,none⟩) (Nat.le_refl _) (.string emptyS)
             clear k6 k7 bwr bWr
             obtain ⟨pt,hpt⟩:∃ t,t = textOf ((pinD ds).take k):=⟨_,rfl⟩
             rw [← hpt] at HPS ⊢
             have HPQ:=hid_eq hpt
             have hps:pt.size ≤ 14:=by rw [hpt,text_size,List.length_take];omega
             clear hpt
             by_cases hkn:k < n
             · have hknI:(k:Int) < (n:Int):=by omega
               by_cases h10:d < 10
               · have h9I:¬ ((9:Int) < (d:Int)):=by omega
                 have hcv:=conv_one d wr h10
                 have hbe:=hbr.alloc hbr.size (.cells #[.int .u8 (48 + (d:Int))] 5)
                 go_wp2_with fail
                 go_roundw
                 case rel=>exact ⟨k + 1,by omega,by go_num,by rw [HPT.out hkn,← HPS.out],HN1.out (by rw [if_pos hkn];exact h10),hbe⟩
                 case measure=>simp [intOf];omega
               · have h9I:(9:Int) < (d:Int):=by omega
                 have HF:=hid_eq (HB1.out hkn h10)
                 go_wp2_with fail
                 exact retS _ w.heap.size ds _ w.heap.size w _ HF.out rfl hk4 hb4
             · have hknI:¬ ((k:Int) < (n:Int)):=by omega
               by_cases h10:d < 10
               · have hd10:(d:Int) < 10:=by omega
                 have HF:=hid_eq (HB2.out hkn (by rw [HFE.out];simp;omega))
                 go_wp2_with fail
                 exact retS _ w.heap.size ds _ w.heap.size w _ HF.out rfl hk4 hb4
               · have hd10:¬ ((d:Int) < 10):=by omega
                 have HG:Hid (fillOK 3 d = true):=by show _ = _;rw [HFE.out];simp;omega
                 go_wp2_with fail
                 go_roundw
                 case rel=>exact ⟨k + 1,by omega,by go_num,by rw [HPT2.out hkn,HPQ.out],HN1.out (by rw [if_neg hkn];exact HG.out),hbr⟩
                 case measure=>simp [intOf];omega
           · have HT:Hid (clearOK 3 ds = true):=by
               show _ = _
               rw [HCL2.out,Bool.and_eq_true,List.all_eq_true,List.all_eq_true]
               constructor
               · intro d hd
                 rw [HPD.out,List.mem_take_iff_getElem] at hd
                 obtain ⟨j,hj,rfl⟩:=hd
                 have:=HD.out j (by rw [List.length_drop] at hj;omega) (by omega)
                 rw [if_pos (by omega)] at this
                 simpa using this
               · intro d hd
                 rw [HFD.out,List.drop_drop,List.mem_drop_iff_getElem] at hd
                 obtain ⟨j,hj,rfl⟩:=hd
                 have:=HD.out (n + j) (by omega) (by omega)
                 rw [if_neg (by omega)] at this
                 have e:ds[2 + n + j] = ds[2 + (n + j)]:=by congr 1;omega
                 rw [e]
                 exact this
             have HPA:Hid ((pinD ds).take k = pinD ds):=hid_eq (by rw [List.take_of_length_le (by omega)])
             rw [HPA.out]
             have bWr:Below W.heap.size W wr:=b3.trans (hbr.mono b3.size)
             obtain ⟨k6,k7,bwr,-⟩:=HK.out bWr
             have q0:=k6.cell 0 (by simp)
             have q1:=k6.cell 1 (by simp)
             have f0:=k6.free 0
             have f1:=k6.free 1
             simp only [List.getElem_cons_zero,List.getElem_cons_succ] at q0 q1
             have hk4:=(k6.set 0 (.int .i64 0)).set 1 (.string (textOf (pinD ds)))
             have hb4:=(bwr.setCell (p:=⟨w.heap.size,0,none⟩) (Nat.le_refl _) (.int .i64 0)).setCell (p:=⟨w.heap.size,1,none⟩) (Nat.le_refl _) (.string (textOf (pinD ds)))
             clear k6 k7 bwr bWr
             go_wp2_with fail
             exact retG _ w.heap.size ds _ w.heap.size w _ HT.out rfl hk4 hb4
theorem readS_all (f:Int) (block:List UInt8) (pan:ByteArray) (ao:Option Addr) (cap:Nat) (w:World) (hp:pan.size ≤ maxLen) (hr:RowAt w ao block) :
   Calls Tryz.prog 51 #[.int .i64 f,.slice ao block.length cap,.string pan] w fun e w'=>e = .returned (readV (readOK f block pan) (readD block pan)) ∧ Below w.heap.size w w':=by
 cases hno:((decide (f = 0) || decide (f = 3)) && (decide (13 ≤ pan.size) && decide (pan.size ≤ 19) && digs pan) && decide (block.length = 8))
 · have h:=readS_bad f block.length pan ao cap w hp hno
   have e:readOK f block pan = false:=by unfold readOK;rw [hno];rfl
   rw [e]
   exact h
 · have e:readOK f block pan = clearOK f.toNat (readD block pan):=by unfold readOK;rw [hno];rfl
   simp only [Bool.and_eq_true,Bool.or_eq_true,decide_eq_true_eq] at hno
   obtain ⟨⟨hf,⟨h13,h19⟩,hd⟩,h8⟩:=hno
   obtain ⟨n,rfl⟩:∃ n:Nat,f = n:=⟨f.toNat,by omega⟩
   rw [e,h8]
   exact readS_good n block pan ao cap w (by omega) h13 h19 hd h8 hr
end Go.Proofs.YtoajfbkblpaejaaGreatDoor
