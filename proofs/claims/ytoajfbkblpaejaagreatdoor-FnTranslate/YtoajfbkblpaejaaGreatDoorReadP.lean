import Derived.Test.YtoajfbkblpaejaaGreatDoorReadC
import Derived.Deep.RegionHeld3
namespace Go.Proofs.YtoajfbkblpaejaaGreatDoor
open Go.RowKit
abbrev emptyS:ByteArray:=⟨#[]⟩
set_option maxRecDepth 100000 in
set_option maxHeartbeats 1000000 in
theorem catch_panicking (g u:Nat) (pv:Value) (c p:Value) (older:List PanicEntry) (w:World) (hb:Blk w g 36 [c,p]) :
   CallsD Tryz.prog 30 #[.pointer (some ⟨g,0,none⟩)] (.panicking ({ v:=.iface u pv,recovered:=false } :: older)) w fun e u' w' =>
     e = .returned (.tuple #[]) ∧ u' = .panicking ({ v:=.iface u pv,recovered:=true } :: older) ∧ Blk w' g 36 [.int .i64 1,.string emptyS] ∧ w.grownBy w' (some g):=by
 refine callsD_of_wpS Tryz.func30 rfl fun c₀ cs hu=>?_
 apply wpS_seq
 apply wpS_region
 simp [wpOpsS,go_sem,recoverD,hu,Tryz.ntmps30,Exit.thenS]
 refine wpS_cond (t:=true) (by simp [Act.eval,Array.replicate]) ?_
 simp only [if_true]
 refine wpS_of_wp ?_
 have hc0:=hb.cell 0 (by simp)
 have hc1:=hb.cell 1 (by simp)
 have hf0:=hb.free 0
 have hf1:=hb.free 1
 simp only [List.getElem_cons_zero,List.getElem_cons_succ] at hc0 hc1
 have h1:=(hb.set 0 (.int .i64 1)).set 1 (.string emptyS)
 have g1:w.grownBy ((w.setCell ⟨g,0,none⟩ (.int .i64 1)).setCell ⟨g,1,none⟩ (.string emptyS)) (some g) :=
   ⟨rfl,rfl,rfl,by simp,fun k _ hk=>(heap_setCell_other _ _ k _ (fun e=>hk (by simp [e]))).trans (heap_setCell_other _ _ k _ (fun e=>hk (by simp [e])))⟩
 change Code.wp _ _ _ { tmps:=#[.pointer (some ⟨g,0,none⟩),.iface u pv,.bool true,undef],defers:=[] } w
 go_wp2
 simp [bodyPostS,results,Tryz.results30]
 exact ⟨h1,g1⟩
set_option maxRecDepth 100000 in
set_option maxHeartbeats 1000000 in
theorem catch_idle (g:Nat) (w:World) :
   CallsD Tryz.prog 30 #[.pointer (some ⟨g,0,none⟩)] .returning w fun e u' w'=>e = .returned (.tuple #[]) ∧ u' = .returning ∧ w' = w:=by
 refine callsD_of_wpS Tryz.func30 rfl fun c₀ cs hu=>?_
 apply wpS_seq
 apply wpS_region
 simp [wpOpsS,go_sem,recoverD,hu,Tryz.ntmps30,Exit.thenS]
 refine wpS_cond (t:=false) (by simp [Act.eval,Array.replicate]) ?_
 simp only [Bool.false_eq_true,if_false]
 refine wpS_of_wp (wp_skip ?_)
 cases c₀
 simp_all [bodyPostS,results,Tryz.results30]
theorem row_range' {w:World} {ao:Option Addr} {bs:List UInt8} (h:RowAt w ao bs) (h0:0 < bs.length):∃ b off,ao = some ⟨b,off,none⟩ ∧ w.rangeAt b off (bs.map byte):=by
 obtain ⟨b,off,rfl,hc⟩:=h.at h0
 refine ⟨b,off,rfl,?_⟩
 intro j v hv
 obtain ⟨hj,he⟩:=List.getElem?_eq_some_iff.1 hv
 rw [List.length_map] at hj
 rw [hc j hj,← he]
 simp [byte,hj]
theorem below_alloc (w:World) (o:Obj):Below w.heap.size w (w.alloc o):=(Below.refl _ _).alloc (Nat.le_refl _) o
def readD (block:List UInt8) (pan:ByteArray):List Nat:=nibL (xorL block (blockN (wordH (acctN pan))))
def readOK (f:Int) (block:List UInt8) (pan:ByteArray):Bool:=(decide (f = 0) || decide (f = 3)) && (decide (13 ≤ pan.size) && decide (pan.size ≤ 19) && digs pan) && decide (block.length = 8) && clearOK f.toNat (readD block pan)
def readV (ok:Bool) (ds:List Nat):Value:=if ok then .agg #[.int .i64 0,.string (textOf (pinD ds))] else .agg #[.int .i64 1,.string emptyS]
theorem door_bad (ds:List Nat) (ok:Bool) (hok:ok = false) (g u:Nat) (pv c p:Value) (tmps:Array Value) (B:Nat) (w x:World) (ht:tmps.getD 6 undef = .pointer (some ⟨g,0,none⟩)) (hblk:Blk x g 36 [c,p]) (hB:B ≤ g) (hb:Below B w x) :
   Leaves Tryz.prog Tryz.f8 tmps (fun e w'=>e = .returned (readV ok ds) ∧ Below B w w') [{ target:=.fn (.func 30) #[.pointer (some ⟨g,0,none⟩)],args:=#[] }] (.panicking [{ v:=.iface u pv,recovered:=false }]) x:=by
 subst hok
 refine leaves_cons (f:=30) (args:=#[.pointer (some ⟨g,0,none⟩)]) (by simp) (by simp [go_sem]) ?_
 refine (catch_panicking g u pv c p [] x hblk).mono ?_
 rintro e u' w2 ⟨rfl,rfl,hb2,hg2⟩
 refine ⟨_,results_blk Tryz.results8 tmps w2 ht hb2 Tryz.underlying36 rfl (by kernel_rfl),rfl,?_⟩
 exact hb.grown hg2 (Nat.le_trans hB (Nat.le_of_lt hblk.lt)) (by intro k hk;cases hk;exact hB)
theorem door_ok (ok:Bool) (hok:ok = true) (g:Nat) (ds:List Nat) (tmps:Array Value) (B:Nat) (w x:World) (ht:tmps.getD 6 undef = .pointer (some ⟨g,0,none⟩)) (hblk:Blk x g 36 [.int .i64 0,.string (textOf (pinD ds))]) (hb:Below B w x) :
   Leaves Tryz.prog Tryz.f8 tmps (fun e w'=>e = .returned (readV ok ds) ∧ Below B w w') [{ target:=.fn (.func 30) #[.pointer (some ⟨g,0,none⟩)],args:=#[] }] .returning x:=by
 subst hok
 refine leaves_cons (f:=30) (args:=#[.pointer (some ⟨g,0,none⟩)]) (by simp) (by simp [go_sem]) ?_
 refine (catch_idle g x).mono ?_
 rintro e u' w2 ⟨rfl,rfl,hw2⟩
 subst w2
 exact ⟨_,results_blk Tryz.results8 tmps x ht hblk Tryz.underlying36 rfl (by kernel_rfl),rfl,hb⟩
set_option maxRecDepth 100000 in
set_option maxHeartbeats 1000000 in
theorem readI_bad (f:Int) (block:List UInt8) (pan:ByteArray) (ao:Option Addr) (cap u:Nat) (pv:Value) (w:World) (hp:pan.size ≤ maxLen) (hn:block.length ≤ 1048576) (hg:w.cell? ⟨2,0,none⟩ = some (.iface u pv))
   (hno:((decide (f = 0) || decide (f = 3)) && (decide (13 ≤ pan.size) && decide (pan.size ≤ 19) && digs pan) && decide (block.length = 8)) = false) :
   Calls Tryz.prog 8 #[.int .i64 f,.slice ao block.length cap,.string pan] w fun e w'=>e = .returned (readV false []) ∧ Below w.heap.size w w':=by
 have hmf:∀ (fn:Fn) (first cap:Array Value) (w:World),(Instr.makeFunc fn first cap).run Tryz.prog w = .ok (.func fn first cap) w:=fun _ _ _ _=>rfl
 have hg0:=World.block_lt_of_cell? w _ hg
 obtain ⟨W,hW⟩:∃ W,W = w.alloc (.cells #[.int .i64 0,.string emptyS] 36):=⟨_,rfl⟩
 have kB:Blk W w.heap.size 36 [.int .i64 0,.string emptyS]:=by rw [hW];exact Blk.new w _ _
 have bW:Below w.heap.size w W:=by rw [hW];exact below_alloc w _
 have HW:=hid_eq hW
 clear hW
 have HBK:Hid (∀ {x},Below W.heap.size W x → Blk x w.heap.size 36 [.int .i64 0,.string emptyS] ∧ x.cell? ⟨2,0,none⟩ = some (.iface u pv) ∧ Below w.heap.size w x):=by
   intro x hx
   have hb:Below w.heap.size w x:=bW.trans (hx.mono bW.size)
   exact ⟨kB.below hx kB.lt,(hb.cell (p:=⟨2,0,none⟩) hg0).trans hg,hb⟩
 have HF:=hid_eq (fun (wx:World)=>isFormat_any f wx)
 have HP:=hid_eq (fun (wx:World)=>isPan_any pan wx hp)
 have hb0:Below W.heap.size W W:=Below.refl _ _
 have hnI:(block.length:Int) ≤ 1048576:=by omega
 obtain ⟨m,hm⟩:∃ m,m = block.length:=⟨_,rfl⟩
 rw [← hm] at hno hnI ⊢
 clear hm
 cases h1:(decide (f = 0) || decide (f = 3))
 · rw [h1] at HF
   go_enter_defers Tryz.func8,Tryz.ntmps8
   go_wp2_with fail
   rw [← show W = _ from HW]
   refine (HF.out _).mono ?_
   rintro e w1 ⟨rfl,hw1⟩
   subst w1
   go_wp2_with fail
   refine (must_false u pv _ (HBK.out hb0).2.1).mono ?_
   rintro e w1 ⟨rfl,hw1⟩
   subst w1
   exact door_bad [] false rfl w.heap.size u pv _ _ _ w.heap.size w _ rfl (HBK.out hb0).1 (Nat.le_refl _) (HBK.out hb0).2.2
 · rw [h1] at HF hno
   cases h2:(decide (13 ≤ pan.size) && decide (pan.size ≤ 19) && digs pan)
   · rw [h2] at HP
     go_enter_defers Tryz.func8,Tryz.ntmps8
     go_wp2_with fail
     rw [← show W = _ from HW]
     refine (HF.out _).mono ?_
     rintro e w1 ⟨rfl,hw1⟩
     subst w1
     go_wp2_with fail
     refine (HP.out _).mono ?_
     rintro e w1 ⟨rfl,bel1⟩
     go_wp2_with fail
     refine (must_false u pv _ (HBK.out bel1).2.1).mono ?_
     rintro e w2 ⟨rfl,hw2⟩
     subst w2
     exact door_bad [] false rfl w.heap.size u pv _ _ _ w.heap.size w _ rfl (HBK.out bel1).1 (Nat.le_refl _) (HBK.out bel1).2.2
   · rw [h2] at HP hno
     have hm8:((m:Int) == 8) = false:=by
       rw [beq_eq_false_iff_ne]
       intro e
       have:m = 8:=by omega
       simp [this] at hno
     go_enter_defers Tryz.func8,Tryz.ntmps8
     go_wp2_with fail
     rw [← show W = _ from HW]
     refine (HF.out _).mono ?_
     rintro e w1 ⟨rfl,hw1⟩
     subst w1
     go_wp2_with fail
     refine (HP.out _).mono ?_
     rintro e w1 ⟨rfl,bel1⟩
     go_wp2_with fail
     refine (must_false u pv _ (HBK.out bel1).2.1).mono ?_
     rintro e w2 ⟨rfl,hw2⟩
     subst w2
     exact door_bad [] false rfl w.heap.size u pv _ _ _ w.heap.size w _ rfl (HBK.out bel1).1 (Nat.le_refl _) (HBK.out bel1).2.2
set_option maxRecDepth 100000 in
set_option maxHeartbeats 1000000 in
theorem readI_good (f:Nat) (block:List UInt8) (pan:ByteArray) (ao:Option Addr) (cap u:Nat) (pv:Value) (w:World) (hf:f = 0 ∨ f = 3) (h13:13 ≤ pan.size) (h19:pan.size ≤ 19) (hpd:digs pan = true) (h8:block.length = 8) (hg:w.cell? ⟨2,0,none⟩ = some (.iface u pv)) (hr:RowAt w ao block) :
   Calls Tryz.prog 8 #[.int .i64 (f:Int),.slice ao 8 cap,.string pan] w fun e w'=>e = .returned (readV (clearOK f (readD block pan)) (readD block pan)) ∧ Below w.heap.size w w':=by
 have hmf:∀ (fn:Fn) (first cap:Array Value) (w:World),(Instr.makeFunc fn first cap).run Tryz.prog w = .ok (.func fn first cap) w:=fun _ _ _ _=>rfl
 have hg0:=World.block_lt_of_cell? w _ hg
 obtain ⟨bb,bo,rfl,hrg⟩:=row_range' hr (by omega)
 have HF:=hid_eq (fun (wx:World)=>isFormat_any (f:Int) wx)
 rw [show (decide ((f:Int) = 0) || decide ((f:Int) = 3)) = true from by rcases hf with rfl | rfl <;> rfl] at HF
 have HP:=hid_eq (fun (wx:World)=>isPan_any pan wx (by unfold maxLen;omega))
 rw [show (decide (13 ≤ pan.size) && decide (pan.size ≤ 19) && digs pan) = true from by simp [h13,h19,hpd]] at HP
 have HA:=hid_eq (fun (wx:World)=>account_any pan wx h13 h19 hpd)
 have hAl:=blockN_length (wordH (acctN pan))
 have hdl:(readD block pan).length = 16:=by unfold readD;rw [nibL_length,xorL_length _ _ (by rw [hAl,h8]),h8]
 have hd16:∀ d ∈ readD block pan,d < 16:=nibL_lt _
 have HU:Hid (∀ (wx:World),Calls Tryz.prog 34 #[.agg ((xorL block (blockN (wordH (acctN pan)))).map byte).toArray] wx fun e w'=>e = .returned (.string (textOf (readD block pan))) ∧ Below wx.heap.size wx w'):=fun wx=>unpacked_any _ wx (by rw [xorL_length _ _ (by rw [hAl,h8]),h8])
 have HC:=hid_eq (fun (wx:World) (h:wx.cell? ⟨2,0,none⟩ = some (.iface u pv))=>clearPin_any f (readD block pan) u pv wx hf hdl hd16 h)
 obtain ⟨ds,hds⟩:∃ ds,ds = readD block pan:=⟨_,rfl⟩
 rw [← hds] at HU HC ⊢
 clear hds hdl hd16
 obtain ⟨A,hA⟩:∃ A,A = blockN (wordH (acctN pan)):=⟨_,rfl⟩
 rw [← hA] at HA HU hAl
 clear hA
 have HX:=hid_eq (fun (g c:Nat) (wx:World) (h:Blk wx g 79 (block.map byte ++ A.map byte))=>xor8_two block A g c 79 wx h8 hAl h)
 obtain ⟨X,hX⟩:∃ X,X = xorL block A:=⟨_,rfl⟩
 rw [← hX] at HX HU
 clear hX
 obtain ⟨W,hW⟩:∃ W,W = w.alloc (.cells #[.int .i64 0,.string emptyS] 36):=⟨_,rfl⟩
 have kB:Blk W w.heap.size 36 [.int .i64 0,.string emptyS]:=by rw [hW];exact Blk.new w _ _
 have bW:Below w.heap.size w W:=by rw [hW];exact below_alloc w _
 have HW:=hid_eq hW
 clear hW
 have HBK:Hid (∀ {x},Below W.heap.size W x → Blk x w.heap.size 36 [.int .i64 0,.string emptyS] ∧ x.cell? ⟨2,0,none⟩ = some (.iface u pv) ∧ Below w.heap.size w x ∧ x.rangeAt bb bo (block.map byte)):=by
   intro x hx
   have hb:Below w.heap.size w x:=bW.trans (hx.mono bW.size)
   exact ⟨kB.below hx kB.lt,(hb.cell (p:=⟨2,0,none⟩) hg0).trans hg,hb,range_below hrg hb⟩
 have hbm:(block.map byte).length = 8:=by rw [List.length_map,h8]
 have hAm:(A.map byte).length = 8:=by rw [List.length_map,hAl]
 clear kB bW hg hr
 go_enter_defers Tryz.func8,Tryz.ntmps8
 go_wp2_with fail
 rw [← show W = _ from HW]
 refine (HF.out _).mono ?_
 rintro e w1 ⟨rfl,hw1⟩
 subst w1
 go_wp2_with fail
 refine (HP.out _).mono ?_
 rintro e w1 ⟨rfl,bel1⟩
 go_wp2_with fail
 refine (must_true _).mono ?_
 rintro e w2 ⟨rfl,hw2⟩
 subst w2
 go_wp2_with fail
 have har:=fun (wx:World)=>run_arrayAt (P:=Tryz.prog) (w:=wx) 79 5 8 (some ⟨bb,bo,none⟩) 8 cap Tryz.underlying79 (Nat.le_refl _)
 obtain ⟨V,hV⟩:∃ V,V = w1.drew:=⟨_,rfl⟩
 have bV:Below W.heap.size W V:=by rw [hV];exact bel1.drew
 have hwV:=bV.size
 clear bel1
 have b_0:Below V.heap.size V V:=Below.refl _ _
 have keep:Hid (∀ {x},Below V.heap.size V x → x.rangeAt bb bo (block.map byte)):=fun h=>(HBK.out (bV.trans (h.mono hwV))).2.2.2
 refine wp_region_noPanic ?_
 refine wp_region_held_drew (S:=fun x=>x.rangeAt bb bo (block.map byte)) (by kernel_rfl) (by rw [← hV];exact keep.out b_0) (fun hHeld=>?_)
 rw [← hV] at hHeld ⊢
 clear hV
 refine tk (i:=0) (v:=(.slice (some ⟨bb,bo,none⟩) 8 cap)) rfl (Or.inl ⟨by rfl,?_⟩) hHeld ?_
 · intro _ _;go_simp
 try dsimp only [Act.put]
 refine tk (i:=1) (v:=(.pointer (some ⟨bb,bo,none⟩))) rfl (Or.inl ⟨by rfl,?_⟩) hHeld ?_
 · intro _ _;go_simp
 dsimp only [Act.put,List.getElem_toArray,List.getElem_cons_zero,List.getElem_cons_succ]
 simp only [List.setIfInBounds_toArray,List.set_cons_succ,List.set_cons_zero]
 refine tk (i:=2) (v:=(.agg (block.map byte).toArray)) rfl (yieldsIf_load_mid (by rfl) 79 _ rfl bb bo rfl (block.map byte) _ (fun _ h=>h) Tryz.underlying79 rfl (by rw [hbm];kernel_rfl)) hHeld ?_
 try dsimp only [Act.put]
 refine tk (i:=3) (v:=(.string pan)) rfl (Or.inl ⟨by rfl,?_⟩) hHeld ?_
 · intro _ _;go_simp
 dsimp only [Act.put,List.getElem_toArray,List.getElem_cons_zero,List.getElem_cons_succ]
 simp only [List.setIfInBounds_toArray,List.set_cons_succ,List.set_cons_zero]
 refine rdy1 4 (fun K hK=>?_)
 go_simp
 refine (HA.out _).mono ?_
 rintro e w_1 ⟨rfl,bel_1⟩
 have b_1:=below_step b_0 bel_1
 go_wp2_with fail
 refine hK.out _ _ (keep.out b_1) (fun hHeld=>?_)
 clear hK K
 try dsimp only [Act.put]
 refine rdy1 5 (fun K hK=>?_)
 rw [if_pos (by rfl)]
 refine wp_build2 (some 26) rfl 120 _ _ rfl 79 8 _ (block.map byte) (A.map byte) rfl rfl Tryz.underlying120 Tryz.zero79 hbm hAm (by omega) (by omega) ?_
 try dsimp only [Act.put]
 obtain ⟨w_2,hw_2⟩:∃ x,x = World.alloc w_1 (.cells (block.map byte ++ A.map byte).toArray 79):=⟨_,rfl⟩
 have bel_2:Below w_1.heap.size w_1 w_2:=by rw [hw_2];exact below_new _ _
 have bs_2:Blk w_2 w_1.heap.size 79 (block.map byte ++ A.map byte):=by rw [hw_2];exact Blk.new _ _ _
 have le_bs_2:=b_1.size
 have lt_bs_2:=bs_2.lt
 have b_2:=below_step b_1 bel_2
 rw [← hw_2]
 clear hw_2
 refine hK.out _ _ (keep.out b_2) (fun hHeld=>?_)
 clear hK K
 try dsimp only [Act.put]
 refine rdy1 6 (fun K hK=>?_)
 go_simp
 refine (HX.out w_1.heap.size 2 _ bs_2).mono ?_
 rintro e w_3 ⟨rfl,bel_3⟩
 have bs_3:=bs_2.below bel_3 bs_2.lt
 have b_3:=below_step b_2 bel_3
 go_wp2_with fail
 refine hK.out _ _ (keep.out b_3) (fun hHeld=>?_)
 clear hK K
 try dsimp only [Act.put]
 refine rdy1 7 (fun K hK=>?_)
 go_simp
 refine (HU.out _).mono ?_
 rintro e w_4 ⟨rfl,bel_4⟩
 have bs_4:=bs_3.below bel_4 bs_3.lt
 have b_4:=below_step b_3 bel_4
 go_wp2_with fail
 refine hK.out _ _ (keep.out b_4) (fun hHeld=>?_)
 clear hK K
 try dsimp only [Act.put]
 refine rdy1 8 (fun K hK=>?_)
 go_simp
 refine hK.out _ _ (keep.out b_4) (fun hHeld=>?_)
 clear hK K
 try dsimp only [Act.put]
 refine wpAnyH_done (by kernel_rfl) ?_ _
 refine NoPanic.normal ?_
 have belc:=bV.trans (b_4.mono hwV)
 obtain ⟨hkb,hgc,-,-⟩:=HBK.out belc
 go_wp2_with fail
 refine (HC.out _ hgc).mono ?_
 rintro e w3 ⟨rfl,bel3⟩
 have b3:=below_step belc bel3
 obtain ⟨hk3,-,hb3,-⟩:=HBK.out b3
 cases hok:clearOK f ds
 · rw [if_neg (by simp)]
   refine door_bad ds _ hok w.heap.size u pv _ _ _ w.heap.size w _ ?_ hk3 (Nat.le_refl _) hb3
   rfl
 · rw [if_pos rfl]
   have hc0:=hk3.cell 0 (by simp)
   have hc1:=hk3.cell 1 (by simp)
   have hf0:=hk3.free 0
   have hf1:=hk3.free 1
   simp only [List.getElem_cons_zero,List.getElem_cons_succ] at hc0 hc1
   have hk4:=(hk3.set 0 (.int .i64 0)).set 1 (.string (textOf (pinD ds)))
   have hb4:=(hb3.setCell (p:=⟨w.heap.size,0,none⟩) (Nat.le_refl _) (.int .i64 0)).setCell (p:=⟨w.heap.size,1,none⟩) (Nat.le_refl _) (.string (textOf (pinD ds)))
   clear hkb hgc hk3 hb3
   go_wp2
   refine door_ok _ hok w.heap.size ds _ w.heap.size w _ ?_ hk4 hb4
   rfl
theorem readI_all (f:Int) (block:List UInt8) (pan:ByteArray) (ao:Option Addr) (cap u:Nat) (pv:Value) (w:World) (hp:pan.size ≤ maxLen) (hn:block.length ≤ 1048576) (hg:w.cell? ⟨2,0,none⟩ = some (.iface u pv)) (hr:RowAt w ao block) :
   Calls Tryz.prog 8 #[.int .i64 f,.slice ao block.length cap,.string pan] w fun e w'=>e = .returned (readV (readOK f block pan) (readD block pan)) ∧ Below w.heap.size w w':=by
 cases hno:((decide (f = 0) || decide (f = 3)) && (decide (13 ≤ pan.size) && decide (pan.size ≤ 19) && digs pan) && decide (block.length = 8))
 · have h:=readI_bad f block pan ao cap u pv w hp hn hg hno
   have e:readOK f block pan = false:=by unfold readOK;rw [hno];rfl
   rw [e]
   exact h
 · have e:readOK f block pan = clearOK f.toNat (readD block pan):=by unfold readOK;rw [hno];rfl
   simp only [Bool.and_eq_true,Bool.or_eq_true,decide_eq_true_eq] at hno
   obtain ⟨⟨hf,⟨h13,h19⟩,hd⟩,h8⟩:=hno
   obtain ⟨n,rfl⟩:∃ n:Nat,f = n:=⟨f.toNat,by omega⟩
   rw [e,h8]
   exact readI_good n block pan ao cap u pv w (by omega) h13 h19 hd h8 hg hr
end Go.Proofs.YtoajfbkblpaejaaGreatDoor
