import Derived.Test.YtoajfbkblpaejaaGreatDoorTransM
import Derived.Test.YtoajfbkblpaejaaGreatDoorLawUnwrap
namespace Go.Proofs.YtoajfbkblpaejaaGreatDoor
open Go.RowKit
theorem opU_cases (master block:List UInt8):(okO master block = false ∧ opU master block = 0) ∨ (okO master block = true ∧ (opU master block = 1 ∨ opU master block = 2 ∨ opU master block = 3)):=by
 cases h:okO master block with
 | false=>exact .inl ⟨rfl,by unfold opU;rw [h];rfl⟩
 | true =>
   refine .inr ⟨rfl,?_⟩
   have hf:=(formOK_parts (Bool.and_eq_true_iff.1 h).1).2.2
   unfold opU
   rw [h]
   unfold headOK at hf
   simp only [Bool.and_eq_true,decide_eq_true_eq] at hf
   simp only [if_true]
   omega
theorem map_below {w w':World} {r:Nat} {o:Obj} (h:w.heap[r]? = some o) (hb:Below w.heap.size w w'):w'.heap[r]? = some o:=(hb.block r (lt_of_block h)).trans h
theorem zone_any (K:List UInt8) (af ak at_ ab ad:Option Addr) (nf cf nk ck nt ct nb cb nd cd:Nat) (ff tf:Int) (pan:ByteArray) (w:World) (hKl:K.length = 16) :
   Calls Tryz.prog 63 #[.agg ([.slice af nf cf,.int .i64 ff,.slice ak nk ck,.slice at_ nt ct,.int .i64 tf,.slice ab nb cb,.string pan,.slice ad nd cd]:List Value).toArray,.agg (K.map byte).toArray] w fun e w'=>e = .returned (.tuple #[.agg (K.map byte).toArray,.bool (decide (nk = 0))]) ∧ Below w.heap.size w w':=by
 by_cases h:nk = 0
 · subst h
   exact zone_yes K af ak at_ ab ad nf cf ck nt ct nb cb nd cd ff tf pan w hKl
 · rw [decide_eq_false h]
   exact zone_no K af ak at_ ab ad nf cf nk ck nt ct nb cb nd cd ff tf pan w hKl h
theorem serial_any (K ksn:List UInt8) (af ak at_ ab ad:Option Addr) (nf cf nk ck nt ct nb cb nd cd:Nat) (ff tf:Int) (pan:ByteArray) (w:World) (hKl:K.length = 16) (hk:nk = ksn.length) (hck:nk ≤ ck) (rk:RowAt w ak ksn) :
   Calls Tryz.prog 64 #[.agg ([.slice af nf cf,.int .i64 ff,.slice ak nk ck,.slice at_ nt ct,.int .i64 tf,.slice ab nb cb,.string pan,.slice ad nd cd]:List Value).toArray,.agg (K.map byte).toArray] w fun e w'=>e = .returned (.tuple #[.agg (if nk = 10 then (variantL (keyL K ksn) 1).map byte else zerosOf 16 .u8).toArray,.bool (decide (nk = 10))]) ∧ Below w.heap.size w w':=by
 by_cases h:nk = 10
 · rw [if_pos h,decide_eq_true h]
   subst h
   exact serial_yes K ksn af ak at_ ab ad nf cf ck nt ct nb cb nd cd ff tf pan w hKl hk.symm hck rk
 · rw [if_neg h,decide_eq_false h]
   exact serial_no K af ak at_ ab ad nf cf nk ck nt ct nb cb nd cd ff tf pan w hKl h
theorem keyFun_at (U:Int) (h:U = 0 ∨ U = 1 ∨ U = 2 ∨ U = 3):∃ (FV:Value) (NIL:Bool),(∀ wx:World,(Instr.index 65 (.agg keyFuns.toArray) (.int .i64 U)).run Tryz.prog wx = .ok FV wx) ∧ (∀ wx:World,(binOp BinOp.eql 64 FV .nilFunc).run Tryz.prog wx = .ok (.bool NIL) wx) ∧ (∀ wx:World,(eqGuard BinOp.eql 64 (Operand.tmp 23) (Operand.const .nilFunc) FV .nilFunc).run Tryz.prog wx = .ok () wx) ∧
   ((NIL = true ∧ (U = 0 ∨ U = 2)) ∨ (NIL = false ∧ ((U = 1 ∧ FV = .func (.func 63) #[] #[]) ∨ (U = 3 ∧ FV = .func (.func 64) #[] #[])))):=by
 rcases h with rfl | rfl | rfl | rfl
 · exact ⟨.nilFunc,true,fun wx=>by kernel_rfl,fun wx=>by kernel_rfl,fun wx=>by kernel_rfl,.inl ⟨rfl,.inl rfl⟩⟩
 · exact ⟨.func (.func 63) #[] #[],false,fun wx=>by kernel_rfl,fun wx=>by kernel_rfl,fun wx=>by kernel_rfl,.inr ⟨rfl,.inl ⟨rfl,rfl⟩⟩⟩
 · exact ⟨.nilFunc,true,fun wx=>by kernel_rfl,fun wx=>by kernel_rfl,fun wx=>by kernel_rfl,.inl ⟨rfl,.inr rfl⟩⟩
 · exact ⟨.func (.func 64) #[] #[],false,fun wx=>by kernel_rfl,fun wx=>by kernel_rfl,fun wx=>by kernel_rfl,.inr ⟨rfl,.inr ⟨rfl,rfl⟩⟩⟩
theorem trK_len (master fr ksn:List UInt8) (hok:okO master fr = true) (h:fitK (opU master fr) ksn = true):(trK master fr ksn).length = 16:=by
 have hl:=(opKey_ok hok).2
 unfold fitK at h
 simp only [Bool.or_eq_true,Bool.and_eq_true,decide_eq_true_eq] at h
 unfold trK srcK
 rcases h with ⟨h1,-⟩ | ⟨h1,h2⟩
 · rw [if_neg (by omega)]
   exact hl
 · have hDl:(keyL (unkeyN master fr) ksn).length = 16:=by unfold keyL;rw [if_pos ⟨hl,h2⟩];exact keyN16_length _ _
   rw [if_pos h1]
   unfold variantL
   rw [if_pos ⟨hDl,.inl rfl⟩,xorL_length _ _ (by rw [List.length_append,maskL_length,hDl])]
   exact hDl
set_option maxRecDepth 100000 in
set_option maxHeartbeats 8000000 in
theorem transI_any (master fr ksn tow block draws:List UInt8) (am af ak at_ ab ad:Option Addr) (cm cf ck ct cb cd:Nat) (ff tf:Int) (pan:ByteArray) (x0 x1:Addr) (u:Nat) (pv:Value) (w:World) (hnk:ksn.length ≤ 1048576) (hnb:block.length ≤ 1048576) (hnd:draws.length ≤ 1048576) (hcf:fr.length ≤ cf) (hck:ksn.length ≤ ck) (hct:tow.length ≤ ct) (hcb:block.length ≤ cb) (hcd:draws.length ≤ cd) (hp:pan.size ≤ maxLen) (hs:Sents w x0 x1) (hg:w.cell? ⟨2,0,none⟩ = some (.iface u pv)) (rm:RowAt w am master) (rf:RowAt w af fr) (rk:RowAt w ak ksn) (rt:RowAt w at_ tow) (rb:RowAt w ab block) (rd:RowAt w ad draws) :
   Calls Tryz.prog 6 #[.slice am master.length cm,.agg ([.slice af fr.length cf,.int .i64 ff,.slice ak ksn.length ck,.slice at_ tow.length ct,.int .i64 tf,.slice ab block.length cb,.string pan,.slice ad draws.length cd]:List Value).toArray] w fun e w'=>∃ v,e = .returned (.agg #[.int .i64 (trC master fr ksn tow block draws ff tf pan),v,.int .i64 (trU master fr ksn tow block draws ff tf pan)]) ∧ Own w' w.heap.size v (trL master fr ksn tow block draws ff tf pan) ∧ Below w.heap.size w w':=by
 have hz:=(zero_of_info Tryz.zeroMv).1
 have hmm:=@run_makeMap Tryz.prog
 have hz16:=(zero_of_info Tryz.z16).1
 have hg0:=World.block_lt_of_cell? w _ hg
 have snlt:=hs.lt
 obtain ⟨W,hW⟩:∃ W,W = (((w.alloc (.cells ([.slice af fr.length cf,.int .i64 ff,.slice ak ksn.length ck,.slice at_ tow.length ct,.int .i64 tf,.slice ab block.length cb,.string pan,.slice ad draws.length cd]:List Value).toArray 24)).alloc (.cells zeroMv.toArray 28)).alloc (.map #[] 0)).alloc (.map #[] 0):=⟨_,rfl⟩
 have k0:Blk W w.heap.size 24 [.slice af fr.length cf,.int .i64 ff,.slice ak ksn.length ck,.slice at_ tow.length ct,.int .i64 tf,.slice ab block.length cb,.string pan,.slice ad draws.length cd]:=by rw [hW];exact (((Blk.new w _ _).alloc _).alloc _).alloc _
 have k1:Blk W (w.heap.size + 1) 28 zeroMv:=by rw [hW];exact ((Blk.new2 w _ _ _).alloc _).alloc _
 have m1:W.heap[(w.heap.size + 1 + 1)]? = some (.map #[] 0):=by
   rw [hW]
   have h2:((w.alloc (.cells ([.slice af fr.length cf,.int .i64 ff,.slice ak ksn.length ck,.slice at_ tow.length ct,.int .i64 tf,.slice ab block.length cb,.string pan,.slice ad draws.length cd]:List Value).toArray 24)).alloc (.cells zeroMv.toArray 28)).heap.size = (w.heap.size + 1 + 1):=by simp
   rw [← h2]
   exact (heap_alloc_old _ _ (by simp)).trans Array.getElem?_push_size
 have m2:W.heap[(w.heap.size + 1 + 1 + 1)]? = some (.map #[] 0):=by
   rw [hW]
   have h2:(((w.alloc (.cells ([.slice af fr.length cf,.int .i64 ff,.slice ak ksn.length ck,.slice at_ tow.length ct,.int .i64 tf,.slice ab block.length cb,.string pan,.slice ad draws.length cd]:List Value).toArray 24)).alloc (.cells zeroMv.toArray 28)).alloc (.map #[] 0)).heap.size = (w.heap.size + 1 + 1 + 1):=by simp
   rw [← h2]
   exact Array.getElem?_push_size
 have bW:Below w.heap.size w W:=by rw [hW];exact ((((Below.refl _ w).alloc (Nat.le_refl _) _).alloc (by simp) _).alloc (by simp;omega) _).alloc (by simp;omega) _
 have lW:(w.heap.size + 1 + 1 + 1) < W.heap.size:=lt_of_block m2
 have hKl:okO master fr = true → (unkeyN master fr).length = 16:=fun h=>(opKey_ok h).2
 have hTl:okO master tow = true → (unkeyN master tow).length = 16:=fun h=>(opKey_ok h).2
 have HR1:=hide (ring_any master fr am af cm cf (w.heap.size + 1 + 1) x0 x1 W hcf (hs.below bW) (rm.below bW) (rf.below bW) m1)
 have HR2:=hide (fun (wx:World) (h0:Sents wx x0 x1) (h1:RowAt wx am master) (h2:RowAt wx at_ tow) (h3:wx.heap[(w.heap.size + 1 + 1 + 1)]? = some (.map #[] 0))=>ring_any master tow am at_ cm ct (w.heap.size + 1 + 1 + 1) x0 x1 wx hct h0 h1 h2 h3)
 have HC:Hid (trC master fr ksn tow block draws ff tf pan = (if trF master fr then (if trT master tow then (if fitK (opU master fr) ksn then mvC (trK master fr ksn) block draws ff tf pan else 3) else 2) else 1)):=rfl
 have HL:Hid (trL master fr ksn tow block draws ff tf pan = (if trF master fr then (if trT master tow then (if fitK (opU master fr) ksn then mvL (trK master fr ksn) (unkeyN master tow) block draws ff tf pan else []) else []) else [])):=rfl
 have HU:Hid (trU master fr ksn tow block draws ff tf pan = (if trF master fr then (if trT master tow then (if fitK (opU master fr) ksn then mvU (trK master fr ksn) block draws ff tf pan else 0) else 0) else 0)):=rfl
 have hUc:opU master fr = 0 ∨ opU master fr = 1 ∨ opU master fr = 2 ∨ opU master fr = 3:=by rcases opU_cases master fr with ⟨-,h⟩ | ⟨-,h | h | h⟩ <;> simp [h]
 obtain ⟨FV,NIL,hix,hne,hgd,hfv⟩:=keyFun_at (opU master fr) hUc
 have hT1:NIL = true → trF master fr = false:=by
   intro h
   rcases hfv with ⟨-,h2⟩ | ⟨h2,-⟩
   · unfold trF;rcases h2 with h2 | h2 <;> rw [h2] <;> simp
   · rw [h] at h2;cases h2
 have hT2:NIL = false → trF master fr = true ∧ okO master fr = true:=by
   intro h
   rcases hfv with ⟨h2,-⟩ | ⟨-,h2⟩
   · rw [h] at h2;cases h2
   · have hok:okO master fr = true:=by
       rcases opU_cases master fr with ⟨-,h3⟩ | ⟨h3,-⟩
       · rcases h2 with ⟨h2,-⟩ | ⟨h2,-⟩ <;> rw [h3] at h2 <;> exact absurd h2 (by decide)
       · exact h3
     refine ⟨?_,hok⟩
     unfold trF;rw [hok];rcases h2 with ⟨h2,-⟩ | ⟨h2,-⟩ <;> rw [h2] <;> rfl
 have HTK:=hide (fun (h1:okO master fr = true) (h2:fitK (opU master fr) ksn = true)=>trK_len master fr ksn h1 h2)
 have HMV:=hide (fun (hK:(trK master fr ksn).length = 16) (hT:(unkeyN master tow).length = 16) (wx:World) (h0:wx.cell? ⟨2,0,none⟩ = some (.iface u pv)) (h1:RowAt wx ab block) (h2:RowAt wx ad draws)=>move_any (trK master fr ksn) (unkeyN master tow) block draws af ak at_ ab ad fr.length cf ksn.length ck tow.length ct cb cd ff tf pan u pv wx hK hT hnb hnd hcb hcd hp h0 h1 h2)
 have HZN:=hide (fun (h:(unkeyN master fr).length = 16) (wx:World)=>zone_any (unkeyN master fr) af ak at_ ab ad fr.length cf ksn.length ck tow.length ct block.length cb draws.length cd ff tf pan wx h)
 have HSR:=hide (fun (h:(unkeyN master fr).length = 16) (wx:World) (h2:RowAt wx ak ksn)=>serial_any (unkeyN master fr) ksn af ak at_ ab ad fr.length cf ksn.length ck tow.length ct block.length cb draws.length cd ff tf pan wx h rfl hck h2)
 have HFT:Hid (∀ U:Int,fitK U ksn = ((decide (U = 1) && decide (ksn.length = 0)) || (decide (U = 3) && decide (ksn.length = 10)))):=fun _=>rfl
 have HKT:Hid (∀ U:Int,U = opU master fr → trK master fr ksn = if U = 3 then variantL (keyL (unkeyN master fr) ksn) 1 else unkeyN master fr):=by intro U h;subst h;rfl
 have HHnk:=hide hnk
 obtain ⟨U,hUe⟩:∃ U,U = opU master fr:=⟨_,rfl⟩
 rw [← hUe] at HR1 hix hfv HC HL HU HTK
 obtain ⟨nm,hnm⟩:∃ n,n = master.length:=⟨_,rfl⟩
 obtain ⟨nf,hnf⟩:∃ n,n = fr.length:=⟨_,rfl⟩
 obtain ⟨nk,hnk'⟩:∃ n,n = ksn.length:=⟨_,rfl⟩
 obtain ⟨nt,hnt⟩:∃ n,n = tow.length:=⟨_,rfl⟩
 obtain ⟨nb,hnb'⟩:∃ n,n = block.length:=⟨_,rfl⟩
 obtain ⟨nd,hnd'⟩:∃ n,n = draws.length:=⟨_,rfl⟩
 rw [← hnm,← hnf] at HR1
 rw [← hnm,← hnt] at HR2
 rw [← hnf,← hnk',← hnt,← hnb',← hnd'] at k0 hW ⊢
 rw [← hnm]
 rw [← hnf,← hnk',← hnt,← hnb',← hnd'] at HMV HZN HSR
 rw [← hnk'] at HFT
 obtain ⟨G,hG⟩:∃ C,C = opG master fr:=⟨_,rfl⟩
 obtain ⟨K,hK⟩:∃ C,C = unkeyN master fr:=⟨_,rfl⟩
 rw [← hG,← hK] at HR1
 rw [← hK] at hKl HZN HSR HKT
 obtain ⟨okb,hob⟩:∃ b,b = okO master fr:=⟨_,rfl⟩
 rw [← hob] at HR1 hKl hT2 HTK
 obtain ⟨tF,htF⟩:∃ b,b = trF master fr:=⟨_,rfl⟩
 rw [← htF] at HC HL HU hT1 hT2
 obtain ⟨KT,hKT⟩:∃ b,b = trK master fr ksn:=⟨_,rfl⟩
 rw [← hKT] at HC HL HU HTK HMV HKT
 have HUe:=hide hUe
 have HNK:=hide hnk'
 have HNIL:=hide (⟨hT1,hT2⟩:(NIL = true → tF = false) ∧ (NIL = false → tF = true ∧ okb = true))
 have HFV:=hide hfv
 have HKL:=hide hKl
 clear htF hKT hT1 hT2 hUc hfv hUe hKl hTl
 have HR:=hide rm
 have HRX:Hid (RowAt w am master ∧ RowAt w ak ksn ∧ RowAt w at_ tow ∧ RowAt w ab block ∧ RowAt w ad draws):=⟨rm,rk,rt,rb,rd⟩
 clear hG hK hob rm rf rk rt rb rd HR hnm hnf hnt hnb' hnd' hnk'
 go_enter Tryz.func6,Tryz.ntmps6
 go_wp2_with fail
 rw [← hW]
 clear hW
 refine HR1.out.mono ?_
 rintro e w1 ⟨rfl,hent,g1⟩
 have b1:Below w.heap.size w w1:=bW.grown g1 bW.size (by intro k hk;cases hk;omega)
 have q0:Blk w1 w.heap.size 24 [.slice af nf cf,.int .i64 ff,.slice ak nk ck,.slice at_ nt ct,.int .i64 tf,.slice ab nb cb,.string pan,.slice ad nd cd]:=k0.grown g1 (by simp only [ne_eq,Option.some.injEq];omega)
 have q1:Blk w1 (w.heap.size + 1) 28 zeroMv:=k1.grown g1 (by simp only [ne_eq,Option.some.injEq];omega)
 have q2:w1.heap[(w.heap.size + 1 + 1 + 1)]? = some (.map #[] 0):=(g1.block _ lW (by simp only [ne_eq,Option.some.injEq];omega)).trans m2
 have lw1:(w.heap.size + 1 + 1 + 1) < w1.heap.size:=lt_of_block q2
 have sn1:Sents w1 x0 x1:=Sents.grown (hs.below bW) g1 (by intro k hk;cases hk;exact Nat.le_refl _) (by omega)
 obtain ⟨W1,hW1⟩:∃ x,x = w1.alloc (.cells #[.int .i64 U,.int .i64 G] 62):=⟨_,rfl⟩
 have kS:Blk W1 w1.heap.size 62 [.int .i64 U,.int .i64 G]:=by rw [hW1];exact Blk.new _ _ _
 have b11:Below w1.heap.size w1 W1:=by rw [hW1];exact below_new _ _
 have HK1:Hid (∀ {x},Below W1.heap.size W1 x → Blk x w.heap.size 24 [.slice af nf cf,.int .i64 ff,.slice ak nk ck,.slice at_ nt ct,.int .i64 tf,.slice ab nb cb,.string pan,.slice ad nd cd] ∧ Blk x (w.heap.size + 1) 28 zeroMv ∧ Blk x w1.heap.size 62 [.int .i64 U,.int .i64 G] ∧ (okb = true → x.heap[(w.heap.size + 1 + 1)]? = some (oneEntry U G (.agg (K.map byte).toArray))) ∧ x.heap[(w.heap.size + 1 + 1 + 1)]? = some (.map #[] 0) ∧ Sents x x0 x1 ∧ x.cell? ⟨2,0,none⟩ = some (.iface u pv) ∧ (RowAt x am master ∧ RowAt x ak ksn ∧ RowAt x at_ tow ∧ RowAt x ab block ∧ RowAt x ad draws) ∧ Below w.heap.size w x):=by
   intro x hx
   have h1:Below w1.heap.size w1 x:=b11.trans (hx.mono b11.size)
   have hb:Below w.heap.size w x:=b1.trans (h1.mono b1.size)
   obtain ⟨r1,r2,r3,r4,r5⟩:=HRX.out
   exact ⟨q0.below h1 q0.lt,q1.below h1 q1.lt,kS.below hx kS.lt,fun h=>map_below (hent h) h1,map_below q2 h1,sn1.below h1,(hb.cell (p:=⟨2,0,none⟩) hg0).trans hg,⟨r1.below hb,r2.below hb,r3.below hb,r4.below hb,r5.below hb⟩,hb⟩
 have l1S:w1.heap.size < W1.heap.size:=kS.lt
 obtain ⟨gS,hgS⟩:∃ x,x = w1.heap.size:=⟨_,rfl⟩
 rw [← hgS] at HK1 l1S lw1
 have HW1:=hide hW1
 have HgS:=hide hgS
 clear hent g1 b1 q0 q1 q2 sn1 kS b11 HR1 k0 k1 m1 m2 bW hs hW1 hgS
 go_upto_region 3 with fail
 rw [← show W1 = _ from HW1,← show gS = _ from HgS]
 clear HW1 HgS
 obtain ⟨V,hV⟩:∃ V,V = World.drew W1:=⟨_,rfl⟩
 have b_0:Below W1.heap.size W1 V:=by rw [hV];exact (Below.refl _ _).drew
 have keep:Hid (∀ {x},Below W1.heap.size W1 x → x.cell? ⟨gS,0,none⟩ = some (.int .i64 U)):=fun h=>(HK1.out h).2.2.1.cell 0 (by simp)
 refine wp_region_held_drew (S:=fun x=>x.cell? ⟨gS,0,none⟩ = some (.int .i64 U)) (by kernel_rfl) (by rw [← hV];exact keep.out b_0) (fun hHeld=>?_)
 rw [← hV] at hHeld ⊢
 clear hV
 refine tk (i:=1) (v:=(.pointer (some ⟨gS,0,none⟩))) rfl (Or.inl ⟨by rfl,?_⟩) hHeld ?_
 · intro _ _;go_simp
 try dsimp only [Act.put]
 refine tk (i:=2) (v:=(.int .i64 U)) rfl (Or.inl ⟨by rfl,fun w1 h=>by have hc:=h;go_simp⟩) hHeld ?_
 dsimp only [Act.put,List.getElem_toArray,List.getElem_cons_zero,List.getElem_cons_succ]
 simp only [List.setIfInBounds_toArray,List.set_cons_succ,List.set_cons_zero]
 refine rdy1 0 (fun KQ hK=>?_)
 go_simp
 refine (pinKeys_any _).mono ?_
 rintro e w_1 ⟨rfl,bel_1⟩
 have b_1:=b_0.trans (bel_1.mono (by have:=b_0.size;omega))
 go_wp2_with fail
 refine hK.out _ _ (keep.out b_1) (fun hHeld=>?_)
 clear hK KQ
 try dsimp only [Act.put]
 refine tk (i:=3) (v:=(FV)) rfl (Or.inl ⟨by rfl,?_⟩) hHeld ?_
 · intro _ _;go_simp
 try dsimp only [Act.put]
 refine rdy1 4 (fun KQ hK=>?_)
 go_simp
 refine hK.out _ _ (keep.out b_1) (fun hHeld=>?_)
 clear hK KQ
 try dsimp only [Act.put]
 refine wpAnyH_done (by kernel_rfl) ?_ _
 cases hN:NIL with
 | true =>
   have htf:=HNIL.out.1 hN
   subst hN
   rw [htf] at HC HL HU
   simp only [Bool.false_eq_true,if_false] at HC HL HU
   obtain ⟨q0,q1,-,-,-,-,-,-,hb⟩:=HK1.out b_1
   clear q0
   go_wp2_with (refine store_blk rfl 28 _ _ rfl (w.heap.size + 1) rfl rfl q1 (by kernel_rfl) rfl (by kernel_rfl) ?_;intro w7 hb7 hg7 hs7)
   exact ⟨rfl,_,results_blk Tryz.results6 _ _ rfl hb7 Tryz.underlying28 rfl (by kernel_rfl),⟨_,by rw [HC.out,HU.out],by rw [HL.out];exact own_nil _ _,hb.grown hg7 hb.size (by intro k hk;cases hk;omega)⟩⟩
 | false =>
   obtain ⟨htf,hok⟩:=HNIL.out.2 hN
   subst hN
   rw [htf] at HC HL HU
   simp only [if_true] at HC HL HU
   obtain ⟨q0,q1,qS,-,q2,sn,-,⟨rmx,-,rtx,-,-⟩,hbx⟩:=HK1.out b_1
   have c3:=q0.cell 3 (by simp)
   go_wp2_with fail
   have lx:=lt_of_block q2
   refine (HR2.out _ sn rmx rtx q2).mono ?_
   rintro e w2 ⟨rfl,hent2,g2⟩
   have bz:=b_1
   have HK2a:Hid (Blk w2 w.heap.size 24 [.slice af nf cf,.int .i64 ff,.slice ak nk ck,.slice at_ nt ct,.int .i64 tf,.slice ab nb cb,.string pan,.slice ad nd cd] ∧ Blk w2 (w.heap.size + 1) 28 zeroMv ∧ Blk w2 gS 62 [.int .i64 U,.int .i64 G] ∧ w2.heap[(w.heap.size + 1 + 1)]? = some (oneEntry U G (.agg (K.map byte).toArray)) ∧ w2.cell? ⟨2,0,none⟩ = some (.iface u pv) ∧ (RowAt w2 ak ksn ∧ RowAt w2 ab block ∧ RowAt w2 ad draws) ∧ Below w.heap.size w w2):=by
     obtain ⟨z0,z1,zS,zm,-,-,zg,⟨-,zk,-,zb,zd⟩,zz⟩:=HK1.out bz
     have hb2:Below w.heap.size w w2:=zz.grown g2 zz.size (by intro k hk;cases hk;omega)
     obtain ⟨-,r2,-,r4,r5⟩:=HRX.out
     have lz:=lt_of_block (zm hok)
     exact ⟨z0.grown g2 (by simp only [ne_eq,Option.some.injEq];omega),z1.grown g2 (by simp only [ne_eq,Option.some.injEq];omega),zS.grown g2 (by simp only [ne_eq,Option.some.injEq];omega),(g2.block _ lz (by simp only [ne_eq,Option.some.injEq];omega)).trans (zm hok),(hb2.cell (p:=⟨2,0,none⟩) hg0).trans hg,⟨r2.below hb2,r4.below hb2,r5.below hb2⟩,hb2⟩
   have l2S:gS < w2.heap.size:=HK2a.out.2.2.1.lt
   obtain ⟨U2,hU2⟩:∃ C,C = opU master tow:=⟨_,rfl⟩
   obtain ⟨G2,hG2⟩:∃ C,C = opG master tow:=⟨_,rfl⟩
   obtain ⟨T,hT⟩:∃ C,C = unkeyN master tow:=⟨_,rfl⟩
   rw [← hU2,← hG2,← hT] at hent2
   rw [← hU2,← hG2]
   clear q0 q1 qS q2 sn rmx rtx hbx c3 lx HR2 HK1 bz g2 hHeld keep
   obtain ⟨W2,hW2⟩:∃ x,x = w2.alloc (.cells #[.int .i64 U2,.int .i64 G2] 62):=⟨_,rfl⟩
   have kS2:Blk W2 w2.heap.size 62 [.int .i64 U2,.int .i64 G2]:=by rw [hW2];exact Blk.new _ _ _
   have b22:Below w2.heap.size w2 W2:=by rw [hW2];exact below_new _ _
   have HK2:Hid (∀ {x},Below W2.heap.size W2 x → Blk x w.heap.size 24 [.slice af nf cf,.int .i64 ff,.slice ak nk ck,.slice at_ nt ct,.int .i64 tf,.slice ab nb cb,.string pan,.slice ad nd cd] ∧ Blk x (w.heap.size + 1) 28 zeroMv ∧ Blk x gS 62 [.int .i64 U,.int .i64 G] ∧ x.heap[(w.heap.size + 1 + 1)]? = some (oneEntry U G (.agg (K.map byte).toArray)) ∧ Blk x w2.heap.size 62 [.int .i64 U2,.int .i64 G2] ∧ (okO master tow = true → x.heap[(w.heap.size + 1 + 1 + 1)]? = some (oneEntry U2 G2 (.agg (T.map byte).toArray))) ∧ x.cell? ⟨2,0,none⟩ = some (.iface u pv) ∧ (RowAt x ak ksn ∧ RowAt x ab block ∧ RowAt x ad draws) ∧ Below w.heap.size w x):=by
     intro x hx
     have h1:Below w2.heap.size w2 x:=b22.trans (hx.mono b22.size)
     obtain ⟨z0,z1,zS,zm,zg,⟨zk,zb,zd⟩,zz⟩:=HK2a.out
     have hb:Below w.heap.size w x:=zz.trans (h1.mono zz.size)
     exact ⟨z0.below h1 z0.lt,z1.below h1 z1.lt,zS.below h1 zS.lt,map_below zm h1,kS2.below hx kS2.lt,fun h=>map_below (hent2 h) h1,(hb.cell (p:=⟨2,0,none⟩) hg0).trans hg,⟨zk.below h1,zb.below h1,zd.below h1⟩,hb⟩
   have l2:w2.heap.size < W2.heap.size:=kS2.lt
   obtain ⟨gT,hgT⟩:∃ x,x = w2.heap.size:=⟨_,rfl⟩
   have HW2:=hide hW2
   rw [← hgT] at HK2 l2 l2S
   have HgT:=hide hgT
   clear HK2a kS2 b22 hent2 hgT
   by_cases hU1:U2 = 1
   · subst hU1
     have hokt:okO master tow = true:=by
       rcases opU_cases master tow with ⟨-,h⟩ | ⟨h,-⟩
       · rw [h] at hU2;exact absurd hU2 (by decide)
       · exact h
     have hTl:=(opKey_ok hokt).2
     rw [← hT] at hTl
     have hTm:(T.map byte).length = 16:=by rw [List.length_map,hTl]
     have htt:trT master tow = true:=by unfold trT;rw [hokt,← hU2];rfl
     rw [htt] at HC HL HU
     simp only [if_true] at HC HL HU
     rw [← hT] at HL HMV
     clear hU2 hG2 hT htt hW2
     go_upto_region 9 with fail
     rw [← show W2 = _ from HW2,← show gT = _ from HgT]
     clear HW2 HgT
     have hKl:=HKL.out hok
     obtain ⟨CK,fit,hCm,hC1,hft,hCK,HZ,HSs⟩:∃ (CK:List Value) (fit:Bool),CK.length = 16 ∧ CK.toArray.all (·.oneCell') = true ∧ fit = fitK U ksn ∧ (fit = true → CK = KT.map byte) ∧ Hid (U = 1 → ∀ wx:World,Calls Tryz.prog 63 #[.agg ([.slice af nf cf,.int .i64 ff,.slice ak nk ck,.slice at_ nt ct,.int .i64 tf,.slice ab nb cb,.string pan,.slice ad nd cd]:List Value).toArray,.agg (K.map byte).toArray] wx fun e w'=>e = .returned (.tuple #[.agg CK.toArray,.bool fit]) ∧ Below wx.heap.size wx w') ∧ Hid (U = 3 → ∀ wx:World,RowAt wx ak ksn → Calls Tryz.prog 64 #[.agg ([.slice af nf cf,.int .i64 ff,.slice ak nk ck,.slice at_ nt ct,.int .i64 tf,.slice ab nb cb,.string pan,.slice ad nd cd]:List Value).toArray,.agg (K.map byte).toArray] wx fun e w'=>e = .returned (.tuple #[.agg CK.toArray,.bool fit]) ∧ Below wx.heap.size wx w'):=by
       have hkt:=HKT.out U HUe.out
       rcases HFV.out with ⟨h,-⟩ | ⟨-,⟨h,-⟩ | ⟨h,-⟩⟩
       · cases h
       · refine ⟨K.map byte,decide (nk = 0),by rw [List.length_map,hKl],allOne_bytes K,?_,fun _=>?_,fun _ wx=>HZN.out hKl wx,fun h3=>by omega⟩
         · rw [HFT.out U,h];simp
         · rw [hkt,if_neg (by omega)]
       · refine ⟨if nk = 10 then (variantL (keyL K ksn) 1).map byte else zerosOf 16 .u8,decide (nk = 10),?_,?_,?_,fun hf=>?_,fun h3=>by omega,fun _ wx h2=>HSR.out hKl wx h2⟩
         · by_cases h10:nk = 10
           · have ht:=HTK.out hok (by rw [HFT.out U,h];simp [h10])
             rw [if_pos h10,List.length_map,← ht,hkt,if_pos h]
           · rw [if_neg h10];exact zerosOf_length _ _
         · by_cases h10:nk = 10
           · rw [if_pos h10];exact allOne_bytes _
           · rw [if_neg h10];kernel_rfl
         · rw [HFT.out U,h];simp
         · rw [if_pos (of_decide_eq_true hf),hkt,if_pos h]
     rw [← hft] at HC HL HU
     have HTL:Hid (fit = true → KT.length = 16):=fun h=>HTK.out hok (by rw [← hft];exact h)
     clear hft HZN HSR HKT HTK HFT hKl
     have hKm:True:=trivial
     go_cut [10,11] (fun p b wx=>∃ Gk,p = .pointer (some ⟨Gk,0,none⟩) ∧ b = .bool fit ∧ W2.heap.size ≤ Gk ∧ Blk wx Gk 67 CK ∧ Below W2.heap.size W2 wx)
     case first =>
       obtain ⟨V,hV⟩:∃ V,V = World.drew W2:=⟨_,rfl⟩
       have b_0:Below W2.heap.size W2 V:=by rw [hV];exact (Below.refl _ _).drew
       have keep:Hid (∀ {x},Below W2.heap.size W2 x → x.rangeAt w.heap.size 0 [.slice af nf cf,.int .i64 ff,.slice ak nk ck,.slice at_ nt ct,.int .i64 tf,.slice ab nb cb,.string pan,.slice ad nd cd] ∧ x.rangeAt gS 0 [.int .i64 U,.int .i64 G] ∧ x.heap[(w.heap.size + 1 + 1)]? = some (oneEntry U G (.agg (K.map byte).toArray))):=fun h=>⟨blk_whole (HK2.out h).1,blk_whole (HK2.out h).2.2.1,(HK2.out h).2.2.2.1⟩
       have hlk:=fun (wx:World) (h:wx.heap[(w.heap.size + 1 + 1)]? = some (oneEntry U G (.agg (K.map byte).toArray)))=>run_look (w.heap.size + 1 + 1) U G (.agg (K.map byte).toArray) wx h
       refine wp_region_held_drew (S:=fun x=>x.rangeAt w.heap.size 0 [.slice af nf cf,.int .i64 ff,.slice ak nk ck,.slice at_ nt ct,.int .i64 tf,.slice ab nb cb,.string pan,.slice ad nd cd] ∧ x.rangeAt gS 0 [.int .i64 U,.int .i64 G] ∧ x.heap[(w.heap.size + 1 + 1)]? = some (oneEntry U G (.agg (K.map byte).toArray))) (by kernel_rfl) (by rw [← hV];exact keep.out b_0) (fun hHeld=>?_)
       rw [← hV] at hHeld ⊢
       clear hV
       rcases HFV.out with ⟨h,-⟩ | ⟨-,⟨hU1,hFe⟩ | ⟨hU3,hFe⟩⟩
       · cases h
       · have HZ1:=hide (HZ.out hU1)
         subst hFe
         clear hU1
         refine tk (i:=0) (v:=(.func (.func 63) #[] #[])) rfl (Or.inl ⟨by rfl,?_⟩) hHeld ?_
         · intro _ _;go_simp
         dsimp only [Act.put,List.getElem_toArray,List.getElem_cons_zero,List.getElem_cons_succ]
         simp only [List.setIfInBounds_toArray,List.set_cons_succ,List.set_cons_zero]
         refine tk (i:=1) (v:=(.agg ([.slice af nf cf,.int .i64 ff,.slice ak nk ck,.slice at_ nt ct,.int .i64 tf,.slice ab nb cb,.string pan,.slice ad nd cd]:List Value).toArray)) rfl (yieldsIf_load_mid (by rfl) 24 _ rfl w.heap.size 0 rfl ([.slice af nf cf,.int .i64 ff,.slice ak nk ck,.slice at_ nt ct,.int .i64 tf,.slice ab nb cb,.string pan,.slice ad nd cd]) _ (fun _ h=>h.1) Tryz.underlying24 rfl (by kernel_rfl)) hHeld ?_
         try dsimp only [Act.put]
         refine tk (i:=2) (v:=(.map (some (w.heap.size + 1 + 1)))) rfl (Or.inl ⟨by rfl,?_⟩) hHeld ?_
         · intro _ _;go_simp
         dsimp only [Act.put,List.getElem_toArray,List.getElem_cons_zero,List.getElem_cons_succ]
         simp only [List.setIfInBounds_toArray,List.set_cons_succ,List.set_cons_zero]
         refine tk (i:=3) (v:=(.agg ([.int .i64 U,.int .i64 G]:List Value).toArray)) rfl (yieldsIf_load_mid (by rfl) 62 _ rfl gS 0 rfl ([.int .i64 U,.int .i64 G]) _ (fun _ h=>h.2.1) Tryz.underlying62 rfl (by kernel_rfl)) hHeld ?_
         try dsimp only [Act.put]
         refine tk (i:=4) (v:=(.agg (K.map byte).toArray)) rfl (Or.inl ⟨by rfl,fun w1 h=>by have hc:=hlk w1 h.2.2;go_simp⟩) hHeld ?_
         dsimp only [Act.put,List.getElem_toArray,List.getElem_cons_zero,List.getElem_cons_succ]
         simp only [List.setIfInBounds_toArray,List.set_cons_succ,List.set_cons_zero]
         refine wpAnyH_ready (rs:=[5,9]) (by kernel_rfl) (by simp) ?_
         refine AllReadyH.cons rfl (fun KQ hK=>?_) (AllReadyH.cons rfl (fun KQ hK=>?_) (AllReadyH.nil))
         · go_simp
           refine (HZ1.out _).mono ?_
           rintro e w_1 ⟨rfl,bel_1⟩
           have b_1:=b_0.trans (bel_1.mono (by have:=b_0.size;omega))
           go_wp2_with fail
           refine hK.out _ _ (keep.out b_1) (fun hHeld=>?_)
           clear hK KQ
           try dsimp only [Act.put]
           refine tk (i:=6) (v:=(.tuple #[.agg CK.toArray,.bool fit])) rfl (Or.inl ⟨by rfl,?_⟩) hHeld ?_
           · intro _ _;go_simp
           try dsimp only [Act.put]
           refine tk (i:=7) (v:=(.agg CK.toArray)) rfl (Or.inl ⟨by rfl,?_⟩) hHeld ?_
           · intro _ _;go_simp
           dsimp only [Act.put,List.getElem_toArray,List.getElem_cons_zero,List.getElem_cons_succ]
           simp only [List.setIfInBounds_toArray,List.set_cons_succ,List.set_cons_zero]
           refine tk (i:=8) (v:=(.bool fit)) rfl (Or.inl ⟨by rfl,?_⟩) hHeld ?_
           · intro _ _;go_simp
           try dsimp only [Act.put]
           refine rdy1 9 (fun KQ hK=>?_)
           go_simp
           obtain ⟨w_2,hw_2⟩:∃ x,x = World.alloc w_1 (.cells ((zerosOf 16 .u8)).toArray 67):=⟨_,rfl⟩
           have bel_2:Below w_1.heap.size w_1 w_2:=by rw [hw_2];exact below_new _ _
           have G_2:Blk w_2 w_1.heap.size 67 ((zerosOf 16 .u8)):=by rw [hw_2];exact Blk.new _ _ _
           have le_G_2:=b_1.size
           have lt_G_2:=G_2.lt
           have b_2:=below_step b_1 bel_2
           rw [← hw_2]
           clear hw_2
           refine hK.out _ _ (keep.out b_2) (fun hHeld=>?_)
           clear hK KQ
           try dsimp only [Act.put]
           refine rdy1 10 (fun KQ hK=>?_)
           rw [if_pos (by rfl)]
           refine wp_store_blk rfl 67 _ _ rfl w_1.heap.size rfl rfl G_2 (by rw [hCm];kernel_rfl) (by rw [hCm];exact zerosOf_length _ _) hC1 ?_
           have G_3:=Blk.setRow G_2 (CK)
           have b_3:=below_setRow' (g:=w_1.heap.size) b_2 le_G_2 (CK).toArray
           refine hK.out _ _ (keep.out b_3) (fun hHeld=>?_)
           clear hK KQ
           try dsimp only [Act.put]
           refine rdy1 11 (fun KQ hK=>?_)
           go_simp
           refine hK.out _ _ (keep.out b_3) (fun hHeld=>?_)
           clear hK KQ
           try dsimp only [Act.put]
           refine wpAnyH_done (by kernel_rfl) ?_ _
           go_wp2_with fail
           go_meet
           case rel=>exact ⟨_,rfl,rfl,le_G_2,G_3,b_3⟩
         · go_simp
           obtain ⟨w_5,hw_5⟩:∃ x,x = World.alloc V (.cells ((zerosOf 16 .u8)).toArray 67):=⟨_,rfl⟩
           have bel_5:Below V.heap.size V w_5:=by rw [hw_5];exact below_new _ _
           have G_5:Blk w_5 V.heap.size 67 ((zerosOf 16 .u8)):=by rw [hw_5];exact Blk.new _ _ _
           have le_G_5:=b_0.size
           have lt_G_5:=G_5.lt
           have b_5:=below_step b_0 bel_5
           rw [← hw_5]
           clear hw_5
           refine hK.out _ _ (keep.out b_5) (fun hHeld=>?_)
           clear hK KQ
           try dsimp only [Act.put]
           refine rdy1 5 (fun KQ hK=>?_)
           go_simp
           refine (HZ1.out _).mono ?_
           rintro e w_6 ⟨rfl,bel_6⟩
           have G_6:=G_5.below bel_6 G_5.lt
           have b_6:=b_5.trans (bel_6.mono (by have:=b_5.size;omega))
           go_wp2_with fail
           refine hK.out _ _ (keep.out b_6) (fun hHeld=>?_)
           clear hK KQ
           try dsimp only [Act.put]
           refine tk (i:=6) (v:=(.tuple #[.agg CK.toArray,.bool fit])) rfl (Or.inl ⟨by rfl,?_⟩) hHeld ?_
           · intro _ _;go_simp
           dsimp only [Act.put,List.getElem_toArray,List.getElem_cons_zero,List.getElem_cons_succ]
           simp only [List.setIfInBounds_toArray,List.set_cons_succ,List.set_cons_zero]
           refine tk (i:=7) (v:=(.agg CK.toArray)) rfl (Or.inl ⟨by rfl,?_⟩) hHeld ?_
           · intro _ _;go_simp
           try dsimp only [Act.put]
           refine tk (i:=8) (v:=(.bool fit)) rfl (Or.inl ⟨by rfl,?_⟩) hHeld ?_
           · intro _ _;go_simp
           dsimp only [Act.put,List.getElem_toArray,List.getElem_cons_zero,List.getElem_cons_succ]
           simp only [List.setIfInBounds_toArray,List.set_cons_succ,List.set_cons_zero]
           refine rdy1 10 (fun KQ hK=>?_)
           rw [if_pos (by rfl)]
           refine wp_store_blk rfl 67 _ _ rfl V.heap.size rfl rfl G_6 (by rw [hCm];kernel_rfl) (by rw [hCm];exact zerosOf_length _ _) hC1 ?_
           have G_7:=Blk.setRow G_6 (CK)
           have b_7:=below_setRow' (g:=V.heap.size) b_6 le_G_5 (CK).toArray
           refine hK.out _ _ (keep.out b_7) (fun hHeld=>?_)
           clear hK KQ
           try dsimp only [Act.put]
           refine rdy1 11 (fun KQ hK=>?_)
           go_simp
           refine hK.out _ _ (keep.out b_7) (fun hHeld=>?_)
           clear hK KQ
           try dsimp only [Act.put]
           refine wpAnyH_done (by kernel_rfl) ?_ _
           go_wp2_with fail
           go_meet
           case rel=>exact ⟨_,rfl,rfl,le_G_5,G_7,b_7⟩
       · have HZ3:=hide (HSs.out hU3)
         subst hFe
         clear hU3
         refine tk (i:=0) (v:=(.func (.func 64) #[] #[])) rfl (Or.inl ⟨by rfl,?_⟩) hHeld ?_
         · intro _ _;go_simp
         try dsimp only [Act.put]
         refine tk (i:=1) (v:=(.agg ([.slice af nf cf,.int .i64 ff,.slice ak nk ck,.slice at_ nt ct,.int .i64 tf,.slice ab nb cb,.string pan,.slice ad nd cd]:List Value).toArray)) rfl (yieldsIf_load_mid (by rfl) 24 _ rfl w.heap.size 0 rfl ([.slice af nf cf,.int .i64 ff,.slice ak nk ck,.slice at_ nt ct,.int .i64 tf,.slice ab nb cb,.string pan,.slice ad nd cd]) _ (fun _ h=>h.1) Tryz.underlying24 rfl (by kernel_rfl)) hHeld ?_
         dsimp only [Act.put,List.getElem_toArray,List.getElem_cons_zero,List.getElem_cons_succ]
         simp only [List.setIfInBounds_toArray,List.set_cons_succ,List.set_cons_zero]
         refine tk (i:=2) (v:=(.map (some (w.heap.size + 1 + 1)))) rfl (Or.inl ⟨by rfl,?_⟩) hHeld ?_
         · intro _ _;go_simp
         try dsimp only [Act.put]
         refine tk (i:=3) (v:=(.agg ([.int .i64 U,.int .i64 G]:List Value).toArray)) rfl (yieldsIf_load_mid (by rfl) 62 _ rfl gS 0 rfl ([.int .i64 U,.int .i64 G]) _ (fun _ h=>h.2.1) Tryz.underlying62 rfl (by kernel_rfl)) hHeld ?_
         dsimp only [Act.put,List.getElem_toArray,List.getElem_cons_zero,List.getElem_cons_succ]
         simp only [List.setIfInBounds_toArray,List.set_cons_succ,List.set_cons_zero]
         refine tk (i:=4) (v:=(.agg (K.map byte).toArray)) rfl (Or.inl ⟨by rfl,fun w1 h=>by have hc:=hlk w1 h.2.2;go_simp⟩) hHeld ?_
         try dsimp only [Act.put]
         refine wpAnyH_ready (rs:=[5,9]) (by kernel_rfl) (by simp) ?_
         refine AllReadyH.cons rfl (fun KQ hK=>?_) (AllReadyH.cons rfl (fun KQ hK=>?_) (AllReadyH.nil))
         · go_simp
           refine (HZ3.out _ (HK2.out b_0).2.2.2.2.2.2.2.1.1).mono ?_
           rintro e w_1 ⟨rfl,bel_1⟩
           have b_1:=b_0.trans (bel_1.mono (by have:=b_0.size;omega))
           go_wp2_with fail
           refine hK.out _ _ (keep.out b_1) (fun hHeld=>?_)
           clear hK KQ
           try dsimp only [Act.put]
           refine tk (i:=6) (v:=(.tuple #[.agg CK.toArray,.bool fit])) rfl (Or.inl ⟨by rfl,?_⟩) hHeld ?_
           · intro _ _;go_simp
           dsimp only [Act.put,List.getElem_toArray,List.getElem_cons_zero,List.getElem_cons_succ]
           simp only [List.setIfInBounds_toArray,List.set_cons_succ,List.set_cons_zero]
           refine tk (i:=7) (v:=(.agg CK.toArray)) rfl (Or.inl ⟨by rfl,?_⟩) hHeld ?_
           · intro _ _;go_simp
           try dsimp only [Act.put]
           refine tk (i:=8) (v:=(.bool fit)) rfl (Or.inl ⟨by rfl,?_⟩) hHeld ?_
           · intro _ _;go_simp
           dsimp only [Act.put,List.getElem_toArray,List.getElem_cons_zero,List.getElem_cons_succ]
           simp only [List.setIfInBounds_toArray,List.set_cons_succ,List.set_cons_zero]
           refine rdy1 9 (fun KQ hK=>?_)
           go_simp
           obtain ⟨w_2,hw_2⟩:∃ x,x = World.alloc w_1 (.cells ((zerosOf 16 .u8)).toArray 67):=⟨_,rfl⟩
           have bel_2:Below w_1.heap.size w_1 w_2:=by rw [hw_2];exact below_new _ _
           have G_2:Blk w_2 w_1.heap.size 67 ((zerosOf 16 .u8)):=by rw [hw_2];exact Blk.new _ _ _
           have le_G_2:=b_1.size
           have lt_G_2:=G_2.lt
           have b_2:=below_step b_1 bel_2
           rw [← hw_2]
           clear hw_2
           refine hK.out _ _ (keep.out b_2) (fun hHeld=>?_)
           clear hK KQ
           try dsimp only [Act.put]
           refine rdy1 10 (fun KQ hK=>?_)
           rw [if_pos (by rfl)]
           refine wp_store_blk rfl 67 _ _ rfl w_1.heap.size rfl rfl G_2 (by rw [hCm];kernel_rfl) (by rw [hCm];exact zerosOf_length _ _) hC1 ?_
           have G_3:=Blk.setRow G_2 (CK)
           have b_3:=below_setRow' (g:=w_1.heap.size) b_2 le_G_2 (CK).toArray
           refine hK.out _ _ (keep.out b_3) (fun hHeld=>?_)
           clear hK KQ
           try dsimp only [Act.put]
           refine rdy1 11 (fun KQ hK=>?_)
           go_simp
           refine hK.out _ _ (keep.out b_3) (fun hHeld=>?_)
           clear hK KQ
           try dsimp only [Act.put]
           refine wpAnyH_done (by kernel_rfl) ?_ _
           go_wp2_with fail
           go_meet
           case rel=>exact ⟨_,rfl,rfl,le_G_2,G_3,b_3⟩
         · go_simp
           obtain ⟨w_5,hw_5⟩:∃ x,x = World.alloc V (.cells ((zerosOf 16 .u8)).toArray 67):=⟨_,rfl⟩
           have bel_5:Below V.heap.size V w_5:=by rw [hw_5];exact below_new _ _
           have G_5:Blk w_5 V.heap.size 67 ((zerosOf 16 .u8)):=by rw [hw_5];exact Blk.new _ _ _
           have le_G_5:=b_0.size
           have lt_G_5:=G_5.lt
           have b_5:=below_step b_0 bel_5
           rw [← hw_5]
           clear hw_5
           refine hK.out _ _ (keep.out b_5) (fun hHeld=>?_)
           clear hK KQ
           try dsimp only [Act.put]
           refine rdy1 5 (fun KQ hK=>?_)
           go_simp
           refine (HZ3.out _ (HK2.out b_5).2.2.2.2.2.2.2.1.1).mono ?_
           rintro e w_6 ⟨rfl,bel_6⟩
           have G_6:=G_5.below bel_6 G_5.lt
           have b_6:=b_5.trans (bel_6.mono (by have:=b_5.size;omega))
           go_wp2_with fail
           refine hK.out _ _ (keep.out b_6) (fun hHeld=>?_)
           clear hK KQ
           try dsimp only [Act.put]
           refine tk (i:=6) (v:=(.tuple #[.agg CK.toArray,.bool fit])) rfl (Or.inl ⟨by rfl,?_⟩) hHeld ?_
           · intro _ _;go_simp
           try dsimp only [Act.put]
           refine tk (i:=7) (v:=(.agg CK.toArray)) rfl (Or.inl ⟨by rfl,?_⟩) hHeld ?_
           · intro _ _;go_simp
           dsimp only [Act.put,List.getElem_toArray,List.getElem_cons_zero,List.getElem_cons_succ]
           simp only [List.setIfInBounds_toArray,List.set_cons_succ,List.set_cons_zero]
           refine tk (i:=8) (v:=(.bool fit)) rfl (Or.inl ⟨by rfl,?_⟩) hHeld ?_
           · intro _ _;go_simp
           try dsimp only [Act.put]
           refine rdy1 10 (fun KQ hK=>?_)
           rw [if_pos (by rfl)]
           refine wp_store_blk rfl 67 _ _ rfl V.heap.size rfl rfl G_6 (by rw [hCm];kernel_rfl) (by rw [hCm];exact zerosOf_length _ _) hC1 ?_
           have G_7:=Blk.setRow G_6 (CK)
           have b_7:=below_setRow' (g:=V.heap.size) b_6 le_G_5 (CK).toArray
           refine hK.out _ _ (keep.out b_7) (fun hHeld=>?_)
           clear hK KQ
           try dsimp only [Act.put]
           refine rdy1 11 (fun KQ hK=>?_)
           go_simp
           refine hK.out _ _ (keep.out b_7) (fun hHeld=>?_)
           clear hK KQ
           try dsimp only [Act.put]
           refine wpAnyH_done (by kernel_rfl) ?_ _
           go_wp2_with fail
           go_meet
           case rel=>exact ⟨_,rfl,rfl,le_G_5,G_7,b_7⟩
     case rest =>
       obtain ⟨Gk,rfl,rfl,lGk,kGk,bc⟩:=hcut
       cases hft:fit with
       | false =>
         rw [hft] at HC HL HU
         simp only [Bool.false_eq_true,if_false] at HC HL HU
         subst hft
         obtain ⟨-,q1,-,-,-,-,-,-,hb⟩:=HK2.out bc
         clear kGk bc
         go_wp2_with (refine store_blk rfl 28 _ _ rfl (w.heap.size + 1) rfl rfl q1 (by kernel_rfl) rfl (by kernel_rfl) ?_;intro w7 hb7 hg7 hs7)
         exact ⟨rfl,_,results_blk Tryz.results6 _ _ rfl hb7 Tryz.underlying28 rfl (by kernel_rfl),⟨_,by rw [HC.out,HU.out],by rw [HL.out];exact own_nil _ _,hb.grown hg7 hb.size (by intro k hk;cases hk;omega)⟩⟩
       | true =>
         rw [hft] at HC HL HU
         simp only [if_true] at HC HL HU
         have hKTl:=HTL.out hft
         obtain rfl:=hCK hft
         subst hft
         obtain ⟨k0,k1,kS,-,kT,hm2,hgc,⟨-,rbc,rdc⟩,hbc⟩:=HK2.out bc
         have hm2:=hm2 hokt
         go_upto_region 12 with fail
         obtain ⟨V,hV⟩:∃ V,V = World.drew wc:=⟨_,rfl⟩
         have kV0:Blk V w.heap.size 24 [.slice af nf cf,.int .i64 ff,.slice ak nk ck,.slice at_ nt ct,.int .i64 tf,.slice ab nb cb,.string pan,.slice ad nd cd]:=by rw [hV];exact k0.drew1
         have kV1:Blk V (w.heap.size + 1) 28 zeroMv:=by rw [hV];exact k1.drew1
         have kVT:Blk V gT 62 [.int .i64 1,.int .i64 G2]:=by rw [hV];exact kT.drew1
         have kVk:Blk V Gk 67 (KT.map byte):=by rw [hV];exact kGk.drew1
         have mV:V.heap[(w.heap.size + 1 + 1 + 1)]? = some (oneEntry 1 G2 (.agg (T.map byte).toArray)):=by rw [hV];exact hm2
         have gV:V.cell? ⟨2,0,none⟩ = some (.iface u pv):=by rw [hV];exact hgc
         have rbV:RowAt V ab block:=by rw [hV];exact rbc.drew1
         have rdV:RowAt V ad draws:=by rw [hV];exact rdc.drew1
         have bV:Below w.heap.size w V:=by rw [hV];exact hbc.drew
         have b_0:Below V.heap.size V V:=Below.refl _ _
         have hlk:=fun (wx:World) (h:wx.heap[(w.heap.size + 1 + 1 + 1)]? = some (oneEntry 1 G2 (.agg (T.map byte).toArray)))=>run_look (w.heap.size + 1 + 1 + 1) 1 G2 (.agg (T.map byte).toArray) wx h
         have keep:Hid (∀ {P:Prop},P → P):=fun h=>h
         have s0:V.rangeAt w.heap.size 0 [.slice af nf cf,.int .i64 ff,.slice ak nk ck,.slice at_ nt ct,.int .i64 tf,.slice ab nb cb,.string pan,.slice ad nd cd] ∧ V.rangeAt Gk 0 (KT.map byte) ∧ V.rangeAt gT 0 [.int .i64 1,.int .i64 G2] ∧ V.heap[(w.heap.size + 1 + 1 + 1)]? = some (oneEntry 1 G2 (.agg (T.map byte).toArray)):=⟨blk_whole kV0,blk_whole kVk,blk_whole kVT,mV⟩
         have lk:=kVk.lt
         have lgT:=kVT.lt
         have l0:=kV1.lt
         have l3:=lt_of_block mV
         refine wp_region_held_drew (S:=fun x=>x.rangeAt w.heap.size 0 [.slice af nf cf,.int .i64 ff,.slice ak nk ck,.slice at_ nt ct,.int .i64 tf,.slice ab nb cb,.string pan,.slice ad nd cd] ∧ x.rangeAt Gk 0 (KT.map byte) ∧ x.rangeAt gT 0 [.int .i64 1,.int .i64 G2] ∧ x.heap[(w.heap.size + 1 + 1 + 1)]? = some (oneEntry 1 G2 (.agg (T.map byte).toArray))) (by kernel_rfl) (by rw [← hV];exact s0) (fun hHeld=>?_)
         rw [← hV] at hHeld ⊢
         clear hV k0 k1 kS kT kGk hm2 hgc rbc rdc hbc bc
         refine tk (i:=0) (v:=(.agg ([.slice af nf cf,.int .i64 ff,.slice ak nk ck,.slice at_ nt ct,.int .i64 tf,.slice ab nb cb,.string pan,.slice ad nd cd]:List Value).toArray)) rfl (yieldsIf_load_mid (by rfl) 24 _ rfl w.heap.size 0 rfl ([.slice af nf cf,.int .i64 ff,.slice ak nk ck,.slice at_ nt ct,.int .i64 tf,.slice ab nb cb,.string pan,.slice ad nd cd]) _ (fun _ h=>h.1) Tryz.underlying24 rfl (by kernel_rfl)) hHeld ?_
         dsimp only [Act.put,List.getElem_toArray,List.getElem_cons_zero,List.getElem_cons_succ]
         simp only [List.setIfInBounds_toArray,List.set_cons_succ,List.set_cons_zero]
         refine tk (i:=1) (v:=(.agg (KT.map byte).toArray)) rfl (yieldsIf_load_mid (by rfl) 67 _ rfl Gk 0 rfl (KT.map byte) _ (fun _ h=>h.2.1) Tryz.underlying67 rfl (by rw [hCm];kernel_rfl)) hHeld ?_
         try dsimp only [Act.put]
         refine tk (i:=2) (v:=(.map (some (w.heap.size + 1 + 1 + 1)))) rfl (Or.inl ⟨by rfl,?_⟩) hHeld ?_
         · intro _ _;go_simp
         dsimp only [Act.put,List.getElem_toArray,List.getElem_cons_zero,List.getElem_cons_succ]
         simp only [List.setIfInBounds_toArray,List.set_cons_succ,List.set_cons_zero]
         refine tk (i:=3) (v:=(.agg ([.int .i64 1,.int .i64 G2]:List Value).toArray)) rfl (yieldsIf_load_mid (by rfl) 62 _ rfl gT 0 rfl ([.int .i64 1,.int .i64 G2]) _ (fun _ h=>h.2.2.1) Tryz.underlying62 rfl (by kernel_rfl)) hHeld ?_
         try dsimp only [Act.put]
         refine tk (i:=4) (v:=(.agg (T.map byte).toArray)) rfl (Or.inl ⟨by rfl,fun w1 h=>by have hc:=hlk w1 h.2.2.2;go_simp⟩) hHeld ?_
         dsimp only [Act.put,List.getElem_toArray,List.getElem_cons_zero,List.getElem_cons_succ]
         simp only [List.setIfInBounds_toArray,List.set_cons_succ,List.set_cons_zero]
         refine rdy1 5 (fun KQ hK=>?_)
         go_simp
         refine (HMV.out hKTl hTl V gV rbV rdV).mono ?_
         rintro e w_1 ⟨v_1,rfl,own_1,bel_1⟩
         have b_1:=b_0.trans (bel_1.mono (by have:=b_0.size;omega))
         obtain ⟨aV,cV,rfl,-,-,-,-⟩:=own_1.shape
         have x0':=kV0.below bel_1 kV0.lt
         have xk:=kVk.below bel_1 lk
         have xT:=kVT.below bel_1 lgT
         have xm:=map_below mV bel_1
         have x1':=kV1.below bel_1 l0
         have s1:w_1.rangeAt w.heap.size 0 [.slice af nf cf,.int .i64 ff,.slice ak nk ck,.slice at_ nt ct,.int .i64 tf,.slice ab nb cb,.string pan,.slice ad nd cd] ∧ w_1.rangeAt Gk 0 (KT.map byte) ∧ w_1.rangeAt gT 0 [.int .i64 1,.int .i64 G2] ∧ w_1.heap[(w.heap.size + 1 + 1 + 1)]? = some (oneEntry 1 G2 (.agg (T.map byte).toArray)):=⟨blk_whole x0',blk_whole xk,blk_whole xT,xm⟩
         go_wp2_with fail
         refine hK.out _ _ (keep.out s1) (fun hHeld=>?_)
         clear hK KQ
         try dsimp only [Act.put]
         refine rdy1 6 (fun KQ hK=>?_)
         rw [if_pos (by rfl)]
         refine wp_store_blk rfl 28 _ _ rfl (w.heap.size + 1) rfl rfl x1' (by kernel_rfl) rfl (by kernel_rfl) ?_
         have kz:=Blk.setRow x1' ([.int .i64 (mvC KT block draws ff tf pan),.slice aV (mvL KT T block draws ff tf pan).length cV,.int .i64 (mvU KT block draws ff tf pan)])
         have s2:(World.setRow w_1 (w.heap.size + 1) ([.int .i64 (mvC KT block draws ff tf pan),.slice aV (mvL KT T block draws ff tf pan).length cV,.int .i64 (mvU KT block draws ff tf pan)]:List Value).toArray).rangeAt w.heap.size 0 [.slice af nf cf,.int .i64 ff,.slice ak nk ck,.slice at_ nt ct,.int .i64 tf,.slice ab nb cb,.string pan,.slice ad nd cd] ∧ (World.setRow w_1 (w.heap.size + 1) ([.int .i64 (mvC KT block draws ff tf pan),.slice aV (mvL KT T block draws ff tf pan).length cV,.int .i64 (mvU KT block draws ff tf pan)]:List Value).toArray).rangeAt Gk 0 (KT.map byte) ∧ (World.setRow w_1 (w.heap.size + 1) ([.int .i64 (mvC KT block draws ff tf pan),.slice aV (mvL KT T block draws ff tf pan).length cV,.int .i64 (mvU KT block draws ff tf pan)]:List Value).toArray).rangeAt gT 0 [.int .i64 1,.int .i64 G2] ∧ (World.setRow w_1 (w.heap.size + 1) ([.int .i64 (mvC KT block draws ff tf pan),.slice aV (mvL KT T block draws ff tf pan).length cV,.int .i64 (mvU KT block draws ff tf pan)]:List Value).toArray).heap[(w.heap.size + 1 + 1 + 1)]? = some (oneEntry 1 G2 (.agg (T.map byte).toArray)):=⟨blk_whole (x0'.setRow_other (by omega)),blk_whole (xk.setRow_other (by omega)),blk_whole (xT.setRow_other (by omega)),(setRow_other _ _ _ _ (by omega)).trans xm⟩
         refine hK.out _ _ (keep.out s2) (fun hHeld=>?_)
         clear hK KQ
         try dsimp only [Act.put]
         refine wpAnyH_done (by kernel_rfl) ?_ _
         go_wp2_with fail
         exact ⟨rfl,_,results_blk Tryz.results6 _ _ rfl kz Tryz.underlying28 rfl (by kernel_rfl),⟨_,by rw [HC.out,HU.out],by rw [HL.out];exact own_base (own_1.grown (grown_setRow' _ _ _) (own_not own_1 (by omega))) (by have:=bV.size;omega),below_setRow' (bV.trans (bel_1.mono bV.size)) (by omega) _⟩⟩
   · have hUb:(U2 != 1) = true:=by rw [bne_iff_ne];exact hU1
     have htt:trT master tow = false:=by unfold trT;rw [← hU2,decide_eq_false hU1,Bool.and_false]
     rw [htt] at HC HL HU
     simp only [Bool.false_eq_true,if_false] at HC HL HU
     obtain ⟨-,q1,-,-,-,-,-,-,hb⟩:=HK2.out (Below.refl _ W2)
     rw [hW2] at q1 hb
     clear hU2 hG2 hT htt hW2 HW2 HgT
     go_wp2_with (refine store_blk rfl 28 _ _ rfl (w.heap.size + 1) rfl rfl q1 (by kernel_rfl) rfl (by kernel_rfl) ?_;intro w7 hb7 hg7 hs7)
     exact ⟨rfl,_,results_blk Tryz.results6 _ _ rfl hb7 Tryz.underlying28 rfl (by kernel_rfl),⟨_,by rw [HC.out,HU.out],by rw [HL.out];exact own_nil _ _,hb.grown hg7 hb.size (by intro k hk;cases hk;omega)⟩⟩
end Go.Proofs.YtoajfbkblpaejaaGreatDoor
