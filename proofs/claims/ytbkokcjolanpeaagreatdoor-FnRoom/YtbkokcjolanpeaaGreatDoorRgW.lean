import Derived.Test.YtbkokcjolanpeaaGreatDoorRgT
import Derived.Lib.SlBytesConst
import Derived.Test.YtbkokcjolanpeaaGreatDoorRgV
import Derived.Carry
import Derived.MapKept
import Derived.Laws.StructEq
import Derived.Stop.IfaceNil
import Derived.Test.YtbkokcjolanpeaaGreatDoorRgB
import Derived.Laws.CopyOwn
import Derived.WideShapes
import Derived.Deep.MidRow
import Derived.WalkSpells
import Derived.Lib.OthersKept
namespace Go.Proofs.YtbkokcjolanpeaaGreatDoor
open Go.RowKit
abbrev slotK (U G:Int):Value:=.agg #[.int .i64 U,.int .i64 G]
theorem check_slot (b:Bool) (U G:Int) (w:World):(Instr.checkKey b 10000 124 (slotK U G)).run Tryz.prog w = .ok () w:=by cases b <;> kernel_rfl
theorem find_none (U G:Int) (w:World):(Instr.findKey 124 (slotK U G) []).run Tryz.prog w = .ok none w:=by kernel_rfl
abbrev oneEntry (U G:Int) (v:Value):Obj:=.map #[{ key:=slotK U G,val:=v,born:=0 }] 1
theorem get_map {r clock:Nat} {es:Array MapEntry} {w:World} (hb:w.heap[r]? = some (.map es clock)):(getObj r).run Tryz.prog w = .ok (.map es clock) w:=by simp [getObj,Sem.run,hb]
theorem run_put (r:Nat) (U G:Int) (v:Value) (w:World) (hb:w.heap[r]? = some (.map #[] 0)) :
   (Instr.mapUpdate 122 (.map (some r)) (slotK U G) v).run Tryz.prog w = .ok () { w with heap:=w.heap.setIfInBounds r (oneEntry U G v) }:=by
 unfold Instr.mapUpdate
 rw [Sem.run_bind,run_underlying Tryz.underlying122 w]
 simp only [Result.andThen]
 rw [Sem.run_bind,get_map hb]
 simp only [Result.andThen]
 rw [Sem.run_bind,check_slot]
 simp only [Result.andThen]
 rw [Sem.run_bind,find_none]
 simp only [Result.andThen]
 simp [setObj,Sem.run,hb]
theorem find_one (U G:Int) (v:Value) (n:Nat) (w:World):(Instr.findKey 124 (slotK U G) [{ key:=slotK U G,val:=v,born:=n }]).run Tryz.prog w = .ok (some (0,v)) w:=by
 have hq:(Op.equal 124 (slotK U G) (slotK U G)).run Tryz.prog w = .ok true w:=by
   refine (show (Op.equal 124 (slotK U G) (slotK U G)).run Tryz.prog w = _ from run_equalIn_struct (P:=Tryz.prog) w 9999 124 #[.int .i64 U,.int .i64 G] #[.int .i64 U,.int .i64 G] (by kernel_rfl) (by kernel_rfl)).trans ?_
   have p0:(Go.part 3 #[.int .i64 U,.int .i64 G] 0).run Tryz.prog w = .ok (.int .i64 U) w:=by kernel_rfl
   have p1:(Go.part 3 #[.int .i64 U,.int .i64 G] 1).run Tryz.prog w = .ok (.int .i64 G) w:=by kernel_rfl
   have e0:=run_equalIn_int (P:=Tryz.prog) w 9998 3 .i64 .i64 U U Tryz.underlying3
   have e1:=run_equalIn_int (P:=Tryz.prog) w 9998 3 .i64 .i64 G G Tryz.underlying3
   simp [Program.fieldsOf,Tryz.underlying124,Op.eqFields,p0,p1,e0,e1]
 unfold Instr.findKey
 rw [Sem.run_bind,run_underlying Tryz.underlying124 w]
 simp only [Result.andThen,Instr.findNow,Instr.sameNow,Instr.findAsking]
 rw [Sem.run_bind,hq]
 rfl
theorem run_look (r:Nat) (U G:Int) (v:Value) (w:World) (hb:w.heap[r]? = some (oneEntry U G v)) :
   (Instr.lookup 122 (.map (some r)) (slotK U G) false).run Tryz.prog w = .ok v w:=by
 unfold Instr.lookup
 rw [Sem.run_bind,run_underlying Tryz.underlying122 w]
 simp only [Result.andThen]
 rw [Sem.run_bind,get_map hb]
 simp only [Result.andThen]
 rw [Sem.run_bind,Sem.run_pure]
 simp only [Result.andThen]
 rw [Sem.run_bind,check_slot]
 simp only [Result.andThen]
 rw [Sem.run_bind,find_one]
 rfl
theorem grown_new {w V w3:World} {r:Option Nat} {g:Nat} (h:w.grownBy V r) (k:V.grownBy w3 (some g)) (hg:w.heap.size ≤ g):w.grownBy w3 r :=
 ⟨k.os.trans h.os,k.tape.trans h.tape,k.output.trans h.output,Nat.le_trans h.size k.size,fun i hi hr=>(k.block i (Nat.lt_of_lt_of_le hi h.size) (by intro e;cases e;omega)).trans (h.block i hi hr)⟩
abbrev zeroSl:List Value:=[.int .i64 0,.int .i64 0]
theorem Tryz.zeroSl:(Tryz.prog.info? 124).map (fun i=>(i.zero,i.size)) = some (some (.agg zeroSl.toArray),2):=by kernel_rfl
theorem opKey_ok {master block:List UInt8} (h:okO master block = true):opKey master block = unkeyN master block ∧ (unkeyN master block).length = 16:=by
 have hf:=formOK_parts (Bool.and_eq_true_iff.1 h).1
 exact ⟨by unfold opKey;rw [h];rfl,unkeyN_length _ _ hf.1 hf.2.1⟩
set_option maxRecDepth 100000 in
set_option maxHeartbeats 2000000 in
theorem ring_no (master block:List UInt8) (am ab:Option Addr) (cm cb r:Nat) (x0 x1:Addr) (w:World) (hcb:block.length ≤ cb) (hs:Sents w x0 x1) (rm:RowAt w am master) (rb:RowAt w ab block) (hno:okO master block = false) :
   Calls Tryz.prog 56 #[.map (some r),.slice am master.length cm,.slice ab block.length cb] w fun e w'=>e = .returned (slotK 0 0) ∧ Below w.heap.size w w':=by
 have hz:=(zero_of_info Tryz.zeroSl).1
 have hzk:=(zero_of_info Tryz.zeroKI).1
 obtain ⟨W,hW⟩:∃ W,W = w.alloc (.cells zeroSl.toArray 124):=⟨_,rfl⟩
 have kW:Blk W w.heap.size 124 zeroSl:=by rw [hW];exact Blk.new w _ _
 have bW:Below w.heap.size w W:=by rw [hW];exact below_new _ _
 have lW:=kW.lt
 have HO:=hide (open_any master block am ab cm cb x0 x1 W hcb (hs.below bW) (rm.below bW) (rb.below bW))
 have hE:∃ T x,opErr x0 x1 master block = .iface T x:=by
   unfold okO at hno
   unfold opErr
   cases hf:formOK master block with
   | false=>exact ⟨_,_,rfl⟩
   | true =>
     rw [hf,Bool.true_and] at hno
     rw [hno]
     exact ⟨_,_,rfl⟩
 obtain ⟨tE,xE,hE⟩:=hE
 have hU:opU master block = 0:=by unfold opU;rw [hno];rfl
 have hG:opG master block = 0:=by unfold opG;rw [hno];rfl
 rw [hE,hU,hG] at HO
 obtain ⟨n,hn⟩:∃ n,n = master.length:=⟨_,rfl⟩
 obtain ⟨m,hm⟩:∃ n,n = block.length:=⟨_,rfl⟩
 rw [← hn,← hm] at HO ⊢
 clear hn hm hs rm rb hcb hno hE hU hG
 have hif:Tryz.prog.isIface 75 = true:=by kernel_rfl
 go_enter Tryz.func56,Tryz.ntmps56
 go_wp2_with fail
 rw [← hW]
 clear hW
 refine HO.out.mono ?_
 rintro e w1 ⟨v,rfl,own,bel⟩
 obtain ⟨a,c,rfl,-,-⟩:=own.shape
 have k1:=kW.below bel lW
 have b1:Below w.heap.size w w1:=bW.trans (bel.mono bW.size)
 have k2:=k1.alloc (.cells #[.int .i64 0,.int .i64 0,.slice a (opKey master block).length c] 55)
 have b2:Below w.heap.size w (w1.alloc (.cells #[.int .i64 0,.int .i64 0,.slice a (opKey master block).length c] 55)):=b1.alloc b1.size _
 clear own bel kW bW k1 b1
 go_wp2_with (refine store_blk rfl 124 _ _ rfl w.heap.size rfl rfl k2 (by kernel_rfl) rfl (by kernel_rfl) ?_;intro w7 hb7 hg7 hs7)
 exact ⟨rfl,_,results_blk Tryz.results56 _ _ rfl hb7 Tryz.underlying124 rfl (by kernel_rfl),⟨rfl,b2.grown hg7 b2.size (by intro k hk;cases hk;exact Nat.le_refl _)⟩⟩
set_option maxRecDepth 100000 in
set_option maxHeartbeats 2000000 in
theorem ring_yes (master block:List UInt8) (am ab:Option Addr) (cm cb r:Nat) (x0 x1:Addr) (w:World) (hcb:block.length ≤ cb) (hs:Sents w x0 x1) (rm:RowAt w am master) (rb:RowAt w ab block) (hok:okO master block = true) (hr:w.heap[r]? = some (.map #[] 0)) :
   Calls Tryz.prog 56 #[.map (some r),.slice am master.length cm,.slice ab block.length cb] w fun e w'=>e = .returned (slotK (opU master block) (opG master block)) ∧ w'.heap[r]? = some (oneEntry (opU master block) (opG master block) (.agg ((unkeyN master block).map byte).toArray)) ∧ w.grownBy w' (some r):=by
 have hz:=(zero_of_info Tryz.zeroSl).1
 have hzk:=(zero_of_info Tryz.zeroKI).1
 obtain ⟨W,hW⟩:∃ W,W = w.alloc (.cells zeroSl.toArray 124):=⟨_,rfl⟩
 have kW:Blk W w.heap.size 124 zeroSl:=by rw [hW];exact Blk.new w _ _
 have bW:Below w.heap.size w W:=by rw [hW];exact below_new _ _
 have lW:=kW.lt
 have lr:r < w.heap.size:=lt_of_block hr
 have HO:=hide (open_any master block am ab cm cb x0 x1 W hcb (hs.below bW) (rm.below bW) (rb.below bW))
 have hE:opErr x0 x1 master block = .nilIface:=by
   have h:=Bool.and_eq_true_iff.1 hok
   unfold opErr
   rw [h.1,h.2]
   rfl
 rw [hE,(opKey_ok hok).1] at HO
 have hKl:=(opKey_ok hok).2
 obtain ⟨n,hn⟩:∃ n,n = master.length:=⟨_,rfl⟩
 obtain ⟨m,hm⟩:∃ n,n = block.length:=⟨_,rfl⟩
 rw [← hn,← hm] at HO ⊢
 obtain ⟨U,hU⟩:∃ C,C = opU master block:=⟨_,rfl⟩
 obtain ⟨G,hG⟩:∃ C,C = opG master block:=⟨_,rfl⟩
 obtain ⟨K,hK⟩:∃ C,C = unkeyN master block:=⟨_,rfl⟩
 rw [← hU,← hG,← hK] at HO ⊢
 rw [← hK] at hKl
 have hKm:(K.map byte).length = 16:=by rw [List.length_map,hKl]
 clear hn hm hs rm rb hcb hok hE hU hG hK
 go_enter Tryz.func56,Tryz.ntmps56
 go_wp2_with fail
 rw [← hW]
 clear hW
 refine HO.out.mono ?_
 rintro e w1 ⟨v,rfl,own,bel⟩
 obtain ⟨gk,c,hc,rfl,rk,bgk,lgk⟩:=own.at' hKl (by omega)
 have k1:=kW.below bel lW
 have b1:Below w.heap.size w w1:=bW.trans (bel.mono bW.size)
 have l1:=bel.size
 obtain ⟨W2,hW2⟩:∃ x,x = (w1.alloc (.cells #[.int .i64 U,.int .i64 G,.slice (some ⟨gk,0,none⟩) 16 c] 55)).alloc (.cells #[.int .i64 U,.int .i64 G] 124):=⟨_,rfl⟩
 have kI:Blk W2 w1.heap.size 55 [.int .i64 U,.int .i64 G,.slice (some ⟨gk,0,none⟩) 16 c]:=by rw [hW2];exact (Blk.new w1 _ _).alloc _
 have kS:Blk W2 (w1.heap.size + 1) 124 [.int .i64 U,.int .i64 G]:=by rw [hW2];exact Blk.new2 w1 _ _ _
 have b12:Below w1.heap.size w1 W2:=by rw [hW2];exact ((Below.refl _ _).alloc (Nat.le_refl _) _).alloc (by simp) _
 have HW2:=hide hW2
 clear own bel kW bW HO hW2
 go_upto_region 5 with fail
 rw [← show W2 = _ from HW2]
 clear HW2
 obtain ⟨V,hV⟩:∃ V,V = World.drew W2:=⟨_,rfl⟩
 have bV:Below w.heap.size w V:=by rw [hV];exact (b1.trans (b12.mono b1.size)).drew
 have k0V:Blk V w.heap.size 124 zeroSl:=by rw [hV];exact (k1.below b12 k1.lt).drew1
 have kIV:Blk V w1.heap.size 55 [.int .i64 U,.int .i64 G,.slice (some ⟨gk,0,none⟩) 16 c]:=by rw [hV];exact kI.drew1
 have kSV:Blk V (w1.heap.size + 1) 124 [.int .i64 U,.int .i64 G]:=by rw [hV];exact kS.drew1
 have rkV:V.rangeAt gk 0 (K.map byte):=by rw [hV];exact range_below rk b12.drew
 have mV:V.heap[r]? = some (.map #[] 0):=by rw [bV.block r lr];exact hr
 have hput:=run_put r U G (.agg (K.map byte).toArray) V mV
 have lrV:=lt_of_block mV
 have gk1:=lgk
 obtain ⟨V2,hV2⟩:∃ x:World,x = { V with heap:=V.heap.setIfInBounds r (oneEntry U G (.agg (K.map byte).toArray)) }:=⟨_,rfl⟩
 have g2:V.grownBy V2 (some r):=by rw [hV2];exact ⟨rfl,rfl,rfl,by simp,fun k _ hk=>by simp only [Array.getElem?_setIfInBounds];rw [if_neg (by intro e;exact hk (by rw [e]))]⟩
 have m2:V2.heap[r]? = some (oneEntry U G (.agg (K.map byte).toArray)):=by rw [hV2];simp [lrV]
 rw [← hV2] at hput
 obtain ⟨gI,hgI⟩:∃ x,x = w1.heap.size:=⟨_,rfl⟩
 have lI:w.heap.size < gI:=by rw [hgI];exact k1.lt
 rw [← hgI] at kIV kSV ⊢
 have rne:gk ≠ r:=by omega
 have sV:V.rangeAt (gI + 1) 0 [.int .i64 U,.int .i64 G] ∧ V.cell? ⟨gI,2,none⟩ = some (.slice (some ⟨gk,0,none⟩) 16 c) ∧ V.rangeAt gk 0 (K.map byte):=⟨blk_whole kSV,kIV.cell 2 (by simp),rkV⟩
 have k02:=k0V.grown g2 (by intro e;cases e;omega)
 have kS2:=kSV.grown g2 (by intro e;cases e;omega)
 have s2:V2.rangeAt (gI + 1) 0 [.int .i64 U,.int .i64 G] ∧ V2.cell? ⟨gI,2,none⟩ = some (.slice (some ⟨gk,0,none⟩) 16 c) ∧ V2.rangeAt gk 0 (K.map byte):=⟨blk_whole kS2,(kIV.grown g2 (by intro e;cases e;omega)).cell 2 (by simp),fun j u hj=>g2.cell (rkV j u hj) (by intro e;cases e;exact rne rfl)⟩
 have keep:Hid (∀ {P:Prop},P → P):=fun h=>h
 have har:=fun (wx:World)=>run_arrayAt (P:=Tryz.prog) (w:=wx) 88 5 16 (some ⟨gk,0,none⟩) 16 c Tryz.underlying88 (Nat.le_refl _)
 refine wp_region_held_drew (S:=fun x=>x.rangeAt (gI + 1) 0 [.int .i64 U,.int .i64 G] ∧ x.cell? ⟨gI,2,none⟩ = some (.slice (some ⟨gk,0,none⟩) 16 c) ∧ x.rangeAt gk 0 (K.map byte)) (by kernel_rfl) (by rw [← hV];exact sV) (fun hHeld=>?_)
 rw [← hV] at hHeld ⊢
 clear hV hV2 k0V kSV kIV kI kS k1 rk b12 b1 hgI
 refine tkA (i:=0) (v:=(.map (some r))) rfl hHeld ?_
 try dsimp only [Act.put]
 refine tk (i:=1) (v:=(.agg ([.int .i64 U,.int .i64 G]:List Value).toArray)) rfl (yieldsIf_load_mid (by rfl) 124 _ rfl (gI + 1) 0 rfl [.int .i64 U,.int .i64 G] _ (fun _ h=>h.1) Tryz.underlying124 rfl (by kernel_rfl)) hHeld ?_
 dsimp only [Act.put,List.getElem_toArray,List.getElem_cons_zero,List.getElem_cons_succ]
 simp only [List.setIfInBounds_toArray,List.set_cons_succ,List.set_cons_zero]
 refine tkA (i:=2) (v:=(.pointer (some ⟨gI,2,none⟩))) rfl hHeld ?_
 try dsimp only [Act.put]
 refine tk (i:=3) (v:=(.slice (some ⟨gk,0,none⟩) 16 c)) rfl (Or.inl ⟨by rfl,fun w1 h=>by have hc:=h.2.1;go_simp⟩) hHeld ?_
 dsimp only [Act.put,List.getElem_toArray,List.getElem_cons_zero,List.getElem_cons_succ]
 simp only [List.setIfInBounds_toArray,List.set_cons_succ,List.set_cons_zero]
 refine tkA (i:=4) (v:=(.pointer (some ⟨gk,0,none⟩))) rfl hHeld ?_
 try dsimp only [Act.put]
 refine tk (i:=5) (v:=(.agg (K.map byte).toArray)) rfl (yieldsIf_load_mid (by rfl) 88 _ rfl gk 0 rfl (K.map byte) _ (fun _ h=>h.2.2) Tryz.underlying88 rfl (by rw [hKm];kernel_rfl)) hHeld ?_
 dsimp only [Act.put,List.getElem_toArray,List.getElem_cons_zero,List.getElem_cons_succ]
 simp only [List.setIfInBounds_toArray,List.set_cons_succ,List.set_cons_zero]
 refine rdy1 6 (fun K hK=>?_)
 go_simp
 skip
 refine hK.out _ _ (keep.out s2) (fun hHeld=>?_)
 clear hK K
 try dsimp only [Act.put]
 refine wpAnyH_done (by kernel_rfl) ?_ _
 go_wp2_with (first
   | (refine load_blk rfl 124 _ rfl (gI + 1) rfl kS2 Tryz.underlying124 rfl (by kernel_rfl) ?_)
   | (refine store_blk rfl 124 _ _ rfl w.heap.size rfl rfl k02 (by kernel_rfl) rfl (by kernel_rfl) ?_;intro w7 hb7 hg7 hs7))
 have g27:=grown_new (grown_trans (grown_of_below bV (some r)) g2) hg7 (Nat.le_refl _)
 exact ⟨rfl,_,results_blk Tryz.results56 _ _ rfl hb7 Tryz.underlying124 rfl (by kernel_rfl),⟨rfl,by rw [hg7.block r (lt_of_block m2) (by intro e;cases e;omega)];exact m2,g27⟩⟩
abbrev zeroMc:List Value:=[.int .i64 0,.slice none 0 0]
theorem Tryz.zeroMc:(Tryz.prog.info? 68).map (fun i=>(i.zero,i.size)) = some (some (.agg zeroMc.toArray),2):=by kernel_rfl
def okM (master key:List UInt8):Bool:=okO master key && decide (opU master key = 2)
def macC (master key data:List UInt8):Int:=if okM master key then (if data.length ≤ 4096 then 0 else 6) else 1
def macL (master key data:List UInt8):List UInt8:=if okM master key then (if data.length ≤ 4096 then retailL (unkeyN master key) data else []) else []
theorem ring_any (master block:List UInt8) (am ab:Option Addr) (cm cb r:Nat) (x0 x1:Addr) (w:World) (hcb:block.length ≤ cb) (hs:Sents w x0 x1) (rm:RowAt w am master) (rb:RowAt w ab block) (hr:w.heap[r]? = some (.map #[] 0)) :
   Calls Tryz.prog 56 #[.map (some r),.slice am master.length cm,.slice ab block.length cb] w fun e w'=>e = .returned (slotK (opU master block) (opG master block)) ∧ (okO master block = true → w'.heap[r]? = some (oneEntry (opU master block) (opG master block) (.agg ((unkeyN master block).map byte).toArray))) ∧ w.grownBy w' (some r):=by
 cases hok:okO master block with
 | false =>
   refine (ring_no master block am ab cm cb r x0 x1 w hcb hs rm rb hok).mono ?_
   rintro e w' ⟨rfl,bel⟩
   refine ⟨?_,(fun h=>by cases h),grown_of_below bel _⟩
   unfold opU opG
   rw [hok]
   rfl
 | true =>
   refine (ring_yes master block am ab cm cb r x0 x1 w hcb hs rm rb hok hr).mono ?_
   rintro e w' ⟨rfl,hm,hg⟩
   exact ⟨rfl,fun _=>hm,hg⟩
theorem macL_le (master key data:List UInt8):(macL master key data).length ≤ 8:=by
 unfold macL
 split
 · split
   · unfold retailL
     split
     · rw [retailN_length];omega
     · simp
   · simp
 · simp
set_option maxRecDepth 100000 in
set_option maxHeartbeats 2000000 in
theorem makeMac_any (master key data:List UInt8) (am ak ad:Option Addr) (cm ck cd:Nat) (x0 x1:Addr) (w:World) (hck:key.length ≤ ck) (hcd:data.length ≤ cd) (hn:data.length ≤ 1048576) (hs:Sents w x0 x1) (rm:RowAt w am master) (rk:RowAt w ak key) (rd:RowAt w ad data) :
   Calls Tryz.prog 22 #[.slice am master.length cm,.slice ak key.length ck,.slice ad data.length cd] w fun e w'=>∃ v,e = .returned (.agg #[.int .i64 (macC master key data),v]) ∧ Own w' w.heap.size v (macL master key data) ∧ Below w.heap.size w w':=by
 have hz:=(zero_of_info Tryz.zeroMc).1
 have hz16:=(zero_of_info Tryz.z16).1
 have hmm:=@run_makeMap Tryz.prog
 obtain ⟨W,hW⟩:∃ W,W = (w.alloc (.cells zeroMc.toArray 68)).alloc (.map #[] 0):=⟨_,rfl⟩
 have kW:Blk W w.heap.size 68 zeroMc:=by rw [hW];exact (Blk.new w _ _).alloc _
 have mW:W.heap[w.heap.size + 1]? = some (.map #[] 0):=by
   have h0:(w.alloc (.cells zeroMc.toArray 68)).heap.size = w.heap.size + 1:=by simp
   rw [hW,← h0]
   show ((w.alloc (.cells zeroMc.toArray 68)).heap.push _)[(w.alloc (.cells zeroMc.toArray 68)).heap.size]? = _
   exact Array.getElem?_push_size
 have bW:Below w.heap.size w W:=by rw [hW];exact ((Below.refl _ w).alloc (Nat.le_refl _) _).alloc (by simp) _
 have HR:=hide (ring_any master key am ak cm ck (w.heap.size + 1) x0 x1 W hck (hs.below bW) (rm.below bW) (rk.below bW) mW)
 have hKl:okO master key = true → (unkeyN master key).length = 16:=fun h=>(opKey_ok h).2
 have HM:=hide (fun (h:okO master key = true) (g:Nat) (wx:World) (h1:RowAt wx (some ⟨g,0,none⟩) (unkeyN master key)) (h2:RowAt wx ad data)=>retail_all (unkeyN master key) data (some ⟨g,0,none⟩) ad 16 cd wx (by rw [hKl h];omega) hn (by rw [hKl h];exact Nat.le_refl _) hcd h1 h2)
 obtain ⟨r,hr⟩:∃ x,x = w.heap.size + 1:=⟨_,rfl⟩
 have hr2:=hide hr
 rw [← hr] at HR
 have HC:Hid (macC master key data = (if okO master key && decide (opU master key = 2) then (if data.length ≤ 4096 then 0 else 6) else 1)):=rfl
 have HL:Hid (macL master key data = (if okO master key && decide (opU master key = 2) then (if data.length ≤ 4096 then retailL (unkeyN master key) data else []) else [])):=rfl
 have hU0:okO master key = false → opU master key = 0:=fun h=>by unfold opU;rw [h];rfl
 obtain ⟨n,hn1⟩:∃ n,n = master.length:=⟨_,rfl⟩
 obtain ⟨m,hm1⟩:∃ n,n = key.length:=⟨_,rfl⟩
 rw [← hn1,← hm1] at HR ⊢
 obtain ⟨U,hU⟩:∃ C,C = opU master key:=⟨_,rfl⟩
 obtain ⟨G,hG⟩:∃ C,C = opG master key:=⟨_,rfl⟩
 obtain ⟨K,hK⟩:∃ C,C = unkeyN master key:=⟨_,rfl⟩
 obtain ⟨okb,hob⟩:∃ b,b = okO master key:=⟨_,rfl⟩
 rw [← hU,← hG,← hK,← hob] at HR
 rw [← hK,← hob] at HM hKl
 rw [← hU,← hob] at HC HL hU0
 rw [← hK] at HL
 clear hn1 hm1 hU hG hK hob rm rk hs hck
 go_enter Tryz.func22,Tryz.ntmps22
 go_wp2_with fail
 rw [← hW,← hr]
 clear hW
 refine HR.out.mono ?_
 rintro e w1 ⟨rfl,hent,g1⟩
 have hrw:w.heap.size < r:=by rw [hr];omega
 have b1:Below w.heap.size w w1:=bW.grown g1 bW.size (by intro k hk;cases hk;omega)
 have k1:Blk w1 w.heap.size 68 zeroMc:=kW.grown g1 (by intro e;cases e;omega)
 have rd1:=rd.below b1
 obtain ⟨W1,hW1⟩:∃ x,x = w1.alloc (.cells #[.int .i64 U,.int .i64 G] 124):=⟨_,rfl⟩
 have kS:Blk W1 w1.heap.size 124 [.int .i64 U,.int .i64 G]:=by rw [hW1];exact Blk.new _ _ _
 have b11:Below w1.heap.size w1 W1:=by rw [hW1];exact below_new _ _
 have kM:=k1.below b11 k1.lt
 have bM:Below w.heap.size w W1:=b1.trans (b11.mono b1.size)
 have rdM:=rd1.below b11
 have entM:okb = true → W1.heap[r]? = some (oneEntry U G (.agg (K.map byte).toArray)):=fun h=>by have h1:=hent h;rw [b11.block r (lt_of_block h1)];exact h1
 clear hr k1 b1 rd1 b11 hent g1 HR kW mW bW rd
 by_cases hU2:U = 2
 · have hb:okb = true:=by
     cases hq:okb with
     | true=>rfl
     | false=>have:=hU0 hq;omega
   subst hU2
   rw [hb] at HC HL
   by_cases hd:data.length ≤ 4096
   · have hd':¬ ((4096:Int) < (data.length:Int)):=by omega
     simp only [decide_true,Bool.and_self,if_true,if_pos hd] at HC HL
     have hlk:=run_look r 2 G (.agg (K.map byte).toArray) W1 (entM hb)
     have hKl:=hKl hb
     have hKm:(K.map byte).length = 16:=by rw [List.length_map,hKl]
     have HM:=hide (HM.out hb)
     rw [hKl] at HM
     obtain ⟨W2,hW2⟩:∃ x,x = W1.alloc (.cells (zerosOf 16 .u8).toArray 88):=⟨_,rfl⟩
     have kA:Blk W2 W1.heap.size 88 (zerosOf 16 .u8):=by rw [hW2];exact Blk.new _ _ _
     have b12:Below W1.heap.size W1 W2:=by rw [hW2];exact below_new _ _
     have HW2:=hide hW2
     rw [hW1] at hlk kS
     go_upto_region 7 with fail
     rw [← hW1] at hlk kS ⊢
     clear hW1 hW2 entM hU0 hb
     go_wp2_with (first
       | (refine load_blk rfl 124 _ rfl w1.heap.size rfl kS Tryz.underlying124 rfl (by kernel_rfl) ?_)
       | (rw [← show W2 = _ from HW2];refine store_blk (cs:=K.map byte) rfl 88 _ _ rfl W1.heap.size rfl rfl kA (by rw [hKm];kernel_rfl) (by rw [hKm];exact zerosOf_length _ _) (allOne_bytes _) ?_;intro w3 kA3 g3 hs3))
     have b3:Below W1.heap.size W1 w3:=b12.grown g3 b12.size (by intro k hk;cases hk;exact Nat.le_refl _)
     have kM3:=kM.below b3 kM.lt
     have bM3:=bM.trans (b3.mono bM.size)
     have rd3:=rdM.below b3
     clear kM bM rdM b3 g3 hs3 kA b12 HW2 hlk kS
     refine (HM.out _ w3 (rowAt_block kA3) rd3).mono ?_
     rintro e w4 ⟨v4,rfl,own4,bel4⟩
     have kM4:=kM3.below bel4 kM3.lt
     have bM4:=bM3.trans (bel4.mono bM3.size)
     obtain ⟨a4,c4,rfl,-,-⟩:=own4.shape
     obtain ⟨l,hl⟩:∃ x,x = (retailL K data).length:=⟨_,rfl⟩
     rw [← hl] at own4 ⊢
     have l34:=kM3.lt
     clear kM3 bM3 rd3 bel4 hl kA3 HM
     go_wp2_with (refine store_blk rfl 68 _ _ rfl w.heap.size rfl rfl kM4 (by kernel_rfl) rfl (by kernel_rfl) ?_;intro w7 hb7 hg7 hs7)
     exact ⟨rfl,_,results_blk Tryz.results22 _ _ rfl hb7 Tryz.underlying68 rfl (by kernel_rfl),⟨_,by rw [HC.out],by rw [HL.out];exact own_base (own4.grown hg7 (own_not own4 l34)) (Nat.le_of_lt l34),bM4.grown hg7 bM4.size (by intro k hk;cases hk;exact Nat.le_refl _)⟩⟩
   · have hd':(4096:Int) < (data.length:Int):=by omega
     simp only [decide_true,Bool.and_self,if_true,if_neg hd] at HC HL
     rw [hW1] at kM bM
     clear hW1 entM hU0 hb kS rdM HM
     go_wp2_with (refine store_blk rfl 68 _ _ rfl w.heap.size rfl rfl kM (by kernel_rfl) rfl (by kernel_rfl) ?_;intro w7 hb7 hg7 hs7)
     exact ⟨rfl,_,results_blk Tryz.results22 _ _ rfl hb7 Tryz.underlying68 rfl (by kernel_rfl),⟨_,by rw [HC.out],by rw [HL.out];exact own_nil _ _,bM.grown hg7 bM.size (by intro k hk;cases hk;exact Nat.le_refl _)⟩⟩
 · have hUb:(U != 2) = true:=by rw [bne_iff_ne];exact hU2
   rw [decide_eq_false hU2,Bool.and_false] at HC HL
   simp only [Bool.false_eq_true,if_false] at HC HL
   rw [hW1] at kM bM
   clear hW1 entM hU0 kS rdM HM hU2
   go_wp2_with (refine store_blk rfl 68 _ _ rfl w.heap.size rfl rfl kM (by kernel_rfl) rfl (by kernel_rfl) ?_;intro w7 hb7 hg7 hs7)
   exact ⟨rfl,_,results_blk Tryz.results22 _ _ rfl hb7 Tryz.underlying68 rfl (by kernel_rfl),⟨_,by rw [HC.out],by rw [HL.out];exact own_nil _ _,bM.grown hg7 bM.size (by intro k hk;cases hk;exact Nat.le_refl _)⟩⟩
def chkC (master key data mac:List UInt8):Int:=if macC master key data = 0 ∧ ¬ macL master key data = mac then 6 else macC master key data
set_option maxRecDepth 100000 in
set_option maxHeartbeats 2000000 in
theorem checkMac_any (master key data mac:List UInt8) (am ak ad at_:Option Addr) (cm ck cd ct:Nat) (x0 x1:Addr) (w:World) (hck:key.length ≤ ck) (hcd:data.length ≤ cd) (hn:data.length ≤ 1048576) (hs:Sents w x0 x1) (rm:RowAt w am master) (rk:RowAt w ak key) (rd:RowAt w ad data) (rt:RowAt w at_ mac) :
   Calls Tryz.prog 41 #[.slice am master.length cm,.slice ak key.length ck,.slice ad data.length cd,.slice at_ mac.length ct] w fun e w'=>e = .returned (.int .i64 (chkC master key data mac)) ∧ Below w.heap.size w w':=by
 have HM:=hide (makeMac_any master key data am ak ad cm ck cd x0 x1 w hck hcd hn hs rm rk rd)
 have HC:Hid (chkC master key data mac = (if macC master key data = 0 ∧ ¬ macL master key data = mac then 6 else macC master key data)):=rfl
 have HB:=hide (fun (a1:Option Addr) (c1:Nat) (wx:World) (h1:RowAt wx a1 (macL master key data)) (h2:RowAt wx at_ mac)=>bytesEqual_any (macL master key data) mac a1 at_ _ _ c1 ct wx rfl rfl h1 h2)
 obtain ⟨C,hC⟩:∃ C,C = macC master key data:=⟨_,rfl⟩
 obtain ⟨L,hL⟩:∃ C,C = macL master key data:=⟨_,rfl⟩
 rw [← hC,← hL] at HM HC
 rw [← hL] at HB
 obtain ⟨n1,hn1⟩:∃ n,n = master.length:=⟨_,rfl⟩
 obtain ⟨n2,hn2⟩:∃ n,n = key.length:=⟨_,rfl⟩
 obtain ⟨n3,hn3⟩:∃ n,n = data.length:=⟨_,rfl⟩
 obtain ⟨n4,hn4⟩:∃ n,n = mac.length:=⟨_,rfl⟩
 rw [← hn1,← hn2,← hn3] at HM
 rw [← hn4] at HB
 rw [← hn1,← hn2,← hn3,← hn4]
 clear hn1 hn2 hn3 hn4 hC hL rm rk rd hs hck hcd hn
 go_enter Tryz.func41,Tryz.ntmps41
 go_wp2_with fail
 refine HM.out.mono ?_
 rintro e w1 ⟨v,rfl,own1,bel1⟩
 obtain ⟨a,c,rfl,row1,-⟩:=own1.shape
 obtain ⟨l,hl⟩:∃ x,x = L.length:=⟨_,rfl⟩
 rw [← hl] at HB ⊢
 obtain ⟨W1,hW1⟩:∃ x,x = w1.alloc (.cells #[.int .i64 C,.slice a l c] 68):=⟨_,rfl⟩
 have b11:Below w1.heap.size w1 W1:=by rw [hW1];exact below_new _ _
 have kM:Blk W1 w1.heap.size 68 [.int .i64 C,.slice a l c]:=by rw [hW1];exact Blk.new _ _ _
 have bM:Below w.heap.size w W1:=bel1.trans (b11.mono bel1.size)
 have rL:=row1.below b11
 have rtM:=rt.below bM
 clear own1 row1 bel1 b11 HM hl rt
 by_cases hC0:C = 0
 · subst hC0
   have HBE:=hide (HB.out a c W1 rL rtM)
   have c0:=kM.cell 0 (by simp)
   clear HB rL rtM kM
   go_wp2_with fail
   rw [← hW1]
   clear hW1
   refine HBE.out.mono ?_
   rintro e w2 ⟨rfl,hw2⟩
   subst w2
   by_cases heq:L = mac
   · rw [decide_eq_true heq]
     rw [if_neg (by simp [heq])] at HC
     clear heq HBE
     go_wp2_with fail
     go_ret
     exact ⟨by rw [HC.out];rfl,bM⟩
   · rw [decide_eq_false heq]
     rw [if_pos (by simp [heq])] at HC
     clear heq HBE
     go_wp2_with fail
     go_ret
     exact ⟨by rw [HC.out];rfl,bM⟩
 · have hCb:(C == 0) = false:=by rw [beq_eq_false_iff_ne];exact hC0
   rw [if_neg (by simp [hC0])] at HC
   rw [hW1] at bM
   clear hW1 HB rL rtM kM hC0
   go_wp2_with fail
   go_ret
   exact ⟨by rw [HC.out];rfl,bM⟩
def dig (b:UInt8):Bool:=decide (48 ≤ b.toNat) && decide (b.toNat ≤ 57)
def digs (s:ByteArray):Bool:=s.data.toList.all dig
theorem digs_at {s:ByteArray} (h:digs s = true) (k:Nat) (hk:k < s.size):dig s[k] = true:=by
 unfold digs at h
 rw [List.all_eq_true] at h
 exact h _ (by show s.data[k] ∈ s.data.toList;simp)
theorem digs_yes {s:ByteArray} (h:∀ k (hk:k < s.size),dig s[k] = true):digs s = true:=by
 unfold digs
 rw [List.all_eq_true]
 intro b hb
 obtain ⟨k,hk,rfl⟩:=List.getElem_of_mem hb
 exact h k hk
theorem digs_no {s:ByteArray} (k:Nat) (hk:k < s.size) (h:dig s[k] = false):digs s = false:=by
 cases hd:digs s
 · rfl
 · rw [digs_at hd k hk] at h;cases h
theorem dig_to {b:UInt8} (h:dig b = true):48 ≤ b.toNat ∧ b.toNat ≤ 57:=by simpa [dig] using h
theorem dig_int (b:UInt8):(decide (48 ≤ (b.toNat:Int)) && decide ((b.toNat:Int) ≤ 57)) = dig b:=by
 unfold dig
 rw [decide_eq_decide.2 (show (48 ≤ (b.toNat:Int)) ↔ 48 ≤ b.toNat from by omega),decide_eq_decide.2 (show ((b.toNat:Int) ≤ 57) ↔ b.toNat ≤ 57 from by omega)]
set_option maxHeartbeats 400000 in
theorem isDigit_any (r:Int) (w:World) :
   Calls Tryz.prog 153 #[.int .i32 r] w fun e w'=>e = .returned (.bool (decide (48 ≤ r) && decide (r ≤ 57))) ∧ w' = w:=by
 by_cases h:48 ≤ r
 · go_enter Tryz.func153,Tryz.ntmps153
   go_wp2
   go_ret
   exact ⟨by simp [h],rfl⟩
 · go_enter Tryz.func153,Tryz.ntmps153
   go_wp2
   go_ret
   exact ⟨by rw [show decide (48 ≤ r) = false from by simp;omega];rfl,rfl⟩
set_option maxHeartbeats 1000000 in
theorem allDigits_any (s:ByteArray) (w:World) :
   Calls Tryz.prog 99 #[.string s] w fun e w'=>e = .returned (.bool (digs s)) ∧ Below w.heap.size w w':=by
 go_enter Tryz.func99,Tryz.ntmps99
 go_wp2_with fail
 go_loopw [] (fun wr=>∃ pos:Nat,pos ≤ s.size ∧ wr.heap[w.heap.size]? = some (.stringIter s pos) ∧ Hid (∀ j (hj:j < s.size),j < pos → dig s[j] = true) ∧ Below w.heap.size w wr) (fun wr=>s.size - wr.iterPos w.heap.size)
 case atStart =>
   refine ⟨0,Nat.zero_le _,by simpa using World.iter_heap w s 0,fun j _ h=>absurd h (Nat.not_lt_zero j),(Below.refl _ w).alloc (Nat.le_refl _) _⟩
 case round =>
   obtain ⟨pos,hp0,hit,HD,hbel⟩:=hrel
   by_cases hp:pos < s.size
   · by_cases ha:s[pos].toNat < 128
     · have hnx:∀ ty,(Instr.next (.pointer (some ⟨w.heap.size,0,none⟩)) true ty).run Tryz.prog wr = _:=fun ty=>Lib.run_next_ascii_at wr w.heap.size s pos ty hit hp ha
       have hit2:=Lib.iterAt_heap wr w.heap.size s pos (pos + 1) hit
       have hbw2:=Lib.below_iterAt hbel (k:=w.heap.size) (Nat.le_refl _) s (pos + 1)
       cases hd:dig s[pos]
       · go_wp2_with (go_at_call 153;refine (isDigit_any _ _).mono ?_;rintro e w1 ⟨rfl,hw1⟩;subst w1;rw [dig_int,hd])
         go_ret
         exact ⟨by rw [digs_no pos hp hd];rfl,hbw2⟩
       · go_wp2_with (go_at_call 153;refine (isDigit_any _ _).mono ?_;rintro e w1 ⟨rfl,hw1⟩;subst w1;rw [dig_int,hd])
         go_roundw
         case rel =>
           refine ⟨pos + 1,by omega,hit2,?_,hbw2⟩
           show ∀ j (hj:j < s.size),j < pos + 1 → dig s[j] = true
           intro j hj hjk
           by_cases hjk2:j = pos
           · subst hjk2;exact hd
           · exact HD.out j hj (by omega)
         case measure =>
           simp only [World.iterPos,hit2,hit]
           omega
     · have hdh:=(decode_high s pos hp (by omega)).1
       have hnx:∀ ty,(Instr.next (.pointer (some ⟨w.heap.size,0,none⟩)) true ty).run Tryz.prog wr = _:=fun ty=>Lib.run_next_any_at wr w.heap.size s pos ty hit hp
       have hbw2:=Lib.below_iterAt hbel (k:=w.heap.size) (Nat.le_refl _) s (pos + (Utf8.decode s pos).2)
       have hno:(decide (48 ≤ ((Utf8.decode s pos).1:Int)) && decide (((Utf8.decode s pos).1:Int) ≤ 57)) = false:=by
         rw [decide_eq_false (show ¬ ((Utf8.decode s pos).1:Int) ≤ 57 from by omega),Bool.and_false]
       go_wp2_with (go_at_call 153;refine (isDigit_any _ _).mono ?_;rintro e w1 ⟨rfl,hw1⟩;subst w1;rw [hno])
       go_ret
       exact ⟨by rw [digs_no pos hp (by simp [dig];omega)];rfl,hbw2⟩
   · have hnx:∀ ty,(Instr.next (.pointer (some ⟨w.heap.size,0,none⟩)) true ty).run Tryz.prog wr = _:=fun ty=>Lib.run_next_end_at wr w.heap.size s pos ty hit hp
     go_wp2_with fail
     go_ret
     exact ⟨by rw [digs_yes (fun j hj=>HD.out j hj (by omega))];rfl,hbel⟩
def kindOf (no:Int):Int × Int:=if no = 2 then (4,2) else if no = 3 then (1,6) else if no = 11 then (1,6) else if no = 4 then (1,12) else if no = 7 then (1,10) else if no = 70 then (1,3) else if no = 37 then (2,12) else if no = 39 then (2,2) else if no = 41 then (2,8) else if no = 48 then (5,3) else if no = 52 then (3,8) else if no = 64 then (3,8) else if no = 128 then (3,8) else if no = 53 then (3,10) else (0,0)
end Go.Proofs.YtbkokcjolanpeaaGreatDoor
