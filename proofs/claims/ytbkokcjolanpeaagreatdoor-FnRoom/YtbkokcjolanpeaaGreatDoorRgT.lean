import Derived.Test.YtbkokcjolanpeaaGreatDoorRgS
import Derived.WalkKit
import Derived.LaidEql
import Derived.Stop.Asserts
import Derived.RowKitTokens
namespace Go.Proofs.YtbkokcjolanpeaaGreatDoor
open Go.RowKit Go.Extern.Stop Go.Stop Go.Extern
theorem isTypeOf (v:Value) (w:World):(Extern.ReflectliteType.typeOf #[.iface 376 v]).run Tryz.prog w = .ok (.iface 332 (.agg #[.pointer (some ⟨10,376,none⟩)])) w:=by kernel_rfl
theorem isComparable (w:World):(callFunc 299 #[.agg #[.pointer (some ⟨10,376,none⟩)]]).run Tryz.prog w = .ok (.value (.bool true)) w:=by
 rw [@run_callFunc_extern Tryz.prog 299 _ (Extern.ReflectliteType.method fun t=>do Go.Extern.Rtype.noPackHeld "Comparable" t;pure (.bool (← typeInfo t).comparable)) Tryz.func299 (by kernel_rfl) (by kernel_rfl) (by kernel_rfl) (by kernel_rfl)]
 kernel_rfl
theorem isMethodComparable (v:Value) (w:World):(Go.method 509 332 v "Comparable").run Tryz.prog w = .ok (299,v) w:=by kernel_rfl
theorem isComp:(Tryz.prog.info? 376).map (·.comparable) = some true:=by kernel_rfl
theorem isSize:(Tryz.prog.info? 378).map (·.size) = some 1:=by kernel_rfl
theorem noIsE (v:Value) (xT:TypeId) (w:World):(Instr.typeAssert (.iface 376 v) xT 334 true).run Tryz.prog w = .ok (.tuple #[.nilIface,.bool false]) w:=run_typeAssert_lacksB Tryz.underlying334 (by kernel_rfl) (by kernel_rfl) v xT w
theorem noUnwrapE (v:Value) (xT:TypeId) (w:World):(Instr.typeAssert (.iface 376 v) xT 337 true).run Tryz.prog w = .ok (.tuple #[.nilIface,.bool false]) w:=run_typeAssert_lacksB Tryz.underlying337 (by kernel_rfl) (by kernel_rfl) v xT w
theorem noUnwrapsE (v:Value) (xT:TypeId) (w:World):(Instr.typeAssert (.iface 376 v) xT 339 true).run Tryz.prog w = .ok (.tuple #[.nilIface,.bool false]) w:=run_typeAssert_lacksB Tryz.underlying339 (by kernel_rfl) (by kernel_rfl) v xT w
set_option maxRecDepth 100000 in
set_option maxHeartbeats 4000000 in
theorem is_same (a:Addr) (w:World) :
   Calls Tryz.prog 164 #[.iface 376 (.pointer (some a)),.iface 376 (.pointer (some a))] w fun e w'=>e = .returned (.bool true) ∧ w' = w:=by
 obtain ⟨i,hi,hcmp⟩:=Option.map_eq_some_iff.1 isComp
 obtain ⟨j,hj,hjs⟩:=Option.map_eq_some_iff.1 isSize
 have h8:=@run_callFunc_extern Tryz.prog 201 _ Extern.ReflectliteType.typeOf Tryz.func201 (by kernel_rfl) (by kernel_rfl) (by kernel_rfl) (by kernel_rfl)
 have tT:=isTypeOf
 have cT:=isComparable
 have mR:=isMethodComparable
 have heq:=run_eql_iface_ptr_same (P:=Tryz.prog) w a Tryz.underlying75 Tryz.underlying376 hi hcmp hj
 go_enter Tryz.func164,Tryz.ntmps164
 go_wp2
 refine wp_loop_rounds 1 ?_
 rw [rounds_succ]
 go_wp2
 go_ret
 exact ⟨rfl,rfl⟩
theorem is_nil (b:Addr) (w:World) :
   Calls Tryz.prog 164 #[.nilIface,.iface 376 (.pointer (some b))] w fun e w'=>e = .returned (.bool false) ∧ w' = w:=by
 have hn:=run_eql_iface_nil_left (P:=Tryz.prog) w 376 (.pointer (some b)) Tryz.underlying75
 go_enter Tryz.func164,Tryz.ntmps164
 go_wp2
 go_ret
 exact ⟨rfl,rfl⟩
set_option maxRecDepth 100000 in
set_option maxHeartbeats 4000000 in
theorem is_other (a b:Addr) (ca cb:Array Value) (ta tb:TypeId) (w:World) (hne:a ≠ b) (ha:w.heap[a.block]? = some (.cells ca ta (0,0))) (hb:w.heap[b.block]? = some (.cells cb tb (0,0))) :
   Calls Tryz.prog 164 #[.iface 376 (.pointer (some a)),.iface 376 (.pointer (some b))] w fun e w'=>e = .returned (.bool false) ∧ w' = w:=by
 obtain ⟨i,hi,hcmp⟩:=Option.map_eq_some_iff.1 isComp
 obtain ⟨j,hj,hjs⟩:=Option.map_eq_some_iff.1 isSize
 have h8:=@run_callFunc_extern Tryz.prog 201 _ Extern.ReflectliteType.typeOf Tryz.func201 (by kernel_rfl) (by kernel_rfl) (by kernel_rfl) (by kernel_rfl)
 have tT:=isTypeOf
 have cT:=isComparable
 have mR:=isMethodComparable
 have nE:=noIsE
 have uE:=noUnwrapE
 have vE:=noUnwrapsE
 have heq:=run_eql_iface_ptr_other (P:=Tryz.prog) w Tryz.underlying75 Tryz.underlying376 hi hcmp hj (by rw [hjs];decide) hne ha hb
 go_enter Tryz.func164,Tryz.ntmps164
 go_wp2
 refine wp_loop_rounds 1 ?_
 rw [rounds_succ]
 go_wp2
 go_ret
 exact ⟨rfl,rfl⟩
structure Sents (w:World) (x0 x1:Addr):Prop where
 g0:w.cell? ⟨0,0,none⟩ = some (.iface 376 (.pointer (some x0)))
 g1:w.cell? ⟨1,0,none⟩ = some (.iface 376 (.pointer (some x1)))
 ne:x0 ≠ x1
 b0:∃ c t,w.heap[x0.block]? = some (.cells c t (0,0))
 b1:∃ c t,w.heap[x1.block]? = some (.cells c t (0,0))
theorem Sents.below {w w':World} {x0 x1:Addr} (h:Sents w x0 x1) (hb:Below w.heap.size w w'):Sents w' x0 x1:=by
 obtain ⟨g0,g1,ne,⟨c0,t0,b0⟩,⟨c1,t1,b1⟩⟩:=h
 exact ⟨(hb.cell (p:=⟨0,0,none⟩) (World.block_lt_of_cell? w _ g0)).trans g0,(hb.cell (p:=⟨1,0,none⟩) (World.block_lt_of_cell? w _ g1)).trans g1,ne,⟨c0,t0,by rw [hb.block _ (lt_of_block b0)];exact b0⟩,⟨c1,t1,by rw [hb.block _ (lt_of_block b1)];exact b1⟩⟩
def okO (master block:List UInt8):Bool:=formOK master block && tagOK master block
def opCode (master block:List UInt8):Int:=if formOK master block then (if tagOK master block then 0 else 2) else 1
def opU (master block:List UInt8):Int:=if okO master block then (uOf block:Nat) else 0
def opG (master block:List UInt8):Int:=if okO master block then (gOf block:Nat) else 0
def opKey (master block:List UInt8):List UInt8:=if okO master block then unkeyN master block else []
def opErr (x0 x1:Addr) (master block:List UInt8):Value:=if formOK master block then (if tagOK master block then .nilIface else .iface 376 (.pointer (some x1))) else .iface 376 (.pointer (some x0))
theorem formOK_parts {master block:List UInt8} (h:formOK master block = true):master.length = 16 ∧ block.length = 36 ∧ headOK block = true:=by
 unfold formOK at h
 simpa [and_assoc] using h
theorem unkeyN_length (master block:List UInt8) (hm:master.length = 16) (hb:block.length = 36):(unkeyN master block).length = 16:=by
 unfold unkeyN
 rw [xorL_length _ _ (by rw [aesN_length _ _ _ (show (sealK master).length = 16 from cmacN_length master [69] hm),List.length_take,List.length_drop,hb];rfl),aesN_length _ _ _ (show (sealK master).length = 16 from cmacN_length master [69] hm)]
theorem own_nil (w:World) (base:Nat):Own w base (.slice none 0 0) []:=⟨5,World.ownsRow_nil _ _ _ _⟩
theorem own_base {w:World} {B base:Nat} {v:Value} {l:List UInt8} (h:Own w base v l) (hB:B ≤ base):Own w B v l:=by
 obtain ⟨t,h1,h2⟩:=h
 refine ⟨t,h1,?_⟩
 rcases h2 with h2 | ⟨g,cap,cur,hv,hb,rest⟩
 · exact .inl h2
 · exact .inr ⟨g,cap,cur,hv,by omega,rest⟩
theorem own_not {w:World} {base g:Nat} {v:Value} {l:List UInt8} (h:Own w base v l) (hg:g < base):v.ownBlock = none ∨ v.ownBlock ≠ some g:=by
 obtain ⟨ao,cap,rfl,-,hs,-⟩:=h.shape
 cases ha:ao with
 | none=>exact .inl rfl
 | some a =>
   obtain ⟨k,rfl,hk,-⟩:=hs a ha
   right
   simp only [Value.ownBlock,ne_eq,Option.some.injEq]
   omega
theorem own_setRow {w:World} {base g:Nat} {v:Value} {l:List UInt8} (h:Own w base v l) (hg:g < base) (cs:Array Value):Own (w.setRow g cs) base v l :=
 h.grown (row:=some g) ⟨rfl,rfl,rfl,by simp,fun k _ hk=>setRow_other w g k _ (fun e=>hk (by simp [e]))⟩ (own_not h hg)
theorem open_any (master block:List UInt8) (am ab:Option Addr) (cm cb:Nat) (x0 x1:Addr) (w:World) (hcb:block.length ≤ cb) (hs:Sents w x0 x1) (rm:RowAt w am master) (rb:RowAt w ab block) :
   Calls Tryz.prog 104 #[.slice am master.length cm,.slice ab block.length cb] w fun e w'=>∃ v,e = .returned (.tuple #[.agg #[.int .i64 (opU master block),.int .i64 (opG master block),v],opErr x0 x1 master block]) ∧ Own w' w.heap.size v (opKey master block) ∧ Below w.heap.size w w':=by
 cases hf:formOK master block with
 | false =>
   refine (open_form master block am ab cm cb _ _ w hs.g0 rb hf).mono ?_
   rintro e w' ⟨rfl,bel⟩
   refine ⟨.slice none 0 0,?_,?_,bel⟩
   · unfold opU opG opErr okO
     rw [hf]
     rfl
   · unfold opKey okO
     rw [hf]
     exact own_nil _ _
 | true =>
   obtain ⟨h1,h2,h3⟩:=formOK_parts hf
   obtain ⟨kb,ko,rfl,rk⟩:=rm.range (by omega)
   obtain ⟨bb,bo,rfl,rbb⟩:=rb.range (by omega)
   have hc:36 ≤ cb:=by omega
   rw [h1,h2]
   refine (open_main master block kb ko cm bb bo cb _ _ w h1 h2 hc h3 hs.g1 rk rbb).mono ?_
   rintro e w' ⟨⟨g,rfl,hg,hk,ht⟩ | ⟨rfl,ht⟩,bel⟩
   · refine ⟨.slice (some ⟨g,0,none⟩) 16 16,?_,?_,bel⟩
     · unfold opU opG opErr okO
       rw [hf,ht]
       rfl
     · unfold opKey okO
       rw [hf,ht]
       exact own_of_blk hk (Nat.le_of_lt hg) (unkeyN_length _ _ h1 h2) (by unfold maxLen;omega)
   · refine ⟨.slice none 0 0,?_,?_,bel⟩
     · unfold opU opG opErr okO
       rw [hf,ht]
       rfl
     · unfold opKey okO
       rw [hf,ht]
       exact own_nil _ _
theorem code_nil (x0 x1:Addr) (w:World) (hs:Sents w x0 x1):Calls Tryz.prog 131 #[.nilIface] w fun e w'=>e = .returned (.int .i64 0) ∧ w' = w:=by
 have h0:=hs.g0
 have h1:=hs.g1
 clear hs
 go_enter Tryz.func131,Tryz.ntmps131
 go_wp2_with (go_at_call 164;refine (is_nil _ _).mono ?_;rintro e w' ⟨rfl,rfl⟩)
 go_ret
 exact ⟨rfl,rfl⟩
theorem code_form (x0 x1:Addr) (w:World) (hs:Sents w x0 x1):Calls Tryz.prog 131 #[.iface 376 (.pointer (some x0))] w fun e w'=>e = .returned (.int .i64 1) ∧ w' = w:=by
 have h0:=hs.g0
 clear hs
 go_enter Tryz.func131,Tryz.ntmps131
 go_wp2_with (go_at_call 164;refine (is_same _ _).mono ?_;rintro e w' ⟨rfl,rfl⟩)
 go_ret
 exact ⟨rfl,rfl⟩
theorem code_tag (x0 x1:Addr) (w:World) (hs:Sents w x0 x1):Calls Tryz.prog 131 #[.iface 376 (.pointer (some x1))] w fun e w'=>e = .returned (.int .i64 2) ∧ w' = w:=by
 have h0:=hs.g0
 have h1:=hs.g1
 obtain ⟨c0,t0,b0⟩:=hs.b0
 obtain ⟨c1,t1,b1⟩:=hs.b1
 have HO:=hide (is_other x1 x0 c1 c0 t1 t0 w (Ne.symm hs.ne) b1 b0)
 clear hs b0 b1
 go_enter Tryz.func131,Tryz.ntmps131
 go_wp2_with fail
 refine HO.out.mono ?_
 rintro e w' ⟨rfl,hw⟩
 subst w'
 go_wp2_with fail
 refine (is_same _ _).mono ?_
 rintro e w' ⟨rfl,hw⟩
 subst w'
 go_wp2_with fail
 go_ret
 exact ⟨rfl,rfl⟩
theorem code_any (x0 x1:Addr) (master block:List UInt8) (w:World) (hs:Sents w x0 x1):Calls Tryz.prog 131 #[opErr x0 x1 master block] w fun e w'=>e = .returned (.int .i64 (opCode master block)) ∧ w' = w:=by
 unfold opErr opCode
 split
 · split
   · exact code_nil x0 x1 w hs
   · exact code_tag x0 x1 w hs
 · exact code_form x0 x1 w hs
abbrev zeroOp:List Value:=[.int .i64 0,.int .i64 0,.int .i64 0,.slice none 0 0]
theorem Tryz.zeroOp:(Tryz.prog.info? 145).map (fun i=>(i.zero,i.size)) = some (some (.agg zeroOp.toArray),4):=by kernel_rfl
set_option maxRecDepth 100000 in
set_option maxHeartbeats 2000000 in
theorem unwrap_any (master block:List UInt8) (am ab:Option Addr) (cm cb:Nat) (x0 x1:Addr) (w:World) (hcb:block.length ≤ cb) (hs:Sents w x0 x1) (rm:RowAt w am master) (rb:RowAt w ab block) :
   Calls Tryz.prog 75 #[.slice am master.length cm,.slice ab block.length cb] w fun e w'=>∃ v,e = .returned (.agg #[.int .i64 (opCode master block),.int .i64 (opU master block),.int .i64 (opG master block),v]) ∧ Own w' w.heap.size v (opKey master block) ∧ Below w.heap.size w w':=by
 have HO:=hide (fun (wx:World) (h:Sents wx x0 x1) (h1:RowAt wx am master) (h2:RowAt wx ab block)=>open_any master block am ab cm cb x0 x1 wx hcb h h1 h2)
 have HC:=hide (fun (wx:World) (h:Sents wx x0 x1)=>code_any x0 x1 master block wx h)
 obtain ⟨n,hn⟩:∃ n,n = master.length:=⟨_,rfl⟩
 obtain ⟨m,hm⟩:∃ n,n = block.length:=⟨_,rfl⟩
 rw [← hn,← hm] at HO ⊢
 obtain ⟨C,hC⟩:∃ C,C = opCode master block:=⟨_,rfl⟩
 obtain ⟨U,hU⟩:∃ C,C = opU master block:=⟨_,rfl⟩
 obtain ⟨G,hG⟩:∃ C,C = opG master block:=⟨_,rfl⟩
 obtain ⟨E,hE⟩:∃ C,C = opErr x0 x1 master block:=⟨_,rfl⟩
 obtain ⟨K,hK⟩:∃ C,C = opKey master block:=⟨_,rfl⟩
 rw [← hC,← hE] at HC
 rw [← hU,← hG,← hE,← hK] at HO
 rw [← hC,← hU,← hG,← hK]
 have hz:=(zero_of_info Tryz.zeroOp).1
 have hzk:=(zero_of_info Tryz.zeroKI).1
 obtain ⟨W,hW⟩:∃ W,W = w.alloc (.cells zeroOp.toArray 145):=⟨_,rfl⟩
 have kW:Blk W w.heap.size 145 zeroOp:=by rw [hW];exact Blk.new w _ _
 have bW:Below w.heap.size w W:=by rw [hW];exact below_new _ _
 have lW:=kW.lt
 have rm':=rm.below bW
 have rb':=rb.below bW
 have hs':=hs.below bW
 clear hn hm hC hU hG hE hK rm rb hs hcb
 go_enter Tryz.func75,Tryz.ntmps75
 go_wp2_with fail
 rw [← hW]
 clear hW
 refine (HO.out W hs' rm' rb').mono ?_
 rintro e w1 ⟨v,rfl,own,bel⟩
 obtain ⟨a,c,rfl,-,-⟩:=own.shape
 obtain ⟨k,hk⟩:∃ n,n = K.length:=⟨_,rfl⟩
 rw [← hk] at own ⊢
 clear hk rm' rb'
 have hs1:=hs'.below bel
 have k1:=kW.below bel lW
 have b1:Below w.heap.size w w1:=bW.trans (bel.mono bW.size)
 obtain ⟨W1,hW1⟩:∃ x,x = w1.alloc (.cells zeroKI.toArray 55):=⟨_,rfl⟩
 have bn:Below w1.heap.size w1 W1:=by rw [hW1];exact below_new _ _
 have kn:Blk W1 w1.heap.size 55 zeroKI:=by rw [hW1];exact Blk.new _ _ _
 go_wp2_with (rw [← hW1];refine store_blk rfl 55 _ _ rfl w1.heap.size rfl rfl kn (by kernel_rfl) rfl (by kernel_rfl) ?_;intro w2 kn2 gn2 hn2)
 clear hW1
 have bel2:Below w1.heap.size w1 w2:=bn.grown gn2 (Nat.le_of_lt kn.lt) (by intro q hq;cases hq;exact Nat.le_refl _)
 have hs2:=hs1.below bel2
 have k2:=k1.below bel2 k1.lt
 have own2:=own.below bel2
 have b2:Below w.heap.size w w2:=b1.trans (bel2.mono b1.size)
 obtain ⟨gI,hgI⟩:∃ g,g = w1.heap.size:=⟨_,rfl⟩
 have hgl:w.heap.size < gI:=by rw [hgI];exact k1.lt
 rw [← hgI] at kn2 ⊢
 clear hs' hs1 k1 kW b1 bel bW own gn2 hn2 bn kn bel2 hgI
 obtain ⟨V,hV⟩:∃ V,V = World.drew w2:=⟨_,rfl⟩
 have kV:Blk V w.heap.size 145 zeroOp:=by rw [hV];exact k2.drew1
 have nV:Blk V gI 55 [.int .i64 U,.int .i64 G,.slice a k c]:=by rw [hV];exact kn2.drew1
 have bV:Below w.heap.size w V:=by rw [hV];exact b2.drew
 have oV:Own V W.heap.size (.slice a k c) K:=by rw [hV];exact own2
 have sV:Sents V x0 x1:=by rw [hV];exact ⟨hs2.g0,hs2.g1,hs2.ne,hs2.b0,hs2.b1⟩
 have keep:Hid (∀ {x:World},x.rangeAt gI 0 [.int .i64 U,.int .i64 G,.slice a k c] → x.rangeAt gI 0 [.int .i64 U,.int .i64 G,.slice a k c]):=fun h=>h
 have rV:V.rangeAt gI 0 [.int .i64 U,.int .i64 G,.slice a k c]:=blk_whole nV
 have rV2:(V.setRow w.heap.size [.int .i64 C,.int .i64 U,.int .i64 G,.slice a k c].toArray).rangeAt gI 0 [.int .i64 U,.int .i64 G,.slice a k c]:=blk_whole (nV.setRow_other (by omega))
 refine wp_region_held_drew (S:=fun x=>x.rangeAt gI 0 [.int .i64 U,.int .i64 G,.slice a k c]) (by kernel_rfl) (by rw [← hV];exact rV) (fun hHeld=>?_)
 rw [← hV] at hHeld ⊢
 clear hV k2 kn2 b2 own2 hs2
 refine tkA (i:=0) (v:=(E)) rfl hHeld ?_
 try dsimp only [Act.put]
 refine tk (i:=2) (v:=(.agg ([.int .i64 U,.int .i64 G,.slice a k c]:List Value).toArray)) rfl (yieldsIf_load_mid (by rfl) 55 _ rfl gI 0 rfl [.int .i64 U,.int .i64 G,.slice a k c] _ (fun _ h=>h) Tryz.underlying55 rfl (by kernel_rfl)) hHeld ?_
 dsimp only [Act.put,List.getElem_toArray,List.getElem_cons_zero,List.getElem_cons_succ]
 simp only [List.setIfInBounds_toArray,List.set_cons_succ,List.set_cons_zero]
 refine rdy1 1 (fun K hK=>?_)
 go_simp
 refine (HC.out V sV).mono ?_
 rintro e w_1 ⟨rfl,hw_1⟩
 subst w_1
 go_wp2_with fail
 refine hK.out _ _ (keep.out rV) (fun hHeld=>?_)
 clear hK K
 try dsimp only [Act.put]
 refine rdy1 3 (fun K hK=>?_)
 go_simp
 refine hK.out _ _ (keep.out rV) (fun hHeld=>?_)
 clear hK K
 try dsimp only [Act.put]
 refine rdy1 4 (fun K hK=>?_)
 rw [if_pos (by rfl)]
 refine wp_store_blk (cs:=[.int .i64 C,.int .i64 U,.int .i64 G,.slice a k c]) rfl 145 _ _ rfl w.heap.size rfl rfl kV (by kernel_rfl) rfl (by kernel_rfl) ?_
 skip
 refine hK.out _ _ (keep.out rV2) (fun hHeld=>?_)
 clear hK K
 try dsimp only [Act.put]
 refine wpAnyH_done (by kernel_rfl) ?_ _
 go_wp2_with fail
 exact ⟨rfl,_,results_blk Tryz.results75 _ _ rfl (Blk.setRow kV [.int .i64 C,.int .i64 U,.int .i64 G,.slice a k c]) Tryz.underlying145 rfl (by kernel_rfl),⟨_,rfl,own_base (own_setRow oV lW _) (Nat.le_of_lt lW),below_setRow' (g:=w.heap.size) bV (Nat.le_refl _) _⟩⟩
end Go.Proofs.YtbkokcjolanpeaaGreatDoor
