import Derived.Test.YtbkokcjolanpeaaGreatDoorMkAR
import Derived.Test.YtbkokcjolanpeaaGreatDoorRowJ
import Derived.Test.YtbkokcjolanpeaaGreatDoorTie
import Derived.Test.YtbkokcjolanpeaaGreatDoorCards
import Derived.Lib.LaidTab
import Derived.Stop.LaidErr
import Derived.Stop.LaidTwo
import Derived.LaidMore
import Derived.ChangeVars
import Derived.SevenTiedAt
import Derived.Stop.Joined
import Derived.ProofKit
import Derived.OpenShut
import Derived.ShutString
import Derived.ChangeOld
import Derived.Below
set_option maxRecDepth 100000
namespace Go.Proofs.YtbkokcjolanpeaaGreatDoor.fnRekey
open Go.ChangeShapes Go.WideShapes Go.ChangeAt Go.RowKit
open Go.ChangeMaps (open_string shut_string)
set_option linter.unusedVariables false
theorem own:ownKnob Tryz.prog.godebug = none:=by kernel_rfl
theorem laidOut:laidOutB Tryz.prog = true:=by kernel_rfl
def IsRow (k:IntKind) (w:World) (a:Option Addr) (len cap:Nat) (zs:List Int):Prop :=
 (a = none ∧ len = 0 ∧ cap = 0 ∧ zs = []) ∨
 ∃ x,a = some x ∧ len ≤ cap ∧ cap ≤ maxLen ∧ zs.length = cap ∧ (∀ i,i < zs.length → w.cell? (x.add i) = some (.int k (zs.getD i 0))) ∧ ∀ n ∈ zs,(Lit.int k n).wf = true
theorem vars_read3 {H:Type} (enc:TypeId × Value → H) {P:Program} {W:World} {n0 n1 n2:String} {g0 g1 g2:Nat} {t0 t1 t2:TypeId} {ms0 ms1 ms2:Array (String × TypeId)} {x0 x1 x2:Value}
   (hg0:P.globalNamed n0 = some g0) (ht0:(P.globals[g0]?).map (·.type) = some t0) (hi0:P.underlying t0 = some (.interface ms0)) (h0:W.var? P n0 = some #[x0]) (i0:IsIface x0)
   (hg1:P.globalNamed n1 = some g1) (ht1:(P.globals[g1]?).map (·.type) = some t1) (hi1:P.underlying t1 = some (.interface ms1)) (h1:W.var? P n1 = some #[x1]) (i1:IsIface x1)
   (hg2:P.globalNamed n2 = some g2) (ht2:(P.globals[g2]?).map (·.type) = some t2) (hi2:P.underlying t2 = some (.interface ms2)) (h2:W.var? P n2 = some #[x2]) (i2:IsIface x2) (sp:Nat → Bool) :
   DataW.TrodVars enc P W sp [n0,n1,n2] [tok enc x0,tok enc x1,tok enc x2] [.cell g0 0,.cell g1 0,.cell g2 0] :=
 ⟨g0,t0,#[x0],1,[],[.cell g1 0,.cell g2 0],hg0,ht0,h0,trod_held hi0 i0 0,vars_read2 enc hg1 ht1 hi1 h1 i1 hg2 ht2 hi2 h2 i2 sp,rfl⟩
theorem vars_read4 {H:Type} (enc:TypeId × Value → H) {P:Program} {W:World} {n0 n1 n2 n3:String} {g0 g1 g2 g3:Nat} {t0 t1 t2 t3:TypeId} {ms0 ms1 ms2 ms3:Array (String × TypeId)} {x0 x1 x2 x3:Value}
   (hg0:P.globalNamed n0 = some g0) (ht0:(P.globals[g0]?).map (·.type) = some t0) (hi0:P.underlying t0 = some (.interface ms0)) (h0:W.var? P n0 = some #[x0]) (i0:IsIface x0)
   (hg1:P.globalNamed n1 = some g1) (ht1:(P.globals[g1]?).map (·.type) = some t1) (hi1:P.underlying t1 = some (.interface ms1)) (h1:W.var? P n1 = some #[x1]) (i1:IsIface x1)
   (hg2:P.globalNamed n2 = some g2) (ht2:(P.globals[g2]?).map (·.type) = some t2) (hi2:P.underlying t2 = some (.interface ms2)) (h2:W.var? P n2 = some #[x2]) (i2:IsIface x2)
   (hg3:P.globalNamed n3 = some g3) (ht3:(P.globals[g3]?).map (·.type) = some t3) (hi3:P.underlying t3 = some (.interface ms3)) (h3:W.var? P n3 = some #[x3]) (i3:IsIface x3) (sp:Nat → Bool) :
   DataW.TrodVars enc P W sp [n0,n1,n2,n3] [tok enc x0,tok enc x1,tok enc x2,tok enc x3] [.cell g0 0,.cell g1 0,.cell g2 0,.cell g3 0] :=
 ⟨g0,t0,#[x0],1,[],[.cell g1 0,.cell g2 0,.cell g3 0],hg0,ht0,h0,trod_held hi0 i0 0,vars_read3 enc hg1 ht1 hi1 h1 i1 hg2 ht2 hi2 h2 i2 hg3 ht3 hi3 h3 i3 sp,rfl⟩
theorem g0:Tryz.prog.globalNamed "loop.example/s01728/impl.errBlockForm" = some 0:=by kernel_rfl
theorem t0:(Tryz.prog.globals[0]?).map (·.type) = some 75:=by kernel_rfl
theorem g1:Tryz.prog.globalNamed "loop.example/s01728/impl.errBlockTag" = some 1:=by kernel_rfl
theorem t1:(Tryz.prog.globals[1]?).map (·.type) = some 75:=by kernel_rfl
theorem g2:Tryz.prog.globalNamed "loop.example/s01728/impl.errBlockUse" = some 2:=by kernel_rfl
theorem t2:(Tryz.prog.globals[2]?).map (·.type) = some 75:=by kernel_rfl
theorem g3:Tryz.prog.globalNamed "loop.example/s01728/impl.errNotClear" = some 7:=by kernel_rfl
theorem t3:(Tryz.prog.globals[7]?).map (·.type) = some 75:=by kernel_rfl
theorem cE:Tryz.prog.cellsOf 378 = 1:=by kernel_rfl
theorem cS:Tryz.prog.cellsOf 9 = 1:=by kernel_rfl
theorem star: "*" ++ "errors.errorString" = "*errors.errorString":=by decide
theorem rowP (u:TypeId) (h:Tryz.prog.typeName? 3 u = some "*errors.errorString"):u = 376 :=
 typeName_ptr_named (nm:= "errors.errorString") (by rw [star];kernel_rfl) (by kernel_rfl) (by decide) u (by rw [star];exact h)
theorem var_below {P:Program} {W W':World} {n:String} {g:Nat} {cs:Array Value} (hg:P.globalNamed n = some g) (h:W.var? P n = some cs) (hb:Below W.heap.size W W'):W'.var? P n = some cs:=by
 unfold World.var? at h ⊢;simp only [hg,Option.bind_some] at h ⊢;have hlt:g < W.heap.size:=by
   cases hq:W.heap[g]? with
   | none=>simp [hq] at h
   | some o=>exact lt_of_block hq
 rw [hb.block g hlt];exact h
theorem door_met (os:Os) (args:Array Value):laidMetH Tryz.prog Rows.fnRekeyRow.laid ((World.doorLaid Tryz.prog 400 os).forCall (fun _ _=>0) ⟨#[],args,[]⟩).memory :=
 laidMetH_of_parts3 (fuel:=8) (laidMet_of_run' 8 (by kernel_rfl) (by kernel_rfl)) (by kernel_rfl) (by kernel_rfl)
theorem isRow_le {k:IntKind} {w:World} {a:Option Addr} {len cap:Nat} {zs:List Int} (h:IsRow k w a len cap zs):len ≤ maxLen:=by
 rcases h with ⟨-,h,-,-⟩ | ⟨x,-,h1,h2,-⟩ <;> omega
theorem isRow_row {w:World} {a:Option Addr} {len cap:Nat} {zs:List Int} (h:IsRow .u8 w a len cap zs):∃ bs:List UInt8,len = bs.length ∧ RowAt w a bs:=by
 rcases h with ⟨-,rfl,-,-⟩ | ⟨x,rfl,h1,h2,h3,hc,hw⟩
 · exact ⟨[],rfl,.inl rfl⟩
 · by_cases h0:len = 0
   · subst h0;exact ⟨[],rfl,.inl rfl⟩
   · obtain ⟨b,off,rfl,hc'⟩:=ints_at hc (by omega);have hl:((zs.take len).map fun z=>UInt8.ofNat z.toNat).length = len:=by simp;omega
     refine ⟨(zs.take len).map fun z=>UInt8.ofNat z.toNat,hl.symm,.inr ⟨b,off,rfl,?_⟩⟩;intro i hi;rw [hl] at hi;have hz:i < zs.length:=by omega
     have hb:=bounds_u8 (hw zs[i] (List.getElem_mem hz));rw [hc' i hz];have e1:zs.getD i 0 = zs[i]:=by simp [hz]
     have e2:((zs.take len).map fun z=>UInt8.ofNat z.toNat).getD i 0 = UInt8.ofNat zs[i].toNat:=by simp [hi,hz]
     rw [e1,e2,UInt8.toNat_ofNat']
     congr 2
     omega
theorem gTab:Tryz.prog.globalNamed "internal/strconv.uint64pow10" = some 5:=by kernel_rfl
theorem tTab:(Tryz.prog.globals[5]?).map (·.type) = some 370:=by kernel_rfl
theorem tab_in {W:World} (h:laidMet Tryz.prog Rows.fnRekeyRow.laid W):Lib.TabIs Tryz.prog W "internal/strconv.uint64pow10" .u64 Lib.pow10Tab :=
 Lib.tabIs_of_head (k:=.u64) (zs:=Lib.pow10Tab) gTab tTab Tryz.underlying370 Tryz.underlying198 (by kernel_rfl) (by kernel_rfl) (laidMet.tail (laidMet.tail h))
theorem tab_below {W W':World} (h:Lib.TabIs Tryz.prog W "internal/strconv.uint64pow10" .u64 Lib.pow10Tab) (hb:Below W.heap.size W W'):Lib.TabIs Tryz.prog W' "internal/strconv.uint64pow10" .u64 Lib.pow10Tab:=by
 unfold Lib.TabIs at h ⊢;exact var_below gTab h hb
theorem walk (a0:Option Addr) (len0 cap0:Nat) (z0:List Int) (a1:Option Addr) (len1 cap1:Nat) (z1:List Int) (w:World) (w0:IsRow .u8 w a0 len0 cap0 z0) (w1:IsRow .u8 w a1 len1 cap1 z1) (x0 x1:Addr) (hs:Sents w x0 x1) (x2:Addr) (hg2:w.cell? ⟨2,0,none⟩ = some (.iface 376 (.pointer (some x2)))) (x3:Addr) (hg3:w.cell? ⟨7,0,none⟩ = some (.iface 376 (.pointer (some x3)))) (hT:∀ w',Below w.heap.size w w' → Lib.TabIs Tryz.prog w' "internal/strconv.uint64pow10" .u64 Lib.pow10Tab) :
   Calls Tryz.prog 4 #[.slice a0 len0 cap0,.slice a1 len1 cap1] w fun e w'=>e = .returned (.bool true) ∧ Below w.heap.size w w':=by
 obtain ⟨bs0,rfl,hr0⟩:=isRow_row w0;obtain ⟨bs1,rfl,hr1⟩:=isRow_row w1;exact XU a0 a1 cap0 cap1 bs0 bs1 x0 x1 w (isRow_le w0) (isRow_le w1) hs hr0 hr1 hT
theorem lifted (os:Os) (started:os.Started) (H:Type) (enc:TypeId × Value → H) :
   ReturnsInHanded {} Tryz.checked os 4 .any (fun w args=>(Rows.fnRekeySpec.pre enc Tryz.prog Tryz.f4 [] false w args ∧ laidMetH Tryz.prog Rows.fnRekeyRow.laid w) ∧ sizedMet enc Tryz.prog Tryz.f4 (OpenSpec.ofChange Rows.fnRekeySpec) false w args) (Rows.fnRekeySpec.post enc Tryz.prog Tryz.f4 false true false false):=by
 refine returnsInHanded_of_change_and (C:=Tryz.checked) (X:=fun w _=>laidMetH Tryz.prog Rows.fnRekeyRow.laid w) (fun _ _ _ hh h=>h.of_heap hh) own started (by kernel_rfl) Tryz.func4
   (ChangeSpec.witness_shaped (enc:=enc) (C:=Tryz.checked) (os:=os) (X:=fun w _=>laidMetH Tryz.prog Rows.fnRekeyRow.laid w) false (World.doorLaid Tryz.prog 400 os) #[.slice none 0 0,.slice none 0 0] 8 rfl (World.shaped_of_RefB (by kernel_rfl) (by kernel_rfl)) (by kernel_rfl) (by kernel_rfl) (by kernel_rfl) (door_met os _)) ?_
 intro W base args ds gs before hval0 hW _ _ hL _;have hval:∀ (j:Nat) t v,Tryz.f4.params[j]? = some t → args[j]? = some v → Value.okWide Tryz.prog W .any base t v:=hval0;have hW':=hW;obtain ⟨p,q,hA0,hV,rfl,hfz,hnd⟩:=hW;have hA:DataW.TrodAll enc Tryz.prog W 0 (fun _=>true) true Tryz.f4.params.toList args.toList ds p:=hA0;rw [Tryz.params4] at hA hval;obtain ⟨v0,vs0,d0,ds0,p0,q0,hargs,rfl,rfl,h0,r0⟩:=trodAll_cons hA;obtain ⟨v1,vs1,d1,ds1,p1,q1,rfl,rfl,rfl,h1,r1⟩:=trodAll_cons r0;obtain ⟨rfl,rfl,rfl⟩:=trodAll_nil r1;obtain rfl:args = #[v0,v1]:=by cases args;simp_all
 rw [MakeChecks.laidMetH_plain _ _ _ (by kernel_rfl)] at hL;have hTb:=tab_in hL;obtain ⟨x0,x1,s0,s1,bc0,bc1,bt0,bt1,hv0,hv1,-,-,-,-,-,-,hne,hb0,hb1⟩:=laid_sentinels2 (P:=Tryz.prog) (laidMet.tail (laidMet.tail (laidMet.tail (laidMet.tail (laidMet.tail hL))))) g0 t0 g1 t1 Tryz.underlying75 rowP Tryz.underlying376 Tryz.underlying378 rfl rfl Tryz.underlying9 cE cS;have hs:Sents W x0 x1:=⟨by simpa using World.var?_cell g0 hv0 0,by simpa using World.var?_cell g1 hv1 0,hne,⟨bc0,bt0,hb0⟩,⟨bc1,bt1,hb1⟩⟩;obtain ⟨x2,s2,hv2,-,-,-⟩:=laid_sentinel (P:=Tryz.prog) (laidMet.tail (laidMet.tail (laidMet.tail (laidMet.tail (laidMet.tail (laidMet.tail (laidMet.tail hL))))))) g2 t2 Tryz.underlying75 rowP Tryz.underlying376 Tryz.underlying378 rfl rfl Tryz.underlying9 cE cS;have hg2:W.cell? ⟨2,0,none⟩ = some (.iface 376 (.pointer (some x2))):=by simpa using World.var?_cell g2 hv2 0
 obtain ⟨x3,s3,hv3,-,-,-⟩:=laid_sentinel (P:=Tryz.prog) (laidMet.tail (laidMet.tail (laidMet.tail (laidMet.tail (laidMet.tail (laidMet.tail (laidMet.tail (laidMet.tail hL)))))))) g3 t3 Tryz.underlying75 rowP Tryz.underlying376 Tryz.underlying378 rfl rfl Tryz.underlying9 cE cS;have hg3:W.cell? ⟨7,0,none⟩ = some (.iface 376 (.pointer (some x3))):=by simpa using World.var?_cell g3 hv3 0
 have hV':DataW.TrodVars enc Tryz.prog W (fun _=>true) ["loop.example/s01728/impl.errBlockUse","loop.example/s01728/impl.errBlockForm","loop.example/s01728/impl.errBlockTag","loop.example/s01728/impl.errNotClear"] gs q:=hV;obtain ⟨rfl,rfl⟩:=hV'.unique (vars_read4 enc g2 t2 Tryz.underlying75 hv2 trivial g0 t0 Tryz.underlying75 hv0 trivial g1 t1 Tryz.underlying75 hv1 trivial g3 t3 Tryz.underlying75 hv3 trivial _);obtain ⟨a0,len0,cap0,rfl⟩:=okWide_slice Tryz.underlying22 (hval 0 22 v0 rfl rfl);have k0:=h0;have lt0:∀ x ∈ p0,x.block < W.heap.size:=by obtain ⟨m,hm⟩:=k0;exact DataW.trod_lt m _ _ _ hm
 obtain ⟨z0,w0⟩:∃ zs,IsRow .u8 W a0 len0 cap0 zs:=by
   obtain ⟨fuel,hf⟩:=h0;rcases open_ints Tryz.underlying22 Tryz.underlying5 (by kernel_rfl) hf with ⟨hcs,_⟩ | ⟨x,l,c,zs,hcs,_,hl,hm,hz,_,hcell,hwz⟩
   · simp [Value.cells] at hcs;obtain ⟨rfl,rfl,rfl⟩:=hcs;exact ⟨[],.inl ⟨rfl,rfl,rfl,rfl⟩⟩
   · simp [Value.cells] at hcs;obtain ⟨rfl,rfl,rfl⟩:=hcs;exact ⟨zs,.inr ⟨_,rfl,hl,hm,by simpa using hz,hcell,hwz⟩⟩
 obtain ⟨a1,len1,cap1,rfl⟩:=okWide_slice Tryz.underlying22 (hval 1 22 v1 rfl rfl);have k1:=h1;have lt1:∀ x ∈ p1,x.block < W.heap.size:=by obtain ⟨m,hm⟩:=k1;exact DataW.trod_lt m _ _ _ hm
 obtain ⟨z1,w1⟩:∃ zs,IsRow .u8 W a1 len1 cap1 zs:=by
   obtain ⟨fuel,hf⟩:=h1;rcases open_ints Tryz.underlying22 Tryz.underlying5 (by kernel_rfl) hf with ⟨hcs,_⟩ | ⟨x,l,c,zs,hcs,_,hl,hm,hz,_,hcell,hwz⟩
   · simp [Value.cells] at hcs;obtain ⟨rfl,rfl,rfl⟩:=hcs;exact ⟨[],.inl ⟨rfl,rfl,rfl,rfl⟩⟩
   · simp [Value.cells] at hcs;obtain ⟨rfl,rfl,rfl⟩:=hcs;exact ⟨zs,.inr ⟨_,rfl,hl,hm,by simpa using hz,hcell,hwz⟩⟩
 clear hA0 hval0;refine (walk a0 len0 cap0 z0 a1 len1 cap1 z1 W w0 w1 x0 x1 hs x2 hg2 x3 hg3 (fun w' hb=>tab_below hTb hb)).mono fun e W' ⟨he,bel⟩=>?_;subst he;exact ⟨_,rfl,_,_,_,[],_,_,hW',trodAll_mk1 (shut_bool Tryz.underlying4 _),(trodAll_cons_mk (Below.trod laidOut (by kernel_rfl) (of_decide_eq_true (by kernel_rfl)) k0 bel lt0) (trodAll_cons_mk (Below.trod laidOut (by kernel_rfl) (of_decide_eq_true (by kernel_rfl)) k1 bel lt1) trodAll_mk0)),vars_read4 enc g2 t2 Tryz.underlying75 (var_below g2 hv2 bel) trivial g0 t0 Tryz.underlying75 (var_below g0 hv0 bel) trivial g1 t1 Tryz.underlying75 (var_below g1 hv1 bel) trivial g3 t3 Tryz.underlying75 (var_below g3 hv3 bel) trivial _,bel.frame _,fun h=>by cases h⟩
theorem over:Rows.fnRekeyRow.holds Tryz.pinned (OpenSpec.ofChange Rows.fnRekeySpec) :=
 OpenClaim.holds_of_wide 4 Tryz.f4 rfl rfl rfl rfl rfl rfl rfl ⟨rfl,rfl,rfl,rfl,rfl⟩ rfl rfl rfl rfl rfl (by kernel_rfl) Tryz.func4 jE
   (of_decide_eq_true (by kernel_rfl)) (by unfold Func.isWrapper;first | (rw [if_pos (by decide +kernel)];kernel_rfl) | (rw [if_neg (by decide +kernel)];exact ⟨rfl,rfl⟩))
   (fun os started H enc _=>lifted os started H enc)
theorem proved:Rows.FnRekeySaid:=over
theorem card_holds:Claim7.holds Tryz.pinned (.plain (OpenSpec.ofChange Rows.fnRekeySpec)) Rows.fnRekeyCard :=
 Claim7.holds_tied_plain_at .later [] [.data,.data,.data,.sentinel,.sentinel,.sentinel,.sentinel,.sentinel,.sentinel] true (true,"7463e1918d070ed26d593f04b3b958a5385559dbd50fccfac7136d3280ffd364") true
   proved (fun _ h=>by cases h) (by kernel_rfl) (fun _ h=>by cases h) fnRekey_row_tie rfl ⟨rfl,rfl⟩ (by kernel_rfl) rfl
   (fun f fn hf hfn=>by
     obtain rfl:f = 4:=Option.some.inj ((show Tryz.prog.funcNamed "loop.example/s01728/laws.FnRekey" = some 4 by kernel_rfl).symm.trans hf) |>.symm;obtain rfl:fn = Tryz.f4:=(Option.some.inj (Tryz.func4.symm.trans hfn)).symm;exact ⟨by kernel_rfl,fun j t ht=>by
       rw [Tryz.params4] at ht;have hm:t ∈ [22,22]:=by simpa using Array.mem_of_getElem? ht
       have hall:([22,22].all fun u=>!Tryz.prog.wantsStandIn u) = true:=by kernel_rfl
       exact (show Tryz.prog.wantsStandIn t = false by simpa using List.all_eq_true.1 hall t hm)⟩)
   (by kernel_rfl)
end Go.Proofs.YtbkokcjolanpeaaGreatDoor.fnRekey
namespace Go.Proofs.YtbkokcjolanpeaaGreatDoor
theorem fnRekey_holds:Rows.FnRekeyCardSaid:=fnRekey.card_holds
end Go.Proofs.YtbkokcjolanpeaaGreatDoor
