import Derived.Deep.RegionHeld3
import Derived.WalkKit
import Derived.WalkSpells
import Derived.Test.YtbkokcjolanpeaaGreatDoorRows
import Derived.WalkLawsBesides
import Derived.Deep.QuietTactic
import Derived.BigQuiet
import Derived.Laws.BitsAllLaws
import Derived.Deep.WholeRow
import Derived.Deep.RegionWith
import Derived.Maps.AppendAt
import Derived.Deep.SlicePairs
import Derived.Deep.MidRow
set_option maxRecDepth 100000
set_option maxHeartbeats 5000000
namespace Go.Proofs.YtbkokcjolanpeaaGreatDoor
open Go.RowKit Go.Proofs.Tryz Act
theorem pS:type_of% ((And.intro @List.getElem_toArray.{0} (And.intro @List.getElem_cons_zero.{0} (And.intro @List.getElem_cons_succ.{0} (And.intro @List.setIfInBounds_toArray.{0} (And.intro @List.set_cons_succ.{0} @List.set_cons_zero.{0})))))):=(And.intro @List.getElem_toArray.{0} (And.intro @List.getElem_cons_zero.{0} (And.intro @List.getElem_cons_succ.{0} (And.intro @List.setIfInBounds_toArray.{0} (And.intro @List.set_cons_succ.{0} @List.set_cons_zero.{0})))))
abbrev LU:=List UInt8
abbrev Bl (a b:World):Prop:=Below a.heap.size a b
theorem QA:type_of% @List.getD_eq_getElem?_getD:=@List.getD_eq_getElem?_getD
theorem QC:type_of% @List.length_append:=@List.length_append
theorem QD:type_of% @List.length_map:=@List.length_map
theorem QE:type_of% @Nat.le_refl:=@Nat.le_refl
theorem QF:type_of% @World.block_lt_of_cell?:=@World.block_lt_of_cell?
theorem QG:type_of% @Nat.le_trans:=@Nat.le_trans
theorem QH:type_of% @IntKind.wrap_i64:=@IntKind.wrap_i64
theorem QI:type_of% @List.length_take:=@List.length_take
theorem QJ:type_of% @wp_region_held_drew:=@wp_region_held_drew
theorem QK:type_of% @decide_eq_true:=@decide_eq_true
theorem QM:type_of% @wpAnyH_done:=@wpAnyH_done
theorem QN:type_of% @List.length_drop:=@List.length_drop
theorem QO:type_of% @zero_of_info:=@zero_of_info
theorem QP:type_of% @beq_eq_false_iff_ne:=@beq_eq_false_iff_ne
theorem QQ:type_of% @List.length_set:=@List.length_set
theorem QS:type_of% @List.take_of_length_le:=@List.take_of_length_le
theorem QT:type_of% @decide_eq_false:=@decide_eq_false
theorem QU:type_of% @Nat.zero_le:=@Nat.zero_le
theorem QV:type_of% @List.append_assoc:=@List.append_assoc
theorem QW:type_of% @UInt8.toNat_lt:=@UInt8.toNat_lt
theorem QX:type_of% @Nat.lt_of_lt_of_le:=@Nat.lt_of_lt_of_le
theorem QY:type_of% @yieldsIf_load_mid:=@yieldsIf_load_mid
theorem QZ:type_of% @Nat.zero_add:=@Nat.zero_add
theorem Qa:type_of% @World.ownsRow_nil:=@World.ownsRow_nil
theorem Qb:type_of% @UInt8.toNat_ofNat':=@UInt8.toNat_ofNat'
theorem Qc:type_of% @bodyPost_ret:=@bodyPost_ret
theorem Qd:type_of% @List.getElem_mem:=@List.getElem_mem
theorem Qe:type_of% @Sem.run_bind:=@Sem.run_bind
theorem Qf:type_of% @List.map_append:=@List.map_append
theorem Qg:type_of% @info_parts:=@info_parts
theorem Qh:type_of% @decide_eq_true_eq:=@decide_eq_true_eq
theorem Qi:type_of% @wpList_append_own:=@wpList_append_own
theorem Qj:type_of% @Nat.not_lt_zero:=@Nat.not_lt_zero
theorem Qk:type_of% @Int.tmod_eq_emod_of_nonneg:=@Int.tmod_eq_emod_of_nonneg
theorem Ql:type_of% @Array.length_toList:=@Array.length_toList
theorem Qm:type_of% @Bool.and_eq_true:=@Bool.and_eq_true
theorem Qn:type_of% @List.length_cons:=@List.length_cons
theorem Qo:type_of% @List.size_toArray:=@List.size_toArray
theorem Qp:type_of% @Bool.true_and:=@Bool.true_and
theorem Qq:type_of% @wpList_append_own_at:=@wpList_append_own_at
theorem Qr:type_of% @wpAnyH_ready:=@wpAnyH_ready
theorem Qs:type_of% @UInt8.toNat_xor:=@UInt8.toNat_xor
theorem Qt:type_of% @List.all_eq_true:=@List.all_eq_true
theorem Qu:type_of% @List.take_succ_eq_append_getElem:=@List.take_succ_eq_append_getElem
theorem Qv:type_of% @wpList_make_full:=@wpList_make_full
theorem Qw:type_of% @wpList_load_mid:=@wpList_load_mid
theorem Qx:type_of% @Nat.xor_lt_two_pow:=@Nat.xor_lt_two_pow
theorem Qy:type_of% @List.drop_append_of_le_length:=@List.drop_append_of_le_length
theorem Qz:type_of% @List.mem_map:=@List.mem_map
theorem qA:type_of% @List.ext_getElem?:=@List.ext_getElem?
theorem qB:type_of% @Result.andThen_ok:=@Result.andThen_ok
theorem qC:type_of% @List.set_append_right:=@List.set_append_right
theorem qD:type_of% @List.map_cons:=@List.map_cons
theorem qE:type_of% @List.drop_of_length_le:=@List.drop_of_length_le
theorem qF:type_of% @Nat.mod_eq_of_lt:=@Nat.mod_eq_of_lt
theorem qG:type_of% @Option.getD_some:=@Option.getD_some
theorem qH:type_of% @List.length_nil:=@List.length_nil
theorem qI:type_of% @List.foldl_cons:=@List.foldl_cons
theorem qJ:type_of% @Bool.false_and:=@Bool.false_and
theorem qK:type_of% @u8_xor_nat:=@u8_xor_nat
theorem qL:type_of% @List.ext_getElem:=@List.ext_getElem
theorem qM:type_of% @List.append_nil:=@List.append_nil
theorem qN:type_of% @List.map_nil:=@List.map_nil
theorem qO:type_of% @Nat.or_lt_two_pow:=@Nat.or_lt_two_pow
theorem qP:type_of% @List.map_set:=@List.map_set
theorem qQ:type_of% @List.nil_append:=@List.nil_append
theorem qR:type_of% @List.map_toArray:=@List.map_toArray
theorem qS:type_of% @lt_of_block:=@lt_of_block
theorem qT:type_of% @List.take_append_of_le_length:=@List.take_append_of_le_length
theorem qU:type_of% @Nat.mul_le_mul_right:=@Nat.mul_le_mul_right
theorem qV:type_of% @List.mem_of_mem_take:=@List.mem_of_mem_take
theorem qW:type_of% @run_underlying:=@run_underlying
theorem qX:type_of% @Nat.div_le_self:=@Nat.div_le_self
theorem qY:type_of% @ownsRow_setCell_below:=@ownsRow_setCell_below
theorem qZ:type_of% @Addr.add_mid:=@Addr.add_mid
theorem qc:type_of% @Array.all_eq_true_iff_forall_mem:=@Array.all_eq_true_iff_forall_mem
theorem qd:type_of% @List.not_mem_nil:=@List.not_mem_nil
theorem qg:type_of% @List.drop_eq_getElem_cons:=@List.drop_eq_getElem_cons
theorem qh:type_of% @List.flatten_append:=@List.flatten_append
theorem qi:type_of% @List.getElem_of_mem:=@List.getElem_of_mem
theorem qj:type_of% @List.length_range:=@List.length_range
theorem qk:type_of% @List.take_append_drop:=@List.take_append_drop
theorem ql:type_of% @Sem.run_pure:=@Sem.run_pure
theorem qm:type_of% @bne_iff_ne:=@bne_iff_ne
theorem qn:type_of% @List.mem_of_mem_drop:=@List.mem_of_mem_drop
theorem qo:type_of% @Nat.pow_le_pow_right:=@Nat.pow_le_pow_right
theorem qp:type_of% @List.mem_range:=@List.mem_range
theorem qq:type_of% @Nat.add_zero:=@Nat.add_zero
theorem qr:type_of% @List.map_congr_left:=@List.map_congr_left
theorem qs:type_of% @bne_eq_false_iff_eq:=@bne_eq_false_iff_eq
theorem qt:type_of% @List.take_length:=@List.take_length
theorem qv:type_of% @heap_setCell_other:=@heap_setCell_other
theorem qw:type_of% @List.set_cons_zero:=@List.set_cons_zero
theorem qx:type_of% @List.mem_cons:=@List.mem_cons
theorem qy:type_of% @cell_one_new:=@cell_one_new
theorem qz:type_of% @Nat.le_of_lt:=@Nat.le_of_lt
theorem JA:type_of% @List.map_map:=@List.map_map
theorem JB:type_of% @UInt8.zero_xor:=@UInt8.zero_xor
theorem JC:type_of% @List.take_left:=@List.take_left
theorem JD:type_of% @of_decide_eq_true:=@of_decide_eq_true
theorem JE:type_of% @IntKind.wrap_u8:=@IntKind.wrap_u8
theorem JF:type_of% @Nat.sub_self:=@Nat.sub_self
section
variable {P:Program} {md:Region.Mode} {ops:Array Oper} {Q:Exit -> Act -> World -> Prop} {S:World -> Prop} {fuel:Nat} {listed:Array Bool} {a:Act} {w:World}
theorem rdy1 (i:Nat) {o:Oper}
 (h:∀ K':Act -> World -> Prop,Shut (∀ a w,S w -> (S w -> wpAnyH P md ops Q S fuel (listed.setIfInBounds i true) a w) -> K' a w) -> if Region.wanted o (yielded ops a.tmps) = true then Oper.wp P o a w K' Q else K' (a.put o.dst undef) w)
 (hr:Region.ready md ops listed = [i]:=by kernel_rfl) (ho:ops[i]? = some o:=by rfl):wpAnyH P md ops Q S (fuel + 1) listed a w :=
 Qr hr (by simp) (AllReadyH.cons ho h AllReadyH.nil)
theorem tk {i:Nat} {oi:Oper} {v:Value} (hi:ops[i]? = some oi) (hy:YieldsIf P ops S oi v a) (hS:S w) (h:wpAnyH P md ops Q S fuel (listed.setIfInBounds i true) (a.put oi.dst v) w)
 (hs:Region.noSelect ops = true:=by kernel_rfl) (hf:Region.free md ops listed i = true:=by kernel_rfl) (hr:(Region.ready md ops listed).contains i = true:=by kernel_rfl)
 (hQ:∀ c a w,Q (.panic c) (a.put oi.dst v) w -> Q (.panic c) a w:=by exact fun _ _ _ h=>h):wpAnyH P md ops Q S (fuel + 1) listed a w :=
 wpAnyH_take hi hs hf hr hQ hy hS h
theorem tkA {i:Nat} {oi:Oper} {v:Value} (hi:ops[i]? = some oi) (hS:S w) (h:wpAnyH P md ops Q S fuel (listed.setIfInBounds i true) (a.put oi.dst v) w) (hy:YieldsIf P ops S oi v a:=by exact Or.inl ⟨by rfl,fun _ _=>by go_simp⟩)
 (hs:Region.noSelect ops = true:=by kernel_rfl) (hf:Region.free md ops listed i = true:=by kernel_rfl) (hr:(Region.ready md ops listed).contains i = true:=by kernel_rfl)
 (hQ:∀ c a w,Q (.panic c) (a.put oi.dst v) w -> Q (.panic c) a w:=by exact fun _ _ _ h=>h):wpAnyH P md ops Q S (fuel + 1) listed a w :=
 tk hi hy hS h hs hf hr hQ
end
section
variable {P : Program} {md : Region.Mode} {ops : Array Oper} {Q : Exit -> Act -> World -> Prop} {S : World -> Prop} {fuel : Nat} {listed : Array Bool} {a : Act} {w : World}
theorem tA (i:Nat) (v:Value) {oi:Oper} {k:Tmp} (hS:S w) (h:wpAnyH P md ops Q S fuel (listed.setIfInBounds i true) (a.put (some k) v) w) (hi:ops[i]? = some oi:=by rfl) (hd:oi.dst = some k:=by rfl) (hy:YieldsIf P ops S oi v a:=by exact Or.inl ⟨by rfl,fun _ _=>by go_simp⟩) (hs:Region.noSelect ops = true:=by kernel_rfl) (hf:Region.free md ops listed i = true:=by kernel_rfl) (hr:(Region.ready md ops listed).contains i = true:=by kernel_rfl) (hQ:∀ c a w,Q (.panic c) (a.put oi.dst v) w->Q (.panic c) a w:=by exact fun _ _ _ h=>h):wpAnyH P md ops Q S (fuel + 1) listed a w:=tk hi hy hS (by rw [hd];exact h) hs hf hr hQ
theorem tB (i:Nat) (v:Value) {oi:Oper} {k:Tmp} (hi:ops[i]? = some oi) (hy:YieldsIf P ops S oi v a) (hS:S w) (h:wpAnyH P md ops Q S fuel (listed.setIfInBounds i true) (a.put (some k) v) w) (hd:oi.dst = some k:=by rfl) (hs:Region.noSelect ops = true:=by kernel_rfl) (hf:Region.free md ops listed i = true:=by kernel_rfl) (hr:(Region.ready md ops listed).contains i = true:=by kernel_rfl) (hQ:∀ c a w,Q (.panic c) (a.put oi.dst v) w->Q (.panic c) a w:=by exact fun _ _ _ h=>h):wpAnyH P md ops Q S (fuel + 1) listed a w:=tk hi hy hS (by rw [hd];exact h) hs hf hr hQ
theorem tC (i:Nat) (v:Value) {oi:Oper} {k:Tmp} (hi:ops[i]? = some oi) (hy:∀ w,S w->(execOp a.eval oi).run P w = .ok (.value v) w) (hS:S w) (h:wpAnyH P md ops Q S fuel (listed.setIfInBounds i true) (a.put (some k) v) w) (hd:oi.dst = some k:=by rfl) (hg:Region.wanted oi (yielded ops a.tmps) = true:=by rfl) (hs:Region.noSelect ops = true:=by kernel_rfl) (hf:Region.free md ops listed i = true:=by kernel_rfl) (hr:(Region.ready md ops listed).contains i = true:=by kernel_rfl) (hQ:∀ c a w,Q (.panic c) (a.put oi.dst v) w->Q (.panic c) a w:=by exact fun _ _ _ h=>h):wpAnyH P md ops Q S (fuel + 1) listed a w:=tk hi (.inl ⟨hg,hy⟩) hS (by rw [hd];exact h) hs hf hr hQ
end
def byte (b:UInt8):Value:=.int .u8 (b.toNat:Int)
def RowAt (w:World) (ao:Option Addr) (bs:LU):Prop :=
 bs = [] \/ ∃ b off,ao = some ⟨b,off,none⟩ /\ ∀ i,i < bs.length -> w.cell? ⟨b,off + i,none⟩ = some (.int .u8 ((bs.getD i 0).toNat:Int))
theorem RowAt.at {w:World} {ao:Option Addr} {bs:LU} (h:RowAt w ao bs) {k:Nat} (hk:k < bs.length) :
 ∃ b off,ao = some ⟨b,off,none⟩ /\ ∀ i,i < bs.length -> w.cell? ⟨b,off + i,none⟩ = some (.int .u8 ((bs.getD i 0).toNat:Int)):=by
 rcases h with rfl | h
 ·simp at hk
 ·exact h
theorem RowAt.lt {w:World} {b off:Nat} {bs:LU} (h:∀ i,i < bs.length -> w.cell? ⟨b,off + i,none⟩ = some (.int .u8 ((bs.getD i 0).toNat:Int))) {k:Nat} (hk:k < bs.length):b < w.heap.size:=by
 have:=h k hk;exact QF w _ this
def Own (w:World) (base:Nat) (v:Value) (bs:LU):Prop:=∃ t,w.ownsRow base t 1 v bs.length (bs.map byte)
theorem Own.shape {w:World} {base:Nat} {v:Value} {bs:LU} (h:Own w base v bs) :
 ∃ ao cap,v = .slice ao bs.length cap /\ RowAt w ao bs /\ (∀ a,ao = some a -> ∃ g,a = ⟨g,0,none⟩ /\ base <= g /\ g < w.heap.size) /\ (ao = none -> bs = []) /\ bs.length <= maxLen:=by
 obtain ⟨t,h⟩:=h;rcases h.2 with ⟨hv,hn⟩ | ⟨g,cap,cur,hv,hb,hh,hn,hm,hs,ht⟩
 ·refine ⟨none,0,?_,.inl (List.length_eq_zero_iff.1 hn),?_,fun _=>List.length_eq_zero_iff.1 hn,by omega⟩
  ·rw [hv,hn]
  ·intro a ha;cases ha
 ·subst hv;refine ⟨some ⟨g,0,none⟩,cap,rfl,.inr ⟨g,0,rfl,?_⟩,?_,?_,by omega⟩
  ·intro i hi;rw [QZ,h.cellAt i (by omega)];simp [hi,byte]
  ·intro a ha;cases ha;exact ⟨g,rfl,hb,qS hh⟩
  ·intro hc;cases hc
theorem Ma {w:World} {base e size g n cap:Nat} {xs:List Value} (h:w.ownsRow base e size (.slice (some ⟨g,0,none⟩) n cap) n xs) {j:Nat} (hj:j < n * size):∃ u,w.cell? ⟨g,j,none⟩ = some u:=by
 rw [h.cellAt j hj];have:=h.1;exact ⟨xs[j]'(by omega),List.getElem?_eq_getElem _⟩
theorem RowAt.grown {w w':World} {row:Option Nat} {ao:Option Addr} {bs:LU} (h:RowAt w ao bs) (hg:w.grownBy w' row) (hne:∀ a,ao = some a -> row ≠ some a.block):RowAt w' ao bs:=by
 rcases h with rfl | ⟨b,off,rfl,hc⟩
 ·exact .inl rfl
 ·exact .inr ⟨b,off,rfl,fun i hi=>hg.cell (hc i hi) (fun e=>hne _ rfl e.symm)⟩
theorem RowAt.below {w w':World} {ao:Option Addr} {bs:LU} (h:RowAt w ao bs) (hb:Bl w w'):RowAt w' ao bs:=by
 rcases h with rfl | ⟨b,off,rfl,hc⟩
 ·exact .inl rfl
 ·exact .inr ⟨b,off,rfl,fun i hi=>by rw [hb.cell (p:=⟨b,off + i,none⟩) (QF w _ (hc i hi))];exact hc i hi⟩
theorem RowAt.drew1 {w:World} {ao:Option Addr} {bs:LU} (h:RowAt w ao bs):RowAt w.drew ao bs:=h
theorem Ac {w w':World} (h:w.grownBy w' none):Bl w w':=⟨h.os,h.tape,h.output,h.size,fun k hk=>h.block k hk (by simp)⟩
theorem grown_of_below {w w':World} (h:Bl w w') (row:Option Nat):w.grownBy w' row:=⟨h.os,h.tape,h.output,h.size,fun k hk _=>h.block k hk⟩
theorem grown_trans {a b c:World} {row:Option Nat} (h:a.grownBy b row) (k:b.grownBy c row):a.grownBy c row :=
 ⟨k.os.trans h.os,k.tape.trans h.tape,k.output.trans h.output,QG h.size k.size,fun i hi hr=>(k.block i (QX hi h.size) hr).trans (h.block i hi hr)⟩
theorem Own.grown {w w':World} {row:Option Nat} {base:Nat} {v:Value} {bs:LU} (h:Own w base v bs) (hg:w.grownBy w' row) (hne:v.ownBlock = none \/ v.ownBlock ≠ row):Own w' base v bs:=by
 obtain ⟨t,h⟩:=h;exact ⟨t,World.ownsRow.kept h hg hne⟩
theorem CH {k:IntKind} {a b:Int} (h:a = b):Ending.returned (.int k a) = .returned (.int k b):=by rw [h]
theorem B3 {α:Type} (l:List α) (k:Nat) (h:k < l.length):l.take (k + 1) = l.take k ++ [l[k]]:=by
 rw [Qu h]
theorem Tryz.info5:(prog.info? 5).map (fun i=>(i.zero,i.size,i.bytes)) = some (some (.int .u8 0),1,1):=by kernel_rfl
theorem Cl (n:Nat):(madeCells (Value.int .u8 0).cells (n * 1)).toList = List.replicate n (.int .u8 0):=by
 rw [Nat.mul_one];exact toList_madeCells_one _ _
def EK (bs:LU) (k:Nat):List Value:=(bs.take k).map byte ++ List.replicate (bs.length - k) (.int .u8 0)
theorem KC (bs:LU):EK bs 0 = List.replicate bs.length (.int .u8 0):=by simp [EK]
theorem L6 (bs:LU):EK bs bs.length = bs.map byte:=by simp [EK]
theorem L3 (bs:LU) (k:Nat) (h:k < bs.length):(EK bs k).set k (byte bs[k]) = EK bs (k + 1):=by
 unfold EK;have hl:((bs.take k).map byte).length = k:=by simp;omega
 rw [qC _ _ (by omega),hl,JF];obtain ⟨m,hm⟩:∃ m,bs.length - k = m + 1:=⟨bs.length - k - 1,by omega⟩;rw [hm,List.replicate_succ,qw,B3 bs k h,show bs.length - (k + 1) = m from by omega];simp only [Qf,qD,qN,QV,List.singleton_append]
def LK (k n:Nat):LU:=(List.range n).map fun i=>UInt8.ofNat (k + i)
theorem RowAt.drew {w:World} {ao:Option Addr} {bs:LU} (h:RowAt w ao bs) (m:Nat):RowAt (w.drewN m) ao bs:=h
theorem Own.drew {w:World} {base:Nat} {v:Value} {bs:LU} (h:Own w base v bs) (m:Nat):Own (w.drewN m) base v bs:=h
theorem Own.below {w w':World} {base:Nat} {v:Value} {bs:LU} (h:Own w base v bs) (hb:Bl w w'):Own w' base v bs :=
 h.grown (grown_of_below hb none) (by cases hv:v.ownBlock <;> simp)
theorem CB {P:Program} {t e n:Nat} {d:TypeDesc} (hu:P.underlying t = some (.array n e)) (hue:P.underlying e = some d) (hd:(match d with | .struct _ | .array _ _=>true | _=>false) = false) (hs:(P.info? e).map (·.size) = some 1)
 (cs:Array Value) (k:IntKind) (i:Nat) (hin:i < n) (v:Value) (hv:cs[i]? = some v) (w:World):(Instr.index t (.agg cs) (.int k (i:Int))).run P w = .ok v w:=by
 cases hq:P.info? e with
 | none=>simp [hq] at hs
 | some x =>
   have hsz:x.size = 1:=by simpa [hq] using hs
   have hagg:(isAgg e).run P w = .ok false w:=by
    unfold isAgg;rw [Qe,qW hue w];cases d <;> simp_all
   simp [Instr.index,asIntOf,Sem.run_bind,run_underlying hu w,sizeOf,typeInfo,hq,hsz,Go.part,hagg,hv,hin]
def Blk (w:World) (g t:Nat) (cs:List Value):Prop:=w.heap[g]? = some (.cells cs.toArray t (0,0))
theorem Blk.cell {w:World} {g t:Nat} {cs:List Value} (h:Blk w g t cs) (j:Nat) (hj:j < cs.length):w.cell? ⟨g,j,none⟩ = some cs[j]:=by
 rw [cell_of_row w g j _ t (0,0) h];simp [hj]
theorem Blk.c {w:World} {g t:Nat} {cs:List Value} (h:Blk w g t cs) (j:Nat) (hj:j < cs.length:=by simp):w.cell? ⟨g,j,none⟩ = some cs[j]:=h.cell j hj
theorem Blk.free {w:World} {g t:Nat} {cs:List Value} (h:Blk w g t cs) (j:Nat):w.frozen? ⟨g,j,none⟩ = false:=frozen_of_row w g j _ t h
theorem Blk.set {w:World} {g t:Nat} {cs:List Value} (h:Blk w g t cs) (j:Nat) (v:Value):Blk (w.setCell ⟨g,j,none⟩ v) g t (cs.set j v):=by
 have:=heap_setCell_same w g j cs.toArray t v h;unfold Blk;rw [this];simp
theorem Blk.other {w:World} {g t:Nat} {cs:List Value} (h:Blk w g t cs) (a:Addr) (v:Value) (hne:g ≠ a.block):Blk (w.setCell a v) g t cs:=by
 unfold Blk;rw [qv w a g v hne];exact h
theorem Blk.new (w:World) (t:Nat) (cs:Array Value):Blk (w.alloc (.cells cs t)) w.heap.size t cs.toList:=by
 unfold Blk;rw [heap_alloc_new]
theorem uX.{u} {α:Sort u}(a:α):∃ n,n = a:=⟨_,rfl⟩
theorem uB {W w:World} {o:Obj} (h:W = w.alloc o):Bl w W:=by rw [h];exact (Below.refl _ _).alloc (QE _) o
theorem uK {W w:World} {g t:Nat} {cs:List Value} (h:W = w.alloc (.cells cs.toArray t)) (hg:g = w.heap.size):Blk W g t cs:=by rw [h,hg];exact Blk.new _ _ _
theorem Blk.newAt (w:World) (t n:Nat) (cs:Array Value) (h:n = w.heap.size):Blk (w.alloc (.cells cs t)) n t cs.toList:=by subst h;exact Blk.new w t cs
theorem Blk.new2 (w:World) (A:Obj) (t:Nat) (cs:Array Value):Blk ((w.alloc A).alloc (.cells cs t)) (w.heap.size + 1) t cs.toList:=by
 unfold Blk;rw [heap_alloc2_new]
theorem Blk.lt {w:World} {g t:Nat} {cs:List Value} (h:Blk w g t cs):g < w.heap.size:=qS h
theorem Blk.alloc {w:World} {g t:Nat} {cs:List Value} (h:Blk w g t cs) (o:Obj):Blk (w.alloc o) g t cs:=by
 unfold Blk;rw [Below.heap_alloc w o g (Blk.lt h)];exact h
theorem Blk.grown {w w':World} {g t:Nat} {row:Option Nat} {cs:List Value} (h:Blk w g t cs) (hg:w.grownBy w' row) (hne:some g ≠ row):Blk w' g t cs:=by
 unfold Blk;rw [hg.block g (Blk.lt h) hne];exact h
theorem Blk.below {w w':World} {g t B:Nat} {cs:List Value} (h:Blk w g t cs) (hb:Below B w w') (hg:g < B):Blk w' g t cs:=by
 unfold Blk;rw [hb.block g hg];exact h
theorem Blk.drew1 {w:World} {g t:Nat} {cs:List Value} (h:Blk w g t cs):Blk w.drew g t cs:=h
theorem Blk.setRow {w:World} {g t:Nat} {cs:List Value} (h:Blk w g t cs) (cs':List Value):Blk (w.setRow g cs'.toArray) g t cs':=setRow_heap w g _ _ t _ h
theorem AN {B:Nat} {a w:World} (h:Below B a w) {g:Nat} (hp:B <= g) (cs:Array Value):Below B a (w.setRow g cs) :=
 h.trans ⟨rfl,rfl,rfl,by simp,fun k hk=>setRow_other w g k cs (by omega)⟩
theorem AF (bs:LU):(bs.map byte).toArray.all (·.oneCell') = true:=by
 rw [qc];intro v hv;simp only [List.mem_toArray,Qz] at hv;obtain ⟨b,-,rfl⟩:=hv
 rfl
theorem AL {P:Program} {ops:Array Oper} {rest:List Oper} {o:Oper} {a:Act} {w:World} {Q:Exit -> Act -> World -> Prop} (hgd:o.guard = none) (ty:Nat) (x:Operand) (ho:o.op = .load ty x)
 (g:Nat) (hx:a.eval x = .pointer (some ⟨g,0,none⟩)) {t:Nat} {cs:List Value} (hb:Blk w g t cs) {d:TypeDesc} (hu:P.underlying ty = some d) (hd:(match d with | .struct _ | .array _ _=>true | _=>false) = true)
 (hi:(P.info? ty).map (·.size) = some cs.length) (h:wpList P ops Q rest (a.put o.dst (.agg cs.toArray)) w):wpList P ops Q (o :: rest) a w :=
 wpList_load_row hgd ty x ho g hx t cs.toArray (0,0) d hb hu hd (by simpa using hi) h
theorem store_blk {P:Program} {ops:Array Oper} {rest:List Oper} {o:Oper} {a:Act} {w:World} {Q:Exit -> Act -> World -> Prop} (hgd:o.guard = none) (ty:Nat) (x y:Operand) (ho:o.op = .store ty x y)
 (g:Nat) (hx:a.eval x = .pointer (some ⟨g,0,none⟩)) {t:Nat} {old cs:List Value} (hy:a.eval y = .agg cs.toArray) (hb:Blk w g t old) (hi:(P.info? ty).map (·.size) = some cs.length) (hl:old.length = cs.length) (h1:cs.toArray.all (·.oneCell') = true)
 (h:∀ w',Blk w' g t cs -> w.grownBy w' (some g) -> w'.heap.size = w.heap.size -> wpList P ops Q rest (a.put o.dst undef) w'):wpList P ops Q (o :: rest) a w :=
 wpList_store_row hgd ty x y ho g cs.toArray hx hy t old.toArray hb (by simpa using hi) (by simpa using hl) h1
  (h _ (Blk.setRow hb cs) ⟨rfl,rfl,rfl,by simp,fun k _ hk=>setRow_other w g k _ (fun e=>hk (by simp [e]))⟩ (by simp))
theorem AG {P:Program} {fn:Func} {p ty:Nat} (h:fn.results = #[.cell p ty]) (tmps:Array Value) (w:World) {g t:Nat} {cs:List Value} {d:TypeDesc} (hp:tmps.getD p undef = .pointer (some ⟨g,0,none⟩)) (hb:Blk w g t cs)
 (hu:P.underlying ty = some d) (hd:(match d with | .struct _ | .array _ _=>true | _=>false) = true) (hi:(P.info? ty).map (·.size) = some cs.length):(results fn tmps).run P w = .ok (.agg cs.toArray) w :=
 results_cell_row h tmps w g t cs.toArray (0,0) d hp hb hu hd (by simpa using hi)
theorem EN {P:Program} {ops:Array Oper} {rest:List Oper} {o:Oper} {a:Act} {w:World} {Q:Exit -> Act -> World -> Prop} (hg:o.guard = none) (t:Nat) (parts:Array (Nat × Operand)) (ho:o.op = .build t parts) (cs:List Value)
 (hf:P.built t (parts.map fun (i,x)=>(i,a.eval x)).toList = some cs.toArray) (h:wpList P ops Q rest (a.put o.dst (.agg cs.toArray)) w):wpList P ops Q (o :: rest) a w :=
 wpList_build hg t parts ho (by rw [hf];rfl) (by rw [hf];exact h)
def takeN (word width:Nat) (tab:LU):Nat:=tab.foldl (fun t n=>2 * t + word / 2 ^ (width - n.toNat) % 2) 0
theorem UL (word width:Nat) (l:LU) (c:UInt8):takeN word width (l ++ [c]) = 2 * takeN word width l + word / 2 ^ (width - c.toNat) % 2:=by
 simp [takeN]
theorem Rs (word width:Nat) (l:LU) (t:Nat):l.foldl (fun t n=>2 * t + word / 2 ^ (width - n.toNat) % 2) t < (t + 1) * 2 ^ l.length:=by
 induction l generalizing t with
 | nil=>simp
 | cons c l ih =>
   have h:=ih (2 * t + word / 2 ^ (width - c.toNat) % 2);simp only [qI,Qn];refine QX h ?_;rw [Nat.pow_succ,Nat.mul_comm (2 ^ l.length) 2,<- Nat.mul_assoc];exact qU _ (by omega)
theorem IH (word width:Nat) (l:LU):takeN word width l < 2 ^ l.length:=by
 have h:=Rs word width l 0
 simpa [takeN] using h
theorem KQ {k:Nat} (h:k < 64):(2:Nat) ^ k <= 9223372036854775808:=QG (qo (by omega) (show k <= 63 by omega)) (by decide)
theorem Vg (r word s:Nat) (hr:r < 9223372036854775808) (hw:word < 18446744073709551616) :
 bits BinOp.or IntKind.u64 ((r:Int) * 2) (bits BinOp.and IntKind.u64 ((word:Int) / 2 ^ s) 1) = ((2 * r + word / 2 ^ s % 2:Nat):Int):=by
 have e1:(r:Int) * 2 = ((2 * r:Nat):Int):=by omega
 have e4:(word:Int) / 2 ^ s = ((word / 2 ^ s:Nat):Int):=by simp
 have hd:word / 2 ^ s <= word:=qX _ _;rw [e1,e4];have e5:bits BinOp.and IntKind.u64 ((word / 2 ^ s:Nat):Int) 1 = ((word / 2 ^ s % 2:Nat):Int):=by
  have h:=u64_and_nat (word / 2 ^ s) 1 (by omega) (by omega);rw [nat_mask1] at h;exact h
 rw [e5,u64_or_nat _ _ (by omega) (by omega),nat_join 1 (2 * r) _ (by omega) (by omega)]
theorem PM (word width:Nat) (ao:Option Addr) (cap:Nat) (tab:LU) (w:World) (hw:word < 18446744073709551616) (hwd:width <= 64) (hn:tab.length <= 64) (htab:∀ t ∈ tab,1 <= t.toNat /\ t.toNat <= width) (hr:RowAt w ao tab) :
 Calls prog 193 #[.int .u64 word,.int .u64 width,.slice ao tab.length cap] w fun e w' =>
  e = .returned (.int .u64 (takeN word width tab:Nat)) /\ w' = w:=by
 go_enter func193,ntmps193;go_wp2;go_loop [7,9,12] (fun t _ i=>∃ k:Nat,k <= tab.length /\ i = .int .i64 k /\ t = .int .u64 (takeN word width (tab.take k):Nat)) (fun _ _ i=>tab.length - (intOf i).toNat)
 case atStart=>exact ⟨0,QU _,rfl,rfl⟩
 case round =>
  obtain ⟨k,hk,rfl,rfl⟩:=hrel
  by_cases hlt:k < tab.length
  ·obtain ⟨b,off,rfl,hc⟩:=hr.at hlt;have hcx:w.cell? ⟨b,off + k,none⟩ = some (.int .u8 (tab[k].toNat:Int)):=(hc k hlt).trans (by simp [hlt]);have hb:=htab tab[k] (Qd hlt);have hs:=UL word width (tab.take k) tab[k];rw [<- B3 tab k hlt] at hs;have HS:Hid (takeN word width (tab.take (k + 1)) = 2 * takeN word width (tab.take k) + word / 2 ^ (width - tab[k].toNat) % 2):=hs;have hlt2:takeN word width (tab.take k) < 9223372036854775808:=QX (IH word width (tab.take k)) (KQ (by simp;omega));clear hc hr hs htab;go_wp2;go_round
   case rel=>exact ⟨k + 1,by omega,by go_num,by rw [Vg _ _ _ hlt2 hw,HS.out]⟩
   case measure=>simp [intOf];omega
  ·go_wp2;go_ret;have hkl:k = tab.length:=by omega
   subst hkl;rw [qt];exact ⟨rfl,rfl⟩
theorem Ga (word width n:Nat) (wi:Int) (ao:Option Addr) (cap:Nat) (tab:LU) (w:World) (hw:word < 18446744073709551616) (hwi:wi = (width:Int)) (hwd:width <= 64) (hln:tab.length = n) (hn:n <= 64) (htab:∀ t ∈ tab,1 <= t.toNat /\ t.toNat <= width) (hr:RowAt w ao tab) :
 Calls prog 193 #[.int .u64 word,.int .u64 wi,.slice ao n cap] w fun e w' =>
  e = .returned (.int .u64 (takeN word width tab:Nat)) /\ w' = w:=by
 subst hwi;subst hln;exact PM word width ao cap tab w hw hwd hn htab hr
theorem Ai {w:World} {g:Nat} {bs:LU} {t:TypeId} {fr:Nat × Nat} (h:w.heap[g]? = some (.cells (bs.map byte).toArray t fr)):RowAt w (some ⟨g,0,none⟩) bs:=by
 refine .inr ⟨g,0,rfl,fun i hi=>?_⟩;rw [QZ,cell_of_row w g i _ t fr h];simp [hi,byte]
def wordN (bs:LU):Nat:=bs.foldl (fun t b=>256 * t + b.toNat) 0
theorem UI (l:LU) (c:UInt8):wordN (l ++ [c]) = 256 * wordN l + c.toNat:=by simp [wordN]
theorem Lv (l:LU):wordN l < 256 ^ l.length:=by
 have:∀ t,l.foldl (fun t b=>256 * t + b.toNat) t < (t + 1) * 256 ^ l.length:=by
  induction l with
  | nil=>intro t;simp
  | cons c l ih =>
    intro t;have h:=ih (256 * t + c.toNat);have hc:=c.toNat_lt;simp only [qI,Qn];refine QX h ?_;rw [Nat.pow_succ,Nat.mul_comm (256 ^ l.length) 256,<- Nat.mul_assoc];exact qU _ (by omega)
 simpa [wordN] using this 0
theorem Wu (r b:Nat) (hr:r < 72057594037927936) (hb:b < 256):bits BinOp.or IntKind.u64 ((r:Int) * 256) (b:Int) = ((256 * r + b:Nat):Int):=by
 have e1:(r:Int) * 256 = ((256 * r:Nat):Int):=by omega
 rw [e1,u64_or_nat _ _ (by omega) (by omega),nat_join 8 (256 * r) _ (by omega) (by omega)]
theorem WY {k:Nat} (h:k < 8):(256:Nat) ^ k <= 72057594037927936:=QG (qo (by omega) (show k <= 7 by omega)) (by decide)
theorem Me (bs:LU) (w:World) (h8:bs.length = 8) :
 Calls prog 194 #[.agg (bs.map byte).toArray] w fun e w'=>e = .returned (.int .u64 (wordN bs:Nat)) /\ Bl w w':=by
 go_enter func194,ntmps194;go_wp2_with (refine wpList_load_row rfl 208 _ rfl w.heap.size rfl 208 (bs.map byte).toArray (0,0) _ (heap_alloc_new w _) underlying208 rfl (by rw [show (bs.map byte).toArray.size = 8 from by simp [h8]];kernel_rfl) ?_)
 go_loop [3,5,7] (fun t _ i=>∃ k:Nat,k <= 8 /\ i = .int .i64 k /\ t = .int .u64 (wordN (bs.take k):Nat)) (fun _ _ i=>8 - (intOf i).toNat)
 case atStart=>exact ⟨0,QU _,rfl,rfl⟩
 case round =>
  obtain ⟨k,hk,rfl,rfl⟩:=hrel
  by_cases hlt:k < 8
  ·have hlt':k < bs.length:=by omega
   have hix:=CB (P:=prog) underlying208 underlying5 rfl (by kernel_rfl) (bs.map byte).toArray .i64 k hlt (.int .u8 (bs[k].toNat:Int)) (by simp [hlt',byte]);have HS:Hid (wordN (bs.take (k + 1)) = 256 * wordN (bs.take k) + bs[k].toNat):=by rw [B3 bs k hlt'];exact UI _ _
   have hlt2:wordN (bs.take k) < 72057594037927936:=QX (Lv (bs.take k)) (WY (by simp;omega));have hb:=bs[k].toNat_lt;go_wp2;go_round
   case rel=>exact ⟨k + 1,by omega,by go_num,by rw [Wu _ _ hlt2 hb,HS.out]⟩
   case measure=>simp [intOf];omega
  ·go_wp2;go_ret;obtain rfl:k = 8:=by omega
   rw [QS (by omega)];exact ⟨rfl,(Below.refl _ _).alloc (QE _) _⟩
def Di (word:Nat):LU:=(List.range 8).map fun i=>UInt8.ofNat (word / 2 ^ (56 - 8 * i))
theorem blockN_length (word:Nat):(Di word).length = 8:=by simp [Di]
theorem Ji (word i:Nat) (h:i < 8):(Di word)[i]'(by rw [blockN_length];exact h) = UInt8.ofNat (word / 2 ^ (56 - 8 * i)):=by simp [Di]
theorem Lb (bs:LU) (k:Nat) (h:k <= bs.length):(EK bs k).length = bs.length:=by simp [EK];omega
theorem Sa (word:Nat) (w:World) (_hw:word < 18446744073709551616) :
 Calls prog 195 #[.int .u64 word] w fun e w'=>e = .returned (.agg ((Di word).map byte).toArray) /\ Bl w w':=by
 go_enter func195,ntmps195;go_wp2
 go_loopw [4,5] (fun _ i wr=>∃ k:Nat,k <= 8 /\ i = .int .i64 k /\ Blk wr (w.heap.size + 1) 208 (EK (Di word) k) /\ Blk wr w.heap.size 208 (List.replicate 8 (.int .u8 0)) /\ Bl w wr) (fun _ i _=>8 - (intOf i).toNat)
 case atStart=>exact ⟨0,QU _,rfl,by rw [KC,blockN_length];exact Blk.new2 w _ _ _,(Blk.new w _ _).alloc _,((Below.refl _ _).alloc (QE _) _).alloc (by simp) _⟩
 case round =>
  obtain ⟨k,hk,rfl,hb1,hb0,hbel⟩:=hrel
  by_cases hlt:k < 8
  ·have hpl:=Lb (Di word) k (by rw [blockN_length];exact hk);rw [blockN_length] at hpl;have hc:=hb1.cell k (by omega);have hf:=hb1.free k;obtain ⟨u,hu⟩:∃ u,wr.cell? ⟨w.heap.size + 1,k,none⟩ = some u:=⟨_,hc⟩;have hst:=hb1.set k (byte (UInt8.ofNat (word / 2 ^ (56 - 8 * k))));rw [<- Ji word k hlt,L3 _ _ (by rw [blockN_length];exact hlt),Ji word k hlt] at hst;have he:Value.int IntKind.u8 ((word:Int) / 2 ^ (56 - 8 * k) % 256) = byte (UInt8.ofNat (word / 2 ^ (56 - 8 * k))):=by
    unfold byte;rw [Qb];congr 1
   have HE:Hid (Value.int IntKind.u8 ((word:Int) / 2 ^ (56 - 8 * k) % 256) = byte (UInt8.ofNat (word / 2 ^ (56 - 8 * k)))):=he;clear hc he;go_wp2;go_roundw
   case rel =>
    rw [HE.out];exact ⟨k + 1,by omega,by go_num,hst,hb0.other _ _ (by simp),hbel.setCell (by simp) _⟩
   case measure=>simp [intOf];omega
  ·obtain rfl:k = 8:=by omega
   have hb1':Blk wr (w.heap.size + 1) 208 ((Di word).map byte):=by have h:=L6 (Di word);rw [blockN_length] at h;rw [<- h];exact hb1
   have hl:((Di word).map byte).length = 8:=by simp [blockN_length]
   go_wp2_with (first | (refine AL rfl 208 _ rfl _ rfl hb1' underlying208 rfl (by rw [hl];kernel_rfl) ?_) | (refine store_blk rfl 208 _ _ rfl _ rfl rfl hb0 (by rw [hl];kernel_rfl) (by rw [hl];rfl) (AF _) ?_;intro w2 hb2 hg2 hs2))
   exact Qc (v:=.agg ((Di word).map byte).toArray) (AG results195 _ _ rfl hb2 underlying208 rfl (by rw [hl];kernel_rfl)) rfl ⟨rfl,hbel.grown hg2 hbel.size (by intro k hk;cases hk;exact QE _)⟩
def putN (taken width:Nat) (tab:LU):Nat -> Nat
 | 0=>0
 | k + 1=>putN taken width tab k ||| taken / 2 ^ (tab.length - 1 - k) % 2 * 2 ^ (width - (tab.getD k 0).toNat)
theorem TW (taken width:Nat) (tab:LU) (hwd:width <= 64) (htab:∀ t ∈ tab,1 <= t.toNat /\ t.toNat <= width) (k:Nat) (hk:k <= tab.length):putN taken width tab k < 18446744073709551616:=by
 induction k with
 | zero=>simp [putN]
 | succ k ih =>
   have hb:=htab (tab.getD k 0) (by simp [show k < tab.length by omega]);have h1:2 ^ (width - (tab.getD k 0).toNat) <= 9223372036854775808:=KQ (by omega);have h2:taken / 2 ^ (tab.length - 1 - k) % 2 * 2 ^ (width - (tab.getD k 0).toNat) < 2 ^ 64:=by
    have:taken / 2 ^ (tab.length - 1 - k) % 2 <= 1:=by omega
    have:=qU (2 ^ (width - (tab.getD k 0).toNat)) this;omega
   exact qO (ih (by omega)) h2
theorem XJ (r b s:Nat) (hr:r < 18446744073709551616) (hb:b <= 1) (hs:s < 64):bits BinOp.or IntKind.u64 (r:Int) (IntKind.u64.wrap ((b:Int) * 2 ^ s)) = ((r ||| b * 2 ^ s:Nat):Int):=by
 have h1:=KQ hs;have h2:=qU (2 ^ s) hb;have e:(b:Int) * 2 ^ s = ((b * 2 ^ s:Nat):Int):=by simp
 have e2:IntKind.u64.wrap ((b:Int) * 2 ^ s) = ((b * 2 ^ s:Nat):Int):=by rw [e,IntKind.wrap_u64];omega
 rw [e2,u64_or_nat _ _ hr (by omega)]
theorem Zt (word s:Nat) (hw:word < 18446744073709551616):bits BinOp.and IntKind.u64 ((word:Int) / 2 ^ s) 1 = ((word / 2 ^ s % 2:Nat):Int):=by
 have e4:(word:Int) / 2 ^ s = ((word / 2 ^ s:Nat):Int):=by simp
 have hd:word / 2 ^ s <= word:=qX _ _;have h:=u64_and_nat (word / 2 ^ s) 1 (by omega) (by omega);rw [nat_mask1] at h;rw [e4];exact h
theorem Sb (taken width:Nat) (ao:Option Addr) (cap:Nat) (tab:LU) (w:World) (hw:taken < 18446744073709551616) (hwd:width <= 64) (hn:tab.length <= 64) (htab:∀ t ∈ tab,1 <= t.toNat /\ t.toNat <= width) (hr:RowAt w ao tab) :
 Calls prog 196 #[.int .u64 taken,.int .u64 width,.slice ao tab.length cap] w fun e w' =>
  e = .returned (.int .u64 (putN taken width tab tab.length:Nat)) /\ w' = w:=by
 go_enter func196,ntmps196;go_wp2;go_loop [7,8,9,10,13] (fun t _ _ _ i=>∃ k:Nat,k <= tab.length /\ i = .int .i64 k /\ t = .int .u64 (putN taken width tab k:Nat)) (fun _ _ _ _ i=>tab.length - (intOf i).toNat)
 case atStart=>exact ⟨0,QU _,rfl,rfl⟩
 case round =>
  obtain ⟨k,hk,rfl,rfl⟩:=hrel
  by_cases hlt:k < tab.length
  ·obtain ⟨b,off,rfl,hc⟩:=hr.at hlt;have hcx:w.cell? ⟨b,off + k,none⟩ = some (.int .u8 (tab[k].toNat:Int)):=(hc k hlt).trans (by simp [hlt]);have hb:=htab tab[k] (Qd hlt);have hlt2:=TW taken width tab hwd htab k hk;have HS:Hid (putN taken width tab (k + 1) = putN taken width tab k ||| taken / 2 ^ (tab.length - 1 - k) % 2 * 2 ^ (width - tab[k].toNat)):=by
    show putN taken width tab k ||| taken / 2 ^ (tab.length - 1 - k) % 2 * 2 ^ (width - (tab.getD k 0).toNat) = _;rw [show tab.getD k 0 = tab[k] from by simp [hlt]]
   clear hc hr htab;go_wp2;go_round
   case rel=>exact ⟨k + 1,by omega,by go_num,by rw [Zt _ _ hw,XJ _ _ _ hlt2 (by omega) (by omega),HS.out]⟩
   case measure=>simp [intOf];omega
  ·go_wp2;go_ret;have hkl:k = tab.length:=by omega
   subst hkl;exact ⟨rfl,rfl⟩
theorem VC (taken width n:Nat) (wi:Int) (ao:Option Addr) (cap:Nat) (tab:LU) (w:World) (hw:taken < 18446744073709551616) (hwi:wi = (width:Int)) (hwd:width <= 64) (hln:tab.length = n) (hn:n <= 64) (htab:∀ t ∈ tab,1 <= t.toNat /\ t.toNat <= width) (hr:RowAt w ao tab) :
 Calls prog 196 #[.int .u64 taken,.int .u64 wi,.slice ao n cap] w fun e w' =>
  e = .returned (.int .u64 (putN taken width tab n:Nat)) /\ w' = w:=by
 subst hwi;subst hln;exact Sb taken width ao cap tab w hw hwd hn htab hr
def rotN (x k:Nat):Nat:=x * 2 ^ (k % 32) % 4294967296 ||| x / 2 ^ (32 - k % 32)
theorem II (x s:Nat) (hx:x < 4294967296):bits BinOp.or IntKind.u32 ((x:Int) * 2 ^ s % 4294967296) ((x:Int) / 2 ^ (32 - s)) = ((x * 2 ^ s % 4294967296 ||| x / 2 ^ (32 - s):Nat):Int):=by
 have e1:(x:Int) * 2 ^ s % 4294967296 = ((x * 2 ^ s % 4294967296:Nat):Int):=by simp
 have e2:(x:Int) / 2 ^ (32 - s) = ((x / 2 ^ (32 - s):Nat):Int):=by simp
 have hd:x / 2 ^ (32 - s) <= x:=qX _ _;rw [e1,e2,u32_or_nat _ _ (by omega) (by omega)]
theorem YT (x k:Nat) (w:World) (hx:x < 4294967296) (hk:k <= 64) :
 Calls prog 169 #[.int .u32 x,.int .i64 k] w fun e w'=>e = .returned (.int .u32 (rotN x k:Nat)) /\ w' = w:=by
 obtain ⟨s,hs,hs1,Hs⟩:∃ s:Nat,bits BinOp.and IntKind.u64 (k:Int) 31 = (s:Int) /\ s < 32 /\ Hid (s = k % 32):=by
  refine ⟨k % 32,?_,by omega,rfl⟩;have h:=u64_and_nat k 31 (by omega) (by omega);rw [nat_mask5] at h;exact h
 go_enter func169,ntmps169;go_wp2;go_ret;refine ⟨CH ?_,rfl⟩;rw [II _ _ hx,Hs.out]
 rfl
def turnN (x k:Nat):Nat:=x * 2 ^ k % 268435456 + x / 2 ^ (28 - k)
theorem Vd (x k:Nat) (hx:x < 268435456) (hk:1 <= k) (hk2:k <= 2):bits BinOp.and IntKind.u32 (bits BinOp.or IntKind.u32 ((x:Int) * 2 ^ k % 4294967296) ((x:Int) / 2 ^ (28 - k))) 268435455 = (turnN x k:Int):=by
 have e1:(x:Int) * 2 ^ k % 4294967296 = ((x * 2 ^ k % 4294967296:Nat):Int):=by simp
 have e2:(x:Int) / 2 ^ (28 - k) = ((x / 2 ^ (28 - k):Nat):Int):=by simp
 have hd:x / 2 ^ (28 - k) <= x:=qX _ _;rw [e1,e2,u32_or_nat _ _ (by omega) (by omega)];have hlt:(x * 2 ^ k % 4294967296 ||| x / 2 ^ (28 - k)) < 2 ^ 32:=qO (by omega) (by omega);have h:=u32_and_nat (x * 2 ^ k % 4294967296 ||| x / 2 ^ (28 - k)) 268435455 (by omega) (by omega);have hm:∀ y:Nat,y &&& 268435455 = y % 268435456:=fun y=>Nat.and_two_pow_sub_one_eq_mod y 28;rw [hm] at h;refine h.trans ?_;have:k = 1 \/ k = 2:=by omega
 rcases this with rfl | rfl
 ·rw [nat_join 1 _ _ (by omega) (by omega)];unfold turnN;omega
 ·rw [nat_join 2 _ _ (by omega) (by omega)];unfold turnN;omega
theorem ZK (x k:Nat) (hx:x < 268435456) (hk:1 <= k) (hk2:k <= 2):turnN x k < 268435456:=by
 have:k = 1 \/ k = 2:=by omega
 unfold turnN;rcases this with rfl | rfl <;> omega
theorem Mn (x k:Nat) (w:World) (hx:x < 268435456) (hk:1 <= k) (hk2:k <= 2) :
 Calls prog 224 #[.int .u32 x,.int .u64 k] w fun e w'=>e = .returned (.int .u32 (turnN x k:Nat)) /\ w' = w:=by
 go_enter func224,ntmps224;go_wp2;go_ret;exact ⟨CH (Vd x k hx hk hk2),rfl⟩
def hexN (n:Nat):Nat:=if 65 <= n then n - 55 else (n + 208) % 256
theorem PX (n:Nat) (w:World) (h:n < 256) :
 Calls prog 223 #[.int .u8 n] w fun e w'=>e = .returned (.int .u8 (hexN n:Nat)) /\ w' = w:=by
 by_cases h1:65 <= n
 ·unfold hexN;rw [if_pos h1];go_enter func223,ntmps223;go_wp2;go_ret;exact ⟨CH (by omega),rfl⟩
 ·unfold hexN;rw [if_neg h1];go_enter func223,ntmps223;go_wp2;go_ret;exact ⟨CH (by omega),rfl⟩
def CV:LU:=[58,50,42,34,26,18,10,2,60,52,44,36,28,20,12,4,62,54,46,38,30,22,14,6,64,56,48,40,32,24,16,8,
 57,49,41,33,25,17,9,1,59,51,43,35,27,19,11,3,61,53,45,37,29,21,13,5,63,55,47,39,31,23,15,7]
def AC (n:Nat) (k:IntKind):List Value:=List.replicate n (.int k 0)
theorem AD (n:Nat) (k:IntKind):(AC n k).length = n:=by simp [AC]
theorem Tryz.zero294:(prog.info? 294).map (fun i=>(i.zero,i.size)) = some (some (.agg (AC 64 .u8).toArray),64):=by kernel_rfl
theorem Lc:(CV.map byte).length = 64:=rfl
theorem MO (w:World) :
 Calls prog 192 #[] w fun e w'=>e = .returned (.agg (CV.map byte).toArray) /\ Bl w w':=by
 have hz:=(QO Tryz.zero294).1;go_enter func192,ntmps192;go_wp2_with (first | (refine EN rfl 294 _ rfl (CV.map byte) (by kernel_rfl) ?_) | (refine store_blk rfl 294 _ _ rfl _ rfl rfl (Blk.new w _ _) (by kernel_rfl) (by rw [Lc];exact AD _ _) (AF _) ?_;intro w2 hb2 hg2 hs2))
 exact Qc (v:=.agg (CV.map byte).toArray) (AG results192 _ _ rfl hb2 underlying294 rfl (by kernel_rfl)) rfl ⟨rfl,((Below.refl _ _).alloc (QE _) _).grown hg2 (by simp) (by intro k hk;cases hk;exact QE _)⟩
def pTab:LU:=[16,7,20,21,29,12,28,17,1,15,23,26,5,18,31,10,2,8,24,14,32,27,3,9,19,13,30,6,22,11,4,25]
theorem U5:(pTab.map byte).length = 32:=rfl
theorem Tn:∀ t ∈ pTab,1 <= t.toNat /\ t.toNat <= 32:=by decide
def spreadN (box d:Nat):Nat:=takeN (d * 2 ^ (28 - 4 * box)) 32 pTab
theorem JT (box d:Nat):spreadN box d < 4294967296:=IH _ _ pTab
def CS (n:Nat):Value:=.int .u32 (n:Int)
def BQ (f:Nat -> Value) (z:Value) (n k:Nat):List Value:=(List.range n).map fun i=>if i < k then f i else z
theorem Bs (f:Nat -> Value) (z:Value) (n k:Nat):(BQ f z n k).length = n:=by simp [BQ]
theorem Cv (f:Nat -> Value) (z:Value) (n k:Nat):(BQ f z n k).set k (f k) = BQ f z n (k + 1):=by
 apply qA;intro i;rw [List.getElem?_set];simp only [BQ,QD,qj,List.getElem?_map]
 by_cases hi:k = i
 ·subst hi
  by_cases hn:k < n <;> simp [hn]
 ·rw [if_neg hi]
  by_cases hn:i < n
  ·simp [hn,show (i < k + 1) = (i < k) from by apply propext;omega]
  ·simp [hn]
theorem Cz (f:Nat -> Value) (z:Value) (n:Nat):BQ f z n 0 = List.replicate n z:=by
 apply qA;intro i
 by_cases hn:i < n <;> simp [BQ,hn]
theorem DD (f:Nat -> Value) (z:Value) (n:Nat):BQ f z n n = (List.range n).map f:=by
 apply qA;intro i
 by_cases hn:i < n <;> simp [BQ,hn]
def CY (box:Nat):List Value:=(List.range 16).map fun d=>CS (spreadN box d)
theorem spreadCells_length (box:Nat):(CY box).length = 16:=by simp [CY]
theorem Mv (box d:Nat) (h:d < 16):(CY box)[d]'(by rw [spreadCells_length];exact h) = CS (spreadN box d):=by simp [CY]
theorem Tryz.zero319:(prog.info? 319).map (fun i=>(i.zero,i.size)) = some (some (.agg (AC 16 .u32).toArray),16):=by kernel_rfl
theorem Tryz.zero356:(prog.info? 356).map (fun i=>(i.zero,i.size)) = some (some (.agg (AC 32 .u8).toArray),32):=by kernel_rfl
theorem Fm {α:Type} (f:α -> Value) (hf:∀ a,(f a).oneCell' = true) (l:List α):(l.map f).toArray.all (·.oneCell') = true:=by
 rw [qc];intro v hv;simp only [List.mem_toArray,Qz] at hv;obtain ⟨b,-,rfl⟩:=hv;exact hf b
theorem J1 (box:Nat):(CY box).toArray.all (·.oneCell') = true:=Fm _ (fun _=>rfl) _
theorem MT (box:Nat) (w:World) (hbox:box < 8) :
 Calls prog 222 #[.int .i64 box] w fun e w'=>e = .returned (.agg (CY box).toArray) /\ Bl w w':=by
 have hz:=(QO Tryz.zero319).1;have hz2:=(QO Tryz.zero356).1;go_enter func222,ntmps222;go_wp2_with (first | (refine EN rfl 356 _ rfl (pTab.map byte) (by kernel_rfl) ?_) | (refine store_blk rfl 356 _ _ rfl _ rfl rfl (Blk.new2 w _ _ _) (by kernel_rfl) (by rw [U5];exact AD _ _) (AF _) ?_;intro w2 hb2 hg2 hs2))
 have hs3:w2.heap.size = w.heap.size + 1 + 1:=by simpa using hs2
 have hA:Blk w2 w.heap.size 319 (AC 16 .u32):=by
  unfold Blk;rw [hg2.block _ (by simp;omega) (by simp),Below.heap_alloc _ _ _ (by simp)];exact heap_alloc_new w _
 have hbel2:Bl w w2:=(((Below.refl _ _).alloc (QE _) _).alloc (by simp) _).grown hg2 (by simp;omega) (by intro k hk;cases hk;omega)
 have hb2':=hb2;clear hs2 hg2
 go_loopw [5,7] (fun _ i wr=>∃ k:Nat,k <= 16 /\ i = .int .i64 k /\ Blk wr (w.heap.size + 1 + 1) 319 (BQ (fun d=>CS (spreadN box d)) (.int .u32 0) 16 k) /\ Blk wr (w.heap.size + 1) 356 (pTab.map byte) /\ Blk wr w.heap.size 319 (AC 16 .u32) /\ Bl w wr) (fun _ i _=>16 - (intOf i).toNat)
 case atStart =>
  refine ⟨0,QU _,rfl,?_,hb2.alloc _,hA.alloc _,hbel2.alloc (by omega) _⟩;rw [Cz,<- hs3];exact Blk.new w2 _ _
 case round =>
  obtain ⟨k,hk,rfl,hb1,hbt,hb0,hbel⟩:=hrel;clear hb2 hb2' hA hbel2
  by_cases hlt:k < 16
  ·have hf:=hb1.free k;obtain ⟨u,hu⟩:∃ u,wr.cell? ⟨w.heap.size + 1 + 1,k,none⟩ = some u:=⟨_,hb1.cell k (by rw [Bs];exact hlt)⟩;have hst:=hb1.set k (CS (spreadN box k));rw [Cv (fun d=>CS (spreadN box d))] at hst;have hrow:=Ai hbt;have hpow:k * 2 ^ (28 - 4 * box) < 18446744073709551616:=by
    have h1:2 ^ (28 - 4 * box) <= 2 ^ 28:=qo (by omega) (by omega);have h2:=Nat.mul_le_mul (show k <= 16 by omega) h1;omega
   obtain ⟨m,hm,hm2⟩:∃ m:Nat,IntKind.i64.wrap (4 * (box:Int)) = (m:Int) /\ Hid (m = 4 * box):=⟨4 * box,by rw [QH];omega,rfl⟩;obtain ⟨s,hs,Hs,hs64⟩:∃ s:Nat,IntKind.i64.wrap (28 - (m:Int)) = (s:Int) /\ Hid (s = 28 - 4 * box) /\ s <= 64:=⟨28 - 4 * box,by have:=hm2.out;rw [QH];omega,rfl,by omega⟩;have hk64:IntKind.u64.wrap (k:Int) = (k:Int):=by rw [IntKind.wrap_u64];omega
   rw [<- Hs.out] at hpow;obtain ⟨q,hwq,hq1,Hq⟩:∃ q:Nat,IntKind.u64.wrap ((k:Int) * 2 ^ s) = (q:Int) /\ q < 18446744073709551616 /\ Hid (q = k * 2 ^ s):=by
    refine ⟨k * 2 ^ s,?_,hpow,rfl⟩;have e:(k:Int) * 2 ^ s = ((k * 2 ^ s:Nat):Int):=by simp
    rw [e,IntKind.wrap_u64];omega
   clear hpow;go_wp2;go_region_with (go_at_call 193;go_loud (refine (Ga q 32 32 32 _ _ pTab _ hq1 rfl (by omega) rfl (by omega) Tn hrow.drew1).mono ?_);rintro e w' ⟨rfl,rfl⟩);go_wp2;go_roundw
   case rel =>
    have hv:Value.int IntKind.u32 ((takeN q 32 pTab:Nat) % 4294967296:Int) = CS (spreadN box k):=by
     have:=JT box k;unfold CS;rw [Hq.out,Hs.out];show Value.int IntKind.u32 ((spreadN box k:Nat) % 4294967296:Int) = _
     congr 1
     omega
    rw [hv];exact ⟨k + 1,by omega,by go_num,hst.drew1,(hbt.other _ _ (by simp)).drew1,(hb0.other _ _ (by simp;omega)).drew1,(hbel.setCell (by simp;omega) _).drew⟩
   case measure=>simp [intOf];omega
  ·obtain rfl:k = 16:=by omega
   have hb1':Blk wr (w.heap.size + 1 + 1) 319 (CY box):=by rw [DD] at hb1;exact hb1
   go_wp2_with (first | (refine AL rfl 319 _ rfl _ rfl hb1' underlying319 rfl (by rw [spreadCells_length];kernel_rfl) ?_) | (refine store_blk rfl 319 _ _ rfl _ rfl rfl hb0 (by rw [spreadCells_length];kernel_rfl) (by rw [AD,spreadCells_length]) (J1 _) ?_;intro w2 hb2 hg2 hs2))
   exact Qc (v:=.agg (CY box).toArray) (AG results222 _ _ rfl hb2 underlying319 rfl (by rw [spreadCells_length];kernel_rfl)) rfl ⟨rfl,hbel.grown hg2 hbel.size (by intro k hk;cases hk;exact QE _)⟩
structure Sm (ts:List Nat) (w w':World):Prop where
 size:w.heap.size <= w'.heap.size
 stay:∀ (k:Nat) (o:Obj),w.heap[k]? = some o -> (∀ cs t q,o = .cells cs t q -> t ∉ ts) -> w'.heap[k]? = some o
theorem Sm.refl (ts:List Nat) (w:World):Sm ts w w:=⟨QE _,fun _ _ h _=>h⟩
theorem Sm.trans {ts:List Nat} {a b c:World} (h:Sm ts a b) (k:Sm ts b c):Sm ts a c:=⟨QG h.size k.size,fun i o hi ho=>k.stay i o (h.stay i o hi ho) ho⟩
theorem Sm.mono {ts us:List Nat} {a b:World} (h:Sm ts a b) (hs:∀ t,t ∈ ts -> t ∈ us):Sm us a b:=⟨h.size,fun i o hi ho=>h.stay i o hi (fun cs t q e ht=>ho cs t q e (hs t ht))⟩
theorem Sm.below {ts:List Nat} {w w':World} (h:Bl w w'):Sm ts w w':=⟨h.size,fun i _ hi _=>(h.block i (Array.getElem?_eq_some_iff.1 hi).1).trans hi⟩
theorem Sm.grown {ts:List Nat} {w w':World} {row:Option Nat} (h:w.grownBy w' row) (hr:∀ g,row = some g -> ∃ cs t q,w.heap[g]? = some (.cells cs t q) /\ t ∈ ts):Sm ts w w':=by
 refine ⟨h.size,fun i o hi ho=>?_⟩
 by_cases e:some i = row
 ·obtain ⟨cs,t,q,h1,h2⟩:=hr i e.symm;rw [h1] at hi;cases hi
  exact absurd h2 (ho cs t q rfl)
 ·rw [h.block i (Array.getElem?_eq_some_iff.1 hi).1 e];exact hi
theorem Sm.setCell {ts:List Nat} {w:World} {g t:Nat} {cs:List Value} (h:Blk w g t cs) (ht:t ∈ ts) (j:Nat) (v:Value):Sm ts w (w.setCell ⟨g,j,none⟩ v):=by
 refine ⟨by simp [World.setCell],fun i o hi ho=>?_⟩
 by_cases e:i = g
 ·subst e;have h2:w.heap[i]? = some (.cells cs.toArray t (0,0)):=h;rw [h2] at hi;cases hi
  exact absurd ht (ho _ t _ rfl)
 ·rw [Below.heap_setCell w ⟨g,j,none⟩ v i e];exact hi
theorem Blk.sm {ts:List Nat} {w w':World} {g t:Nat} {cs:List Value} (h:Blk w g t cs) (k:Sm ts w w') (ht:t ∉ ts):Blk w' g t cs :=
 k.stay g _ h (fun _ _ _ e=>by cases e;exact ht)
theorem Bd {ts:List Nat} {w w':World} {base e size n:Nat} {v:Value} {xs:List Value} (h:w.ownsRow base e size v n xs) (k:Sm ts w w') (ht:e ∉ ts):w'.ownsRow base e size v n xs:=by
 refine ⟨h.1,?_⟩;rcases h.2 with hz | ⟨g,cap,cur,hv,hb,hg,rest⟩
 ·exact .inl hz
 ·exact .inr ⟨g,cap,cur,hv,hb,k.stay g _ hg (fun _ _ _ e=>by cases e;exact ht),rest⟩
theorem KG {w:World} {base e size n:Nat} {v:Value} {xs:List Value} (h:w.ownsRow base e size v n xs):∀ g,v.ownBlock = some g -> ∃ cs t q,w.heap[g]? = some (.cells cs t q) /\ t ∈ [e]:=by
 intro g hg;rcases h.2 with ⟨hz,-⟩ | ⟨g',cap,cur,hv,hb,hh,rest⟩
 ·rw [hz] at hg;cases hg
 ·rw [hv] at hg;cases hg;exact ⟨cur,e,_,hh,by simp⟩
abbrev Ent:=Int × ByteArray × Int × ByteArray × Int
def de (e:Ent):List Value:=[.int .i64 e.1,.string e.2.1,.int .i64 e.2.2.1,.string e.2.2.2.1,.int .i64 e.2.2.2.2]
def O9 (l:Int × Int × ByteArray):List Value:=[.int .i64 l.1,.int .i64 l.2.1,.string l.2.2]
def Jj (s:Int × Value):List Value:=[.int .i64 s.1,s.2]
structure SS where
 mst:Value
 lnk:Value
 rts:Value
 room:Int
 kys:Value
 hnd:Value
 clock:Int
 drw:Value
 next:Int
 W:List Ent
 S:List (Int × Value)
 L:List (Int × Int × ByteArray)
def Fl (s:SS) (wv sv lv:Value):List Value:=[s.mst,s.lnk,s.rts,.int .i64 s.room,s.kys,s.hnd,.int .i64 s.clock,s.drw,.int .i64 s.next,wv,sv,lv]
def eU (ps:List Nat):List Value:=ps.map fun g=>.pointer (some ⟨g,0,none⟩)
def IJ (w:World) (B:Nat) (ps:List Nat) (W:List Ent):Prop:=ps.length = W.length /\ ∀ i,i < W.length -> B <= ps.getD i 0 /\ Blk w (ps.getD i 0) 231 (de (W.getD i default))
structure Bm (w:World) (B gS:Nat) (P:Nat -> Prop) (s:SS) (wv sv lv:Value) (ps:List Nat):Prop where
 lo:B <= gS
 blk:Blk w gS 84 (Fl s wv sv lv)
 ents:IJ w B ps s.W
 wrow:w.ownsRow B 229 1 wv s.W.length (eU ps)
 srow:w.ownsRow B 49 2 sv s.S.length (s.S.flatMap Jj)
 lrow:w.ownsRow B 47 3 lv s.L.length (s.L.flatMap O9)
 pS:P gS
 pw:∀ g,wv.ownBlock = some g -> P g
 pv:∀ g,sv.ownBlock = some g -> P g
 pl:∀ g,lv.ownBlock = some g -> P g
def Ses (w:World) (B gS:Nat) (P:Nat -> Prop) (s:SS):Prop:=∃ wv sv lv ps,Bm w B gS P s wv sv lv ps
def Kp (P:Nat -> Prop) (w w':World):Prop:=∀ k,k < w.heap.size -> ¬ P k -> w'.heap[k]? = w.heap[k]?
theorem Kp.trans {P:Nat -> Prop} {a b c:World} (h:Kp P a b) (hs:a.heap.size <= b.heap.size) (k:Kp P b c):Kp P a c:=fun i hi hp=>(k i (QX hi hs) hp).trans (h i hi hp)
theorem Kp.below {P:Nat -> Prop} {w w':World} (h:Bl w w'):Kp P w w':=fun i hi _=>h.block i hi
theorem Kp.grown {P:Nat -> Prop} {w w':World} {row:Option Nat} (h:w.grownBy w' row) (hr:∀ g,row = some g -> P g):Kp P w w':=fun i hi hp=>h.block i hi (fun e=>hp (hr i e.symm))
theorem Kp.setCell {P:Nat -> Prop} (w:World) {g:Nat} (hg:P g) (j:Nat) (v:Value):Kp P w (w.setCell ⟨g,j,none⟩ v):=fun i _ hp=>Below.heap_setCell w ⟨g,j,none⟩ v i (fun e=>hp (by rw [e];exact hg))
theorem Kp.weak {P Q:Nat -> Prop} {w w':World} (h:Kp P w w') (hq:∀ k,k < w.heap.size -> P k -> Q k):Kp Q w w':=fun i hi hp=>h i hi (fun e=>hp (hq i hi e))
theorem Kp.cell {P:Nat -> Prop} {w w':World} (h:Kp P w w') {a:Addr} {u:Value} (hc:w.cell? a = some u) (hp:¬ P a.block):w'.cell? a = some u:=(World.cell?_of_block (h a.block (QF w _ hc) hp)).trans hc
theorem RowAt.kp {P:Nat -> Prop} {w w':World} {ao:Option Addr} {bs:LU} (h:RowAt w ao bs) (k:Kp P w w') (hn:∀ a,ao = some a -> ¬ P a.block):RowAt w' ao bs:=by
 rcases h with h | ⟨b,off,he,hc⟩
 ·exact .inl h
 ·exact .inr ⟨b,off,he,fun i hi=>k.cell (hc i hi) (hn ⟨b,off,none⟩ he)⟩
theorem IZ {P:Nat -> Prop} {w w':World} {base e size n:Nat} {v:Value} {xs:List Value} (h:w.ownsRow base e size v n xs) (k:Kp P w w') (hn:∀ g,v.ownBlock = some g -> ¬ P g):w'.ownsRow base e size v n xs:=by
 refine ⟨h.1,?_⟩;rcases h.2 with hz | ⟨g,cap,cur,hv,hb,hg,rest⟩
 ·exact .inl hz
 ·exact .inr ⟨g,cap,cur,hv,hb,(k g (Array.getElem?_eq_some_iff.1 hg).1 (hn g (by rw [hv];rfl))).trans hg,rest⟩
theorem Tk {w w':World} {P:Nat -> Prop} {v v':Value} (hv:∀ g,v.ownBlock = some g -> P g) (hP:P w.heap.size) (h:v'.ownBlock = v.ownBlock \/ v'.ownBlock = some w.heap.size) (_hw:w.heap.size <= w'.heap.size):∀ g,v'.ownBlock = some g -> P g:=by
 intro g hg;rcases h with h | h
 ·exact hv g (by rw [<- h];exact hg)
 ·rw [h] at hg;cases hg;exact hP
def KT:List Nat:=[84,47,49,229]
theorem IJ.sm {ts:List Nat} {w w':World} {B:Nat} {ps:List Nat} {W:List Ent} (h:IJ w B ps W) (k:Sm ts w w') (ht:231 ∉ ts):IJ w' B ps W :=
 ⟨h.1,fun i hi=>⟨(h.2 i hi).1,(h.2 i hi).2.sm k ht⟩⟩
theorem Bm.sm {w w':World} {B gS:Nat} {P:Nat -> Prop} {s:SS} {wv sv lv:Value} {ps:List Nat} (h:Bm w B gS P s wv sv lv ps) (k:Sm [] w w'):Bm w' B gS P s wv sv lv ps :=
 ⟨h.lo,h.blk.sm k (by simp),h.ents.sm k (by simp),Bd h.wrow k (by simp),Bd h.srow k (by simp),Bd h.lrow k (by simp),h.pS,h.pw,h.pv,h.pl⟩
theorem Bm.weak {w:World} {B gS:Nat} {P Q:Nat -> Prop} {s:SS} {wv sv lv:Value} {ps:List Nat} (h:Bm w B gS P s wv sv lv ps) (hq:∀ k,B <= k -> k < w.heap.size -> P k -> Q k):Bm w B gS Q s wv sv lv ps :=
 ⟨h.lo,h.blk,h.ents,h.wrow,h.srow,h.lrow,hq _ h.lo h.blk.lt h.pS,fun g e=>hq g (h.wrow.lt g e).1 (h.wrow.lt g e).2 (h.pw g e),fun g e=>hq g (h.srow.lt g e).1 (h.srow.lt g e).2 (h.pv g e),fun g e=>hq g (h.lrow.lt g e).1 (h.lrow.lt g e).2 (h.pl g e)⟩
theorem Ses.weak {w:World} {B gS:Nat} {P Q:Nat -> Prop} {s:SS} (h:Ses w B gS P s) (hq:∀ k,B <= k -> k < w.heap.size -> P k -> Q k):Ses w B gS Q s:=by
 obtain ⟨wv,sv,lv,ps,h⟩:=h;exact ⟨wv,sv,lv,ps,h.weak hq⟩
theorem Ses.below {w w':World} {B gS:Nat} {P:Nat -> Prop} {s:SS} (h:Ses w B gS P s) (hb:Bl w w'):Ses w' B gS P s:=by
 obtain ⟨wv,sv,lv,ps,h⟩:=h;exact ⟨wv,sv,lv,ps,h.sm (Sm.below hb)⟩
theorem EV {w:World} {base e size n:Nat} {v:Value} {xs:List Value} (h:w.ownsRow base e size v n xs):∃ a c,v = .slice a n c:=by
 rcases h.2 with ⟨hv,hn⟩ | ⟨g,cap,cur,hv,-⟩
 ·exact ⟨none,0,by rw [hv,hn]⟩
 ·exact ⟨_,_,hv⟩
theorem FM {w:World} {g t:Nat} {cs:List Value} (h:Blk w g t cs):∀ j u,cs[j]? = some u -> w.cell? ((⟨g,0,none⟩:Addr).add j) = some u:=by
 intro j u hu;obtain ⟨hj,he⟩:=List.getElem?_eq_some_iff.1 hu;rw [qZ,QZ,h.cell j hj,he]
theorem Dd {p:Prop} (h:p):Hid p:=h
theorem CN (w:World) (o:Obj):Bl w (w.alloc o):=(Below.refl _ _).alloc (QE _) o
theorem Tryz.infoLn:(prog.info? 47).map (fun i=>(i.zero,i.size,i.bytes)) = some (some (.agg #[.int .i64 0,.int .i64 0,.string ⟨#[]⟩]),3,32):=by kernel_rfl
theorem Tryz.infoSn:(prog.info? 49).map (fun i=>(i.zero,i.size,i.bytes)) = some (some (.agg #[.int .i64 0,.slice none 0 0]),2,32):=by kernel_rfl
theorem Wt (s:SS) (B gS:Nat) (P:Nat -> Prop) (wv sv lv:Value) (ps:List Nat) (code link:Int) (stan:ByteArray) (w:World) (hB:B <= w.heap.size) (hP:∀ k,w.heap.size <= k -> P k) (h:Bm w B gS P s wv sv lv ps) (hl:s.L.length <= 1000000) :
 Calls prog 123 #[.pointer (some ⟨gS,0,none⟩),.int .i64 code,.int .i64 link,.string stan] w fun e w' =>
  e = .returned (.tuple #[]) /\ (∃ lv',Bm w' B gS P { s with L:=s.L ++ [(code,link,stan)] } wv sv lv' ps) /\ Below B w w' /\ Sm KT w w' /\ Kp P w w':=by
 obtain ⟨i0,hi0,hz0,hz1,hz2⟩:=Qg Tryz.infoLn;obtain ⟨n,hn⟩:∃ n,n = s.L.length:=⟨_,rfl⟩;have row:=h.lrow;rw [<- hn] at row hl;obtain ⟨W,hW⟩:∃ y,y = w.alloc (Obj.cells #[.int .i64 code,.int .i64 link,.string stan] 47):=⟨_,rfl⟩;have bW:Bl w W:=by rw [hW];exact CN _ _
 have kW:Blk W w.heap.size 47 [.int .i64 code,.int .i64 link,.string stan]:=by rw [hW];exact Blk.new _ _ _
 have hc:w.cell? ⟨gS,11,none⟩ = some lv:=h.blk.cell 11 (by simp [Fl]);have hS:=Dd (h.sm (Sm.below bW));have rowW:=Dd (Bd (ts:=[]) row (Sm.below bW) (by simp));have hBW:B <= W.heap.size:=QG hB bW.size;have KW:=Dd kW;have HW:=Dd hW;have HB:=Dd bW;have HN:=Dd hn;clear hW bW kW h row hn;go_enter func123,ntmps123;go_wp2_with (at_builtin;(rw [<- show W = _ from HW];refine Qq _ rfl _ _ 41 rfl B 47 i0 (.agg #[.int .i64 0,.int .i64 0,.string ⟨#[]⟩]) 3 32 underlying41 hi0 hz0 hz1 hz2 rfl (by decide) lv n _ rfl rowW.out ⟨w.heap.size,0,none⟩ 1 1 [.int .i64 code,.int .i64 link,.string stan] rfl rfl (FM KW.out) (by intro u hu;simp at hu;rcases hu with rfl | rfl | rfl <;> rfl) (by unfold maxLen;omega) (by omega) hBW ?_;intro v2 w2 row2 gr2 _ at2;have sm2:=Sm.grown (ts:=[47]) gr2 (KG rowW.out);have kS2:=hS.out.blk.sm sm2 (by decide);have cS:w2.cell? ⟨gS,11,none⟩ = some lv:=kS2.cell 11 (by simp [Fl]);obtain ⟨a2,c2,rfl⟩:=EV row2;have fS:=kS2.free 11))
 go_end0;have sm3:=Sm.setCell (ts:=[84]) kS2 (by simp) 11 (.slice a2 (n + 1) c2);have hO:=hS.out;refine ⟨rfl,⟨.slice a2 (n + 1) c2,hO.lo,kS2.set 11 _,(hO.ents.sm sm2 (by decide)).sm sm3 (by decide),Bd (Bd hO.wrow sm2 (by decide)) sm3 (by decide),Bd (Bd hO.srow sm2 (by decide)) sm3 (by decide),?_,hO.pS,hO.pw,hO.pv,Tk (w:=W) (w':=w2) hO.pl (hP _ HB.out.size) at2 gr2.size⟩,?_,?_,?_⟩
 ·have r3:=Bd row2 sm3 (by decide);show World.ownsRow _ B _ 3 (.slice a2 (n + 1) c2) (s.L ++ [(code,link,stan)]).length ((s.L ++ [(code,link,stan)]).flatMap O9);rw [QC,<- HN.out,List.flatMap_append];exact r3
 ·exact ((HB.out.mono hB).grown gr2 hBW (fun k hk=>(rowW.out.lt k hk).1)).setCell hO.lo _
 ·exact ((Sm.below HB.out).trans (sm2.mono (by decide))).trans (sm3.mono (by decide))
 ·exact ((Kp.below HB.out).trans HB.out.size (Kp.grown gr2 hO.pl)).trans (QG HB.out.size gr2.size) (Kp.setCell w2 hO.pS 11 _)
theorem Rk (s:SS) (B gS:Nat) (P:Nat -> Prop) (code link:Int) (stan:ByteArray) (w:World) (hB:B <= w.heap.size) (hP:∀ k,w.heap.size <= k -> P k) (h:Ses w B gS P s) (hl:s.L.length <= 1000000) :
 Calls prog 123 #[.pointer (some ⟨gS,0,none⟩),.int .i64 code,.int .i64 link,.string stan] w fun e w' =>
  e = .returned (.tuple #[]) /\ Ses w' B gS P { s with L:=s.L ++ [(code,link,stan)] } /\ Below B w w' /\ Sm KT w w' /\ Kp P w w':=by
 obtain ⟨wv,sv,lv,ps,h⟩:=h;refine (Wt s B gS P wv sv lv ps code link stan w hB hP h hl).mono ?_;rintro e w' ⟨h1,⟨lv',h2⟩,h3⟩;exact ⟨h1,⟨wv,sv,lv',ps,h2⟩,h3⟩
end Go.Proofs.YtbkokcjolanpeaaGreatDoor
