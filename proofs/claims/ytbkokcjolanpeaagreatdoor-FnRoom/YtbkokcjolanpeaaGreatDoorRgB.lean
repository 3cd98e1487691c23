import Derived.Test.YtbkokcjolanpeaaGreatDoorRgA
import Derived.WalkKit
import Derived.WalkSpells
import Derived.Test.YtbkokcjolanpeaaGreatDoorRows
import Derived.WalkLawsBesides
import Derived.Deep.QuietTactic
import Derived.BigQuiet
import Derived.Laws.BitsAllLaws
import Derived.Deep.WholeRow
import Derived.Deep.RegionWith
namespace Go.Proofs.YtbkokcjolanpeaaGreatDoor
open Go.RowKit
def byte (b:UInt8):Value:=.int .u8 (b.toNat:Int)
def RowAt (w:World) (ao:Option Addr) (bs:List UInt8):Prop :=
 bs = [] ∨ ∃ b off,ao = some ⟨b,off,none⟩ ∧ ∀ i,i < bs.length → w.cell? ⟨b,off + i,none⟩ = some (.int .u8 ((bs.getD i 0).toNat:Int))
theorem RowAt.at {w:World} {ao:Option Addr} {bs:List UInt8} (h:RowAt w ao bs) {k:Nat} (hk:k < bs.length) :
   ∃ b off,ao = some ⟨b,off,none⟩ ∧ ∀ i,i < bs.length → w.cell? ⟨b,off + i,none⟩ = some (.int .u8 ((bs.getD i 0).toNat:Int)):=by
 rcases h with rfl | h
 · simp at hk
 · exact h
theorem RowAt.lt {w:World} {b off:Nat} {bs:List UInt8} (h:∀ i,i < bs.length → w.cell? ⟨b,off + i,none⟩ = some (.int .u8 ((bs.getD i 0).toNat:Int))) {k:Nat} (hk:k < bs.length):b < w.heap.size:=by
 have:=h k hk
 exact World.block_lt_of_cell? w _ this
def Own (w:World) (base:Nat) (v:Value) (bs:List UInt8):Prop:=∃ t,w.ownsRow base t 1 v bs.length (bs.map byte)
theorem Own.shape {w:World} {base:Nat} {v:Value} {bs:List UInt8} (h:Own w base v bs) :
   ∃ ao cap,v = .slice ao bs.length cap ∧ RowAt w ao bs ∧ (∀ a,ao = some a → ∃ g,a = ⟨g,0,none⟩ ∧ base ≤ g ∧ g < w.heap.size) ∧ (ao = none → bs = []) ∧ bs.length ≤ maxLen:=by
 obtain ⟨t,h⟩:=h
 rcases h.2 with ⟨hv,hn⟩ | ⟨g,cap,cur,hv,hb,hh,hn,hm,hs,ht⟩
 · refine ⟨none,0,?_,.inl (List.length_eq_zero_iff.1 hn),?_,fun _=>List.length_eq_zero_iff.1 hn,by omega⟩
   · rw [hv,hn]
   · intro a ha;cases ha
 · subst hv
   refine ⟨some ⟨g,0,none⟩,cap,rfl,.inr ⟨g,0,rfl,?_⟩,?_,?_,by omega⟩
   · intro i hi
     rw [Nat.zero_add,h.cellAt i (by omega)]
     simp [hi,byte]
   · intro a ha;cases ha;exact ⟨g,rfl,hb,lt_of_block hh⟩
   · intro hc;cases hc
theorem own_some {w:World} {base e size g n cap:Nat} {xs:List Value} (h:w.ownsRow base e size (.slice (some ⟨g,0,none⟩) n cap) n xs) {j:Nat} (hj:j < n * size):∃ u,w.cell? ⟨g,j,none⟩ = some u:=by
 rw [h.cellAt j hj]
 have:=h.1
 exact ⟨xs[j]'(by omega),List.getElem?_eq_getElem _⟩
theorem RowAt.grown {w w':World} {row:Option Nat} {ao:Option Addr} {bs:List UInt8} (h:RowAt w ao bs) (hg:w.grownBy w' row) (hne:∀ a,ao = some a → row ≠ some a.block):RowAt w' ao bs:=by
 rcases h with rfl | ⟨b,off,rfl,hc⟩
 · exact .inl rfl
 · exact .inr ⟨b,off,rfl,fun i hi=>hg.cell (hc i hi) (fun e=>hne _ rfl e.symm)⟩
theorem RowAt.below {w w':World} {ao:Option Addr} {bs:List UInt8} (h:RowAt w ao bs) (hb:Below w.heap.size w w'):RowAt w' ao bs:=by
 rcases h with rfl | ⟨b,off,rfl,hc⟩
 · exact .inl rfl
 · exact .inr ⟨b,off,rfl,fun i hi=>by rw [hb.cell (p:=⟨b,off + i,none⟩) (World.block_lt_of_cell? w _ (hc i hi))];exact hc i hi⟩
theorem RowAt.drew1 {w:World} {ao:Option Addr} {bs:List UInt8} (h:RowAt w ao bs):RowAt w.drew ao bs:=h
theorem below_of_grown {w w':World} (h:w.grownBy w' none):Below w.heap.size w w':=⟨h.os,h.tape,h.output,h.size,fun k hk=>h.block k hk (by simp)⟩
theorem grown_of_below {w w':World} (h:Below w.heap.size w w') (row:Option Nat):w.grownBy w' row:=⟨h.os,h.tape,h.output,h.size,fun k hk _=>h.block k hk⟩
theorem grown_trans {a b c:World} {row:Option Nat} (h:a.grownBy b row) (k:b.grownBy c row):a.grownBy c row :=
 ⟨k.os.trans h.os,k.tape.trans h.tape,k.output.trans h.output,Nat.le_trans h.size k.size,fun i hi hr=>(k.block i (Nat.lt_of_lt_of_le hi h.size) hr).trans (h.block i hi hr)⟩
theorem Own.grown {w w':World} {row:Option Nat} {base:Nat} {v:Value} {bs:List UInt8} (h:Own w base v bs) (hg:w.grownBy w' row) (hne:v.ownBlock = none ∨ v.ownBlock ≠ row):Own w' base v bs:=by
 obtain ⟨t,h⟩:=h
 exact ⟨t,World.ownsRow.kept h hg hne⟩
theorem ret_int {k:IntKind} {a b:Int} (h:a = b):Ending.returned (.int k a) = .returned (.int k b):=by rw [h]
theorem take_snoc {α:Type} (l:List α) (k:Nat) (h:k < l.length):l.take (k + 1) = l.take k ++ [l[k]]:=by
 rw [List.take_succ_eq_append_getElem h]
theorem Tryz.info5:(Tryz.prog.info? 5).map (fun i=>(i.zero,i.size,i.bytes)) = some (some (.int .u8 0),1,1):=by kernel_rfl
theorem made_zero (n:Nat):(madeCells (Value.int .u8 0).cells (n * 1)).toList = List.replicate n (.int .u8 0):=by
 rw [Nat.mul_one];exact toList_madeCells_one _ _
def part (bs:List UInt8) (k:Nat):List Value:=(bs.take k).map byte ++ List.replicate (bs.length - k) (.int .u8 0)
theorem part_zero (bs:List UInt8):part bs 0 = List.replicate bs.length (.int .u8 0):=by simp [part]
theorem part_all (bs:List UInt8):part bs bs.length = bs.map byte:=by simp [part]
theorem part_set (bs:List UInt8) (k:Nat) (h:k < bs.length):(part bs k).set k (byte bs[k]) = part bs (k + 1):=by
 unfold part
 have hl:((bs.take k).map byte).length = k:=by simp;omega
 rw [List.set_append_right _ _ (by omega),hl,Nat.sub_self]
 obtain ⟨m,hm⟩:∃ m,bs.length - k = m + 1:=⟨bs.length - k - 1,by omega⟩
 rw [hm,List.replicate_succ,List.set_cons_zero,take_snoc bs k h,show bs.length - (k + 1) = m from by omega]
 simp only [List.map_append,List.map_cons,List.map_nil,List.append_assoc,List.singleton_append]
def marks (k n:Nat):List UInt8:=(List.range n).map fun i=>UInt8.ofNat (k + i)
theorem Own.below {w w':World} {base:Nat} {v:Value} {bs:List UInt8} (h:Own w base v bs) (hb:Below w.heap.size w w'):Own w' base v bs :=
 h.grown (grown_of_below hb none) (by cases hv:v.ownBlock <;> simp)
theorem run_index_agg {P:Program} {t e n:Nat} {d:TypeDesc} (hu:P.underlying t = some (.array n e)) (hue:P.underlying e = some d) (hd:(match d with | .struct _ | .array _ _=>true | _=>false) = false) (hs:(P.info? e).map (·.size) = some 1)
   (cs:Array Value) (k:IntKind) (i:Nat) (hin:i < n) (v:Value) (hv:cs[i]? = some v) (w:World):(Instr.index t (.agg cs) (.int k (i:Int))).run P w = .ok v w:=by
 cases hq:P.info? e with
 | none=>simp [hq] at hs
 | some x =>
   have hsz:x.size = 1:=by simpa [hq] using hs
   have hagg:(isAgg e).run P w = .ok false w:=by
     unfold isAgg
     rw [Sem.run_bind,run_underlying hue w]
     cases d <;> simp_all
   simp [Instr.index,asIntOf,Sem.run_bind,run_underlying hu w,sizeOf,typeInfo,hq,hsz,Go.part,hagg,hv,hin]
def Blk (w:World) (g t:Nat) (cs:List Value):Prop:=w.heap[g]? = some (.cells cs.toArray t (0,0))
theorem Blk.cell {w:World} {g t:Nat} {cs:List Value} (h:Blk w g t cs) (j:Nat) (hj:j < cs.length):w.cell? ⟨g,j,none⟩ = some cs[j]:=by
 rw [cell_of_row w g j _ t (0,0) h];simp [hj]
theorem Blk.free {w:World} {g t:Nat} {cs:List Value} (h:Blk w g t cs) (j:Nat):w.frozen? ⟨g,j,none⟩ = false:=frozen_of_row w g j _ t h
theorem Blk.set {w:World} {g t:Nat} {cs:List Value} (h:Blk w g t cs) (j:Nat) (v:Value):Blk (w.setCell ⟨g,j,none⟩ v) g t (cs.set j v):=by
 have:=heap_setCell_same w g j cs.toArray t v h
 unfold Blk
 rw [this]
 simp
theorem Blk.other {w:World} {g t:Nat} {cs:List Value} (h:Blk w g t cs) (a:Addr) (v:Value) (hne:g ≠ a.block):Blk (w.setCell a v) g t cs:=by
 unfold Blk;rw [heap_setCell_other w a g v hne];exact h
theorem Blk.new (w:World) (t:Nat) (cs:Array Value):Blk (w.alloc (.cells cs t)) w.heap.size t cs.toList:=by
 unfold Blk;rw [heap_alloc_new]
theorem Blk.newAt (w:World) (t n:Nat) (cs:Array Value) (h:n = w.heap.size):Blk (w.alloc (.cells cs t)) n t cs.toList:=by subst h;exact Blk.new w t cs
theorem Blk.new2 (w:World) (A:Obj) (t:Nat) (cs:Array Value):Blk ((w.alloc A).alloc (.cells cs t)) (w.heap.size + 1) t cs.toList:=by
 unfold Blk;rw [heap_alloc2_new]
theorem Blk.lt {w:World} {g t:Nat} {cs:List Value} (h:Blk w g t cs):g < w.heap.size:=lt_of_block h
theorem Blk.alloc {w:World} {g t:Nat} {cs:List Value} (h:Blk w g t cs) (o:Obj):Blk (w.alloc o) g t cs:=by
 unfold Blk;rw [Below.heap_alloc w o g (Blk.lt h)];exact h
theorem Blk.grown {w w':World} {g t:Nat} {row:Option Nat} {cs:List Value} (h:Blk w g t cs) (hg:w.grownBy w' row) (hne:some g ≠ row):Blk w' g t cs:=by
 unfold Blk;rw [hg.block g (Blk.lt h) hne];exact h
theorem Blk.below {w w':World} {g t B:Nat} {cs:List Value} (h:Blk w g t cs) (hb:Below B w w') (hg:g < B):Blk w' g t cs:=by
 unfold Blk;rw [hb.block g hg];exact h
theorem Blk.drew1 {w:World} {g t:Nat} {cs:List Value} (h:Blk w g t cs):Blk w.drew g t cs:=h
theorem Blk.setRow {w:World} {g t:Nat} {cs:List Value} (h:Blk w g t cs) (cs':List Value):Blk (w.setRow g cs'.toArray) g t cs':=setRow_heap w g _ _ t _ h
theorem below_setRow' {B:Nat} {a w:World} (h:Below B a w) {g:Nat} (hp:B ≤ g) (cs:Array Value):Below B a (w.setRow g cs) :=
 h.trans ⟨rfl,rfl,rfl,by simp,fun k hk=>setRow_other w g k cs (by omega)⟩
theorem allOne_bytes (bs:List UInt8):(bs.map byte).toArray.all (·.oneCell') = true:=by
 rw [Array.all_eq_true_iff_forall_mem]
 intro v hv
 simp only [List.mem_toArray,List.mem_map] at hv
 obtain ⟨b,-,rfl⟩:=hv
 rfl
theorem load_blk {P:Program} {ops:Array Oper} {rest:List Oper} {o:Oper} {a:Act} {w:World} {Q:Exit → Act → World → Prop} (hgd:o.guard = none) (ty:Nat) (x:Operand) (ho:o.op = .load ty x)
   (g:Nat) (hx:a.eval x = .pointer (some ⟨g,0,none⟩)) {t:Nat} {cs:List Value} (hb:Blk w g t cs) {d:TypeDesc} (hu:P.underlying ty = some d) (hd:(match d with | .struct _ | .array _ _=>true | _=>false) = true)
   (hi:(P.info? ty).map (·.size) = some cs.length) (h:wpList P ops Q rest (a.put o.dst (.agg cs.toArray)) w):wpList P ops Q (o :: rest) a w :=
 wpList_load_row hgd ty x ho g hx t cs.toArray (0,0) d hb hu hd (by simpa using hi) h
theorem store_blk {P:Program} {ops:Array Oper} {rest:List Oper} {o:Oper} {a:Act} {w:World} {Q:Exit → Act → World → Prop} (hgd:o.guard = none) (ty:Nat) (x y:Operand) (ho:o.op = .store ty x y)
   (g:Nat) (hx:a.eval x = .pointer (some ⟨g,0,none⟩)) {t:Nat} {old cs:List Value} (hy:a.eval y = .agg cs.toArray) (hb:Blk w g t old) (hi:(P.info? ty).map (·.size) = some cs.length) (hl:old.length = cs.length) (h1:cs.toArray.all (·.oneCell') = true)
   (h:∀ w',Blk w' g t cs → w.grownBy w' (some g) → w'.heap.size = w.heap.size → wpList P ops Q rest (a.put o.dst undef) w'):wpList P ops Q (o :: rest) a w :=
 wpList_store_row hgd ty x y ho g cs.toArray hx hy t old.toArray hb (by simpa using hi) (by simpa using hl) h1
   (h _ (Blk.setRow hb cs) ⟨rfl,rfl,rfl,by simp,fun k _ hk=>setRow_other w g k _ (fun e=>hk (by simp [e]))⟩ (by simp))
theorem results_blk {P:Program} {fn:Func} {p ty:Nat} (h:fn.results = #[.cell p ty]) (tmps:Array Value) (w:World) {g t:Nat} {cs:List Value} {d:TypeDesc} (hp:tmps.getD p undef = .pointer (some ⟨g,0,none⟩)) (hb:Blk w g t cs)
   (hu:P.underlying ty = some d) (hd:(match d with | .struct _ | .array _ _=>true | _=>false) = true) (hi:(P.info? ty).map (·.size) = some cs.length):(results fn tmps).run P w = .ok (.agg cs.toArray) w :=
 results_cell_row h tmps w g t cs.toArray (0,0) d hp hb hu hd (by simpa using hi)
theorem build_to {P:Program} {ops:Array Oper} {rest:List Oper} {o:Oper} {a:Act} {w:World} {Q:Exit → Act → World → Prop} (hg:o.guard = none) (t:Nat) (parts:Array (Nat × Operand)) (ho:o.op = .build t parts) (cs:List Value)
   (hf:P.built t (parts.map fun (i,x)=>(i,a.eval x)).toList = some cs.toArray) (h:wpList P ops Q rest (a.put o.dst (.agg cs.toArray)) w):wpList P ops Q (o :: rest) a w :=
 wpList_build hg t parts ho (by rw [hf];rfl) (by rw [hf];exact h)
def takeN (word width:Nat) (tab:List UInt8):Nat:=tab.foldl (fun t n=>2 * t + word / 2 ^ (width - n.toNat) % 2) 0
theorem takeN_snoc (word width:Nat) (l:List UInt8) (c:UInt8):takeN word width (l ++ [c]) = 2 * takeN word width l + word / 2 ^ (width - c.toNat) % 2:=by
 simp [takeN]
theorem takeN_lt_aux (word width:Nat) (l:List UInt8) (t:Nat):l.foldl (fun t n=>2 * t + word / 2 ^ (width - n.toNat) % 2) t < (t + 1) * 2 ^ l.length:=by
 induction l generalizing t with
 | nil=>simp
 | cons c l ih =>
   have h:=ih (2 * t + word / 2 ^ (width - c.toNat) % 2)
   simp only [List.foldl_cons,List.length_cons]
   refine Nat.lt_of_lt_of_le h ?_
   rw [Nat.pow_succ,Nat.mul_comm (2 ^ l.length) 2,← Nat.mul_assoc]
   exact Nat.mul_le_mul_right _ (by omega)
theorem takeN_lt (word width:Nat) (l:List UInt8):takeN word width l < 2 ^ l.length:=by
 have h:=takeN_lt_aux word width l 0
 simpa [takeN] using h
theorem pow_lt_64 {k:Nat} (h:k < 64):(2:Nat) ^ k ≤ 9223372036854775808:=Nat.le_trans (Nat.pow_le_pow_right (by omega) (show k ≤ 63 by omega)) (by decide)
theorem take_step (r word s:Nat) (hr:r < 9223372036854775808) (hw:word < 18446744073709551616) :
   bits BinOp.or IntKind.u64 ((r:Int) * 2) (bits BinOp.and IntKind.u64 ((word:Int) / 2 ^ s) 1) = ((2 * r + word / 2 ^ s % 2:Nat):Int):=by
 have e1:(r:Int) * 2 = ((2 * r:Nat):Int):=by omega
 have e4:(word:Int) / 2 ^ s = ((word / 2 ^ s:Nat):Int):=by simp
 have hd:word / 2 ^ s ≤ word:=Nat.div_le_self _ _
 rw [e1,e4]
 have e5:bits BinOp.and IntKind.u64 ((word / 2 ^ s:Nat):Int) 1 = ((word / 2 ^ s % 2:Nat):Int):=by
   have h:=u64_and_nat (word / 2 ^ s) 1 (by omega) (by omega)
   rw [nat_mask1] at h
   exact h
 rw [e5,u64_or_nat _ _ (by omega) (by omega),nat_join 1 (2 * r) _ (by omega) (by omega)]
set_option maxHeartbeats 400000 in
theorem takeBits_any (word width:Nat) (ao:Option Addr) (cap:Nat) (tab:List UInt8) (w:World) (hw:word < 18446744073709551616) (hwd:width ≤ 64) (hn:tab.length ≤ 64) (htab:∀ t ∈ tab,1 ≤ t.toNat ∧ t.toNat ≤ width) (hr:RowAt w ao tab) :
   Calls Tryz.prog 193 #[.int .u64 word,.int .u64 width,.slice ao tab.length cap] w fun e w' =>
     e = .returned (.int .u64 (takeN word width tab:Nat)) ∧ w' = w:=by
 go_enter Tryz.func193,Tryz.ntmps193
 go_wp2
 go_loop [7,9,12] (fun t _ i=>∃ k:Nat,k ≤ tab.length ∧ i = .int .i64 k ∧ t = .int .u64 (takeN word width (tab.take k):Nat)) (fun _ _ i=>tab.length - (intOf i).toNat)
 case atStart=>exact ⟨0,Nat.zero_le _,rfl,rfl⟩
 case round =>
   obtain ⟨k,hk,rfl,rfl⟩:=hrel
   by_cases hlt:k < tab.length
   · obtain ⟨b,off,rfl,hc⟩:=hr.at hlt
     have hcx:w.cell? ⟨b,off + k,none⟩ = some (.int .u8 (tab[k].toNat:Int)):=(hc k hlt).trans (by simp [hlt])
     have hb:=htab tab[k] (List.getElem_mem hlt)
     have hs:=takeN_snoc word width (tab.take k) tab[k]
     rw [← take_snoc tab k hlt] at hs
     have HS:Hid (takeN word width (tab.take (k + 1)) = 2 * takeN word width (tab.take k) + word / 2 ^ (width - tab[k].toNat) % 2):=hs
     have hlt2:takeN word width (tab.take k) < 9223372036854775808:=Nat.lt_of_lt_of_le (takeN_lt word width (tab.take k)) (pow_lt_64 (by simp;omega))
     clear hc hr hs htab
     go_wp2
     go_round
     case rel=>exact ⟨k + 1,by omega,by go_num,by rw [take_step _ _ _ hlt2 hw,HS.out]⟩
     case measure=>simp [intOf];omega
   · go_wp2
     go_ret
     have hkl:k = tab.length:=by omega
     subst hkl
     rw [List.take_length]
     exact ⟨rfl,rfl⟩
theorem takeBits_at (word width n:Nat) (wi:Int) (ao:Option Addr) (cap:Nat) (tab:List UInt8) (w:World) (hw:word < 18446744073709551616) (hwi:wi = (width:Int)) (hwd:width ≤ 64) (hln:tab.length = n) (hn:n ≤ 64) (htab:∀ t ∈ tab,1 ≤ t.toNat ∧ t.toNat ≤ width) (hr:RowAt w ao tab) :
   Calls Tryz.prog 193 #[.int .u64 word,.int .u64 wi,.slice ao n cap] w fun e w' =>
     e = .returned (.int .u64 (takeN word width tab:Nat)) ∧ w' = w:=by
 subst hwi
 subst hln
 exact takeBits_any word width ao cap tab w hw hwd hn htab hr
theorem rowAt_block {w:World} {g:Nat} {bs:List UInt8} {t:TypeId} {fr:Nat × Nat} (h:w.heap[g]? = some (.cells (bs.map byte).toArray t fr)):RowAt w (some ⟨g,0,none⟩) bs:=by
 refine .inr ⟨g,0,rfl,fun i hi=>?_⟩
 rw [Nat.zero_add,cell_of_row w g i _ t fr h]
 simp [hi,byte]
def wordN (bs:List UInt8):Nat:=bs.foldl (fun t b=>256 * t + b.toNat) 0
theorem wordN_snoc (l:List UInt8) (c:UInt8):wordN (l ++ [c]) = 256 * wordN l + c.toNat:=by simp [wordN]
theorem wordN_lt (l:List UInt8):wordN l < 256 ^ l.length:=by
 have:∀ t,l.foldl (fun t b=>256 * t + b.toNat) t < (t + 1) * 256 ^ l.length:=by
   induction l with
   | nil=>intro t;simp
   | cons c l ih =>
     intro t
     have h:=ih (256 * t + c.toNat)
     have hc:=c.toNat_lt
     simp only [List.foldl_cons,List.length_cons]
     refine Nat.lt_of_lt_of_le h ?_
     rw [Nat.pow_succ,Nat.mul_comm (256 ^ l.length) 256,← Nat.mul_assoc]
     exact Nat.mul_le_mul_right _ (by omega)
 simpa [wordN] using this 0
theorem word_step (r b:Nat) (hr:r < 72057594037927936) (hb:b < 256):bits BinOp.or IntKind.u64 ((r:Int) * 256) (b:Int) = ((256 * r + b:Nat):Int):=by
 have e1:(r:Int) * 256 = ((256 * r:Nat):Int):=by omega
 rw [e1,u64_or_nat _ _ (by omega) (by omega),nat_join 8 (256 * r) _ (by omega) (by omega)]
theorem pow256_lt {k:Nat} (h:k < 8):(256:Nat) ^ k ≤ 72057594037927936:=Nat.le_trans (Nat.pow_le_pow_right (by omega) (show k ≤ 7 by omega)) (by decide)
set_option maxHeartbeats 400000 in
theorem wordOf_any (bs:List UInt8) (w:World) (h8:bs.length = 8) :
   Calls Tryz.prog 194 #[.agg (bs.map byte).toArray] w fun e w'=>e = .returned (.int .u64 (wordN bs:Nat)) ∧ Below w.heap.size w w':=by
 go_enter Tryz.func194,Tryz.ntmps194
 go_wp2_with (refine wpList_load_row rfl 208 _ rfl w.heap.size rfl 208 (bs.map byte).toArray (0,0) _ (heap_alloc_new w _) Tryz.underlying208 rfl (by rw [show (bs.map byte).toArray.size = 8 from by simp [h8]];kernel_rfl) ?_)
 go_loop [3,5,7] (fun t _ i=>∃ k:Nat,k ≤ 8 ∧ i = .int .i64 k ∧ t = .int .u64 (wordN (bs.take k):Nat)) (fun _ _ i=>8 - (intOf i).toNat)
 case atStart=>exact ⟨0,Nat.zero_le _,rfl,rfl⟩
 case round =>
   obtain ⟨k,hk,rfl,rfl⟩:=hrel
   by_cases hlt:k < 8
   · have hlt':k < bs.length:=by omega
     have hix:=run_index_agg (P:=Tryz.prog) Tryz.underlying208 Tryz.underlying5 rfl (by kernel_rfl) (bs.map byte).toArray .i64 k hlt (.int .u8 (bs[k].toNat:Int)) (by simp [hlt',byte])
     have HS:Hid (wordN (bs.take (k + 1)) = 256 * wordN (bs.take k) + bs[k].toNat):=by rw [take_snoc bs k hlt'];exact wordN_snoc _ _
     have hlt2:wordN (bs.take k) < 72057594037927936:=Nat.lt_of_lt_of_le (wordN_lt (bs.take k)) (pow256_lt (by simp;omega))
     have hb:=bs[k].toNat_lt
     go_wp2
     go_round
     case rel=>exact ⟨k + 1,by omega,by go_num,by rw [word_step _ _ hlt2 hb,HS.out]⟩
     case measure=>simp [intOf];omega
   · go_wp2
     go_ret
     obtain rfl:k = 8:=by omega
     rw [List.take_of_length_le (by omega)]
     exact ⟨rfl,(Below.refl _ _).alloc (Nat.le_refl _) _⟩
def blockN (word:Nat):List UInt8:=(List.range 8).map fun i=>UInt8.ofNat (word / 2 ^ (56 - 8 * i))
theorem blockN_length (word:Nat):(blockN word).length = 8:=by simp [blockN]
theorem blockN_get (word i:Nat) (h:i < 8):(blockN word)[i]'(by rw [blockN_length];exact h) = UInt8.ofNat (word / 2 ^ (56 - 8 * i)):=by simp [blockN]
theorem part_length (bs:List UInt8) (k:Nat) (h:k ≤ bs.length):(part bs k).length = bs.length:=by simp [part];omega
set_option maxHeartbeats 400000 in
theorem blockOf_any (word:Nat) (w:World) (_hw:word < 18446744073709551616) :
   Calls Tryz.prog 195 #[.int .u64 word] w fun e w'=>e = .returned (.agg ((blockN word).map byte).toArray) ∧ Below w.heap.size w w':=by
 go_enter Tryz.func195,Tryz.ntmps195
 go_wp2
 go_loopw [4,5] (fun _ i wr=>∃ k:Nat,k ≤ 8 ∧ i = .int .i64 k ∧ Blk wr (w.heap.size + 1) 208 (part (blockN word) k) ∧ Blk wr w.heap.size 208 (List.replicate 8 (.int .u8 0)) ∧ Below w.heap.size w wr) (fun _ i _=>8 - (intOf i).toNat)
 case atStart=>exact ⟨0,Nat.zero_le _,rfl,by rw [part_zero,blockN_length];exact Blk.new2 w _ _ _,(Blk.new w _ _).alloc _,((Below.refl _ _).alloc (Nat.le_refl _) _).alloc (by simp) _⟩
 case round =>
   obtain ⟨k,hk,rfl,hb1,hb0,hbel⟩:=hrel
   by_cases hlt:k < 8
   · have hpl:=part_length (blockN word) k (by rw [blockN_length];exact hk)
     rw [blockN_length] at hpl
     have hc:=hb1.cell k (by omega)
     have hf:=hb1.free k
     obtain ⟨u,hu⟩:∃ u,wr.cell? ⟨w.heap.size + 1,k,none⟩ = some u:=⟨_,hc⟩
     have hst:=hb1.set k (byte (UInt8.ofNat (word / 2 ^ (56 - 8 * k))))
     rw [← blockN_get word k hlt,part_set _ _ (by rw [blockN_length];exact hlt),blockN_get word k hlt] at hst
     have he:Value.int IntKind.u8 ((word:Int) / 2 ^ (56 - 8 * k) % 256) = byte (UInt8.ofNat (word / 2 ^ (56 - 8 * k))):=by
       unfold byte;rw [UInt8.toNat_ofNat'];congr 1
     have HE:Hid (Value.int IntKind.u8 ((word:Int) / 2 ^ (56 - 8 * k) % 256) = byte (UInt8.ofNat (word / 2 ^ (56 - 8 * k)))):=he
     clear hc he
     go_wp2
     go_roundw
     case rel =>
       rw [HE.out]
       exact ⟨k + 1,by omega,by go_num,hst,hb0.other _ _ (by simp),hbel.setCell (by simp) _⟩
     case measure=>simp [intOf];omega
   · obtain rfl:k = 8:=by omega
     have hb1':Blk wr (w.heap.size + 1) 208 ((blockN word).map byte):=by have h:=part_all (blockN word);rw [blockN_length] at h;rw [← h];exact hb1
     have hl:((blockN word).map byte).length = 8:=by simp [blockN_length]
     go_wp2_with (first | (refine load_blk rfl 208 _ rfl _ rfl hb1' Tryz.underlying208 rfl (by rw [hl];kernel_rfl) ?_) | (refine store_blk rfl 208 _ _ rfl _ rfl rfl hb0 (by rw [hl];kernel_rfl) (by rw [hl];rfl) (allOne_bytes _) ?_;intro w2 hb2 hg2 hs2))
     exact bodyPost_ret (v:=.agg ((blockN word).map byte).toArray) (results_blk Tryz.results195 _ _ rfl hb2 Tryz.underlying208 rfl (by rw [hl];kernel_rfl)) rfl ⟨rfl,hbel.grown hg2 hbel.size (by intro k hk;cases hk;exact Nat.le_refl _)⟩
def putN (taken width:Nat) (tab:List UInt8):Nat → Nat
 | 0=>0
 | k + 1=>putN taken width tab k ||| taken / 2 ^ (tab.length - 1 - k) % 2 * 2 ^ (width - (tab.getD k 0).toNat)
theorem putN_lt (taken width:Nat) (tab:List UInt8) (hwd:width ≤ 64) (htab:∀ t ∈ tab,1 ≤ t.toNat ∧ t.toNat ≤ width) (k:Nat) (hk:k ≤ tab.length):putN taken width tab k < 18446744073709551616:=by
 induction k with
 | zero=>simp [putN]
 | succ k ih =>
   have hb:=htab (tab.getD k 0) (by simp [show k < tab.length by omega])
   have h1:2 ^ (width - (tab.getD k 0).toNat) ≤ 9223372036854775808:=pow_lt_64 (by omega)
   have h2:taken / 2 ^ (tab.length - 1 - k) % 2 * 2 ^ (width - (tab.getD k 0).toNat) < 2 ^ 64:=by
     have:taken / 2 ^ (tab.length - 1 - k) % 2 ≤ 1:=by omega
     have:=Nat.mul_le_mul_right (2 ^ (width - (tab.getD k 0).toNat)) this
     omega
   exact Nat.or_lt_two_pow (ih (by omega)) h2
theorem put_step (r b s:Nat) (hr:r < 18446744073709551616) (hb:b ≤ 1) (hs:s < 64):bits BinOp.or IntKind.u64 (r:Int) (IntKind.u64.wrap ((b:Int) * 2 ^ s)) = ((r ||| b * 2 ^ s:Nat):Int):=by
 have h1:=pow_lt_64 hs
 have h2:=Nat.mul_le_mul_right (2 ^ s) hb
 have e:(b:Int) * 2 ^ s = ((b * 2 ^ s:Nat):Int):=by simp
 have e2:IntKind.u64.wrap ((b:Int) * 2 ^ s) = ((b * 2 ^ s:Nat):Int):=by rw [e,IntKind.wrap_u64];omega
 rw [e2,u64_or_nat _ _ hr (by omega)]
theorem bit_nat (word s:Nat) (hw:word < 18446744073709551616):bits BinOp.and IntKind.u64 ((word:Int) / 2 ^ s) 1 = ((word / 2 ^ s % 2:Nat):Int):=by
 have e4:(word:Int) / 2 ^ s = ((word / 2 ^ s:Nat):Int):=by simp
 have hd:word / 2 ^ s ≤ word:=Nat.div_le_self _ _
 have h:=u64_and_nat (word / 2 ^ s) 1 (by omega) (by omega)
 rw [nat_mask1] at h
 rw [e4]
 exact h
set_option maxHeartbeats 400000 in
theorem putBits_any (taken width:Nat) (ao:Option Addr) (cap:Nat) (tab:List UInt8) (w:World) (hw:taken < 18446744073709551616) (hwd:width ≤ 64) (hn:tab.length ≤ 64) (htab:∀ t ∈ tab,1 ≤ t.toNat ∧ t.toNat ≤ width) (hr:RowAt w ao tab) :
   Calls Tryz.prog 196 #[.int .u64 taken,.int .u64 width,.slice ao tab.length cap] w fun e w' =>
     e = .returned (.int .u64 (putN taken width tab tab.length:Nat)) ∧ w' = w:=by
 go_enter Tryz.func196,Tryz.ntmps196
 go_wp2
 go_loop [7,8,9,10,13] (fun t _ _ _ i=>∃ k:Nat,k ≤ tab.length ∧ i = .int .i64 k ∧ t = .int .u64 (putN taken width tab k:Nat)) (fun _ _ _ _ i=>tab.length - (intOf i).toNat)
 case atStart=>exact ⟨0,Nat.zero_le _,rfl,rfl⟩
 case round =>
   obtain ⟨k,hk,rfl,rfl⟩:=hrel
   by_cases hlt:k < tab.length
   · obtain ⟨b,off,rfl,hc⟩:=hr.at hlt
     have hcx:w.cell? ⟨b,off + k,none⟩ = some (.int .u8 (tab[k].toNat:Int)):=(hc k hlt).trans (by simp [hlt])
     have hb:=htab tab[k] (List.getElem_mem hlt)
     have hlt2:=putN_lt taken width tab hwd htab k hk
     have HS:Hid (putN taken width tab (k + 1) = putN taken width tab k ||| taken / 2 ^ (tab.length - 1 - k) % 2 * 2 ^ (width - tab[k].toNat)):=by
       show putN taken width tab k ||| taken / 2 ^ (tab.length - 1 - k) % 2 * 2 ^ (width - (tab.getD k 0).toNat) = _
       rw [show tab.getD k 0 = tab[k] from by simp [hlt]]
     clear hc hr htab
     go_wp2
     go_round
     case rel=>exact ⟨k + 1,by omega,by go_num,by rw [bit_nat _ _ hw,put_step _ _ _ hlt2 (by omega) (by omega),HS.out]⟩
     case measure=>simp [intOf];omega
   · go_wp2
     go_ret
     have hkl:k = tab.length:=by omega
     subst hkl
     exact ⟨rfl,rfl⟩
theorem putBits_at (taken width n:Nat) (wi:Int) (ao:Option Addr) (cap:Nat) (tab:List UInt8) (w:World) (hw:taken < 18446744073709551616) (hwi:wi = (width:Int)) (hwd:width ≤ 64) (hln:tab.length = n) (hn:n ≤ 64) (htab:∀ t ∈ tab,1 ≤ t.toNat ∧ t.toNat ≤ width) (hr:RowAt w ao tab) :
   Calls Tryz.prog 196 #[.int .u64 taken,.int .u64 wi,.slice ao n cap] w fun e w' =>
     e = .returned (.int .u64 (putN taken width tab n:Nat)) ∧ w' = w:=by
 subst hwi
 subst hln
 exact putBits_any taken width ao cap tab w hw hwd hn htab hr
def rotN (x k:Nat):Nat:=x * 2 ^ (k % 32) % 4294967296 ||| x / 2 ^ (32 - k % 32)
theorem rotN_nat (x s:Nat) (hx:x < 4294967296):bits BinOp.or IntKind.u32 ((x:Int) * 2 ^ s % 4294967296) ((x:Int) / 2 ^ (32 - s)) = ((x * 2 ^ s % 4294967296 ||| x / 2 ^ (32 - s):Nat):Int):=by
 have e1:(x:Int) * 2 ^ s % 4294967296 = ((x * 2 ^ s % 4294967296:Nat):Int):=by simp
 have e2:(x:Int) / 2 ^ (32 - s) = ((x / 2 ^ (32 - s):Nat):Int):=by simp
 have hd:x / 2 ^ (32 - s) ≤ x:=Nat.div_le_self _ _
 rw [e1,e2,u32_or_nat _ _ (by omega) (by omega)]
set_option maxHeartbeats 400000 in
theorem rotl_any (x k:Nat) (w:World) (hx:x < 4294967296) (hk:k ≤ 64) :
   Calls Tryz.prog 169 #[.int .u32 x,.int .i64 k] w fun e w'=>e = .returned (.int .u32 (rotN x k:Nat)) ∧ w' = w:=by
 obtain ⟨s,hs,hs1,Hs⟩:∃ s:Nat,bits BinOp.and IntKind.u64 (k:Int) 31 = (s:Int) ∧ s < 32 ∧ Hid (s = k % 32):=by
   refine ⟨k % 32,?_,by omega,rfl⟩
   have h:=u64_and_nat k 31 (by omega) (by omega)
   rw [nat_mask5] at h
   exact h
 go_enter Tryz.func169,Tryz.ntmps169
 go_wp2
 go_ret
 refine ⟨ret_int ?_,rfl⟩
 rw [rotN_nat _ _ hx,Hs.out]
 rfl
def turnN (x k:Nat):Nat:=x * 2 ^ k % 268435456 + x / 2 ^ (28 - k)
theorem turnN_nat (x k:Nat) (hx:x < 268435456) (hk:1 ≤ k) (hk2:k ≤ 2):bits BinOp.and IntKind.u32 (bits BinOp.or IntKind.u32 ((x:Int) * 2 ^ k % 4294967296) ((x:Int) / 2 ^ (28 - k))) 268435455 = (turnN x k:Int):=by
 have e1:(x:Int) * 2 ^ k % 4294967296 = ((x * 2 ^ k % 4294967296:Nat):Int):=by simp
 have e2:(x:Int) / 2 ^ (28 - k) = ((x / 2 ^ (28 - k):Nat):Int):=by simp
 have hd:x / 2 ^ (28 - k) ≤ x:=Nat.div_le_self _ _
 rw [e1,e2,u32_or_nat _ _ (by omega) (by omega)]
 have hlt:(x * 2 ^ k % 4294967296 ||| x / 2 ^ (28 - k)) < 2 ^ 32:=Nat.or_lt_two_pow (by omega) (by omega)
 have h:=u32_and_nat (x * 2 ^ k % 4294967296 ||| x / 2 ^ (28 - k)) 268435455 (by omega) (by omega)
 have hm:∀ y:Nat,y &&& 268435455 = y % 268435456:=fun y=>Nat.and_two_pow_sub_one_eq_mod y 28
 rw [hm] at h
 refine h.trans ?_
 have:k = 1 ∨ k = 2:=by omega
 rcases this with rfl | rfl
 · rw [nat_join 1 _ _ (by omega) (by omega)];unfold turnN;omega
 · rw [nat_join 2 _ _ (by omega) (by omega)];unfold turnN;omega
theorem turnN_lt (x k:Nat) (hx:x < 268435456) (hk:1 ≤ k) (hk2:k ≤ 2):turnN x k < 268435456:=by
 have:k = 1 ∨ k = 2:=by omega
 unfold turnN
 rcases this with rfl | rfl <;> omega
set_option maxHeartbeats 400000 in
theorem turn28_any (x k:Nat) (w:World) (hx:x < 268435456) (hk:1 ≤ k) (hk2:k ≤ 2) :
   Calls Tryz.prog 224 #[.int .u32 x,.int .u64 k] w fun e w'=>e = .returned (.int .u32 (turnN x k:Nat)) ∧ w' = w:=by
 go_enter Tryz.func224,Tryz.ntmps224
 go_wp2
 go_ret
 exact ⟨ret_int (turnN_nat x k hx hk hk2),rfl⟩
def hexN (n:Nat):Nat:=if 65 ≤ n then n - 55 else (n + 208) % 256
set_option maxHeartbeats 400000 in
theorem hexValue_any (n:Nat) (w:World) (h:n < 256) :
   Calls Tryz.prog 223 #[.int .u8 n] w fun e w'=>e = .returned (.int .u8 (hexN n:Nat)) ∧ w' = w:=by
 by_cases h1:65 ≤ n
 · unfold hexN
   rw [if_pos h1]
   go_enter Tryz.func223,Tryz.ntmps223
   go_wp2
   go_ret
   exact ⟨ret_int (by omega),rfl⟩
 · unfold hexN
   rw [if_neg h1]
   go_enter Tryz.func223,Tryz.ntmps223
   go_wp2
   go_ret
   exact ⟨ret_int (by omega),rfl⟩
def ipTab:List UInt8:=[58,50,42,34,26,18,10,2,60,52,44,36,28,20,12,4,62,54,46,38,30,22,14,6,64,56,48,40,32,24,16,8,
 57,49,41,33,25,17,9,1,59,51,43,35,27,19,11,3,61,53,45,37,29,21,13,5,63,55,47,39,31,23,15,7]
def zerosOf (n:Nat) (k:IntKind):List Value:=List.replicate n (.int k 0)
theorem zerosOf_length (n:Nat) (k:IntKind):(zerosOf n k).length = n:=by simp [zerosOf]
theorem Tryz.zero294:(Tryz.prog.info? 294).map (fun i=>(i.zero,i.size)) = some (some (.agg (zerosOf 64 .u8).toArray),64):=by kernel_rfl
theorem ipTab_cells:(ipTab.map byte).length = 64:=rfl
set_option maxHeartbeats 400000 in
theorem initialTable_any (w:World) :
   Calls Tryz.prog 192 #[] w fun e w'=>e = .returned (.agg (ipTab.map byte).toArray) ∧ Below w.heap.size w w':=by
 have hz:=(zero_of_info Tryz.zero294).1
 go_enter Tryz.func192,Tryz.ntmps192
 go_wp2_with (first | (refine build_to rfl 294 _ rfl (ipTab.map byte) (by kernel_rfl) ?_) | (refine store_blk rfl 294 _ _ rfl _ rfl rfl (Blk.new w _ _) (by kernel_rfl) (by rw [ipTab_cells];exact zerosOf_length _ _) (allOne_bytes _) ?_;intro w2 hb2 hg2 hs2))
 exact bodyPost_ret (v:=.agg (ipTab.map byte).toArray) (results_blk Tryz.results192 _ _ rfl hb2 Tryz.underlying294 rfl (by kernel_rfl)) rfl ⟨rfl,((Below.refl _ _).alloc (Nat.le_refl _) _).grown hg2 (by simp) (by intro k hk;cases hk;exact Nat.le_refl _)⟩
def pTab:List UInt8:=[16,7,20,21,29,12,28,17,1,15,23,26,5,18,31,10,2,8,24,14,32,27,3,9,19,13,30,6,22,11,4,25]
theorem pTab_cells:(pTab.map byte).length = 32:=rfl
theorem pTab_in:∀ t ∈ pTab,1 ≤ t.toNat ∧ t.toNat ≤ 32:=by decide
def spreadN (box d:Nat):Nat:=takeN (d * 2 ^ (28 - 4 * box)) 32 pTab
theorem spreadN_lt (box d:Nat):spreadN box d < 4294967296:=takeN_lt _ _ pTab
def word32 (n:Nat):Value:=.int .u32 (n:Int)
def upTo (f:Nat → Value) (z:Value) (n k:Nat):List Value:=(List.range n).map fun i=>if i < k then f i else z
theorem upTo_length (f:Nat → Value) (z:Value) (n k:Nat):(upTo f z n k).length = n:=by simp [upTo]
theorem upTo_set (f:Nat → Value) (z:Value) (n k:Nat):(upTo f z n k).set k (f k) = upTo f z n (k + 1):=by
 apply List.ext_getElem?
 intro i
 rw [List.getElem?_set]
 simp only [upTo,List.length_map,List.length_range,List.getElem?_map]
 by_cases hi:k = i
 · subst hi
   by_cases hn:k < n <;> simp [hn]
 · rw [if_neg hi]
   by_cases hn:i < n
   · simp [hn,show (i < k + 1) = (i < k) from by apply propext;omega]
   · simp [hn]
theorem upTo_zero (f:Nat → Value) (z:Value) (n:Nat):upTo f z n 0 = List.replicate n z:=by
 apply List.ext_getElem?
 intro i
 by_cases hn:i < n <;> simp [upTo,hn]
theorem upTo_all (f:Nat → Value) (z:Value) (n:Nat):upTo f z n n = (List.range n).map f:=by
 apply List.ext_getElem?
 intro i
 by_cases hn:i < n <;> simp [upTo,hn]
def spreadCells (box:Nat):List Value:=(List.range 16).map fun d=>word32 (spreadN box d)
theorem spreadCells_length (box:Nat):(spreadCells box).length = 16:=by simp [spreadCells]
theorem spreadCells_get (box d:Nat) (h:d < 16):(spreadCells box)[d]'(by rw [spreadCells_length];exact h) = word32 (spreadN box d):=by simp [spreadCells]
theorem Tryz.zero319:(Tryz.prog.info? 319).map (fun i=>(i.zero,i.size)) = some (some (.agg (zerosOf 16 .u32).toArray),16):=by kernel_rfl
theorem Tryz.zero356:(Tryz.prog.info? 356).map (fun i=>(i.zero,i.size)) = some (some (.agg (zerosOf 32 .u8).toArray),32):=by kernel_rfl
theorem allOne_map {α:Type} (f:α → Value) (hf:∀ a,(f a).oneCell' = true) (l:List α):(l.map f).toArray.all (·.oneCell') = true:=by
 rw [Array.all_eq_true_iff_forall_mem]
 intro v hv
 simp only [List.mem_toArray,List.mem_map] at hv
 obtain ⟨b,-,rfl⟩:=hv
 exact hf b
theorem allOne_spread (box:Nat):(spreadCells box).toArray.all (·.oneCell') = true:=allOne_map _ (fun _=>rfl) _
set_option maxHeartbeats 1000000 in
theorem spreadDigits_any (box:Nat) (w:World) (hbox:box < 8) :
   Calls Tryz.prog 222 #[.int .i64 box] w fun e w'=>e = .returned (.agg (spreadCells box).toArray) ∧ Below w.heap.size w w':=by
 have hz:=(zero_of_info Tryz.zero319).1
 have hz2:=(zero_of_info Tryz.zero356).1
 go_enter Tryz.func222,Tryz.ntmps222
 go_wp2_with (first | (refine build_to rfl 356 _ rfl (pTab.map byte) (by kernel_rfl) ?_) | (refine store_blk rfl 356 _ _ rfl _ rfl rfl (Blk.new2 w _ _ _) (by kernel_rfl) (by rw [pTab_cells];exact zerosOf_length _ _) (allOne_bytes _) ?_;intro w2 hb2 hg2 hs2))
 have hs3:w2.heap.size = w.heap.size + 1 + 1:=by simpa using hs2
 have hA:Blk w2 w.heap.size 319 (zerosOf 16 .u32):=by
   unfold Blk;rw [hg2.block _ (by simp;omega) (by simp),Below.heap_alloc _ _ _ (by simp)];exact heap_alloc_new w _
 have hbel2:Below w.heap.size w w2:=(((Below.refl _ _).alloc (Nat.le_refl _) _).alloc (by simp) _).grown hg2 (by simp;omega) (by intro k hk;cases hk;omega)
 have hb2':=hb2
 clear hs2 hg2
 go_loopw [5,7] (fun _ i wr=>∃ k:Nat,k ≤ 16 ∧ i = .int .i64 k ∧ Blk wr (w.heap.size + 1 + 1) 319 (upTo (fun d=>word32 (spreadN box d)) (.int .u32 0) 16 k) ∧ Blk wr (w.heap.size + 1) 356 (pTab.map byte) ∧ Blk wr w.heap.size 319 (zerosOf 16 .u32) ∧ Below w.heap.size w wr) (fun _ i _=>16 - (intOf i).toNat)
 case atStart =>
   refine ⟨0,Nat.zero_le _,rfl,?_,hb2.alloc _,hA.alloc _,hbel2.alloc (by omega) _⟩
   rw [upTo_zero,← hs3]
   exact Blk.new w2 _ _
 case round =>
   obtain ⟨k,hk,rfl,hb1,hbt,hb0,hbel⟩:=hrel
   clear hb2 hb2' hA hbel2
   by_cases hlt:k < 16
   · have hf:=hb1.free k
     obtain ⟨u,hu⟩:∃ u,wr.cell? ⟨w.heap.size + 1 + 1,k,none⟩ = some u:=⟨_,hb1.cell k (by rw [upTo_length];exact hlt)⟩
     have hst:=hb1.set k (word32 (spreadN box k))
     rw [upTo_set (fun d=>word32 (spreadN box d))] at hst
     have hrow:=rowAt_block hbt
     have hpow:k * 2 ^ (28 - 4 * box) < 18446744073709551616:=by
       have h1:2 ^ (28 - 4 * box) ≤ 2 ^ 28:=Nat.pow_le_pow_right (by omega) (by omega)
       have h2:=Nat.mul_le_mul (show k ≤ 16 by omega) h1
       omega
     obtain ⟨m,hm,hm2⟩:∃ m:Nat,IntKind.i64.wrap (4 * (box:Int)) = (m:Int) ∧ Hid (m = 4 * box):=⟨4 * box,by rw [IntKind.wrap_i64];omega,rfl⟩
     obtain ⟨s,hs,Hs,hs64⟩:∃ s:Nat,IntKind.i64.wrap (28 - (m:Int)) = (s:Int) ∧ Hid (s = 28 - 4 * box) ∧ s ≤ 64:=⟨28 - 4 * box,by have:=hm2.out;rw [IntKind.wrap_i64];omega,rfl,by omega⟩
     have hk64:IntKind.u64.wrap (k:Int) = (k:Int):=by rw [IntKind.wrap_u64];omega
     rw [← Hs.out] at hpow
     obtain ⟨q,hwq,hq1,Hq⟩:∃ q:Nat,IntKind.u64.wrap ((k:Int) * 2 ^ s) = (q:Int) ∧ q < 18446744073709551616 ∧ Hid (q = k * 2 ^ s):=by
       refine ⟨k * 2 ^ s,?_,hpow,rfl⟩
       have e:(k:Int) * 2 ^ s = ((k * 2 ^ s:Nat):Int):=by simp
       rw [e,IntKind.wrap_u64];omega
     clear hpow
     go_wp2
     go_region_with (go_at_call 193;go_loud (refine (takeBits_at q 32 32 32 _ _ pTab _ hq1 rfl (by omega) rfl (by omega) pTab_in hrow.drew1).mono ?_);rintro e w' ⟨rfl,rfl⟩)
     go_wp2
     go_roundw
     case rel =>
       have hv:Value.int IntKind.u32 ((takeN q 32 pTab:Nat) % 4294967296:Int) = word32 (spreadN box k):=by
         have:=spreadN_lt box k
         unfold word32
         rw [Hq.out,Hs.out]
         show Value.int IntKind.u32 ((spreadN box k:Nat) % 4294967296:Int) = _
         congr 1
         omega
       rw [hv]
       exact ⟨k + 1,by omega,by go_num,hst.drew1,(hbt.other _ _ (by simp)).drew1,(hb0.other _ _ (by simp;omega)).drew1,(hbel.setCell (by simp;omega) _).drew⟩
     case measure=>simp [intOf];omega
   · obtain rfl:k = 16:=by omega
     have hb1':Blk wr (w.heap.size + 1 + 1) 319 (spreadCells box):=by rw [upTo_all] at hb1;exact hb1
     go_wp2_with (first | (refine load_blk rfl 319 _ rfl _ rfl hb1' Tryz.underlying319 rfl (by rw [spreadCells_length];kernel_rfl) ?_) | (refine store_blk rfl 319 _ _ rfl _ rfl rfl hb0 (by rw [spreadCells_length];kernel_rfl) (by rw [zerosOf_length,spreadCells_length]) (allOne_spread _) ?_;intro w2 hb2 hg2 hs2))
     exact bodyPost_ret (v:=.agg (spreadCells box).toArray) (results_blk Tryz.results222 _ _ rfl hb2 Tryz.underlying319 rfl (by rw [spreadCells_length];kernel_rfl)) rfl ⟨rfl,hbel.grown hg2 hbel.size (by intro k hk;cases hk;exact Nat.le_refl _)⟩
end Go.Proofs.YtbkokcjolanpeaaGreatDoor
