import Derived.Test.YtbkokcjolanpeaaGreatDoorRgF
import Derived.Laws.AppendOwn
namespace Go.Proofs.YtbkokcjolanpeaaGreatDoor
open Go.RowKit
theorem blk_range {w:World} {g t:Nat} {a b c:List Value} (h:Blk w g t (a ++ b ++ c)):w.rangeAt g a.length b:=by
 intro j v hv
 have hj:j < b.length:=(List.getElem?_eq_some_iff.1 hv).1
 have hl:a.length + j < (a ++ b ++ c).length:=by simp;omega
 rw [h.cell (a.length + j) hl,← List.getElem?_eq_getElem hl,List.append_assoc,List.getElem?_append_right (by omega),Nat.add_sub_cancel_left,List.getElem?_append_left hj,hv]
theorem blk_first {w:World} {g t:Nat} {a b:List Value} (h:Blk w g t (a ++ b)):w.rangeAt g 0 a:=blk_range (a:=[]) (b:=a) (c:=b) h
theorem blk_second {w:World} {g t n:Nat} {a b:List Value} (h:Blk w g t (a ++ b)) (hn:a.length = n):w.rangeAt g n b:=by
 subst hn
 exact blk_range (a:=a) (b:=b) (c:=[]) (by rw [List.append_nil];exact h)
theorem blk_whole {w:World} {g t:Nat} {a:List Value} (h:Blk w g t a):w.rangeAt g 0 a:=blk_range (a:=[]) (b:=a) (c:=[]) (by rw [List.append_nil];exact h)
theorem row_range {w:World} {b off:Nat} {bs:List UInt8} (hc:∀ i,i < bs.length → w.cell? ⟨b,off + i,none⟩ = some (.int .u8 ((bs.getD i 0).toNat:Int))):w.rangeAt b off (bs.map byte):=by
 intro j v hv
 obtain ⟨hj,he⟩:=List.getElem?_eq_some_iff.1 hv
 rw [List.length_map] at hj
 rw [hc j hj,← he]
 simp [byte,hj]
theorem range_below {w w':World} {b off:Nat} {cs:List Value} (h:w.rangeAt b off cs) (hb:Below w.heap.size w w'):w'.rangeAt b off cs:=by
 intro j v hv
 rw [hb.cell (p:=⟨b,off + j,none⟩) (World.block_lt_of_cell? w _ (h j v hv))]
 exact h j v hv
theorem RowAt.range {w:World} {ao:Option Addr} {bs:List UInt8} (h:RowAt w ao bs) (h0:0 < bs.length):∃ b off,ao = some ⟨b,off,none⟩ ∧ w.rangeAt b off (bs.map byte):=by
 obtain ⟨b,off,rfl,hc⟩:=h.at h0
 exact ⟨b,off,rfl,row_range hc⟩
end Go.Proofs.YtbkokcjolanpeaaGreatDoor
namespace Go.Proofs.YtbkokcjolanpeaaGreatDoor
open Go.RowKit
def zeros8 (n:Nat):List UInt8:=List.replicate n 0
theorem zeros8_cells (n:Nat):zerosOf n .u8 = (zeros8 n).map byte:=by simp [zerosOf,zeros8,byte]
theorem xorL_zeros (b:List UInt8) (n:Nat) (h:b.length = n):xorL (zeros8 n) b = b:=by
 apply List.ext_getElem
 · simp [xorL,zeros8,h]
 · intro i h1 h2
   simp [xorL,zeros8]
theorem xorL_comm (a b:List UInt8):xorL a b = xorL b a:=by
 unfold xorL
 rw [List.zipWith_comm]
 congr 1
 funext x y
 exact UInt8.xor_comm _ _
def sumsL (n:Nat) (bl:List (List UInt8)):Nat → List UInt8
 | 0=>zeros8 n
 | k + 1=>xorL (sumsL n bl k) (bl.getD k [])
theorem sumsL_length (n:Nat) (bl:List (List UInt8)) (hn:∀ b ∈ bl,b.length = n) (k:Nat) (hk:k ≤ bl.length):(sumsL n bl k).length = n:=by
 induction k with
 | zero=>simp [sumsL,zeros8]
 | succ k ih =>
   have h1:=ih (by omega)
   have h2:(bl.getD k []).length = n:=by
     have:bl.getD k [] = bl[k]:=by simp [show k < bl.length from by omega]
     rw [this];exact hn _ (List.getElem_mem _)
   show (xorL (sumsL n bl k) (bl.getD k [])).length = n
   rw [xorL_length _ _ (by omega),h1]
theorem sums_two (n:Nat) (a b:List UInt8) (ha:a.length = n):sumsL n [a,b] 2 = xorL a b:=by
 show xorL (xorL (zeros8 n) a) b = xorL a b
 rw [xorL_zeros a n ha]
def mixL (a b:List UInt8) (j:Nat):List UInt8:=(xorL a b).take j ++ a.drop j
theorem mixL_zero (a b:List UInt8):mixL a b 0 = a:=by simp [mixL]
theorem mixL_all (a b:List UInt8) (n:Nat) (ha:a.length = n) (hb:b.length = n):mixL a b n = xorL a b:=by
 unfold mixL
 rw [List.take_of_length_le (by rw [xorL_length _ _ (by omega)];omega),List.drop_of_length_le (by omega),List.append_nil]
theorem mixL_length (a b:List UInt8) (j n:Nat) (ha:a.length = n) (hb:b.length = n) (hj:j ≤ n):(mixL a b j).length = n:=by
 unfold mixL
 rw [List.length_append,List.length_take,List.length_drop,xorL_length _ _ (by omega)]
 omega
theorem mixL_at (a b:List UInt8) (j n:Nat) (ha:a.length = n) (hb:b.length = n) (hj:j < n):(mixL a b j)[j]? = some (a[j]'(by omega)):=by
 unfold mixL
 have hl:((xorL a b).take j).length = j:=by rw [List.length_take,xorL_length _ _ (by omega)];omega
 rw [List.getElem?_append_right (by omega),hl,Nat.sub_self,List.getElem?_drop,Nat.add_zero,List.getElem?_eq_getElem]
theorem mixL_set (a b:List UInt8) (j n:Nat) (ha:a.length = n) (hb:b.length = n) (hj:j < n):(mixL a b j).set j ((a[j]'(by omega)) ^^^ (b[j]'(by omega))) = mixL a b (j + 1):=by
 unfold mixL
 have hx:(xorL a b).length = n:=by rw [xorL_length _ _ (by omega),ha]
 have hl:((xorL a b).take j).length = j:=by rw [List.length_take,hx];omega
 rw [List.set_append_right _ _ (by omega),hl,Nat.sub_self,List.drop_eq_getElem_cons (show j < a.length by omega),List.set_cons_zero,take_snoc (xorL a b) j (by omega),xorL_get a b j (by omega) (by omega),List.append_assoc,List.singleton_append]
theorem Tryz.zero88:(Tryz.prog.info? 88).map (fun i=>(i.zero,i.size)) = some (some (.agg (zerosOf 16 .u8).toArray),16):=by kernel_rfl
set_option maxRecDepth 100000 in
set_option maxHeartbeats 1000000 in
theorem xor16_gen (bl:List (List UInt8)) (m g off cap:Nat) (w:World) (hm:bl.length = m) (hm1:m ≤ 1048576) (hn:∀ b ∈ bl,b.length = 16) (hr:∀ k,k < m → w.rangeAt g (off + k * 16) ((bl.getD k []).map byte)) :
   Calls Tryz.prog 32 #[.slice (some ⟨g,off,none⟩) m cap] w fun e w'=>e = .returned (.agg ((sumsL 16 bl m).map byte).toArray) ∧ Below w.heap.size w w':=by
 have hz:=(zero_of_info Tryz.zero88).1
 have hsl:∀ k,k ≤ m → (sumsL 16 bl k).length = 16:=fun k hk=>sumsL_length 16 bl hn k (by omega)
 have hbl:∀ k,k < m → (bl.getD k []).length = 16:=by
   intro k hk
   have:bl.getD k [] = bl[k]:=by simp [show k < bl.length from by omega]
   rw [this];exact hn _ (List.getElem_mem _)
 go_enter Tryz.func32,Tryz.ntmps32
 go_wp2
 go_loopw [5,6,7,10,15] (fun _ _ _ i _ wr=>∃ k:Nat,k ≤ m ∧ i = .int .i64 k ∧ Blk wr (w.heap.size + 1) 88 ((sumsL 16 bl k).map byte) ∧ Blk wr w.heap.size 88 (zerosOf 16 .u8) ∧ Below w.heap.size w wr) (fun _ _ _ i _ _=>m - (intOf i).toNat)
 case atStart=>exact ⟨0,Nat.zero_le _,rfl,by rw [show sumsL 16 bl 0 = zeros8 16 from rfl,← zeros8_cells];exact Blk.new2 w _ _ _,(Blk.new w _ _).alloc _,((Below.refl _ _).alloc (Nat.le_refl _) _).alloc (by simp) _⟩
 case round =>
   obtain ⟨k,hk,rfl,hb1,hb0,hbel⟩:=hrel
   by_cases hlt:k < m
   · have hrk:=range_below (hr k hlt) hbel
     have hlen:=hbl k hlt
     have hs0:=hsl k hk
     have hs1:sumsL 16 bl (k + 1) = xorL (sumsL 16 bl k) (bl.getD k []):=rfl
     obtain ⟨X,hX⟩:∃ X,X = bl.getD k []:=⟨_,rfl⟩
     obtain ⟨A,hA⟩:∃ A,A = sumsL 16 bl k:=⟨_,rfl⟩
     rw [← hX] at hrk hlen hs1
     rw [← hA] at hs0 hs1 hb1
     have hXl:(X.map byte).length = 16:=by rw [List.length_map,hlen]
     have hkI:(k:Int) < (m:Int):=by omega
     have HS:Hid (sumsL 16 bl (k + 1) = xorL A X):=hs1
     clear hX hA hs1 hsl hbl hr
     go_wp2_with (first
       | (refine wpList_load_mid rfl 88 _ rfl g (off + k * 16) rfl (X.map byte) _ hrk Tryz.underlying88 rfl (by rw [hXl];kernel_rfl) ?_)
       | (refine store_blk rfl 88 _ _ rfl _ rfl rfl (Blk.new wr _ _) (by rw [hXl];kernel_rfl) (by rw [hXl];exact zerosOf_length _ _) (allOne_bytes _) ?_;intro w3 hb3 hg3 hs3)
       | (refine load_blk rfl 88 _ rfl _ rfl hb3 Tryz.underlying88 rfl (by rw [hXl];kernel_rfl) ?_))
     have l1:=hb1.lt
     have q1:=(hb1.alloc (.cells (zerosOf 16 .u8).toArray 88)).grown hg3 (by simp;omega)
     have q0:=(hb0.alloc (.cells (zerosOf 16 .u8).toArray 88)).grown hg3 (by simp;omega)
     have qb:=(hbel.alloc hbel.size (.cells (zerosOf 16 .u8).toArray 88)).grown hg3 (by simp;omega) (by intro j hj;cases hj;omega)
     clear hb1 hb0 hbel hb3 hg3 hs3 hrk
     go_loopw [6,7,15] (fun _ _ i wr=>∃ j:Nat,j ≤ 16 ∧ i = .int .i64 j ∧ Blk wr (w.heap.size + 1) 88 ((mixL A X j).map byte) ∧ Blk wr w.heap.size 88 (zerosOf 16 .u8) ∧ Below w.heap.size w wr) (fun _ _ i _=>16 - (intOf i).toNat)
     case atStart=>exact ⟨0,Nat.zero_le _,rfl,by rw [mixL_zero];exact q1,q0,qb⟩
     case round =>
       clear q1 q0 qb
       obtain ⟨j,hj,rfl,hb1,hb0,hbel⟩:=hrel
       by_cases hjl:j < 16
       · have hix:=run_index_agg (P:=Tryz.prog) Tryz.underlying88 Tryz.underlying5 rfl (by kernel_rfl) (X.map byte).toArray .i64 j hjl (.int .u8 (X[j].toNat:Int)) (by simp [hlen,hjl,byte])
         have hml:=mixL_length A X j 16 hs0 hlen hj
         have hat:=mixL_at A X j 16 hs0 hlen hjl
         have hc:wr.cell? ⟨w.heap.size + 1,j,none⟩ = some (.int .u8 ((A[j]'(by omega)).toNat:Int)):=by
           rw [hb1.cell j (by rw [List.length_map,hml];exact hjl),← List.getElem?_eq_getElem,List.getElem?_map,hat];rfl
         have hf:=hb1.free j
         have hst:=hb1.set j (byte ((A[j]'(by omega)) ^^^ X[j]))
         rw [← List.map_set,mixL_set A X j 16 hs0 hlen hjl] at hst
         have HE:Hid (Value.int .u8 (bits BinOp.xor IntKind.u8 ((A[j]'(by omega)).toNat:Int) (X[j].toNat:Int)) = byte ((A[j]'(by omega)) ^^^ X[j])):=byte_xor _ _
         have hjI:(j:Int) < 16:=by omega
         clear hat hml hb1
         go_wp2
         go_roundw
         case rel =>
           rw [HE.out]
           exact ⟨j + 1,by omega,by go_num,hst,hb0.other _ _ (by simp),hbel.setCell (by simp) _⟩
         case measure=>simp [intOf];omega
       · obtain rfl:j = 16:=by omega
         rw [mixL_all A X 16 hs0 hlen,← HS.out] at hb1
         go_wp2
         go_roundw
         case rel=>exact ⟨k + 1,by omega,by go_num,hb1,hb0,hbel⟩
         case measure=>simp [intOf];omega
   · obtain rfl:k = m:=by omega
     have hl:((sumsL 16 bl k).map byte).length = 16:=by rw [List.length_map,hsl k hk]
     go_wp2_with (first | (refine load_blk rfl 88 _ rfl _ rfl hb1 Tryz.underlying88 rfl (by rw [hl];kernel_rfl) ?_) | (refine store_blk rfl 88 _ _ rfl _ rfl rfl hb0 (by rw [hl];kernel_rfl) (by rw [hl];exact zerosOf_length _ _) (allOne_bytes _) ?_;intro w2 hb2 hg2 hs2))
     exact bodyPost_ret (v:=.agg ((sumsL 16 bl k).map byte).toArray) (results_blk Tryz.results32 _ _ rfl hb2 Tryz.underlying88 rfl (by rw [hl];kernel_rfl)) rfl ⟨rfl,hbel.grown hg2 hbel.size (by intro k hk;cases hk;exact Nat.le_refl _)⟩
theorem xor16_two (a b:List UInt8) (g cap t:Nat) (w:World) (ha:a.length = 16) (hb:b.length = 16) (h:Blk w g t (a.map byte ++ b.map byte)) :
   Calls Tryz.prog 32 #[.slice (some ⟨g,0,none⟩) 2 cap] w fun e w'=>e = .returned (.agg ((xorL a b).map byte).toArray) ∧ Below w.heap.size w w':=by
 have:=xor16_gen [a,b] 2 g 0 cap w rfl (by omega) (by simp [ha,hb]) (by
   intro k hk
   match k,hk with
   | 0,_=>exact blk_first h
   | 1,_=>exact blk_second h (by simp [ha]))
 rw [sums_two 16 a b ha] at this
 exact this
theorem run_append_zeros {P:Program} (w:World) (t u ty e:TypeId) (i:TypeInfo) (z:Value) (ht:P.underlying t = some (.slice e)) (hu:P.underlying u = some (.int .i64)) (hi:P.info? e = some i) (hz:i.zero = some z) (hs:i.size = 1) (hb:i.bytes = 1)
   (n:Nat) (h0:0 < n) (h63:n ≤ 1048576) :
   (Builtin.append_ #[t,u] ty #[.slice none 0 0,.int .i64 (n:Int)]).run P w =
     .ok (.slice (some ⟨w.heap.size,0,none⟩) n (grownCap w n 0 e)) (w.drew.alloc (.cells (Builtin.zeroCells z.cells n ++ Builtin.zeroCells z.cells (grownCap w n 0 e - n)) e)):=by
 have hn:n ≠ 0:=by omega
 have h1:IntKind.i64.wrap (n:Int) = (n:Int):=by rw [IntKind.wrap_i64];omega
 have h2:¬ ((n:Int) < 0):=by omega
 have h3:¬ (281474976710656 < (n:Int)):=by omega
 have h63':¬ (9223372036854775807 < (n:Int)):=by omega
 have h48':¬ (281474976710656 < Builtin.nextslicecap n 0):=by rw [nextslicecap_zero h0];omega
 simp [Builtin.append_,run_underlying ht,run_underlying hu,sizeOf,typeInfo,zeroValue,asInt,asIntOf,hi,hz,hs,hb,h1,h2,h3,hn,h63',h48',Question.forced,run_firstCells_none,newRow,grownCap]
theorem OwnB.drew1 {w:World} {base:Nat} {v:Value} {l:List UInt8} (h:OwnB w base v l):OwnB w.drew base v l:=h
theorem wpList_append_zeros {P:Program} {w:World} {ops:Array Oper} {rest:List Oper} {o:Oper} {a:Act} {Q:Exit → Act → World → Prop} (hgd:o.guard = none) (s x:Operand) (t u:TypeId)
   (ho:o.op = .call { callee:=.builtin .append,args:=#[s,x],argTypes:=#[t,u] }) (e:TypeId) (i:TypeInfo) (z:Value) (ht:P.underlying t = some (.slice e)) (hu:P.underlying u = some (.int .i64)) (hi:P.info? e = some i) (hz:i.zero = some z) (hs:i.size = 1) (hb:i.bytes = 1)
   (n:Nat) (h0:0 < n) (h63:n ≤ 1048576) (hsv:a.eval s = .slice none 0 0) (hxv:a.eval x = .int .i64 (n:Int))
   (h:wpList P ops Q rest (a.put o.dst (.slice (some ⟨w.heap.size,0,none⟩) n (grownCap w n 0 e))) (w.drew.alloc (.cells (Builtin.zeroCells z.cells n ++ Builtin.zeroCells z.cells (grownCap w n 0 e - n)) e))):wpList P ops Q (o :: rest) a w :=
 wpList_plain hgd fun _ hK=>by
   have hr:=run_append_zeros (P:=P) w t u o.type e i z ht hu hi hz hs hb n h0 h63
   unfold Oper.wp execOp
   simp only [ho,resolve,invoke,builtin,Sem.run_bind,Sem.run_pure,Result.andThen_ok,List.map_toArray,List.map_cons,List.map_nil,hsv,hxv,hr]
   exact hK _ _ h
set_option maxRecDepth 100000 in
set_option maxHeartbeats 1000000 in
theorem grow_any (n:Nat) (w:World) (hn:n ≤ 1048576) :
   Calls Tryz.prog 58 #[.slice none 0 0,.int .i64 (n:Int)] w fun e w'=>∃ v,e = .returned v ∧ OwnB w' w.heap.size v [] ∧ Below w.heap.size w w':=by
 obtain ⟨i0,hi,hz0,hz1,hz2⟩:=info_parts Tryz.info5
 by_cases h0:0 < n
 · have h1:¬ ((n:Int) < 0):=by omega
   have h2:(0:Int) < (n:Int):=by omega
   have hge:=grownCap_ge w n 0 5
   have hle:=grownCap_le_maxLen w n 0 5 (by unfold maxLen;omega)
   obtain ⟨c,hc⟩:∃ c,c = grownCap w n 0 5:=⟨_,rfl⟩
   rw [← hc] at hge hle
   have hcI:(0:Int) ≤ (c:Int):=by omega
   go_enter Tryz.func58,Tryz.ntmps58
   go_wp2_with (at_builtin;refine wpList_append_zeros rfl _ _ 22 3 rfl 5 i0 (.int .u8 0) Tryz.underlying22 Tryz.underlying3 hi hz0 hz1 hz2 n h0 hn rfl rfl ?_;rw [← hc])
   go_ret
   rw [← hc]
   refine ⟨_,rfl,OwnB.drew1 (w:=w.alloc _) (World.ownsRow_made w _ c (Nat.le_refl _) hle ?_),((Below.refl _ _).alloc (Nat.le_refl _) _).drew⟩
   rw [Array.size_append,size_zeroCells,size_zeroCells]
   show n * 1 + (c - n) * 1 = c * 1
   omega
 · obtain rfl:n = 0:=by omega
   go_enter Tryz.func58,Tryz.ntmps58
   go_wp2
   go_ret
   exact ⟨_,rfl,World.ownsRow_nil _ _ _ _,Below.refl _ _⟩
def Src (w:World) (v:Value) (bs:List UInt8):Prop:=∃ b o c,v = .slice (some ⟨b,o,none⟩) bs.length c ∧ RowAt w (some ⟨b,o,none⟩) bs
theorem flat_snoc (bss:List (List UInt8)) (k:Nat) (h:k < bss.length):(bss.take (k + 1)).flatten = (bss.take k).flatten ++ bss.getD k []:=by
 rw [take_snoc bss k h,List.flatten_append];simp [h]
theorem flat_le (bss:List (List UInt8)) (k:Nat):(bss.take k).flatten.length ≤ bss.flatten.length:=by
 have h:bss.flatten = (bss.take k).flatten ++ (bss.drop k).flatten:=by rw [← List.flatten_append,List.take_append_drop]
 rw [h,List.length_append];omega
set_option maxRecDepth 100000 in
set_option maxHeartbeats 1000000 in
theorem concat_any (vs:List Value) (bss:List (List UInt8)) (g off cap m:Nat) (w:World) (hm:vs.length = m) (hm2:bss.length = m) (hm3:m ≤ 1048576) (ht:bss.flatten.length ≤ 1048576) (hv:w.rangeAt g off vs) (hs:∀ k,k < m → Src w (vs.getD k undef) (bss.getD k [])) :
   Calls Tryz.prog 23 #[.slice (some ⟨g,off,none⟩) m cap] w fun e w'=>∃ v,e = .returned v ∧ OwnB w' w.heap.size v bss.flatten ∧ Below w.heap.size w w':=by
 obtain ⟨i0,hi,hz0,hz1,hz2⟩:=info_parts Tryz.info5
 have hcell:∀ k,k < m → w.cell? ⟨g,off + k,none⟩ = some (vs.getD k undef):=fun k hk=>hv k _ (by simp [show k < vs.length from by omega])
 go_enter Tryz.func23,Tryz.ntmps23
 go_wp2
 go_loop [3,5,11] (fun s _ i=>∃ k:Nat,k ≤ m ∧ i = .int .i64 k ∧ s = .int .i64 ((bss.take k).flatten.length:Nat)) (fun _ _ i=>m - (intOf i).toNat)
 case atStart=>exact ⟨0,Nat.zero_le _,rfl,by simp⟩
 case round =>
   obtain ⟨k,hk,rfl,rfl⟩:=hrel
   by_cases hlt:k < m
   · obtain ⟨b,o,c,hvk,hrow⟩:=hs k hlt
     have hck:=hcell k hlt
     rw [hvk] at hck
     have HF:Hid ((bss.take (k + 1)).flatten.length = (bss.take k).flatten.length + (bss.getD k []).length):=by show _ = _;rw [flat_snoc bss k (by omega),List.length_append]
     have hF1:=flat_le bss (k + 1)
     rw [HF.out] at hF1
     obtain ⟨s,hs1⟩:∃ s,s = (bss.take k).flatten.length:=⟨_,rfl⟩
     obtain ⟨l,hl1⟩:∃ l,l = (bss.getD k []).length:=⟨_,rfl⟩
     rw [← hs1,← hl1] at hF1
     rw [← hs1]
     rw [← hl1] at hck
     have hkI:(k:Int) < (m:Int):=by omega
     have hsl:¬ ((s:Int) + (l:Int) < 0):=by omega
     have HF2:Hid ((bss.take (k + 1)).flatten.length = s + l):=by show _ = _;rw [HF.out,hs1,hl1]
     clear hs hcell hv HF hs1 hl1 hvk hrow
     go_wp2
     go_round
     case rel=>exact ⟨k + 1,by omega,by go_num,by rw [HF2.out];go_num⟩
     case measure=>simp [intOf];omega
   · rw [show (bss.take k).flatten = bss.flatten from by rw [List.take_of_length_le (by omega)]]
     obtain ⟨N,hN⟩:∃ N,N = bss.flatten.length:=⟨_,rfl⟩
     rw [← hN] at ht ⊢
     have HC:Hid (∀ k,k < m → w.cell? ⟨g,off + k,none⟩ = some (vs.getD k undef)):=hcell
     have HV:Hid (∀ k,k < m → Src w (vs.getD k undef) (bss.getD k [])):=hs
     have HN:Hid (N = bss.flatten.length):=hN
     have hge:¬ ((k:Int) < (m:Int)):=by omega
     clear hcell hs hv hN
     go_wp2_with fail
     refine (grow_any N _ ht).mono ?_
     rintro e w1 ⟨v1,rfl,own1,bel1⟩
     go_wp2_with fail
     go_loopw [6,8,27] (fun v _ i wr=>∃ k:Nat,k ≤ m ∧ i = .int .i64 k ∧ OwnB wr w.heap.size v (bss.take k).flatten ∧ Below w.heap.size w wr) (fun _ _ i _=>m - (intOf i).toNat)
     case atStart=>exact ⟨0,Nat.zero_le _,rfl,by simpa using own1,bel1⟩
     case round =>
       clear own1 bel1
       obtain ⟨q,hq,rfl,hown,hbel⟩:=hrel
       by_cases hql:q < m
       · obtain ⟨b,o,c,hvk,hrow0⟩:=HV.out q hql
         have hck:wr.cell? ⟨g,off + q,none⟩ = some (vs.getD q undef):=(hbel.cell (p:=⟨g,off + q,none⟩) (World.block_lt_of_cell? w _ (HC.out q hql))).trans (HC.out q hql)
         rw [hvk] at hck
         have HF:Hid ((bss.take (q + 1)).flatten = (bss.take q).flatten ++ bss.getD q []):=flat_snoc bss q (by omega)
         have hF1:=flat_le bss (q + 1)
         rw [HF.out,List.length_append,← HN.out] at hF1
         have hrow:=hrow0.below hbel
         obtain ⟨L,hL⟩:∃ L,L = (bss.take q).flatten:=⟨_,rfl⟩
         obtain ⟨X,hX⟩:∃ X,X = bss.getD q []:=⟨_,rfl⟩
         have HF2:Hid ((bss.take (q + 1)).flatten = L ++ X):=by show _ = _;rw [HF.out,hL,hX]
         rw [← hL] at hown hF1
         rw [← hX] at hck hrow hF1
         have hnews:∀ j u,(X.map byte)[j]? = some u → wr.cell? ((⟨b,o,none⟩:Addr).add j) = some u:=by
           intro j u hu
           obtain ⟨hj,he⟩:=List.getElem?_eq_some_iff.1 hu
           rw [List.length_map] at hj
           obtain ⟨b',o',he2,hc2⟩:=hrow.at hj
           cases he2
           rw [Addr.add_mid,hc2 j hj,← he]
           simp [byte,hj]
         have hone:∀ u ∈ X.map byte,u.oneCell' = true:=by
           intro u hu
           obtain ⟨x,-,rfl⟩:=List.mem_map.1 hu
           rfl
         have hqI:(q:Int) < (m:Int):=by omega
         have hsz:=hbel.size
         clear hvk hrow0 hrow hL hX HF
         go_wp2_with (at_builtin;refine wpList_append_own _ rfl _ _ 22 rfl w.heap.size 5 i0 (.int .u8 0) 1 1 Tryz.underlying22 hi hz0 hz1 hz2 rfl (by decide) _ _ _ rfl hown ⟨b,o,none⟩ X.length c (X.map byte) rfl (by rw [List.length_map,Nat.mul_one]) hnews hone (by unfold maxLen;omega) (by omega) hsz ?_;intro v1 w1 hown1 hgrow1 hnil1)
         have hown2:OwnB w1 w.heap.size v1 (bss.take (q + 1)).flatten:=by
           rw [HF2.out];unfold OwnB;rw [List.map_append,List.length_append];exact hown1
         have hbel2:=hbel.grown hgrow1 hsz (fun j hj=>(hown.lt j hj).1)
         clear hown1 hown hbel hgrow1 hnil1 hnews hone hck
         go_wp2
         go_roundw
         case rel=>exact ⟨q + 1,by omega,by go_num,hown2,hbel2⟩
         case measure=>simp [intOf];omega
       · rw [show (bss.take q).flatten = bss.flatten from by rw [List.take_of_length_le (by omega)]] at hown
         go_wp2
         go_ret
         exact ⟨_,rfl,hown,hbel⟩
theorem fold_place (l:List Value) (off k:Nat) (cs:Array Value) (h:off + k + l.length ≤ cs.size) :
   (l.zipIdx k).foldl (fun (cs:Array Value) (x:Value × Nat)=>cs.setIfInBounds (off + x.2) x.1) cs = (cs.toList.take (off + k) ++ l ++ cs.toList.drop (off + k + l.length)).toArray:=by
 induction l generalizing k cs with
 | nil=>simp
 | cons a l ih =>
   rw [List.length_cons] at h
   rw [List.zipIdx_cons,List.foldl_cons,ih (k + 1) _ (by rw [Array.size_setIfInBounds];omega),Array.toList_setIfInBounds,List.length_cons]
   have hl:off + k < cs.toList.length:=by rw [Array.length_toList];omega
   rw [show off + (k + 1) = off + k + 1 from by omega,List.take_set,List.take_succ_eq_append_getElem hl,List.set_append_right _ _ (by rw [List.length_take];omega),List.drop_set_of_lt (by omega)]
   rw [List.length_take,Nat.min_eq_left (Nat.le_of_lt hl),Nat.sub_self,List.set_cons_zero,show off + k + 1 + l.length = off + k + (l.length + 1) from by omega,List.append_assoc,List.append_assoc,List.singleton_append,List.append_assoc,List.cons_append]
theorem fold_whole (l:List Value) (off:Nat) (cs:Array Value) (h:off + l.length ≤ cs.size) :
   l.zipIdx.foldl (fun (cs:Array Value) (x:Value × Nat)=>cs.setIfInBounds (off + x.2) x.1) cs = (cs.toList.take off ++ l ++ cs.toList.drop (off + l.length)).toArray:=fold_place l off 0 cs h
theorem fill_two (N:Nat) (a b:List Value) (cells:Array Value) (hc:cells.size = 2 * N) (ha:a.length = N) (hb:b.length = N) :
   Instr.fill (fun i=>some (i * N,N)) cells [(0,.agg a.toArray),(1,.agg b.toArray)] = some (a ++ b).toArray:=by
 have e1:=fold_whole a 0 cells (by omega)
 have e2:=fold_whole b N ((a ++ cells.toList.drop N).toArray) (by simp [hc,ha,hb];omega)
 simp only [Nat.zero_add,List.take_zero,List.nil_append,ha] at e1
 have e3:((a ++ cells.toList.drop N).toArray.toList.take N ++ b ++ (a ++ cells.toList.drop N).toArray.toList.drop (N + b.length)).toArray = (a ++ b).toArray:=by
   rw [List.toList_toArray,List.take_left' ha,List.drop_append,List.drop_of_length_le (by omega),List.nil_append,List.drop_of_length_le (by rw [List.length_drop,Array.length_toList];omega),List.append_nil]
 rw [e3] at e2
 simp only [Instr.fill,Value.cells,List.size_toArray,ha,hb,Nat.zero_mul,Nat.one_mul,Nat.zero_add,ne_eq,not_true_eq_false,decide_false,Bool.false_or,decide_eq_true_eq,← Array.foldl_toList,Array.toList_zipIdx,e1]
 rw [if_neg (by omega),if_neg (by simp [ha,hc];omega),e2]
theorem run_buildSlice2 {P:Program} (w:World) (t e N:Nat) (z:Value) (a b:List Value) (ht:P.underlying t = some (.slice e)) (hz:(P.info? e).map (fun i=>(i.zero,i.size)) = some (some z,N)) (ha:a.length = N) (hb:b.length = N) (h0:0 < N) (hN:N ≤ 1048576) :
   (Instr.buildSlice t 2 #[(0,.agg a.toArray),(1,.agg b.toArray)]).run P w = .ok (.slice (some ⟨w.heap.size,0,none⟩) 2 2) (w.alloc (.cells (a ++ b).toArray e)):=by
 cases hq:P.info? e with
 | none=>simp [hq] at hz
 | some i =>
   have hz1:i.zero = some z:=by simp [hq] at hz;exact hz.1
   have hz2:i.size = N:=by simp [hq] at hz;exact hz.2
   have h1:¬ (2 * N > 16777216):=by omega
   have h2:¬ (2 * N = 0):=by omega
   have hf:=fill_two N a b ((Array.range (2 * N)).map (z.cells[· % z.cells.size]!)) (by simp) ha hb
   have hsz:∀ wx,(sizeOf e).run P wx = .ok N wx:=fun wx=>by simp [sizeOf,typeInfo,hq,hz2]
   have hzv:∀ wx,(zeroValue e).run P wx = .ok z wx:=fun wx=>by simp [zeroValue,typeInfo,hq,hz1]
   simp [Instr.buildSlice,run_underlying ht,hsz,hzv,hf,newRow]
   rw [if_neg h1,if_neg h2]
section
variable {P:Program} {op:Oper} {a:Act} {w:World} {K:Act → World → Prop} {Q:Exit → Act → World → Prop}
theorem wp_build2 (d:Option Tmp) (hd:op.dst = d) (t:TypeId) (x y:Operand) (ho:op.op = .buildSlice t 2 #[(0,x),(1,y)]) (e N:Nat) (z:Value) (A B:List Value) (hx:a.eval x = .agg A.toArray) (hy:a.eval y = .agg B.toArray)
   (ht:P.underlying t = some (.slice e)) (hz:(P.info? e).map (fun i=>(i.zero,i.size)) = some (some z,N)) (hA:A.length = N) (hB:B.length = N) (h0:0 < N) (hN:N ≤ 1048576)
   (h:K (a.put d (.slice (some ⟨w.heap.size,0,none⟩) 2 2)) (w.alloc (.cells (A ++ B).toArray e))):op.wp P a w K Q:=by
 subst hd
 unfold Oper.wp execOp
 simp only [ho,List.map_toArray,List.map_cons,List.map_nil,hx,hy,Sem.run_bind,run_buildSlice2 w t e N z A B ht hz hA hB h0 hN,Result.andThen_ok]
 exact h
theorem wp_load_to (d:Option Tmp) (hd:op.dst = d) (ty:TypeId) (x:Operand) (ho:op.op = .load ty x) (b o:Nat) (hx:a.eval x = .pointer (some ⟨b,o,none⟩)) (cs:List Value) (D:TypeDesc) (hc:w.rangeAt b o cs)
   (hu:P.underlying ty = some D) (hD:D.isRow = true) (hi:(P.info? ty).map (·.size) = some cs.length) (h:K (a.put d (.agg cs.toArray)) w):op.wp P a w K Q:=by
 subst hd
 exact wp_load_mid ty x ho b o hx cs D hc hu hD hi h
theorem wp_store_blk (hd:op.dst = none) (ty:TypeId) (x y:Operand) (ho:op.op = .store ty x y) (g:Nat) (hx:a.eval x = .pointer (some ⟨g,0,none⟩)) {t:Nat} {old cs:List Value} (hy:a.eval y = .agg cs.toArray) (hb:Blk w g t old)
   (hi:(P.info? ty).map (·.size) = some cs.length) (hl:old.length = cs.length) (h1:cs.toArray.all (·.oneCell') = true)
   (h:K a (w.setRow g cs.toArray)):op.wp P a w K Q:=by
 have hst:(storeCells ⟨g,0,none⟩ cs 0).run P w = .ok () (w.setRow g cs.toArray):=by
   have:=run_storeCells_from (P:=P) g t cs 0 old.toArray w hb (by rw [List.size_toArray,Nat.zero_add];omega) (fun v hv=>(Array.all_eq_true_iff_forall_mem.1 h1) v (by simpa using hv))
   rw [List.take_zero,List.nil_append] at this
   exact this
 have hsv:(storeVar ty ⟨g,0,none⟩ (.agg cs.toArray)).run P w = .ok () (w.setRow g cs.toArray):=by
   cases hq:P.info? ty with
   | none=>simp [hq] at hi
   | some i =>
     have hs:cs.length = i.size:=by simp [hq] at hi;omega
     simp [storeVar,sizeOf,typeInfo,hq,Value.cells,hs,hst]
 unfold Oper.wp execOp
 simp only [ho,hx,hy,Instr.storeAt,Instr.sureAddr,Sem.run_bind,Sem.run_pure,Result.andThen_ok,hsv]
 have h':K (a.put op.dst undef) (w.setRow g cs.toArray):=by rw [hd];exact h
 exact h'
theorem below_new (w:World) (o:Obj):Below w.heap.size w (w.alloc o):=(Below.refl _ _).alloc (Nat.le_refl _) o
theorem below_step {a b c:World} (h:Below a.heap.size a b) (h2:Below b.heap.size b c):Below a.heap.size a c:=h.trans (h2.mono h.size)
end
end Go.Proofs.YtbkokcjolanpeaaGreatDoor
