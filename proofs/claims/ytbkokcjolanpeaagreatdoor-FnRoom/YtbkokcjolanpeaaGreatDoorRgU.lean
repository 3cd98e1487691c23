import Derived.Test.YtbkokcjolanpeaaGreatDoorRgG
import Derived.Test.YtbkokcjolanpeaaGreatDoorRgM
namespace Go.Proofs.YtbkokcjolanpeaaGreatDoor
open Go.RowKit
set_option maxRecDepth 100000 in
set_option maxHeartbeats 1000000 in
theorem xor8_gen (bl:List (List UInt8)) (m g off cap:Nat) (w:World) (hm:bl.length = m) (hm1:m ≤ 1048576) (hn:∀ b ∈ bl,b.length = 8) (hr:∀ k,k < m → w.rangeAt g (off + k * 8) ((bl.getD k []).map byte)) :
   Calls Tryz.prog 111 #[.slice (some ⟨g,off,none⟩) m cap] w fun e w'=>e = .returned (.agg ((sumsL 8 bl m).map byte).toArray) ∧ Below w.heap.size w w':=by
 have hz:=(zero_of_info Tryz.zero208).1
 have hsl:∀ k,k ≤ m → (sumsL 8 bl k).length = 8:=fun k hk=>sumsL_length 8 bl hn k (by omega)
 have hbl:∀ k,k < m → (bl.getD k []).length = 8:=by
   intro k hk
   have:bl.getD k [] = bl[k]:=by simp [show k < bl.length from by omega]
   rw [this];exact hn _ (List.getElem_mem _)
 go_enter Tryz.func111,Tryz.ntmps111
 go_wp2
 go_loopw [5,6,7,10,15] (fun _ _ _ i _ wr=>∃ k:Nat,k ≤ m ∧ i = .int .i64 k ∧ Blk wr (w.heap.size + 1) 208 ((sumsL 8 bl k).map byte) ∧ Blk wr w.heap.size 208 (zerosOf 8 .u8) ∧ Below w.heap.size w wr) (fun _ _ _ i _ _=>m - (intOf i).toNat)
 case atStart=>exact ⟨0,Nat.zero_le _,rfl,by rw [show sumsL 8 bl 0 = zeros8 8 from rfl,← zeros8_cells];exact Blk.new2 w _ _ _,(Blk.new w _ _).alloc _,((Below.refl _ _).alloc (Nat.le_refl _) _).alloc (by simp) _⟩
 case round =>
   obtain ⟨k,hk,rfl,hb1,hb0,hbel⟩:=hrel
   by_cases hlt:k < m
   · have hrk:=range_below (hr k hlt) hbel
     have hlen:=hbl k hlt
     have hs0:=hsl k hk
     have hs1:sumsL 8 bl (k + 1) = xorL (sumsL 8 bl k) (bl.getD k []):=rfl
     obtain ⟨X,hX⟩:∃ X,X = bl.getD k []:=⟨_,rfl⟩
     obtain ⟨A,hA⟩:∃ A,A = sumsL 8 bl k:=⟨_,rfl⟩
     rw [← hX] at hrk hlen hs1
     rw [← hA] at hs0 hs1 hb1
     have hXl:(X.map byte).length = 8:=by rw [List.length_map,hlen]
     have hkI:(k:Int) < (m:Int):=by omega
     have HS:Hid (sumsL 8 bl (k + 1) = xorL A X):=hs1
     clear hX hA hs1 hsl hbl hr
     go_wp2_with (first
       | (refine wpList_load_mid rfl 208 _ rfl g (off + k * 8) rfl (X.map byte) _ hrk Tryz.underlying208 rfl (by rw [hXl];kernel_rfl) ?_)
       | (refine store_blk rfl 208 _ _ rfl _ rfl rfl (Blk.new wr _ _) (by rw [hXl];kernel_rfl) (by rw [hXl];exact zerosOf_length _ _) (allOne_bytes _) ?_;intro w3 hb3 hg3 hs3)
       | (refine load_blk rfl 208 _ rfl _ rfl hb3 Tryz.underlying208 rfl (by rw [hXl];kernel_rfl) ?_))
     have l1:=hb1.lt
     have q1:=(hb1.alloc (.cells (zerosOf 8 .u8).toArray 208)).grown hg3 (by simp;omega)
     have q0:=(hb0.alloc (.cells (zerosOf 8 .u8).toArray 208)).grown hg3 (by simp;omega)
     have qb:=(hbel.alloc hbel.size (.cells (zerosOf 8 .u8).toArray 208)).grown hg3 (by simp;omega) (by intro j hj;cases hj;omega)
     clear hb1 hb0 hbel hb3 hg3 hs3 hrk
     go_loopw [6,7,15] (fun _ _ i wr=>∃ j:Nat,j ≤ 8 ∧ i = .int .i64 j ∧ Blk wr (w.heap.size + 1) 208 ((mixL A X j).map byte) ∧ Blk wr w.heap.size 208 (zerosOf 8 .u8) ∧ Below w.heap.size w wr) (fun _ _ i _=>8 - (intOf i).toNat)
     case atStart=>exact ⟨0,Nat.zero_le _,rfl,by rw [mixL_zero];exact q1,q0,qb⟩
     case round =>
       clear q1 q0 qb
       obtain ⟨j,hj,rfl,hb1,hb0,hbel⟩:=hrel
       by_cases hjl:j < 8
       · have hix:=run_index_agg (P:=Tryz.prog) Tryz.underlying208 Tryz.underlying5 rfl (by kernel_rfl) (X.map byte).toArray .i64 j hjl (.int .u8 (X[j].toNat:Int)) (by simp [hlen,hjl,byte])
         have hml:=mixL_length A X j 8 hs0 hlen hj
         have hat:=mixL_at A X j 8 hs0 hlen hjl
         have hc:wr.cell? ⟨w.heap.size + 1,j,none⟩ = some (.int .u8 ((A[j]'(by omega)).toNat:Int)):=by
           rw [hb1.cell j (by rw [List.length_map,hml];exact hjl),← List.getElem?_eq_getElem,List.getElem?_map,hat];rfl
         have hf:=hb1.free j
         have hst:=hb1.set j (byte ((A[j]'(by omega)) ^^^ X[j]))
         rw [← List.map_set,mixL_set A X j 8 hs0 hlen hjl] at hst
         have HE:Hid (Value.int .u8 (bits BinOp.xor IntKind.u8 ((A[j]'(by omega)).toNat:Int) (X[j].toNat:Int)) = byte ((A[j]'(by omega)) ^^^ X[j])):=byte_xor _ _
         have hjI:(j:Int) < 8:=by omega
         clear hat hml hb1
         go_wp2
         go_roundw
         case rel =>
           rw [HE.out]
           exact ⟨j + 1,by omega,by go_num,hst,hb0.other _ _ (by simp),hbel.setCell (by simp) _⟩
         case measure=>simp [intOf];omega
       · obtain rfl:j = 8:=by omega
         rw [mixL_all A X 8 hs0 hlen,← HS.out] at hb1
         go_wp2
         go_roundw
         case rel=>exact ⟨k + 1,by omega,by go_num,hb1,hb0,hbel⟩
         case measure=>simp [intOf];omega
   · obtain rfl:k = m:=by omega
     have hl:((sumsL 8 bl k).map byte).length = 8:=by rw [List.length_map,hsl k hk]
     go_wp2_with (first | (refine load_blk rfl 208 _ rfl _ rfl hb1 Tryz.underlying208 rfl (by rw [hl];kernel_rfl) ?_) | (refine store_blk rfl 208 _ _ rfl _ rfl rfl hb0 (by rw [hl];kernel_rfl) (by rw [hl];exact zerosOf_length _ _) (allOne_bytes _) ?_;intro w2 hb2 hg2 hs2))
     exact bodyPost_ret (v:=.agg ((sumsL 8 bl k).map byte).toArray) (results_blk Tryz.results111 _ _ rfl hb2 Tryz.underlying208 rfl (by rw [hl];kernel_rfl)) rfl ⟨rfl,hbel.grown hg2 hbel.size (by intro k hk;cases hk;exact Nat.le_refl _)⟩
theorem xor8_two (a b:List UInt8) (g cap t:Nat) (w:World) (ha:a.length = 8) (hb:b.length = 8) (h:Blk w g t (a.map byte ++ b.map byte)) :
   Calls Tryz.prog 111 #[.slice (some ⟨g,0,none⟩) 2 cap] w fun e w'=>e = .returned (.agg ((xorL a b).map byte).toArray) ∧ Below w.heap.size w w':=by
 have:=xor8_gen [a,b] 2 g 0 cap w rfl (by omega) (by simp [ha,hb]) (by
   intro k hk
   match k,hk with
   | 0,_=>exact blk_first h
   | 1,_=>exact blk_second h (by simp [ha]))
 rw [sums_two 8 a b ha] at this
 exact this
def pad8 (p:List UInt8):List UInt8:=p ++ zeros8 (8 - p.length)
theorem pad8_length (p:List UInt8) (h:p.length ≤ 8):(pad8 p).length = 8:=by simp [pad8,zeros8];omega
theorem range_news {w:World} {b o:Nat} {l:List UInt8} (h:w.rangeAt b o (l.map byte)):∀ j u,(l.map byte)[j]? = some u → w.cell? ((⟨b,o,none⟩:Addr).add j) = some u:=by
 intro j u hu
 rw [Addr.add_mid]
 exact h j u hu
set_option maxRecDepth 100000 in
set_option maxHeartbeats 1000000 in
theorem filled8_any (p:List UInt8) (b o cap:Nat) (w:World) (hp:p.length ≤ 8) (hr:w.rangeAt b o (p.map byte)) :
   Calls Tryz.prog 108 #[.slice (some ⟨b,o,none⟩) p.length cap] w fun e w'=>e = .returned (.agg ((pad8 p).map byte).toArray) ∧ Below w.heap.size w w':=by
 have hz:=(zero_of_info Tryz.zero208).1
 obtain ⟨W,hW⟩:∃ W,W = (w.alloc (.cells (zerosOf 8 .u8).toArray 208)).alloc (.cells (zerosOf 8 .u8).toArray 208):=⟨_,rfl⟩
 have k0:Blk W w.heap.size 208 (zerosOf 8 .u8):=by rw [hW];exact (Blk.new w _ _).alloc _
 have k1:Blk W (w.heap.size + 1) 208 (zerosOf 8 .u8):=by rw [hW];exact Blk.new2 w _ _ _
 have bW:Below w.heap.size w W:=by rw [hW];exact (below_new w _).alloc (by simp) _
 have hlen:=pad8_length p hp
 have hlm:((pad8 p).map byte).length = 8:=by rw [List.length_map,hlen]
 have hcs:(zerosOf 8 .u8).toArray.toList.take 0 ++ (p.map byte ++ (zerosOf 8 .u8).toArray.toList.drop (0 + (p.map byte).length)) = (pad8 p).map byte:=by
   rw [List.toList_toArray,List.take_zero,List.nil_append,Nat.zero_add,List.length_map]
   unfold pad8 zerosOf zeros8
   rw [List.drop_replicate,List.map_append,List.map_replicate]
   rfl
 have hmin:(p.map byte).length = Nat.min p.length 8:=by rw [List.length_map];exact (Nat.min_eq_left hp).symm
 have hnews:=range_news (range_below hr bW)
 have hone:=all_one p
 have hfit:0 + (p.map byte).length ≤ (zerosOf 8 .u8).toArray.size:=by rw [List.length_map,List.size_toArray,zerosOf_length];omega
 have k2:=Blk.setRow k1 ((pad8 p).map byte)
 have k3:Blk (W.setRow (w.heap.size + 1) ((pad8 p).map byte).toArray) w.heap.size 208 (zerosOf 8 .u8):=k0.setRow_other (by omega)
 have b2:=below_setRow' (g:=w.heap.size + 1) bW (by omega) ((pad8 p).map byte).toArray
 obtain ⟨L,hL⟩:∃ L,L = (pad8 p).map byte:=⟨_,rfl⟩
 have hlo:=allOne_bytes (pad8 p)
 rw [← hL] at hlm hcs k2 k3 b2 hlo ⊢
 have gW:Hid (W = (w.alloc (.cells (zerosOf 8 .u8).toArray 208)).alloc (.cells (zerosOf 8 .u8).toArray 208)):=hW
 clear hW hL hr hlen
 go_enter Tryz.func108,Tryz.ntmps108
 go_upto_region 2 with fail
 rw [← show W = _ from gW]
 clear gW
 go_wp2_with (first
   | (refine wpList_copy_own rfl _ _ 22 22 rfl 5 Tryz.underlying22 (by kernel_rfl) (w.heap.size + 1) 0 8 8 ⟨b,o,none⟩ p.length cap rfl rfl _ 208 k1 (p.map byte) hmin hnews hfit hone ?_;rw [hcs])
   | (refine load_blk rfl 208 _ rfl _ rfl k2 Tryz.underlying208 rfl (by rw [hlm];kernel_rfl) ?_)
   | (refine store_blk rfl 208 _ _ rfl _ rfl rfl k3 (by rw [hlm];kernel_rfl) (by rw [hlm];exact zerosOf_length _ _) hlo ?_;intro w3 hb3 hg3 hs3))
 exact bodyPost_ret (v:=.agg L.toArray) (results_blk Tryz.results108 _ _ rfl hb3 Tryz.underlying208 rfl (by rw [hlm];kernel_rfl)) rfl ⟨rfl,b2.grown hg3 b2.size (by intro k hk;cases hk;exact Nat.le_refl _)⟩
theorem fill_one (N:Nat) (a:List Value) (cells:Array Value) (hc:cells.size = N) (ha:a.length = N):Instr.fill (fun i=>some (i * N,N)) cells [(0,.agg a.toArray)] = some a.toArray:=by
 have e1:=fold_whole a 0 cells (by omega)
 simp only [Nat.zero_add,List.take_zero,List.nil_append,ha] at e1
 rw [List.drop_of_length_le (by rw [Array.length_toList];omega),List.append_nil] at e1
 simp only [Instr.fill,Value.cells,List.size_toArray,ha,Nat.zero_mul,Nat.zero_add,ne_eq,not_true_eq_false,decide_false,Bool.false_or,decide_eq_true_eq,← Array.foldl_toList,Array.toList_zipIdx,e1]
 rw [if_neg (by omega)]
theorem run_buildSlice1 {P:Program} (w:World) (t e N:Nat) (z:Value) (a:List Value) (ht:P.underlying t = some (.slice e)) (hz:(P.info? e).map (fun i=>(i.zero,i.size)) = some (some z,N)) (ha:a.length = N) (h0:0 < N) (hN:N ≤ 1048576) :
   (Instr.buildSlice t 1 #[(0,.agg a.toArray)]).run P w = .ok (.slice (some ⟨w.heap.size,0,none⟩) 1 1) (w.alloc (.cells a.toArray e)):=by
 cases hq:P.info? e with
 | none=>simp [hq] at hz
 | some i =>
   have hz1:i.zero = some z:=by simp [hq] at hz;exact hz.1
   have hz2:i.size = N:=by simp [hq] at hz;exact hz.2
   have h1:¬ (N > 16777216):=by omega
   have h2:¬ (N = 0):=by omega
   have hf:=fill_one N a ((Array.range (1 * N)).map (z.cells[· % z.cells.size]!)) (by simp) ha
   have hsz:∀ wx,(sizeOf e).run P wx = .ok N wx:=fun wx=>by simp [sizeOf,typeInfo,hq,hz2]
   have hzv:∀ wx,(zeroValue e).run P wx = .ok z wx:=fun wx=>by simp [zeroValue,typeInfo,hq,hz1]
   rw [Nat.one_mul] at hf
   simp [Instr.buildSlice,run_underlying ht,hsz,hzv,hf,newRow]
   rw [if_neg h1,if_neg h2]
section
variable {P:Program} {op:Oper} {a:Act} {w:World} {K:Act → World → Prop} {Q:Exit → Act → World → Prop} {ops:Array Oper} {rest:List Oper}
theorem wp_build1 (d:Option Tmp) (hd:op.dst = d) (t:TypeId) (x:Operand) (ho:op.op = .buildSlice t 1 #[(0,x)]) (e N:Nat) (z:Value) (A:List Value) (hx:a.eval x = .agg A.toArray)
   (ht:P.underlying t = some (.slice e)) (hz:(P.info? e).map (fun i=>(i.zero,i.size)) = some (some z,N)) (hA:A.length = N) (h0:0 < N) (hN:N ≤ 1048576)
   (h:K (a.put d (.slice (some ⟨w.heap.size,0,none⟩) 1 1)) (w.alloc (.cells A.toArray e))):op.wp P a w K Q:=by
 subst hd
 unfold Oper.wp execOp
 simp only [ho,List.map_toArray,List.map_cons,List.map_nil,hx,Sem.run_bind,run_buildSlice1 w t e N z A ht hz hA h0 hN,Result.andThen_ok]
 exact h
theorem wpList_build1 (hgd:op.guard = none) (t:TypeId) (x:Operand) (ho:op.op = .buildSlice t 1 #[(0,x)]) (e N:Nat) (z:Value) (A:List Value) (hx:a.eval x = .agg A.toArray)
   (ht:P.underlying t = some (.slice e)) (hz:(P.info? e).map (fun i=>(i.zero,i.size)) = some (some z,N)) (hA:A.length = N) (h0:0 < N) (hN:N ≤ 1048576)
   (h:wpList P ops Q rest (a.put op.dst (.slice (some ⟨w.heap.size,0,none⟩) 1 1)) (w.alloc (.cells A.toArray e))):wpList P ops Q (op :: rest) a w :=
 wpList_plain hgd fun _ hK=>wp_build1 op.dst rfl t x ho e N z A hx ht hz hA h0 hN (hK _ _ h)
theorem wpList_build2 (hgd:op.guard = none) (t:TypeId) (x y:Operand) (ho:op.op = .buildSlice t 2 #[(0,x),(1,y)]) (e N:Nat) (z:Value) (A B:List Value) (hx:a.eval x = .agg A.toArray) (hy:a.eval y = .agg B.toArray)
   (ht:P.underlying t = some (.slice e)) (hz:(P.info? e).map (fun i=>(i.zero,i.size)) = some (some z,N)) (hA:A.length = N) (hB:B.length = N) (h0:0 < N) (hN:N ≤ 1048576)
   (h:wpList P ops Q rest (a.put op.dst (.slice (some ⟨w.heap.size,0,none⟩) 2 2)) (w.alloc (.cells (A ++ B).toArray e))):wpList P ops Q (op :: rest) a w :=
 wpList_plain hgd fun _ hK=>wp_build2 op.dst rfl t x y ho e N z A B hx hy ht hz hA hB h0 hN (hK _ _ h)
end
def OwnK (w:World) (base:Nat) (v:Value) (bl:List (List UInt8)):Prop:=w.ownsRow base 208 8 v bl.length (bl.flatten.map byte)
theorem OwnK.below {w w':World} {base:Nat} {v:Value} {l:List (List UInt8)} (h:OwnK w base v l) (hb:Below w.heap.size w w'):OwnK w' base v l :=
 World.ownsRow.kept h (grown_of_below hb none) (by cases hv:v.ownBlock <;> simp)
theorem OwnK.mono {w:World} {B base:Nat} {v:Value} {l:List (List UInt8)} (h:OwnK w base v l) (hB:B ≤ base):OwnK w B v l:=by
 refine ⟨h.1,?_⟩
 rcases h.2 with h | ⟨g,cap,cur,hv,hb,r⟩
 · exact .inl h
 · exact .inr ⟨g,cap,cur,hv,by omega,r⟩
def chunk (data:List UInt8) (k:Nat):List UInt8:=pad8 ((data.drop (8 * k)).take 8)
def chunks (data:List UInt8) (k:Nat):List (List UInt8):=(List.range k).map (chunk data)
theorem chunks_succ (data:List UInt8) (k:Nat):chunks data (k + 1) = chunks data k ++ [chunk data k]:=by simp [chunks,List.range_succ]
theorem chunks_length (data:List UInt8) (k:Nat):(chunks data k).length = k:=by simp [chunks]
theorem chunk_length (data:List UInt8) (k:Nat):(chunk data k).length = 8:=pad8_length _ (by rw [List.length_take];omega)
theorem range_part {w:World} {b o:Nat} {l:List UInt8} (h:w.rangeAt b o (l.map byte)) (k n:Nat):w.rangeAt b (o + k) (((l.drop k).take n).map byte):=by
 intro j v hv
 rw [List.map_take,List.getElem?_take] at hv
 split at hv
 · rw [List.map_drop,List.getElem?_drop] at hv
   rw [Nat.add_assoc]
   exact h (k + j) v hv
 · cases hv
theorem Tryz.info208:(Tryz.prog.info? 208).map (fun i=>(i.zero,i.size,i.bytes)) = some (some (.agg (zerosOf 8 .u8).toArray),8,8):=by kernel_rfl
theorem ownK_snoc {w1:World} {base:Nat} {v1:Value} {bl:List (List UInt8)} {x:List UInt8} (h:w1.ownsRow base 208 8 v1 (bl.length + 1) (bl.flatten.map byte ++ x.map byte)):OwnK w1 base v1 (bl ++ [x]):=by
 unfold OwnK
 rw [List.length_append,List.flatten_append,List.map_append]
 simpa using h
set_option maxRecDepth 100000 in
set_option maxHeartbeats 2000000 in
theorem cut_some (data:List UInt8) (b o cap:Nat) (w:World) (hn:data.length ≤ 4096) (hc:data.length ≤ cap) (hr:w.rangeAt b o (data.map byte)) :
   Calls Tryz.prog 107 #[.slice (some ⟨b,o,none⟩) data.length cap,.int .i64 8,.func (.func 108) #[] #[]] w fun e w'=>∃ v,e = .returned v ∧ OwnK w' w.heap.size v (chunks data ((data.length + 7) / 8)) ∧ Below w.heap.size w w':=by
 obtain ⟨i0,hi,hz0,hz1,hz2⟩:=info_parts Tryz.info208
 obtain ⟨n,hnl⟩:∃ n,n = data.length:=⟨_,rfl⟩
 have HF:Hid (∀ (a k L:Nat) (wx:World),a = 8 * k → L = min 8 (n - a) → Below w.heap.size w wx → Calls Tryz.prog 108 #[.slice (some ⟨b,o + a,none⟩) L (cap - a)] wx fun x w'=>x = .returned (.agg ((chunk data k).map byte).toArray) ∧ Below wx.heap.size wx w'):=by
   intro a k L wx ha hL hb
   subst ha
   have:=filled8_any ((data.drop (8 * k)).take 8) b (o + 8 * k) (cap - 8 * k) wx (by rw [List.length_take];omega) (range_below (range_part hr (8 * k) 8) hb)
   rw [show ((data.drop (8 * k)).take 8).length = L from by rw [List.length_take,List.length_drop];omega] at this
   exact this
 have HN:Hid (n = data.length):=hnl
 rw [← hnl] at hn hc ⊢
 clear hr hnl
 go_enter Tryz.func107,Tryz.ntmps107
 go_wp2
 go_loopw [7,8] (fun v i wr=>∃ k:Nat,8 * k ≤ n + 7 ∧ i = .int .i64 ((8 * k:Nat):Int) ∧ OwnK wr w.heap.size v (chunks data k) ∧ Below w.heap.size w wr) (fun _ i _=>n + 8 - (intOf i).toNat)
 case atStart=>exact ⟨0,by omega,rfl,World.ownsRow_nil _ _ _ _,Below.refl _ _⟩
 case round =>
   obtain ⟨k,hk,rfl,hown,hbel⟩:=hrel
   obtain ⟨a,ha⟩:∃ a,a = 8 * k:=⟨_,rfl⟩
   have HA:Hid (a = 8 * k):=ha
   rw [← ha] at hk ⊢
   clear ha
   by_cases hlt:a < n
   · have haI:(a:Int) < (n:Int):=by omega
     have haI0:(0:Int) ≤ (a:Int):=by omega
     have hcI:(n:Int) ≤ (cap:Int):=by omega
     have hwa:IntKind.i64.wrap ((a:Int) + 8) = ((a + 8:Nat):Int):=by rw [IntKind.wrap_i64];omega
     have hcl:=chunk_length data k
     have HS:=hide (chunks_succ data k)
     have hkl:=chunks_length data k
     obtain ⟨X,hX⟩:∃ X,X = chunk data k:=⟨_,rfl⟩
     rw [← hX] at hcl HS
     have hXm:(X.map byte).length = 8:=by rw [List.length_map,hcl]
     have hone:=all_one X
     have hsz:=hbel.size
     have hk2:k ≤ 4096:=by have:=HA.out;omega
     have HK:Hid (∀ L wx,L = min 8 (n - a) → Below w.heap.size w wx → Calls Tryz.prog 108 #[.slice (some ⟨b,o + a,none⟩) L (cap - a)] wx fun x w'=>x = .returned (.agg (X.map byte).toArray) ∧ Below wx.heap.size wx w'):=by
       intro L wx hL hb;rw [hX];exact HF.out a k L wx HA.out hL hb
     clear hX
     by_cases h8:a + 8 ≤ n
     · have h8I:((a:Int) + 8) ≤ (n:Int):=by omega
       have h8c:((a:Int) + 8) ≤ (cap:Int):=by omega
       have h8a:(a:Int) ≤ (a:Int) + 8:=by omega
       go_wp2_with (first
         | (go_at_call 108;refine (HK.out _ _ (by omega) hbel).mono ?_;rintro e1 w1 ⟨rfl,bel1⟩;have b1:=(hbel.trans (bel1.mono hsz));have o1:=(hown.below bel1).alloc (.cells (X.map byte).toArray 208);have n1:Blk (w1.alloc (.cells (X.map byte).toArray 208)) w1.heap.size 208 (X.map byte):=(Blk.new w1 _ _);have hnews:=range_news (blk_whole n1);have b1a:=(b1.alloc b1.size (.cells (X.map byte).toArray 208)))
         | (refine wpList_build1 rfl 206 _ rfl 208 8 _ (X.map byte) rfl Tryz.underlying206 Tryz.zero208 hXm (by omega) (by omega) ?_)
         | (at_builtin;refine wpList_append_own _ rfl _ _ 206 rfl w.heap.size 208 i0 _ 8 8 Tryz.underlying206 hi hz0 hz1 hz2 rfl (by decide) _ _ _ rfl o1 ⟨w1.heap.size,0,none⟩ 1 1 (X.map byte) rfl hXm hnews hone (by unfold maxLen;omega) (by omega) b1a.size ?_;intro v1 w2 hown1 hgrow1 hnil1))
       have R1:OwnK w2 w.heap.size v1 (chunks data (k + 1)):=by rw [HS.out];exact ownK_snoc hown1
       have R2:=b1a.grown hgrow1 b1a.size (fun j hj=>(o1.lt j hj).1)
       clear hown1 hgrow1 hnil1 hown hbel o1 n1 hnews b1 b1a
       go_wp2
       go_roundw
       case rel=>exact ⟨k + 1,by have:=HA.out;omega,by have:=HA.out;go_num,R1,R2⟩
       case measure=>simp [intOf];omega
     · have h8I:¬ ((a:Int) + 8) ≤ (n:Int):=by omega
       go_wp2_with (first
         | (go_at_call 108;refine (HK.out _ _ (by omega) hbel).mono ?_;rintro e1 w1 ⟨rfl,bel1⟩;have b1:=(hbel.trans (bel1.mono hsz));have o1:=(hown.below bel1).alloc (.cells (X.map byte).toArray 208);have n1:Blk (w1.alloc (.cells (X.map byte).toArray 208)) w1.heap.size 208 (X.map byte):=(Blk.new w1 _ _);have hnews:=range_news (blk_whole n1);have b1a:=(b1.alloc b1.size (.cells (X.map byte).toArray 208)))
         | (refine wpList_build1 rfl 206 _ rfl 208 8 _ (X.map byte) rfl Tryz.underlying206 Tryz.zero208 hXm (by omega) (by omega) ?_)
         | (at_builtin;refine wpList_append_own _ rfl _ _ 206 rfl w.heap.size 208 i0 _ 8 8 Tryz.underlying206 hi hz0 hz1 hz2 rfl (by decide) _ _ _ rfl o1 ⟨w1.heap.size,0,none⟩ 1 1 (X.map byte) rfl hXm hnews hone (by unfold maxLen;omega) (by omega) b1a.size ?_;intro v1 w2 hown1 hgrow1 hnil1))
       have R1:OwnK w2 w.heap.size v1 (chunks data (k + 1)):=by rw [HS.out];exact ownK_snoc hown1
       have R2:=b1a.grown hgrow1 b1a.size (fun j hj=>(o1.lt j hj).1)
       clear hown1 hgrow1 hnil1 hown hbel o1 n1 hnews b1 b1a
       go_wp2
       go_roundw
       case rel=>exact ⟨k + 1,by have:=HA.out;omega,by have:=HA.out;go_num,R1,R2⟩
       case measure=>simp [intOf];omega
   · go_wp2
     go_ret
     rw [show (n + 7) / 8 = k from by have:=HA.out;omega]
     exact ⟨_,rfl,hown,hbel⟩
def befL (f:List UInt8 → List UInt8) (iv:List UInt8) (bl:List (List UInt8)):Nat → List UInt8
 | 0=>iv
 | k + 1=>f (xorL (bl.getD k []) (befL f iv bl k))
def outL (f:List UInt8 → List UInt8) (iv:List UInt8) (bl:List (List UInt8)) (k:Nat):List (List UInt8):=(List.range k).map fun j=>befL f iv bl (j + 1)
theorem outL_succ (f:List UInt8 → List UInt8) (iv:List UInt8) (bl:List (List UInt8)) (k:Nat):outL f iv bl (k + 1) = outL f iv bl k ++ [befL f iv bl (k + 1)]:=by simp [outL,List.range_succ]
theorem outL_length (f:List UInt8 → List UInt8) (iv:List UInt8) (bl:List (List UInt8)) (k:Nat):(outL f iv bl k).length = k:=by simp [outL]
theorem befL_length (f:List UInt8 → List UInt8) (hf:∀ x,(f x).length = 8) (iv:List UInt8) (hiv:iv.length = 8) (bl:List (List UInt8)) (k:Nat):(befL f iv bl k).length = 8:=by
 cases k with
 | zero=>exact hiv
 | succ k=>exact hf _
def Blks (w:World) (ao:Option Addr) (bl:List (List UInt8)):Prop:=∀ k,k < bl.length → ∃ g off,ao = some ⟨g,off,none⟩ ∧ w.rangeAt g (off + k * 8) ((bl.getD k []).map byte)
theorem flat_take8 (bl:List (List UInt8)) (h8:∀ b ∈ bl,b.length = 8) (k:Nat) (hk:k ≤ bl.length):(bl.take k).flatten.length = k * 8:=by
 induction k with
 | zero=>simp
 | succ k ih =>
   rw [flat_snoc bl k (by omega),List.length_append,ih (by omega)]
   have:(bl.getD k []).length = 8:=by
     rw [show bl.getD k [] = bl[k] from by simp [show k < bl.length from by omega]]
     exact h8 _ (List.getElem_mem _)
   omega
theorem OwnK.blks {w:World} {base:Nat} {v:Value} {bl:List (List UInt8)} (h:OwnK w base v bl) (h8:∀ b ∈ bl,b.length = 8):∃ ao cap,v = .slice ao bl.length cap ∧ bl.length ≤ cap ∧ Blks w ao bl:=by
 rcases h.2 with ⟨rfl,hn⟩ | ⟨g,cap,cur,rfl,hb,hh,hn,hm,hs,ht⟩
 · exact ⟨none,0,by rw [hn],by omega,fun k hk=>by omega⟩
 · refine ⟨_,cap,rfl,hn,fun k hk=>⟨g,0,rfl,?_⟩⟩
   intro j v hv
   have hl:bl.getD k [] = bl[k]:=by simp [hk]
   have hlen:(bl.getD k []).length = 8:=by rw [hl];exact h8 _ (List.getElem_mem _)
   have hj:j < 8:=by have:=(List.getElem?_eq_some_iff.1 hv).1;rw [List.length_map,hlen] at this;exact this
   have hcell:=h.cells (g:=g) rfl (k * 8 + j) v (by
     have e:bl.flatten = (bl.take k).flatten ++ (bl.getD k [] ++ (bl.drop (k + 1)).flatten):=by
       rw [← List.append_assoc,← flat_snoc bl k hk,← List.flatten_append,List.take_append_drop]
     rw [e,List.map_append,List.map_append,List.getElem?_append_right (by rw [List.length_map,flat_take8 bl h8 k (by omega)];omega),List.length_map,flat_take8 bl h8 k (by omega),Nat.add_sub_cancel_left,List.getElem?_append_left (by rw [List.length_map,hlen];exact hj)]
     exact hv)
   rw [Addr.add_mid] at hcell
   rw [Nat.zero_add] at hcell ⊢
   exact hcell
set_option maxRecDepth 100000 in
set_option maxHeartbeats 4000000 in
theorem chainE_des (f:List UInt8 → List UInt8) (hf:∀ x,(f x).length = 8) (C:Value) (S:Nat) (iv:List UInt8) (hiv:iv.length = 8) (bl:List (List UInt8)) (h8:∀ b ∈ bl,b.length = 8) (ao:Option Addr) (m cap:Nat) (hm:bl.length = m) (hm1:m ≤ 4096) (w:World) (hs:Blks w ao bl) (hS:Blk w S 291 mergedCells)
   (HT:∀ x wx,x.length = 8 → Blk wx S 291 mergedCells → Calls Tryz.prog 110 #[C,.agg (x.map byte).toArray] wx fun e w'=>e = .returned (.agg ((f x).map byte).toArray) ∧ Below wx.heap.size wx w') :
   Calls Tryz.prog 109 #[.func (.func 110) #[C] #[],.func (.func 111) #[] #[],.agg (iv.map byte).toArray,.slice ao m cap,.bool false] w fun e w'=>∃ v,e = .returned v ∧ OwnK w' w.heap.size v (outL f iv bl m) ∧ Below w.heap.size w w':=by
 obtain ⟨i0,hi,hz0,hz1,hz2⟩:=info_parts Tryz.info208
 have hz:=(zero_of_info Tryz.zero208).1
 have hbl:=befL_length f hf iv hiv bl
 have hil:(iv.map byte).length = 8:=by rw [List.length_map,hiv]
 have k0:Blk (w.alloc (.cells (iv.map byte).toArray 208)) w.heap.size 208 (iv.map byte):=Blk.new w _ _
 have HX:=hide (fun (a b:List UInt8) (g:Nat) (wx:World) (ha:a.length = 8) (hb:b.length = 8) (h:Blk wx g 208 (a.map byte ++ b.map byte))=>xor8_two a b g 2 208 wx ha hb h)
 replace HT:=hide HT
 have HB:=hide hs
 have H8:=hide h8
 have lS:=hS.lt
 clear hs h8
 go_enter Tryz.func109,Tryz.ntmps109
 go_upto_region 3 with (first
   | (at_make;refine wpList_make_own _ rfl _ _ 206 rfl w.heap.size 208 i0 _ 8 Tryz.underlying206 hi hz0 hz1 .i64 .i64 _ m rfl rfl rfl (by rw [hz2];omega) (by unfold maxLen;omega) (by simp) ?_;intro w0 own0 gr0;have bel0:=below_of_grown gr0)
   | (refine load_blk rfl 208 _ rfl _ rfl (k0.below bel0 k0.lt) Tryz.underlying208 rfl (by rw [hil];kernel_rfl) ?_)
   | (refine store_blk rfl 208 _ _ rfl _ rfl rfl (Blk.new w0 _ _) (by rw [hil];kernel_rfl) (by rw [hil];exact zerosOf_length _ _) (allOne_bytes _) ?_;intro w1 hb1 hg1 hs1))
 have hsz:w0.heap.size ≥ w.heap.size + 2:=by
   have h:=own0.lt (w.heap.size + 1) (by simp [Value.ownBlock])
   omega
 have bel1:Below w0.heap.size w0 w1:=(below_new w0 _).grown hg1 (by simp) (by intro k hk;cases hk;exact Nat.le_refl _)
 have bw:Below w.heap.size w w1:=below_step (below_step (below_new w _) bel0) bel1
 have s0:=hS.below bw lS
 have o0:w1.ownsRow w.heap.size 208 8 (.slice (some ⟨w.heap.size + 1,0,none⟩) 0 m) 0 []:=World.ownsRow.kept (by simpa using own0) (grown_of_below bel1 none) (by right;simp [Value.ownBlock])
 obtain ⟨B,hB⟩:∃ B,B = w0.heap.size:=⟨_,rfl⟩
 obtain ⟨G,hG⟩:∃ G,G = w.heap.size + 1:=⟨_,rfl⟩
 have hGB:G < B:=by omega
 have hwG:w.heap.size < G:=by omega
 rw [← hB] at hb1 ⊢
 rw [← hG] at o0 ⊢
 have q0:Blk w1 B 208 (iv.map byte):=hb1
 clear hb1 hg1 hs1 bel1 own0 gr0 bel0 hB hG hsz k0
 go_wp2_with fail
 go_loopw [11,14,21] (fun v _ i wr=>∃ k:Nat,k ≤ m ∧ i = .int .i64 k ∧ v = .slice (some ⟨G,0,none⟩) k m ∧ wr.ownsRow w.heap.size 208 8 (.slice (some ⟨G,0,none⟩) k m) k ((outL f iv bl k).flatten.map byte) ∧ Blk wr B 208 ((befL f iv bl k).map byte) ∧ Blk wr S 291 mergedCells ∧ Below w.heap.size w wr) (fun _ _ i _=>m - (intOf i).toNat)
 case atStart=>exact ⟨0,Nat.zero_le _,rfl,rfl,o0,q0,s0,bw⟩
 case round =>
   clear o0 q0 s0 bw
   obtain ⟨k,hk,rfl,rfl,hown,kB,kS,hbel⟩:=hrel
   by_cases hlt:k < m
   · obtain ⟨g,off,rfl,hr0⟩:=HB.out k (by omega)
     have hrk:=range_below hr0 hbel
     have hXl:(bl.getD k []).length = 8:=by
       rw [show bl.getD k [] = bl[k] from by simp [show k < bl.length from by omega]]
       exact H8.out _ (List.getElem_mem _)
     have hPl:=hbl k
     have HN:=hide (show befL f iv bl (k + 1) = f (xorL (bl.getD k []) (befL f iv bl k)) from rfl)
     have HO:=hide (outL_succ f iv bl k)
     obtain ⟨X,hX⟩:∃ X,X = bl.getD k []:=⟨_,rfl⟩
     obtain ⟨P,hP⟩:∃ P,P = befL f iv bl k:=⟨_,rfl⟩
     rw [← hX] at hrk hXl HN
     rw [← hP] at kB hPl HN
     have hYl:(xorL X P).length = 8:=by rw [xorL_length _ _ (by omega),hXl]
     obtain ⟨Y,hY⟩:∃ Y,Y = xorL X P:=⟨_,rfl⟩
     have HXY:=hide (fun (g:Nat) (wx:World) (h:Blk wx g 208 (X.map byte ++ P.map byte))=>HX.out X P g wx hXl hPl h)
     rw [← hY] at HXY HN hYl
     have HTY:=hide (fun (wx:World) (h:Blk wx S 291 mergedCells)=>HT.out Y wx hYl h)
     have hNl:=hf Y
     obtain ⟨N,hN⟩:∃ N,N = f Y:=⟨_,rfl⟩
     rw [← hN] at HTY HN hNl
     have hXm:(X.map byte).length = 8:=by rw [List.length_map,hXl]
     have hPm:(P.map byte).length = 8:=by rw [List.length_map,hPl]
     have hNm:(N.map byte).length = 8:=by rw [List.length_map,hNl]
     have hkI:(k:Int) < (m:Int):=by omega
     have lB:=kB.lt
     have lS2:=kS.lt
     have lG:=(hown.lt G (by simp [Value.ownBlock])).2
     clear hX hP hY hN hr0
     go_wp2_with (first
       | (refine wpList_load_mid rfl 208 _ rfl g (off + k * 8) rfl (X.map byte) _ hrk Tryz.underlying208 rfl (by rw [hXm];kernel_rfl) ?_)
       | (refine store_blk rfl 208 _ _ rfl _ rfl rfl (Blk.new wr _ _) (by rw [hXm];kernel_rfl) (by rw [hXm];exact zerosOf_length _ _) (allOne_bytes _) ?_;intro w2 hb2 hg2 hs2;clear hs2;have bel2:Below wr.heap.size wr w2:=((below_new wr _).grown hg2 (by simp) (by intro k hk;cases hk;exact Nat.le_refl _));have kB2:=kB.below bel2 lB;have kS2:=kS.below bel2 lS2;have n2:Blk (w2.alloc (.cells (X.map byte ++ P.map byte).toArray 208)) w2.heap.size 208 (X.map byte ++ P.map byte):=(Blk.new w2 _ _))
       | (refine load_blk rfl 208 _ rfl _ rfl hb2 Tryz.underlying208 rfl (by rw [hXm];kernel_rfl) ?_)
       | (refine load_blk rfl 208 _ rfl _ rfl kB2 Tryz.underlying208 rfl (by rw [hPm];kernel_rfl) ?_)
       | (refine wpList_build2 rfl 206 _ _ rfl 208 8 _ (X.map byte) (P.map byte) rfl rfl Tryz.underlying206 Tryz.zero208 hXm hPm (by omega) (by omega) ?_)
       | (go_at_call 111;refine (HXY.out _ _ n2).mono ?_;rintro e3 w3 ⟨rfl,bel3⟩;have bel23:=(below_step (below_new w2 _) bel3);have kS3:=kS2.below bel23 kS2.lt;have kB3:=kB2.below bel23 kB2.lt)
       | (go_at_call 110;refine (HTY.out _ kS3).mono ?_;rintro e4 w4 ⟨rfl,bel4⟩;have kB4:=kB3.below bel4 kB3.lt;have bel14:=(below_step (below_step bel2 bel23) bel4);have kS4:=kS3.below bel4 kS3.lt;have hown4:=(World.ownsRow.kept hown (grown_of_below bel14 none) (by right;simp [Value.ownBlock]));have b4:=(hbel.trans (bel14.mono hbel.size)))
       | (refine store_blk rfl 208 _ _ rfl _ rfl rfl kB4 (by rw [hNm];kernel_rfl) (by rw [hNm];exact hPm) (allOne_bytes _) ?_;intro w5 kB5 hg5 hs5;clear hs5;have kS5:=(kS4.grown hg5 (by simp;omega));have hown5:=(World.ownsRow.kept hown4 hg5 (by right;simp [Value.ownBlock];omega));have b5:=(b4.grown hg5 b4.size (by intro k hk;cases hk;omega));have n5:Blk (w5.alloc (.cells (N.map byte).toArray 208)) w5.heap.size 208 (N.map byte):=(Blk.new w5 _ _);have hnews:=range_news (blk_whole n5);have hone:=all_one N)
       | (refine load_blk rfl 208 _ rfl _ rfl kB5 Tryz.underlying208 rfl (by rw [hNm];kernel_rfl) ?_)
       | (refine wpList_build1 rfl 206 _ rfl 208 8 _ (N.map byte) rfl Tryz.underlying206 Tryz.zero208 hNm (by omega) (by omega) ?_)
       | (at_builtin;refine wpList_append_fits _ rfl _ _ 206 rfl w.heap.size 208 i0 8 Tryz.underlying206 hi hz1 G k m _ rfl (hown5.alloc _) ⟨w5.heap.size,0,none⟩ 1 1 (N.map byte) rfl hNm hnews hone (by omega) ?_;intro w6 hown6 hg6))
     have hO:(outL f iv bl (k + 1)).flatten.map byte = (outL f iv bl k).flatten.map byte ++ N.map byte:=by
       rw [HO.out,HN.out,List.flatten_append,List.map_append];simp
     rw [← hO] at hown6
     have kB6:=(kB5.alloc (.cells (N.map byte).toArray 208)).grown hg6 (by simp;omega)
     have kS6:=(kS5.alloc (.cells (N.map byte).toArray 208)).grown hg6 (by simp;omega)
     have b6:=(b5.alloc b5.size (.cells (N.map byte).toArray 208)).grown hg6 (by simp;have:=b5.size;omega) (by intro k hk;cases hk;omega)
     rw [← HN.out] at kB6
     clear hown5 hown4 hown hg6 hg5 hg2 kB kB2 kB3 kB4 kB5 kS kS2 kS3 kS4 kS5 b4 b5 hbel n2 n5 hnews hone hrk
     go_wp2
     go_roundw
     case rel=>exact ⟨k + 1,by omega,by go_num,rfl,hown6,kB6,kS6,b6⟩
     case measure=>simp [intOf];omega
   · obtain rfl:k = m:=by omega
     go_wp2
     go_ret
     exact ⟨_,rfl,by unfold OwnK;rw [outL_length];exact hown,hbel⟩
end Go.Proofs.YtbkokcjolanpeaaGreatDoor
namespace Go.Proofs.YtbkokcjolanpeaaGreatDoor
open Go.RowKit
section
variable {P:Program} {o:Oper} {a:Act} {w:World} {K:Act → World → Prop} {Q:Exit → Act → World → Prop}
end
set_option maxHeartbeats 1000000 in
theorem cut_empty (ao:Option Addr) (cap:Nat) (w:World) :
   Calls Tryz.prog 107 #[.slice ao 0 cap,.int .i64 8,.func (.func 108) #[] #[]] w fun e w'=>e = .returned (.slice none 0 0) ∧ w' = w:=by
 go_enter Tryz.func107,Tryz.ntmps107
 go_wp2
 go_loop [7,8] (fun v i=>v = .slice none 0 0 ∧ i = .int .i64 0) (fun _ _=>0)
 case atStart=>exact ⟨rfl,rfl⟩
 case round =>
   obtain ⟨rfl,rfl⟩:=hrel
   go_wp2
   go_ret
   exact ⟨rfl,rfl⟩
def nBlocks (data:List UInt8):Nat:=(data.length + 7) / 8
theorem cut_any (data:List UInt8) (ao:Option Addr) (cap:Nat) (w:World) (hn:data.length ≤ 4096) (hc:data.length ≤ cap) (hr:RowAt w ao data) :
   Calls Tryz.prog 107 #[.slice ao data.length cap,.int .i64 8,.func (.func 108) #[] #[]] w fun e w'=>∃ v,e = .returned v ∧ OwnK w' w.heap.size v (chunks data (nBlocks data)) ∧ Below w.heap.size w w':=by
 by_cases h0:0 < data.length
 · obtain ⟨b,o,rfl,hrg⟩:=hr.range h0
   exact cut_some data b o cap w hn hc hrg
 · obtain rfl:data = []:=List.length_eq_zero_iff.1 (by omega)
   refine (cut_empty ao cap w).mono ?_
   rintro e w' ⟨rfl,rfl⟩
   exact ⟨_,rfl,World.ownsRow_nil _ _ _ _,Below.refl _ _⟩
def leastOne (bl:List (List UInt8)):List (List UInt8):=if bl.length = 0 then [zeros8 8] else bl
theorem made_block:(madeCells (Value.agg (zerosOf 8 .u8).toArray).cells (1 * 8)).toList = [zeros8 8].flatten.map byte:=by kernel_rfl
set_option maxHeartbeats 1000000 in
theorem least_some (v:Value) (ao:Option Addr) (n cap:Nat) (w:World) (hv:v = .slice ao n cap) (h0:0 < n) (hn:n ≤ 4096) :
   Calls Tryz.prog 106 #[v] w fun e w'=>e = .returned v ∧ w' = w:=by
 subst hv
 have h1:¬ ((n:Int) = 0):=by omega
 go_enter Tryz.func106,Tryz.ntmps106
 go_wp2
 go_ret
 exact ⟨rfl,rfl⟩
set_option maxHeartbeats 1000000 in
theorem least_none (ao:Option Addr) (cap:Nat) (w:World) :
   Calls Tryz.prog 106 #[.slice ao 0 cap] w fun e w'=>∃ v,e = .returned v ∧ OwnK w' w.heap.size v [zeros8 8] ∧ Below w.heap.size w w':=by
 obtain ⟨i0,hi,hz0,hz1,hz2⟩:=info_parts Tryz.info208
 have hm:=made_block
 go_enter Tryz.func106,Tryz.ntmps106
 go_wp2_with (at_make;refine wpList_make_full _ rfl _ _ 206 rfl w.heap.size 208 i0 _ 8 Tryz.underlying206 hi hz0 hz1 .i64 .i64 _ _ 1 rfl rfl rfl rfl (by rw [hz2];omega) (by unfold maxLen;omega) (Nat.le_refl _) ?_;intro w0 hown0 hgrow0;rw [hm] at hown0;have bel0:=below_of_grown hgrow0)
 go_ret
 exact ⟨_,rfl,hown0,bel0⟩
theorem least_any (v:Value) (bl:List (List UInt8)) (base:Nat) (w:World) (hn:bl.length ≤ 4096) (hb:base ≤ w.heap.size) (h:OwnK w base v bl) :
   Calls Tryz.prog 106 #[v] w fun e w'=>∃ v',e = .returned v' ∧ OwnK w' base v' (leastOne bl) ∧ Below w.heap.size w w':=by
 unfold leastOne
 by_cases h0:bl.length = 0
 · rw [if_pos h0]
   obtain ⟨ao,cap,rfl⟩:∃ ao cap,v = .slice ao 0 cap:=by
     rcases h.2 with ⟨rfl,-⟩ | ⟨g,cap,cur,rfl,-⟩
     · exact ⟨none,0,rfl⟩
     · exact ⟨_,cap,by rw [h0]⟩
   refine (least_none ao cap w).mono ?_
   rintro e w' ⟨v',rfl,own,bel⟩
   exact ⟨v',rfl,own.mono hb,bel⟩
 · rw [if_neg h0]
   obtain ⟨ao,cap,hv⟩:∃ ao cap,v = .slice ao bl.length cap:=by
     rcases h.2 with ⟨rfl,h1⟩ | ⟨g,cap,cur,rfl,-⟩
     · omega
     · exact ⟨_,cap,rfl⟩
   refine (least_some v ao bl.length cap w hv (by omega) hn).mono ?_
   rintro e w' ⟨rfl,rfl⟩
   exact ⟨v,rfl,h,Below.refl _ _⟩
def macBlocks (data:List UInt8):List (List UInt8):=leastOne (chunks data (nBlocks data))
theorem macBlocks_eight (data:List UInt8):∀ b ∈ macBlocks data,b.length = 8:=by
 intro b hb
 unfold macBlocks leastOne at hb
 split at hb
 · simp only [List.mem_singleton] at hb;rw [hb];simp [zeros8]
 · simp only [chunks,List.mem_map] at hb
   obtain ⟨k,-,rfl⟩:=hb
   exact chunk_length _ _
theorem macBlocks_pos (data:List UInt8):0 < (macBlocks data).length:=by
 unfold macBlocks leastOne
 split
 · simp
 · omega
theorem macBlocks_le (data:List UInt8) (h:data.length ≤ 4096):(macBlocks data).length ≤ 4096:=by
 unfold macBlocks leastOne
 split
 · simp
 · rw [chunks_length];unfold nBlocks;omega
end Go.Proofs.YtbkokcjolanpeaaGreatDoor
