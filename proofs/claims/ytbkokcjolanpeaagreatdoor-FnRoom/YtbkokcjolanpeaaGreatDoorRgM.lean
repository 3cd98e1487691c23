import Derived.Test.YtbkokcjolanpeaaGreatDoorRgG
import Derived.Test.YtbkokcjolanpeaaGreatDoorRgL
import Derived.Test.YtbkokcjolanpeaaGreatDoorRgE
namespace Go.Proofs.YtbkokcjolanpeaaGreatDoor
open Go.RowKit
section
variable {P:Program} {o:Oper} {a:Act} {w:World} {K:Act → World → Prop} {Q:Exit → Act → World → Prop}
theorem wp_append_to (d:Option Tmp) (hd:o.dst = d) (s x:Operand) (t:TypeId) (ho:o.op = .call { callee:=.builtin .append,args:=#[s,x],argTypes:=#[t,t] })
   (base:Nat) (e:TypeId) (i:TypeInfo) (z:Value) (size bytes:Nat) (ht:P.underlying t = some (.slice e)) (hi:P.info? e = some i) (hz:i.zero = some z)
   (hsize:i.size = size) (hby:i.bytes = bytes) (hzs:z.cells.size = size) (hsz:0 < size)
   (v:Value) (n:Nat) (xs:List Value) (hs:a.eval s = v) (hown:w.ownsRow base e size v n xs)
   (ad:Addr) (m c:Nat) (news:List Value) (hx:a.eval x = .slice (some ad) m c) (hl:news.length = m * size) (hnews:∀ j u,news[j]? = some u → w.cell? (ad.add j) = some u) (h1:∀ u ∈ news,u.oneCell' = true)
   (h63:n + m ≤ maxLen) (hbytes:(n + m) * bytes ≤ 140737488355328) (hbase:base ≤ w.heap.size)
   (h:∀ v' w',w'.ownsRow base e size v' (n + m) (xs ++ news) → w.grownBy w' v.ownBlock → (v' = .slice none 0 0 ↔ v = .slice none 0 0 ∧ m = 0) → K (a.put d v') w'):o.wp P a w K Q:=by
 subst hd
 exact wp_append_own w s x t ho base e i z size bytes ht hi hz hsize hby hzs hsz v n xs hs hown ad m c news hx hl hnews h1 h63 hbytes hbase h
end
theorem row_news {w:World} {g:Nat} {l:List UInt8} (h:RowAt w (some ⟨g,0,none⟩) l):∀ j u,(l.map byte)[j]? = some u → w.cell? ((⟨g,0,none⟩:Addr).add j) = some u:=by
 intro j u hu
 obtain ⟨hj,he⟩:=List.getElem?_eq_some_iff.1 hu
 rw [List.length_map] at hj
 obtain ⟨b',o',he2,hc2⟩:=h.at hj
 cases he2
 rw [Addr.add_mid,hc2 j hj,← he]
 simp [byte,hj]
theorem all_one (l:List UInt8):∀ u ∈ l.map byte,u.oneCell' = true:=by
 intro u hu
 obtain ⟨x,-,rfl⟩:=List.mem_map.1 hu
 rfl
theorem hide {p:Prop} (h:p):Hid p:=h
def pad8Q (p:List UInt8):List UInt8:=p ++ zeros8 (16 - p.length)
theorem pad8_lengthQ (p:List UInt8) (h:p.length ≤ 16):(pad8Q p).length = 16:=by simp [pad8Q,zeros8];omega
theorem range_newsQ {w:World} {b o:Nat} {l:List UInt8} (h:w.rangeAt b o (l.map byte)):∀ j u,(l.map byte)[j]? = some u → w.cell? ((⟨b,o,none⟩:Addr).add j) = some u:=by
 intro j u hu
 rw [Addr.add_mid]
 exact h j u hu
set_option maxRecDepth 100000 in
set_option maxHeartbeats 1000000 in
theorem filled16_any (p:List UInt8) (b o cap:Nat) (w:World) (hp:p.length ≤ 16) (hr:w.rangeAt b o (p.map byte)) :
   Calls Tryz.prog 141 #[.slice (some ⟨b,o,none⟩) p.length cap] w fun e w'=>e = .returned (.agg ((pad8Q p).map byte).toArray) ∧ Below w.heap.size w w':=by
 have hz:=(zero_of_info Tryz.zero88).1
 obtain ⟨W,hW⟩:∃ W,W = (w.alloc (.cells (zerosOf 16 .u8).toArray 88)).alloc (.cells (zerosOf 16 .u8).toArray 88):=⟨_,rfl⟩
 have k0:Blk W w.heap.size 88 (zerosOf 16 .u8):=by rw [hW];exact (Blk.new w _ _).alloc _
 have k1:Blk W (w.heap.size + 1) 88 (zerosOf 16 .u8):=by rw [hW];exact Blk.new2 w _ _ _
 have bW:Below w.heap.size w W:=by rw [hW];exact (below_new w _).alloc (by simp) _
 have hlen:=pad8_lengthQ p hp
 have hlm:((pad8Q p).map byte).length = 16:=by rw [List.length_map,hlen]
 have hcs:(zerosOf 16 .u8).toArray.toList.take 0 ++ (p.map byte ++ (zerosOf 16 .u8).toArray.toList.drop (0 + (p.map byte).length)) = (pad8Q p).map byte:=by
   rw [List.toList_toArray,List.take_zero,List.nil_append,Nat.zero_add,List.length_map]
   unfold pad8Q zerosOf zeros8
   rw [List.drop_replicate,List.map_append,List.map_replicate]
   rfl
 have hmin:(p.map byte).length = Nat.min p.length 16:=by rw [List.length_map];exact (Nat.min_eq_left hp).symm
 have hnews:=range_newsQ (range_below hr bW)
 have hone:=all_one p
 have hfit:0 + (p.map byte).length ≤ (zerosOf 16 .u8).toArray.size:=by rw [List.length_map,List.size_toArray,zerosOf_length];omega
 have k2:=Blk.setRow k1 ((pad8Q p).map byte)
 have k3:Blk (W.setRow (w.heap.size + 1) ((pad8Q p).map byte).toArray) w.heap.size 88 (zerosOf 16 .u8):=k0.setRow_other (by omega)
 have b2:=below_setRow' (g:=w.heap.size + 1) bW (by omega) ((pad8Q p).map byte).toArray
 obtain ⟨L,hL⟩:∃ L,L = (pad8Q p).map byte:=⟨_,rfl⟩
 have hlo:=allOne_bytes (pad8Q p)
 rw [← hL] at hlm hcs k2 k3 b2 hlo ⊢
 have gW:Hid (W = (w.alloc (.cells (zerosOf 16 .u8).toArray 88)).alloc (.cells (zerosOf 16 .u8).toArray 88)):=hW
 clear hW hL hr hlen
 go_enter Tryz.func141,Tryz.ntmps141
 go_upto_region 2 with fail
 rw [← show W = _ from gW]
 clear gW
 go_wp2_with (first
   | (refine wpList_copy_own rfl _ _ 22 22 rfl 5 Tryz.underlying22 (by kernel_rfl) (w.heap.size + 1) 0 16 16 ⟨b,o,none⟩ p.length cap rfl rfl _ 88 k1 (p.map byte) hmin hnews hfit hone ?_;rw [hcs])
   | (refine load_blk rfl 88 _ rfl _ rfl k2 Tryz.underlying88 rfl (by rw [hlm];kernel_rfl) ?_)
   | (refine store_blk rfl 88 _ _ rfl _ rfl rfl k3 (by rw [hlm];kernel_rfl) (by rw [hlm];exact zerosOf_length _ _) hlo ?_;intro w3 hb3 hg3 hs3))
 exact bodyPost_ret (v:=.agg L.toArray) (results_blk Tryz.results141 _ _ rfl hb3 Tryz.underlying88 rfl (by rw [hlm];kernel_rfl)) rfl ⟨rfl,b2.grown hg3 b2.size (by intro k hk;cases hk;exact Nat.le_refl _)⟩
theorem fill_oneQ (N:Nat) (a:List Value) (cells:Array Value) (hc:cells.size = N) (ha:a.length = N):Instr.fill (fun i=>some (i * N,N)) cells [(0,.agg a.toArray)] = some a.toArray:=by
 have e1:=fold_whole a 0 cells (by omega)
 simp only [Nat.zero_add,List.take_zero,List.nil_append,ha] at e1
 rw [List.drop_of_length_le (by rw [Array.length_toList];omega),List.append_nil] at e1
 simp only [Instr.fill,Value.cells,List.size_toArray,ha,Nat.zero_mul,Nat.zero_add,ne_eq,not_true_eq_false,decide_false,Bool.false_or,decide_eq_true_eq,← Array.foldl_toList,Array.toList_zipIdx,e1]
 rw [if_neg (by omega)]
theorem run_buildSlice1Q {P:Program} (w:World) (t e N:Nat) (z:Value) (a:List Value) (ht:P.underlying t = some (.slice e)) (hz:(P.info? e).map (fun i=>(i.zero,i.size)) = some (some z,N)) (ha:a.length = N) (h0:0 < N) (hN:N ≤ 1048576) :
   (Instr.buildSlice t 1 #[(0,.agg a.toArray)]).run P w = .ok (.slice (some ⟨w.heap.size,0,none⟩) 1 1) (w.alloc (.cells a.toArray e)):=by
 cases hq:P.info? e with
 | none=>simp [hq] at hz
 | some i =>
   have hz1:i.zero = some z:=by simp [hq] at hz;exact hz.1
   have hz2:i.size = N:=by simp [hq] at hz;exact hz.2
   have h1:¬ (N > 16777216):=by omega
   have h2:¬ (N = 0):=by omega
   have hf:=fill_oneQ N a ((Array.range (1 * N)).map (z.cells[· % z.cells.size]!)) (by simp) ha
   have hsz:∀ wx,(sizeOf e).run P wx = .ok N wx:=fun wx=>by simp [sizeOf,typeInfo,hq,hz2]
   have hzv:∀ wx,(zeroValue e).run P wx = .ok z wx:=fun wx=>by simp [zeroValue,typeInfo,hq,hz1]
   rw [Nat.one_mul] at hf
   simp [Instr.buildSlice,run_underlying ht,hsz,hzv,hf,newRow]
   rw [if_neg h1,if_neg h2]
section
variable {P:Program} {op:Oper} {a:Act} {w:World} {K:Act → World → Prop} {Q:Exit → Act → World → Prop} {ops:Array Oper} {rest:List Oper}
theorem wp_build1Q (d:Option Tmp) (hd:op.dst = d) (t:TypeId) (x:Operand) (ho:op.op = .buildSlice t 1 #[(0,x)]) (e N:Nat) (z:Value) (A:List Value) (hx:a.eval x = .agg A.toArray)
   (ht:P.underlying t = some (.slice e)) (hz:(P.info? e).map (fun i=>(i.zero,i.size)) = some (some z,N)) (hA:A.length = N) (h0:0 < N) (hN:N ≤ 1048576)
   (h:K (a.put d (.slice (some ⟨w.heap.size,0,none⟩) 1 1)) (w.alloc (.cells A.toArray e))):op.wp P a w K Q:=by
 subst hd
 unfold Oper.wp execOp
 simp only [ho,List.map_toArray,List.map_cons,List.map_nil,hx,Sem.run_bind,run_buildSlice1Q w t e N z A ht hz hA h0 hN,Result.andThen_ok]
 exact h
theorem wpList_build1Q (hgd:op.guard = none) (t:TypeId) (x:Operand) (ho:op.op = .buildSlice t 1 #[(0,x)]) (e N:Nat) (z:Value) (A:List Value) (hx:a.eval x = .agg A.toArray)
   (ht:P.underlying t = some (.slice e)) (hz:(P.info? e).map (fun i=>(i.zero,i.size)) = some (some z,N)) (hA:A.length = N) (h0:0 < N) (hN:N ≤ 1048576)
   (h:wpList P ops Q rest (a.put op.dst (.slice (some ⟨w.heap.size,0,none⟩) 1 1)) (w.alloc (.cells A.toArray e))):wpList P ops Q (op :: rest) a w :=
 wpList_plain hgd fun _ hK=>wp_build1Q op.dst rfl t x ho e N z A hx ht hz hA h0 hN (hK _ _ h)
theorem wpList_build2Q (hgd:op.guard = none) (t:TypeId) (x y:Operand) (ho:op.op = .buildSlice t 2 #[(0,x),(1,y)]) (e N:Nat) (z:Value) (A B:List Value) (hx:a.eval x = .agg A.toArray) (hy:a.eval y = .agg B.toArray)
   (ht:P.underlying t = some (.slice e)) (hz:(P.info? e).map (fun i=>(i.zero,i.size)) = some (some z,N)) (hA:A.length = N) (hB:B.length = N) (h0:0 < N) (hN:N ≤ 1048576)
   (h:wpList P ops Q rest (a.put op.dst (.slice (some ⟨w.heap.size,0,none⟩) 2 2)) (w.alloc (.cells (A ++ B).toArray e))):wpList P ops Q (op :: rest) a w :=
 wpList_plain hgd fun _ hK=>wp_build2 op.dst rfl t x y ho e N z A B hx hy ht hz hA hB h0 hN (hK _ _ h)
end
def OwnKQ (w:World) (base:Nat) (v:Value) (bl:List (List UInt8)):Prop:=w.ownsRow base 88 16 v bl.length (bl.flatten.map byte)
theorem OwnKQ.below {w w':World} {base:Nat} {v:Value} {l:List (List UInt8)} (h:OwnKQ w base v l) (hb:Below w.heap.size w w'):OwnKQ w' base v l :=
 World.ownsRow.kept h (grown_of_below hb none) (by cases hv:v.ownBlock <;> simp)
theorem OwnKQ.mono {w:World} {B base:Nat} {v:Value} {l:List (List UInt8)} (h:OwnKQ w base v l) (hB:B ≤ base):OwnKQ w B v l:=by
 refine ⟨h.1,?_⟩
 rcases h.2 with h | ⟨g,cap,cur,hv,hb,r⟩
 · exact .inl h
 · exact .inr ⟨g,cap,cur,hv,by omega,r⟩
def chunkQ (data:List UInt8) (k:Nat):List UInt8:=pad8Q ((data.drop (16 * k)).take 16)
def chunksQ (data:List UInt8) (k:Nat):List (List UInt8):=(List.range k).map (chunkQ data)
theorem chunks_succQ (data:List UInt8) (k:Nat):chunksQ data (k + 1) = chunksQ data k ++ [chunkQ data k]:=by simp [chunksQ,List.range_succ]
theorem chunks_lengthQ (data:List UInt8) (k:Nat):(chunksQ data k).length = k:=by simp [chunksQ]
theorem chunk_lengthQ (data:List UInt8) (k:Nat):(chunkQ data k).length = 16:=pad8_lengthQ _ (by rw [List.length_take];omega)
theorem range_partQ {w:World} {b o:Nat} {l:List UInt8} (h:w.rangeAt b o (l.map byte)) (k n:Nat):w.rangeAt b (o + k) (((l.drop k).take n).map byte):=by
 intro j v hv
 rw [List.map_take,List.getElem?_take] at hv
 split at hv
 · rw [List.map_drop,List.getElem?_drop] at hv
   rw [Nat.add_assoc]
   exact h (k + j) v hv
 · cases hv
theorem Tryz.info88:(Tryz.prog.info? 88).map (fun i=>(i.zero,i.size,i.bytes)) = some (some (.agg (zerosOf 16 .u8).toArray),16,16):=by kernel_rfl
theorem ownK_snocQ {w1:World} {base:Nat} {v1:Value} {bl:List (List UInt8)} {x:List UInt8} (h:w1.ownsRow base 88 16 v1 (bl.length + 1) (bl.flatten.map byte ++ x.map byte)):OwnKQ w1 base v1 (bl ++ [x]):=by
 unfold OwnKQ
 rw [List.length_append,List.flatten_append,List.map_append]
 simpa using h
set_option maxRecDepth 100000 in
set_option maxHeartbeats 2000000 in
theorem cut_someQ (data:List UInt8) (b o cap:Nat) (w:World) (hn:data.length ≤ 4096) (hc:data.length ≤ cap) (hr:w.rangeAt b o (data.map byte)) :
   Calls Tryz.prog 140 #[.slice (some ⟨b,o,none⟩) data.length cap,.int .i64 16,.func (.func 141) #[] #[]] w fun e w'=>∃ v,e = .returned v ∧ OwnKQ w' w.heap.size v (chunksQ data ((data.length + 15) / 16)) ∧ Below w.heap.size w w':=by
 obtain ⟨i0,hi,hz0,hz1,hz2⟩:=info_parts Tryz.info88
 obtain ⟨n,hnl⟩:∃ n,n = data.length:=⟨_,rfl⟩
 have HF:Hid (∀ (a k L:Nat) (wx:World),a = 16 * k → L = min 16 (n - a) → Below w.heap.size w wx → Calls Tryz.prog 141 #[.slice (some ⟨b,o + a,none⟩) L (cap - a)] wx fun x w'=>x = .returned (.agg ((chunkQ data k).map byte).toArray) ∧ Below wx.heap.size wx w'):=by
   intro a k L wx ha hL hb
   subst ha
   have:=filled16_any ((data.drop (16 * k)).take 16) b (o + 16 * k) (cap - 16 * k) wx (by rw [List.length_take];omega) (range_below (range_partQ hr (16 * k) 16) hb)
   rw [show ((data.drop (16 * k)).take 16).length = L from by rw [List.length_take,List.length_drop];omega] at this
   exact this
 have HN:Hid (n = data.length):=hnl
 rw [← hnl] at hn hc ⊢
 clear hr hnl
 go_enter Tryz.func140,Tryz.ntmps140
 go_wp2
 go_loopw [7,8] (fun v i wr=>∃ k:Nat,16 * k ≤ n + 15 ∧ i = .int .i64 ((16 * k:Nat):Int) ∧ OwnKQ wr w.heap.size v (chunksQ data k) ∧ Below w.heap.size w wr) (fun _ i _=>n + 16 - (intOf i).toNat)
 case atStart=>exact ⟨0,by omega,rfl,World.ownsRow_nil _ _ _ _,Below.refl _ _⟩
 case round =>
   obtain ⟨k,hk,rfl,hown,hbel⟩:=hrel
   obtain ⟨a,ha⟩:∃ a,a = 16 * k:=⟨_,rfl⟩
   have HA:Hid (a = 16 * k):=ha
   rw [← ha] at hk ⊢
   clear ha
   by_cases hlt:a < n
   · have haI:(a:Int) < (n:Int):=by omega
     have haI0:(0:Int) ≤ (a:Int):=by omega
     have hcI:(n:Int) ≤ (cap:Int):=by omega
     have hwa:IntKind.i64.wrap ((a:Int) + 16) = ((a + 16:Nat):Int):=by rw [IntKind.wrap_i64];omega
     have hcl:=chunk_lengthQ data k
     have HS:=hide (chunks_succQ data k)
     have hkl:=chunks_lengthQ data k
     obtain ⟨X,hX⟩:∃ X,X = chunkQ data k:=⟨_,rfl⟩
     rw [← hX] at hcl HS
     have hXm:(X.map byte).length = 16:=by rw [List.length_map,hcl]
     have hone:=all_one X
     have hsz:=hbel.size
     have hk2:k ≤ 4096:=by have:=HA.out;omega
     have HK:Hid (∀ L wx,L = min 16 (n - a) → Below w.heap.size w wx → Calls Tryz.prog 141 #[.slice (some ⟨b,o + a,none⟩) L (cap - a)] wx fun x w'=>x = .returned (.agg (X.map byte).toArray) ∧ Below wx.heap.size wx w'):=by
       intro L wx hL hb;rw [hX];exact HF.out a k L wx HA.out hL hb
     clear hX
     by_cases h8:a + 16 ≤ n
     · have h8I:((a:Int) + 16) ≤ (n:Int):=by omega
       have h8c:((a:Int) + 16) ≤ (cap:Int):=by omega
       have h8a:(a:Int) ≤ (a:Int) + 16:=by omega
       go_wp2_with (first
         | (go_at_call 141;refine (HK.out _ _ (by omega) hbel).mono ?_;rintro e1 w1 ⟨rfl,bel1⟩;have b1:=(hbel.trans (bel1.mono hsz));have o1:=(hown.below bel1).alloc (.cells (X.map byte).toArray 88);have n1:Blk (w1.alloc (.cells (X.map byte).toArray 88)) w1.heap.size 88 (X.map byte):=(Blk.new w1 _ _);have hnews:=range_newsQ (blk_whole n1);have b1a:=(b1.alloc b1.size (.cells (X.map byte).toArray 88)))
         | (refine wpList_build1Q rfl 148 _ rfl 88 16 _ (X.map byte) rfl Tryz.underlying148 Tryz.zero88 hXm (by omega) (by omega) ?_)
         | (at_builtin;refine wpList_append_own _ rfl _ _ 148 rfl w.heap.size 88 i0 _ 16 16 Tryz.underlying148 hi hz0 hz1 hz2 rfl (by decide) _ _ _ rfl o1 ⟨w1.heap.size,0,none⟩ 1 1 (X.map byte) rfl hXm hnews hone (by unfold maxLen;omega) (by omega) b1a.size ?_;intro v1 w2 hown1 hgrow1 hnil1))
       have R1:OwnKQ w2 w.heap.size v1 (chunksQ data (k + 1)):=by rw [HS.out];exact ownK_snocQ hown1
       have R2:=b1a.grown hgrow1 b1a.size (fun j hj=>(o1.lt j hj).1)
       clear hown1 hgrow1 hnil1 hown hbel o1 n1 hnews b1 b1a
       go_wp2
       go_roundw
       case rel=>exact ⟨k + 1,by have:=HA.out;omega,by have:=HA.out;go_num,R1,R2⟩
       case measure=>simp [intOf];omega
     · have h8I:¬ ((a:Int) + 16) ≤ (n:Int):=by omega
       go_wp2_with (first
         | (go_at_call 141;refine (HK.out _ _ (by omega) hbel).mono ?_;rintro e1 w1 ⟨rfl,bel1⟩;have b1:=(hbel.trans (bel1.mono hsz));have o1:=(hown.below bel1).alloc (.cells (X.map byte).toArray 88);have n1:Blk (w1.alloc (.cells (X.map byte).toArray 88)) w1.heap.size 88 (X.map byte):=(Blk.new w1 _ _);have hnews:=range_newsQ (blk_whole n1);have b1a:=(b1.alloc b1.size (.cells (X.map byte).toArray 88)))
         | (refine wpList_build1Q rfl 148 _ rfl 88 16 _ (X.map byte) rfl Tryz.underlying148 Tryz.zero88 hXm (by omega) (by omega) ?_)
         | (at_builtin;refine wpList_append_own _ rfl _ _ 148 rfl w.heap.size 88 i0 _ 16 16 Tryz.underlying148 hi hz0 hz1 hz2 rfl (by decide) _ _ _ rfl o1 ⟨w1.heap.size,0,none⟩ 1 1 (X.map byte) rfl hXm hnews hone (by unfold maxLen;omega) (by omega) b1a.size ?_;intro v1 w2 hown1 hgrow1 hnil1))
       have R1:OwnKQ w2 w.heap.size v1 (chunksQ data (k + 1)):=by rw [HS.out];exact ownK_snocQ hown1
       have R2:=b1a.grown hgrow1 b1a.size (fun j hj=>(o1.lt j hj).1)
       clear hown1 hgrow1 hnil1 hown hbel o1 n1 hnews b1 b1a
       go_wp2
       go_roundw
       case rel=>exact ⟨k + 1,by have:=HA.out;omega,by have:=HA.out;go_num,R1,R2⟩
       case measure=>simp [intOf];omega
   · go_wp2
     go_ret
     rw [show (n + 15) / 16 = k from by have:=HA.out;omega]
     exact ⟨_,rfl,hown,hbel⟩
def befLQ (f:List UInt8 → List UInt8) (iv:List UInt8) (bl:List (List UInt8)):Nat → List UInt8
 | 0=>iv
 | k + 1=>f (xorL (bl.getD k []) (befLQ f iv bl k))
def outLQ (f:List UInt8 → List UInt8) (iv:List UInt8) (bl:List (List UInt8)) (k:Nat):List (List UInt8):=(List.range k).map fun j=>befLQ f iv bl (j + 1)
theorem outL_succQ (f:List UInt8 → List UInt8) (iv:List UInt8) (bl:List (List UInt8)) (k:Nat):outLQ f iv bl (k + 1) = outLQ f iv bl k ++ [befLQ f iv bl (k + 1)]:=by simp [outLQ,List.range_succ]
theorem outL_lengthQ (f:List UInt8 → List UInt8) (iv:List UInt8) (bl:List (List UInt8)) (k:Nat):(outLQ f iv bl k).length = k:=by simp [outLQ]
theorem befL_lengthQ (f:List UInt8 → List UInt8) (hf:∀ x,(f x).length = 16) (iv:List UInt8) (hiv:iv.length = 16) (bl:List (List UInt8)) (k:Nat):(befLQ f iv bl k).length = 16:=by
 cases k with
 | zero=>exact hiv
 | succ k=>exact hf _
def BlksQ (w:World) (ao:Option Addr) (bl:List (List UInt8)):Prop:=∀ k,k < bl.length → ∃ g off,ao = some ⟨g,off,none⟩ ∧ w.rangeAt g (off + k * 16) ((bl.getD k []).map byte)
theorem flat_take8Q (bl:List (List UInt8)) (h8:∀ b ∈ bl,b.length = 16) (k:Nat) (hk:k ≤ bl.length):(bl.take k).flatten.length = k * 16:=by
 induction k with
 | zero=>simp
 | succ k ih =>
   rw [flat_snoc bl k (by omega),List.length_append,ih (by omega)]
   have:(bl.getD k []).length = 16:=by
     rw [show bl.getD k [] = bl[k] from by simp [show k < bl.length from by omega]]
     exact h8 _ (List.getElem_mem _)
   omega
theorem OwnKQ.blks {w:World} {base:Nat} {v:Value} {bl:List (List UInt8)} (h:OwnKQ w base v bl) (h8:∀ b ∈ bl,b.length = 16):∃ ao cap,v = .slice ao bl.length cap ∧ bl.length ≤ cap ∧ BlksQ w ao bl:=by
 rcases h.2 with ⟨rfl,hn⟩ | ⟨g,cap,cur,rfl,hb,hh,hn,hm,hs,ht⟩
 · exact ⟨none,0,by rw [hn],by omega,fun k hk=>by omega⟩
 · refine ⟨_,cap,rfl,hn,fun k hk=>⟨g,0,rfl,?_⟩⟩
   intro j v hv
   have hl:bl.getD k [] = bl[k]:=by simp [hk]
   have hlen:(bl.getD k []).length = 16:=by rw [hl];exact h8 _ (List.getElem_mem _)
   have hj:j < 16:=by have:=(List.getElem?_eq_some_iff.1 hv).1;rw [List.length_map,hlen] at this;exact this
   have hcell:=h.cells (g:=g) rfl (k * 16 + j) v (by
     have e:bl.flatten = (bl.take k).flatten ++ (bl.getD k [] ++ (bl.drop (k + 1)).flatten):=by
       rw [← List.append_assoc,← flat_snoc bl k hk,← List.flatten_append,List.take_append_drop]
     rw [e,List.map_append,List.map_append,List.getElem?_append_right (by rw [List.length_map,flat_take8Q bl h8 k (by omega)];omega),List.length_map,flat_take8Q bl h8 k (by omega),Nat.add_sub_cancel_left,List.getElem?_append_left (by rw [List.length_map,hlen];exact hj)]
     exact hv)
   rw [Addr.add_mid] at hcell
   rw [Nat.zero_add] at hcell ⊢
   exact hcell
set_option maxHeartbeats 1000000 in
theorem cut_emptyQ (ao:Option Addr) (cap:Nat) (w:World) :
   Calls Tryz.prog 140 #[.slice ao 0 cap,.int .i64 16,.func (.func 141) #[] #[]] w fun e w'=>e = .returned (.slice none 0 0) ∧ w' = w:=by
 go_enter Tryz.func140,Tryz.ntmps140
 go_wp2
 go_loop [7,8] (fun v i=>v = .slice none 0 0 ∧ i = .int .i64 0) (fun _ _=>0)
 case atStart=>exact ⟨rfl,rfl⟩
 case round =>
   obtain ⟨rfl,rfl⟩:=hrel
   go_wp2
   go_ret
   exact ⟨rfl,rfl⟩
def nBlocksQ (data:List UInt8):Nat:=(data.length + 15) / 16
theorem cut_anyQ (data:List UInt8) (ao:Option Addr) (cap:Nat) (w:World) (hn:data.length ≤ 4096) (hc:data.length ≤ cap) (hr:RowAt w ao data) :
   Calls Tryz.prog 140 #[.slice ao data.length cap,.int .i64 16,.func (.func 141) #[] #[]] w fun e w'=>∃ v,e = .returned v ∧ OwnKQ w' w.heap.size v (chunksQ data (nBlocksQ data)) ∧ Below w.heap.size w w':=by
 by_cases h0:0 < data.length
 · obtain ⟨b,o,rfl,hrg⟩:=hr.range h0
   exact cut_someQ data b o cap w hn hc hrg
 · obtain rfl:data = []:=List.length_eq_zero_iff.1 (by omega)
   refine (cut_emptyQ ao cap w).mono ?_
   rintro e w' ⟨rfl,rfl⟩
   exact ⟨_,rfl,World.ownsRow_nil _ _ _ _,Below.refl _ _⟩
def leastOneQ (bl:List (List UInt8)):List (List UInt8):=if bl.length = 0 then [zeros8 16] else bl
theorem made_blockQ:(madeCells (Value.agg (zerosOf 16 .u8).toArray).cells (1 * 16)).toList = [zeros8 16].flatten.map byte:=by kernel_rfl
set_option maxHeartbeats 1000000 in
theorem least_someQ (v:Value) (ao:Option Addr) (n cap:Nat) (w:World) (hv:v = .slice ao n cap) (h0:0 < n) (hn:n ≤ 4096) :
   Calls Tryz.prog 139 #[v] w fun e w'=>e = .returned v ∧ w' = w:=by
 subst hv
 have h1:¬ ((n:Int) = 0):=by omega
 go_enter Tryz.func139,Tryz.ntmps139
 go_wp2
 go_ret
 exact ⟨rfl,rfl⟩
set_option maxHeartbeats 1000000 in
theorem least_noneQ (ao:Option Addr) (cap:Nat) (w:World) :
   Calls Tryz.prog 139 #[.slice ao 0 cap] w fun e w'=>∃ v,e = .returned v ∧ OwnKQ w' w.heap.size v [zeros8 16] ∧ Below w.heap.size w w':=by
 obtain ⟨i0,hi,hz0,hz1,hz2⟩:=info_parts Tryz.info88
 have hm:=made_blockQ
 go_enter Tryz.func139,Tryz.ntmps139
 go_wp2_with (at_make;refine wpList_make_full _ rfl _ _ 148 rfl w.heap.size 88 i0 _ 16 Tryz.underlying148 hi hz0 hz1 .i64 .i64 _ _ 1 rfl rfl rfl rfl (by rw [hz2];omega) (by unfold maxLen;omega) (Nat.le_refl _) ?_;intro w0 hown0 hgrow0;rw [hm] at hown0;have bel0:=below_of_grown hgrow0)
 go_ret
 exact ⟨_,rfl,hown0,bel0⟩
theorem least_anyQ (v:Value) (bl:List (List UInt8)) (base:Nat) (w:World) (hn:bl.length ≤ 4096) (hb:base ≤ w.heap.size) (h:OwnKQ w base v bl) :
   Calls Tryz.prog 139 #[v] w fun e w'=>∃ v',e = .returned v' ∧ OwnKQ w' base v' (leastOneQ bl) ∧ Below w.heap.size w w':=by
 unfold leastOneQ
 by_cases h0:bl.length = 0
 · rw [if_pos h0]
   obtain ⟨ao,cap,rfl⟩:∃ ao cap,v = .slice ao 0 cap:=by
     rcases h.2 with ⟨rfl,-⟩ | ⟨g,cap,cur,rfl,-⟩
     · exact ⟨none,0,rfl⟩
     · exact ⟨_,cap,by rw [h0]⟩
   refine (least_noneQ ao cap w).mono ?_
   rintro e w' ⟨v',rfl,own,bel⟩
   exact ⟨v',rfl,own.mono hb,bel⟩
 · rw [if_neg h0]
   obtain ⟨ao,cap,hv⟩:∃ ao cap,v = .slice ao bl.length cap:=by
     rcases h.2 with ⟨rfl,h1⟩ | ⟨g,cap,cur,rfl,-⟩
     · omega
     · exact ⟨_,cap,rfl⟩
   refine (least_someQ v ao bl.length cap w hv (by omega) hn).mono ?_
   rintro e w' ⟨rfl,rfl⟩
   exact ⟨v,rfl,h,Below.refl _ _⟩
def macBlocksQ (data:List UInt8):List (List UInt8):=leastOneQ (chunksQ data (nBlocksQ data))
theorem macBlocks_eightQ (data:List UInt8):∀ b ∈ macBlocksQ data,b.length = 16:=by
 intro b hb
 unfold macBlocksQ leastOneQ at hb
 split at hb
 · simp only [List.mem_singleton] at hb;rw [hb];simp [zeros8]
 · simp only [chunksQ,List.mem_map] at hb
   obtain ⟨k,-,rfl⟩:=hb
   exact chunk_lengthQ _ _
theorem macBlocks_posQ (data:List UInt8):0 < (macBlocksQ data).length:=by
 unfold macBlocksQ leastOneQ
 split
 · simp
 · omega
theorem macBlocks_leQ (data:List UInt8) (h:data.length ≤ 4096):(macBlocksQ data).length ≤ 4096:=by
 unfold macBlocksQ leastOneQ
 split
 · simp
 · rw [chunks_lengthQ];unfold nBlocksQ;omega
set_option maxRecDepth 100000 in
set_option maxHeartbeats 4000000 in
theorem chainE_aes (f:List UInt8 → List UInt8) (hf:∀ x,(f x).length = 16) (C:Value) (iv:List UInt8) (hiv:iv.length = 16) (bl:List (List UInt8)) (h8:∀ b ∈ bl,b.length = 16) (ao:Option Addr) (m cap:Nat) (hm:bl.length = m) (hm1:m ≤ 4096) (w:World) (hs:BlksQ w ao bl)
   (HT:∀ x wx,x.length = 16 → Below w.heap.size w wx → Calls Tryz.prog 34 #[C,.agg (x.map byte).toArray] wx fun e w'=>e = .returned (.agg ((f x).map byte).toArray) ∧ Below wx.heap.size wx w') :
   Calls Tryz.prog 79 #[.func (.func 34) #[C] #[],.func (.func 32) #[] #[],.agg (iv.map byte).toArray,.slice ao m cap,.bool false] w fun e w'=>∃ v,e = .returned v ∧ OwnKQ w' w.heap.size v (outLQ f iv bl m) ∧ Below w.heap.size w w':=by
 obtain ⟨i0,hi,hz0,hz1,hz2⟩:=info_parts Tryz.info88
 have hz:=(zero_of_info Tryz.zero88).1
 have hbl:=befL_lengthQ f hf iv hiv bl
 have hil:(iv.map byte).length = 16:=by rw [List.length_map,hiv]
 have k0:Blk (w.alloc (.cells (iv.map byte).toArray 88)) w.heap.size 88 (iv.map byte):=Blk.new w _ _
 have HX:=hide (fun (a b:List UInt8) (g:Nat) (wx:World) (ha:a.length = 16) (hb:b.length = 16) (h:Blk wx g 88 (a.map byte ++ b.map byte))=>xor16_two a b g 2 88 wx ha hb h)
 replace HT:=hide HT
 have HB:=hide hs
 have H8:=hide h8
 clear hs h8
 go_enter Tryz.func79,Tryz.ntmps79
 go_upto_region 3 with (first
   | (at_make;refine wpList_make_own _ rfl _ _ 148 rfl w.heap.size 88 i0 _ 16 Tryz.underlying148 hi hz0 hz1 .i64 .i64 _ m rfl rfl rfl (by rw [hz2];omega) (by unfold maxLen;omega) (by simp) ?_;intro w0 own0 gr0;have bel0:=below_of_grown gr0)
   | (refine load_blk rfl 88 _ rfl _ rfl (k0.below bel0 k0.lt) Tryz.underlying88 rfl (by rw [hil];kernel_rfl) ?_)
   | (refine store_blk rfl 88 _ _ rfl _ rfl rfl (Blk.new w0 _ _) (by rw [hil];kernel_rfl) (by rw [hil];exact zerosOf_length _ _) (allOne_bytes _) ?_;intro w1 hb1 hg1 hs1))
 have hsz:w0.heap.size ≥ w.heap.size + 2:=by
   have h:=own0.lt (w.heap.size + 1) (by simp [Value.ownBlock])
   omega
 have bel1:Below w0.heap.size w0 w1:=(below_new w0 _).grown hg1 (by simp) (by intro k hk;cases hk;exact Nat.le_refl _)
 have bw:Below w.heap.size w w1:=below_step (below_step (below_new w _) bel0) bel1
 have o0:w1.ownsRow w.heap.size 88 16 (.slice (some ⟨w.heap.size + 1,0,none⟩) 0 m) 0 []:=World.ownsRow.kept (by simpa using own0) (grown_of_below bel1 none) (by right;simp [Value.ownBlock])
 obtain ⟨B,hB⟩:∃ B,B = w0.heap.size:=⟨_,rfl⟩
 obtain ⟨G,hG⟩:∃ G,G = w.heap.size + 1:=⟨_,rfl⟩
 have hGB:G < B:=by omega
 have hwG:w.heap.size < G:=by omega
 rw [← hB] at hb1 ⊢
 rw [← hG] at o0 ⊢
 have q0:Blk w1 B 88 (iv.map byte):=hb1
 clear hb1 hg1 hs1 bel1 own0 gr0 bel0 hB hG hsz k0
 go_wp2_with fail
 go_loopw [11,14,21] (fun v _ i wr=>∃ k:Nat,k ≤ m ∧ i = .int .i64 k ∧ v = .slice (some ⟨G,0,none⟩) k m ∧ wr.ownsRow w.heap.size 88 16 (.slice (some ⟨G,0,none⟩) k m) k ((outLQ f iv bl k).flatten.map byte) ∧ Blk wr B 88 ((befLQ f iv bl k).map byte) ∧ Below w.heap.size w wr) (fun _ _ i _=>m - (intOf i).toNat)
 case atStart=>exact ⟨0,Nat.zero_le _,rfl,rfl,o0,q0,bw⟩
 case round =>
   clear o0 q0 bw
   obtain ⟨k,hk,rfl,rfl,hown,kB,hbel⟩:=hrel
   by_cases hlt:k < m
   · obtain ⟨g,off,rfl,hr0⟩:=HB.out k (by omega)
     have hrk:=range_below hr0 hbel
     have hXl:(bl.getD k []).length = 16:=by
       rw [show bl.getD k [] = bl[k] from by simp [show k < bl.length from by omega]]
       exact H8.out _ (List.getElem_mem _)
     have hPl:=hbl k
     have HN:=hide (show befLQ f iv bl (k + 1) = f (xorL (bl.getD k []) (befLQ f iv bl k)) from rfl)
     have HO:=hide (outL_succQ f iv bl k)
     obtain ⟨X,hX⟩:∃ X,X = bl.getD k []:=⟨_,rfl⟩
     obtain ⟨P,hP⟩:∃ P,P = befLQ f iv bl k:=⟨_,rfl⟩
     rw [← hX] at hrk hXl HN
     rw [← hP] at kB hPl HN
     have hYl:(xorL X P).length = 16:=by rw [xorL_length _ _ (by omega),hXl]
     obtain ⟨Y,hY⟩:∃ Y,Y = xorL X P:=⟨_,rfl⟩
     have HXY:=hide (fun (g:Nat) (wx:World) (h:Blk wx g 88 (X.map byte ++ P.map byte))=>HX.out X P g wx hXl hPl h)
     rw [← hY] at HXY HN hYl
     have HTY:=hide (fun (wx:World) (h:Below w.heap.size w wx)=>HT.out Y wx hYl h)
     have hNl:=hf Y
     obtain ⟨N,hN⟩:∃ N,N = f Y:=⟨_,rfl⟩
     rw [← hN] at HTY HN hNl
     have hXm:(X.map byte).length = 16:=by rw [List.length_map,hXl]
     have hPm:(P.map byte).length = 16:=by rw [List.length_map,hPl]
     have hNm:(N.map byte).length = 16:=by rw [List.length_map,hNl]
     have hkI:(k:Int) < (m:Int):=by omega
     have lB:=kB.lt
     have lG:=(hown.lt G (by simp [Value.ownBlock])).2
     clear hX hP hY hN hr0
     go_wp2_with (first
       | (refine wpList_load_mid rfl 88 _ rfl g (off + k * 16) rfl (X.map byte) _ hrk Tryz.underlying88 rfl (by rw [hXm];kernel_rfl) ?_)
       | (refine store_blk rfl 88 _ _ rfl _ rfl rfl (Blk.new wr _ _) (by rw [hXm];kernel_rfl) (by rw [hXm];exact zerosOf_length _ _) (allOne_bytes _) ?_;intro w2 hb2 hg2 hs2;clear hs2;have bel2:Below wr.heap.size wr w2:=((below_new wr _).grown hg2 (by simp) (by intro k hk;cases hk;exact Nat.le_refl _));have kB2:=kB.below bel2 lB;have n2:Blk (w2.alloc (.cells (X.map byte ++ P.map byte).toArray 88)) w2.heap.size 88 (X.map byte ++ P.map byte):=(Blk.new w2 _ _))
       | (refine load_blk rfl 88 _ rfl _ rfl hb2 Tryz.underlying88 rfl (by rw [hXm];kernel_rfl) ?_)
       | (refine load_blk rfl 88 _ rfl _ rfl kB2 Tryz.underlying88 rfl (by rw [hPm];kernel_rfl) ?_)
       | (refine wpList_build2Q rfl 148 _ _ rfl 88 16 _ (X.map byte) (P.map byte) rfl rfl Tryz.underlying148 Tryz.zero88 hXm hPm (by omega) (by omega) ?_)
       | (go_at_call 32;refine (HXY.out _ _ n2).mono ?_;rintro e3 w3 ⟨rfl,bel3⟩;have bel23:=(below_step (below_new w2 _) bel3);have b3w:=(hbel.trans ((below_step bel2 bel23).mono hbel.size));have kB3:=kB2.below bel23 kB2.lt)
       | (go_at_call 34;refine (HTY.out _ b3w).mono ?_;rintro e4 w4 ⟨rfl,bel4⟩;have kB4:=kB3.below bel4 kB3.lt;have bel14:=(below_step (below_step bel2 bel23) bel4);have hown4:=(World.ownsRow.kept hown (grown_of_below bel14 none) (by right;simp [Value.ownBlock]));have b4:=(hbel.trans (bel14.mono hbel.size)))
       | (refine store_blk rfl 88 _ _ rfl _ rfl rfl kB4 (by rw [hNm];kernel_rfl) (by rw [hNm];exact hPm) (allOne_bytes _) ?_;intro w5 kB5 hg5 hs5;clear hs5;have hown5:=(World.ownsRow.kept hown4 hg5 (by right;simp [Value.ownBlock];omega));have b5:=(b4.grown hg5 b4.size (by intro k hk;cases hk;omega));have n5:Blk (w5.alloc (.cells (N.map byte).toArray 88)) w5.heap.size 88 (N.map byte):=(Blk.new w5 _ _);have hnews:=range_newsQ (blk_whole n5);have hone:=all_one N)
       | (refine load_blk rfl 88 _ rfl _ rfl kB5 Tryz.underlying88 rfl (by rw [hNm];kernel_rfl) ?_)
       | (refine wpList_build1Q rfl 148 _ rfl 88 16 _ (N.map byte) rfl Tryz.underlying148 Tryz.zero88 hNm (by omega) (by omega) ?_)
       | (at_builtin;refine wpList_append_fits _ rfl _ _ 148 rfl w.heap.size 88 i0 16 Tryz.underlying148 hi hz1 G k m _ rfl (hown5.alloc _) ⟨w5.heap.size,0,none⟩ 1 1 (N.map byte) rfl hNm hnews hone (by omega) ?_;intro w6 hown6 hg6))
     have hO:(outLQ f iv bl (k + 1)).flatten.map byte = (outLQ f iv bl k).flatten.map byte ++ N.map byte:=by
       rw [HO.out,HN.out,List.flatten_append,List.map_append];simp
     rw [← hO] at hown6
     have kB6:=(kB5.alloc (.cells (N.map byte).toArray 88)).grown hg6 (by simp;omega)
     have b6:=(b5.alloc b5.size (.cells (N.map byte).toArray 88)).grown hg6 (by simp;have:=b5.size;omega) (by intro k hk;cases hk;omega)
     rw [← HN.out] at kB6
     clear hown5 hown4 hown hg6 hg5 hg2 kB kB2 kB3 kB4 kB5 b4 b5 hbel n2 n5 hnews hone hrk
     go_wp2
     go_roundw
     case rel=>exact ⟨k + 1,by omega,by go_num,rfl,hown6,kB6,b6⟩
     case measure=>simp [intOf];omega
   · obtain rfl:k = m:=by omega
     go_wp2
     go_ret
     exact ⟨_,rfl,by unfold OwnKQ;rw [outL_lengthQ];exact hown,hbel⟩
def dnTo (f:Nat → Value) (z:Value) (n k:Nat):List Value:=(List.range n).map fun i=>if k ≤ i then f i else z
theorem dnTo_length (f:Nat → Value) (z:Value) (n k:Nat):(dnTo f z n k).length = n:=by simp [dnTo]
theorem dnTo_set (f:Nat → Value) (z:Value) (n k:Nat):(dnTo f z n (k + 1)).set k (f k) = dnTo f z n k:=by
 apply List.ext_getElem?
 intro i
 rw [List.getElem?_set]
 simp only [dnTo,List.length_map,List.length_range,List.getElem?_map]
 by_cases hi:k = i
 · subst hi
   by_cases hn:k < n <;> simp [hn]
 · rw [if_neg hi]
   by_cases hn:i < n
   · simp [hn,show (k + 1 ≤ i) = (k ≤ i) from by apply propext;omega]
   · simp [hn]
theorem dnTo_top (f:Nat → Value) (z:Value) (n:Nat):dnTo f z n n = List.replicate n z:=by
 apply List.ext_getElem?
 intro i
 by_cases hn:i < n
 · simp [dnTo,hn];omega
 · simp [dnTo,hn]
theorem dnTo_all (f:Nat → Value) (z:Value) (n:Nat):dnTo f z n 0 = (List.range n).map f:=by simp [dnTo]
def lostN (v:List UInt8) (k:Nat):Nat:=if k = 16 then 0 else (v.getD k 0).toNat / 128
def shB (v:List UInt8) (i:Nat):UInt8:=UInt8.ofNat ((v.getD i 0).toNat * 2 % 256 ||| lostN v (i + 1))
def shL (v:List UInt8):List UInt8:=(List.range 16).map (shB v)
theorem shL_length (v:List UInt8):(shL v).length = 16:=by simp [shL]
def dblL (v:List UInt8):List UInt8:=(shL v).set 15 (shB v 15 ^^^ UInt8.ofNat (lostN v 0 * 135))
theorem dblL_length (v:List UInt8):(dblL v).length = 16:=by simp [dblL,shL_length]
theorem lostN_le (v:List UInt8) (k:Nat):lostN v k ≤ 1:=by
 unfold lostN
 split
 · omega
 · have:=(v.getD k 0).toNat_lt;omega
set_option maxRecDepth 100000 in
set_option maxHeartbeats 1000000 in
theorem doubled_any (v:List UInt8) (w:World) (hv:v.length = 16) :
   Calls Tryz.prog 78 #[.agg (v.map byte).toArray] w fun e w'=>e = .returned (.agg ((dblL v).map byte).toArray) ∧ Below w.heap.size w w':=by
 have hz:=(zero_of_info Tryz.z16).1
 go_enter Tryz.func78,Tryz.ntmps78
 go_wp2
 go_loopw [4,5] (fun l i wr=>∃ k:Nat,k ≤ 16 ∧ i = .int .i64 ((k:Int) - 1) ∧ l = .int .u8 (lostN v k:Nat) ∧ Blk wr (w.heap.size + 1 + 1) 88 (dnTo (fun j=>byte (shB v j)) (.int .u8 0) 16 k) ∧ Blk wr (w.heap.size + 1) 88 (zerosOf 16 .u8) ∧ Blk wr w.heap.size 88 (v.map byte) ∧ Below w.heap.size w wr) (fun _ i _=>(intOf i + 1).toNat)
 case atStart =>
   refine ⟨16,by omega,rfl,rfl,?_,(Blk.new2 w _ _ _).alloc _,((Blk.new w _ _).alloc _).alloc _,(((Below.refl _ _).alloc (Nat.le_refl _) _).alloc (by simp) _).alloc (by simp;omega) _⟩
   rw [dnTo_top]
   exact Blk.newAt _ _ _ _ (by simp)
 case round =>
   obtain ⟨k,hk,rfl,rfl,hb2,hb0,hbs,hbel⟩:=hrel
   have hl1:=lostN_le v k
   obtain ⟨l,hl,HL⟩:∃ l,lostN v k = l ∧ Hid (l = lostN v k):=⟨_,rfl,rfl⟩
   rw [hl] at hl1 ⊢
   clear hl
   by_cases h0:0 < k
   · obtain ⟨m,hm,hm16,hmI,Hm⟩:∃ m:Nat,(k:Int) - 1 = (m:Int) ∧ m < 16 ∧ (m:Int) < 16 ∧ Hid (k = m + 1):=⟨k - 1,by omega,by omega,by omega,hid_of' (by omega:k = k - 1 + 1)⟩
     rw [hm]
     have hm0:(0:Int) ≤ (m:Int):=by omega
     obtain ⟨x,hx8,Hx⟩:∃ x:Nat,x < 256 ∧ Hid (x = (v.getD m 0).toNat):=⟨_,UInt8.toNat_lt _,rfl⟩
     have hc:wr.cell? ⟨w.heap.size,m,none⟩ = some (.int .u8 (x:Int)):=by rw [map_cell hbs m (by omega),Hx.out]
     obtain ⟨y,hy,Hy⟩:∃ y:Nat,bits BinOp.or IntKind.u8 ((x:Int) * 2 % 256) (l:Int) = (y:Int) ∧ Hid (Value.int .u8 (y:Int) = byte (shB v m)):=by
       refine ⟨x * 2 % 256 ||| l,?_,hid_of' ?_⟩
       · have e:(x:Int) * 2 % 256 = ((x * 2 % 256:Nat):Int):=by omega
         rw [e,u8_or_nat _ _ (by omega) (by omega)]
       · show Value.int .u8 _ = Value.int .u8 _
         unfold shB
         have hlt:x * 2 % 256 ||| l < 256:=Nat.or_lt_two_pow (n:=8) (by omega) (by omega)
         rw [UInt8.toNat_ofNat',← Hx.out,show m + 1 = k from Hm.out.symm,← HL.out]
         congr 1
         omega
     have hf:=hb2.free m
     obtain ⟨u,hu⟩:∃ u,wr.cell? ⟨w.heap.size + 1 + 1,m,none⟩ = some u:=⟨_,hb2.cell m (by rw [dnTo_length];exact hm16)⟩
     have hst:=hb2.set m (byte (shB v m))
     rw [Hm.out,dnTo_set (fun j=>byte (shB v j))] at hst
     have hst2:=hbs.other ⟨w.heap.size + 1 + 1,m,none⟩ (.int .u8 (y:Int)) (by simp;omega)
     have hc2:(wr.setCell ⟨w.heap.size + 1 + 1,m,none⟩ (.int .u8 (y:Int))).cell? ⟨w.heap.size,m,none⟩ = some (.int .u8 (x:Int)):=by rw [map_cell hst2 m (by omega),Hx.out]
     have HX2:Hid (Value.int .u8 ((x:Int) / 128) = .int .u8 ((lostN v m:Nat):Int)):=hid_of' (by
       unfold lostN
       rw [if_neg (by omega),← Hx.out]
       simp)
     clear hm hk h0
     go_wp2
     go_roundw
     case rel =>
       rw [Hy.out,HX2.out]
       exact ⟨m,by omega,by go_num,rfl,hst,hb0.other _ _ (by simp),hbs.other _ _ (by simp;omega),hbel.setCell (by simp;omega) _⟩
     case measure=>simp [intOf]
   · obtain rfl:k = 0:=by omega
     rw [dnTo_all] at hb2
     have e0:(List.range 16).map (fun j=>byte (shB v j)) = (shL v).map byte:=by unfold shL;rw [List.map_map];rfl
     rw [e0] at hb2
     have hsl:=shL_length v
     obtain ⟨y,hy8,Hy⟩:∃ y:Nat,y < 256 ∧ Hid (y = (shB v 15).toNat):=⟨_,UInt8.toNat_lt _,rfl⟩
     have hc:wr.cell? ⟨w.heap.size + 1 + 1,15,none⟩ = some (.int .u8 (y:Int)):=by
       rw [map_cell hb2 15 (by omega),Hy.out]
       simp [shL]
     have hf:=hb2.free 15
     have hst:=hb2.set 15 (byte (shB v 15 ^^^ UInt8.ofNat (lostN v 0 * 135)))
     rw [← List.map_set] at hst
     have hst':Blk (wr.setCell ⟨w.heap.size + 1 + 1,15,none⟩ (byte (shB v 15 ^^^ UInt8.ofNat (lostN v 0 * 135)))) (w.heap.size + 1 + 1) 88 ((dblL v).map byte):=hst
     obtain ⟨q,hq,Hq⟩:∃ q:Nat,bits BinOp.xor IntKind.u8 (y:Int) ((l:Int) * 135) = (q:Int) ∧ Hid (Value.int .u8 (q:Int) = byte (shB v 15 ^^^ UInt8.ofNat (lostN v 0 * 135))):=by
       have e:(l:Int) * 135 = ((l * 135:Nat):Int):=by omega
       refine ⟨_,by rw [e,u8_xor_nat y (l * 135) hy8 (by omega)],hid_of' ?_⟩
       show Value.int .u8 _ = Value.int .u8 _
       rw [UInt8.toNat_xor,UInt8.toNat_ofNat',← HL.out,← Hy.out]
       congr 3
       omega
     rw [← Hq.out] at hst'
     have k0:=hb0.other ⟨w.heap.size + 1 + 1,15,none⟩ (.int .u8 (q:Int)) (by simp)
     have kb:=hbel.setCell (p:=⟨w.heap.size + 1 + 1,15,none⟩) (by show w.heap.size ≤ w.heap.size + 1 + 1;omega) (.int .u8 (q:Int))
     have hRl:((dblL v).map byte).length = 16:=by rw [List.length_map,dblL_length]
     obtain ⟨R,hR⟩:∃ R,R = dblL v:=⟨_,rfl⟩
     rw [← hR] at hst' hRl
     have HR:Hid (R = dblL v):=hR
     clear hR hst e0
     go_wp2_with (first | (refine load_blk rfl 88 _ rfl _ rfl hst' Tryz.underlying88 rfl (by rw [hRl];kernel_rfl) ?_) | (refine store_blk rfl 88 _ _ rfl _ rfl rfl k0 (by rw [hRl];kernel_rfl) (by rw [zerosOf_length,hRl]) (allOne_bytes _) ?_;intro w2 hb3 hg3 hs3))
     exact bodyPost_ret (v:=.agg (R.map byte).toArray) (results_blk Tryz.results78 _ _ rfl hb3 Tryz.underlying88 rfl (by rw [hRl];kernel_rfl)) rfl ⟨by rw [HR.out],kb.grown hg3 kb.size (by intro k hk;cases hk;omega)⟩
theorem bitsL_cons (x:UInt8) (l:List UInt8):bitsL (x :: l) = bits8 x ++ bitsL l:=by simp [bitsL]
theorem bitsL_drop (v:List UInt8):∀ j,j < v.length → (bitsL v).drop (8 * j) = bits8 (v.getD j 0) ++ bitsL (v.drop (j + 1)):=by
 induction v with
 | nil=>intro j hj;simp at hj
 | cons x l ih =>
   intro j hj
   cases j with
   | zero=>rw [bitsL_cons];rfl
   | succ j =>
     rw [bitsL_cons,show 8 * (j + 1) = (bits8 x).length + 8 * j from by rw [bits8_length];omega,List.drop_append]
     rw [List.drop_of_length_le (by omega),List.nil_append,Nat.add_sub_cancel_left,ih j (by simpa using hj)]
     rfl
theorem val7:∀ n:Nat,n < 256 → valN ((bits8 (UInt8.ofNat n)).drop 1) = n % 128:=by decide +kernel
theorem val7_u (x:UInt8):valN ((bits8 x).drop 1) = x.toNat % 128:=by
 have h:=val7 x.toNat x.toNat_lt
 rwa [UInt8.ofNat_toNat] at h
def inB (v:List UInt8) (j:Nat):UInt8:=if j = 15 then 0 else bitN (v.getD (j + 1) 0) 0
theorem inB_nat (v:List UInt8) (j:Nat):(inB v j).toNat = lostN v (j + 1):=by
 unfold inB lostN
 by_cases h:j = 15
 · rw [if_pos h,if_pos (by omega)];rfl
 · rw [if_neg h,if_neg (by omega)]
   unfold bitN
   have:=(v.getD (j + 1) 0).toNat_lt
   rw [UInt8.toNat_ofNat']
   omega
theorem dbl_seg (v:List UInt8) (hv:v.length = 16) (j:Nat) (hj:j < 16):((((bitsL v).drop 1 ++ [0]).drop (8 * j)).take 8) = (bits8 (v.getD j 0)).drop 1 ++ [inB v j]:=by
 have hl:=bitsL_length v
 have h7:((bits8 (v.getD j 0)).drop 1).length = 7:=by rw [List.length_drop,bits8_length]
 rw [List.drop_append_of_le_length (by rw [List.length_drop];omega),List.drop_drop,show 1 + 8 * j = 8 * j + 1 from by omega,← List.drop_drop,bitsL_drop v j (by omega),List.drop_append_of_le_length (by rw [bits8_length];omega),List.append_assoc]
 rw [List.take_append,List.take_of_length_le (by omega),h7]
 congr 1
 unfold inB
 by_cases h:j = 15
 · rw [if_pos h,List.drop_of_length_le (by omega)]
   rfl
 · rw [if_neg h]
   have hd:v.drop (j + 1) = v.getD (j + 1) 0 :: v.drop (j + 2):=by
     rw [List.drop_eq_getElem_cons (by omega)]
     simp [show j + 1 < v.length from by omega]
   rw [hd,bitsL_cons]
   rfl
theorem dbl_bits (v:List UInt8) (hv:v.length = 16):unbitsL ((bitsL v).drop 1 ++ [0]) = shL v:=by
 have hl:=bitsL_length v
 have hL:((bitsL v).drop 1 ++ [0]).length = 128:=by rw [List.length_append,List.length_drop];simp;omega
 unfold unbitsL cellsU shL
 rw [hL]
 apply List.map_congr_left
 intro j hj
 have hj:=List.mem_range.1 hj
 unfold cellU seg shB
 rw [List.take_of_length_le (l:=(bitsL v).drop 1 ++ [0]) (i:=128) (by omega),dbl_seg v hv j (by omega),valN_snoc,val7_u,inB_nat]
 have h1:=lostN_le v (j + 1)
 rw [nat_join 1 ((v.getD j 0).toNat * 2 % 256) (lostN v (j + 1)) (by omega) (by omega)]
 congr 1
 omega
theorem bitN_le (x:UInt8) (j:Nat):(bitN x j).toNat ≤ 1:=by
 unfold bitN
 rw [UInt8.toNat_ofNat']
 omega
theorem dbl_isBits (v:List UInt8):isBits ((bitsL v).drop 1 ++ [0]):=by
 intro b hb
 rcases List.mem_append.1 hb with h | h
 · have h:=List.mem_of_mem_drop h
   simp only [bitsL,List.mem_flatMap,bits8,List.mem_map] at h
   obtain ⟨x,-,j,-,rfl⟩:=h
   exact bitN_le x j
 · simp only [List.mem_singleton] at h
   subst h
   decide
theorem dbl_first (v:List UInt8) (hv:v.length = 16):((bitsL v).getD 0 0).toNat = lostN v 0:=by
 have h:=bitsL_drop v 0 (by omega)
 rw [Nat.mul_zero,List.drop_zero] at h
 rw [h]
 show (bitN (v.getD 0 0) 0).toNat = _
 unfold bitN lostN
 have:=(v.getD 0 0).toNat_lt
 rw [UInt8.toNat_ofNat',if_neg (by omega)]
 omega
set_option maxRecDepth 100000 in
set_option maxHeartbeats 2000000 in
theorem double_spec (v:List UInt8) (ao:Option Addr) (cap:Nat) (w:World) (hv:v.length = 16) (hr:RowAt w ao v) :
   Calls Tryz.prog 177 #[.slice ao 16 cap] w fun e w'=>∃ x,e = .returned x ∧ OwnB w' w.heap.size x (dblL v) ∧ Below w.heap.size w w':=by
 obtain ⟨i0,hi0,hz0,hz1,hz2⟩:=info_parts Tryz.info5
 have HB:=hid_of (bits_any ao cap v w (by omega) hr)
 rw [hv] at HB
 have hbl:(bitsL v).length = 128:=by rw [bitsL_length,hv]
 have hdl:((bitsL v).drop 1).length = 127:=by rw [List.length_drop,hbl]
 have HU:=hid_of (dbl_bits v hv)
 have HI:=hid_of (dbl_isBits v)
 have h0:=dbl_first v hv
 have hl1:=lostN_le v 0
 have hsl:=shL_length v
 obtain ⟨D,hD⟩:∃ D,D = (bitsL v).drop 1:=⟨_,rfl⟩
 rw [← hD] at hdl HU HI
 have HD:=hid_of hD
 obtain ⟨l,hl⟩:∃ l,l = lostN v 0:=⟨_,rfl⟩
 have HL:=hid_of hl
 rw [← hl] at h0 hl1
 clear hD hl
 go_enter Tryz.func177,Tryz.ntmps177
 go_wp2_with fail
 refine HB.out.mono ?_
 rintro e w1 ⟨v1,rfl,own1,bel1⟩
 obtain ⟨g1,c1,hc1,rfl,row1⟩:=own_at own1 hbl (by omega)
 have rowD:RowAt w1 (some ⟨g1,1,none⟩) D:=by rw [HD.out];have:=row1.drop 1;rwa [Nat.zero_add] at this
 have HY:=hid_of (bytes_any (some ⟨g1,1,none⟩) (c1 - 1) D w1 (by omega) (by omega) rowD)
 rw [hdl] at HY
 have hcI:(128:Int) ≤ (c1:Int):=by omega
 have hcI1:(1:Int) ≤ (c1:Int):=by omega
 clear HB own1 rowD
 go_wp2_with fail
 refine HY.out.mono ?_
 rintro e w2 ⟨rfl,own2,bel2⟩
 have b2:=bel1.trans (bel2.mono bel1.size)
 have hs2:=b2.size
 have own2':=own_num (own2.mono bel1.size) hdl
 have row2:=row1.below bel2
 have hz1':=bel1.size
 clear HY own2
 go_wp2_with (at_builtin;refine wpList_append_own _ rfl _ _ 22 rfl w.heap.size 5 i0 (.int .u8 0) 1 1 Tryz.underlying22 hi0 hz0 hz1 hz2 rfl (by decide) _ _ _ rfl (own2'.alloc _) ⟨w2.heap.size,0,none⟩ 1 1 [.int .u8 0] rfl rfl (cell_one_new _ _ _) (by intro u hu;simp at hu;subst hu;rfl) (by unfold maxLen;omega) (by omega) (by simp;omega) ?_;intro v3 w3 own3 hg3 hnil3)
 have lg1:=row1.blk (by omega)
 have hD1:(D ++ [0]).length = 128:=by rw [List.length_append,hdl];rfl
 have o3:OwnB w3 w.heap.size v3 (D ++ [0]):=by
   unfold OwnB
   rw [hD1,List.map_append]
   exact own3
 have b3:Below w.heap.size w w3:=(b2.alloc hs2 _).grown hg3 (by simp;omega) (fun j hj=>(own2'.lt j hj).1)
 have row3:RowAt w3 (some ⟨g1,0,none⟩) (bitsL v):=(row2.below (below_new w2 _)).grown hg3 (by
   rintro a ha
   cases ha
   show (Value.slice (some ⟨w1.heap.size,0,none⟩) 127 127).ownBlock ≠ some g1
   simp only [Value.ownBlock,ne_eq,Option.some.injEq]
   omega)
 obtain ⟨g3,c3,hc3,rfl,row3'⟩:=own_at o3 hD1 (by omega)
 have HN:=hid_of (unbits_any (some ⟨g3,0,none⟩) c3 (D ++ [0]) w3 (by omega) (by omega) HI.out row3')
 rw [hD1,HU.out] at HN
 clear own3 hg3 hnil3 own2' row2 row1 o3 row3' b2 bel2 hs2
 go_wp2_with fail
 refine HN.out.mono ?_
 rintro e w4 ⟨v4,rfl,own4,bel4⟩
 have row4:=row3.below bel4
 have b4:=b3.trans (bel4.mono b3.size)
 obtain ⟨g4,c4,hc4,rfl,rowS⟩:=own_at own4 hsl (by omega)
 have hg4:=(own4.lt g4 rfl)
 have hz3:=b3.size
 have own4':=own_num (own4.mono hz3) hsl
 have hc0:w4.cell? ⟨g1,0,none⟩ = some (.int .u8 (l:Int)):=by
   obtain ⟨bb,oo,e0,hcc⟩:=row4.at (show 0 < (bitsL v).length by omega)
   cases e0
   have:=hcc 0 (by omega)
   rw [h0] at this
   exact this
 clear HN row3 row4 own4 bel4 b3
 obtain rfl | rfl:l = 0 ∨ l = 1:=by omega
 · have HE:Hid (shL v = dblL v):=hid_of (by
     unfold dblL
     rw [← HL.out]
     have e:shB v 15 ^^^ UInt8.ofNat (0 * 135) = shB v 15:=by simp
     rw [e]
     symm
     apply List.ext_getElem?
     intro i
     rw [List.getElem?_set]
     by_cases hi:15 = i
     · subst hi;simp [shL]
     · rw [if_neg hi])
   go_wp2
   go_ret
   refine ⟨_,rfl,?_,b4⟩
   rw [← HE.out]
   unfold OwnB
   rw [hsl]
   exact own4'
 · obtain ⟨y,hy8,Hy⟩:∃ y:Nat,y < 256 ∧ Hid (y = (shB v 15).toNat):=⟨_,UInt8.toNat_lt _,rfl⟩
   have hcs:w4.cell? ⟨g4,15,none⟩ = some (.int .u8 (y:Int)):=by
     obtain ⟨bb,oo,e0,hcc⟩:=rowS.at (show 0 < (shL v).length by omega)
     cases e0
     have:=hcc 15 (by omega)
     rw [Nat.zero_add] at this
     rw [this,Hy.out]
     simp [shL]
   have hfz:w4.frozen? ⟨g4,15,none⟩ = false:=own4'.frozenAt 15
   obtain ⟨q,hq,Hq⟩:∃ q:Nat,bits BinOp.xor IntKind.u8 (y:Int) 135 = (q:Int) ∧ Hid (Value.int .u8 (q:Int) = byte (shB v 15 ^^^ UInt8.ofNat (lostN v 0 * 135))):=by
     refine ⟨_,u8_xor_nat y 135 hy8 (by omega),hid_of ?_⟩
     show Value.int .u8 _ = Value.int .u8 _
     rw [UInt8.toNat_xor,← HL.out,← Hy.out]
     rfl
   have hst:=(own4'.stored 15 (byte (shB v 15 ^^^ UInt8.ofNat (lostN v 0 * 135)))).1
   rw [← List.map_set] at hst
   have hst':OwnB (w4.setCell ⟨g4,15,none⟩ (byte (shB v 15 ^^^ UInt8.ofNat (lostN v 0 * 135)))) w.heap.size (.slice (some ⟨g4,0,none⟩) 16 c4) (dblL v):=by
     unfold OwnB
     rw [dblL_length]
     exact hst
   have bb:=b4.setCell (p:=⟨g4,15,none⟩) (by show w.heap.size ≤ g4;have:=hg4.1;omega) (byte (shB v 15 ^^^ UInt8.ofNat (lostN v 0 * 135)))
   rw [← Hq.out] at hst' bb
   clear hst own4' rowS
   go_wp2
   go_ret
   exact ⟨_,rfl,hst',bb⟩
end Go.Proofs.YtbkokcjolanpeaaGreatDoor
