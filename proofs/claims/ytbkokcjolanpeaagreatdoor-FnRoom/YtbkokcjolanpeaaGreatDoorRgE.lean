import Derived.Test.YtbkokcjolanpeaaGreatDoorRgD
import Derived.Deep.MidRow
import Derived.Laws.Cover3
import Derived.Deep.DeepCutAuto
import Derived.Deep.RegionHeld3
import Derived.Laws.CopyOwn
import Derived.WideShapes
import Derived.Deep.AppendLies
namespace Go.Proofs.YtbkokcjolanpeaaGreatDoor
open Go.RowKit
def revAt (f:Nat → Value) (k i:Nat):Value:=if i < k ∨ 15 < i + k then f (15 - i) else f i
def revCells (f:Nat → Value) (k:Nat):List Value:=(List.range 16).map (revAt f k)
theorem revCells_length (f:Nat → Value) (k:Nat):(revCells f k).length = 16:=by simp [revCells]
theorem revCells_get (f:Nat → Value) (k i:Nat) (h:i < 16):(revCells f k)[i]'(by rw [revCells_length];exact h) = revAt f k i:=by simp [revCells]
theorem revCells_step (f:Nat → Value) (k:Nat) (h:k < 8):((revCells f k).set k (f (15 - k))).set (15 - k) (f k) = revCells f (k + 1):=by
 apply List.ext_getElem
 · simp [revCells]
 · intro i h1 h2
   rw [revCells_length] at h2
   rw [List.getElem_set,List.getElem_set,revCells_get f k i h2,revCells_get f (k + 1) i h2]
   unfold revAt
   by_cases e1:15 - k = i
   · rw [if_pos e1,if_pos (by omega),show 15 - i = k from by omega]
   · rw [if_neg e1]
     by_cases e2:k = i
     · rw [if_pos e2,if_pos (by omega),e2]
     · rw [if_neg e2]
       by_cases e3:i < k ∨ 15 < i + k
       · rw [if_pos e3,if_pos (by omega)]
       · rw [if_neg e3,if_neg (by omega)]
set_option maxHeartbeats 1000000 in
theorem reverse_any (g t:Nat) (f:Nat → Nat) (w:World) (hb:Blk w g t ((List.range 16).map fun i=>word64 (f i))) :
   Calls Tryz.prog 160 #[.slice (some ⟨g,0,none⟩) 16 16] w fun e w'=>e = .returned (.tuple #[]) ∧ Blk w' g t ((List.range 16).map fun i=>word64 (f (15 - i))) ∧ w.grownBy w' (some g):=by
 have h0:Blk w g t (revCells (fun i=>word64 (f i)) 0):=by
   have:revCells (fun i=>word64 (f i)) 0 = (List.range 16).map fun i=>word64 (f i):=by
     unfold revCells revAt
     apply List.map_congr_left
     intro i hi
     rw [List.mem_range] at hi
     rw [if_neg (by omega)]
   rw [this];exact hb
 clear hb
 go_enter Tryz.func160,Tryz.ntmps160
 go_wp2
 go_loopw [2,3] (fun i j wr=>∃ k:Nat,k ≤ 8 ∧ i = .int .i64 k ∧ j = .int .i64 ((15:Int) - k) ∧ Blk wr g t (revCells (fun i=>word64 (f i)) k) ∧ w.grownBy wr (some g)) (fun i _ _=>8 - (intOf i).toNat)
 case atStart=>exact ⟨0,Nat.zero_le _,rfl,rfl,h0,World.grownBy.refl _ _⟩
 case round =>
   clear h0
   obtain ⟨k,hk,rfl,rfl,hb,hg⟩:=hrel
   by_cases hlt:k < 8
   · obtain ⟨j,hj,hj16,Hj⟩:∃ j:Nat,((15:Int) - (k:Int)) = (j:Int) ∧ j < 16 ∧ Hid (j = 15 - k):=⟨15 - k,by omega,by omega,rfl⟩
     have hkj:k < j:=by have:=Hj.out;omega
     have hk16:k < 16:=by omega
     have ck:wr.cell? ⟨g,k,none⟩ = some (.int .u64 (f k:Nat)):=by
       rw [hb.cell k (by rw [revCells_length];exact hk16),revCells_get _ _ _ hk16];unfold revAt;rw [if_neg (by omega)];rfl
     have cj:wr.cell? ⟨g,j,none⟩ = some (.int .u64 (f j:Nat)):=by
       rw [hb.cell j (by rw [revCells_length];exact hj16),revCells_get _ _ _ hj16];unfold revAt;rw [if_neg (by have:=Hj.out;omega)];rfl
     have fk:=hb.free k
     have fj:=hb.free j
     have hne:¬ k = j:=by omega
     have hne2:¬ j = k:=by omega
     have hkI:(k:Int) < 16:=by omega
     have hjI:(j:Int) < 16:=by omega
     have hkjI:(k:Int) < (j:Int):=by omega
     have hst:=(hb.set k (word64 (f j))).set j (word64 (f k))
     have hgr:=grown_trans hg (grown_trans (b:=wr.setCell ⟨g,k,none⟩ (word64 (f j))) ⟨rfl,rfl,rfl,by simp [World.setCell],fun i _ hi=>heap_setCell_other wr _ i _ (fun e=>hi (by simp [e]))⟩ (c:=(wr.setCell ⟨g,k,none⟩ (word64 (f j))).setCell ⟨g,j,none⟩ (word64 (f k))) ⟨rfl,rfl,rfl,by simp [World.setCell],fun i _ hi=>heap_setCell_other _ _ i _ (fun e=>hi (by simp [e]))⟩)
     rw [hj]
     clear hj
     go_wp2
     go_region
     go_wp2
     go_roundw
     case rel =>
       have hs:((revCells (fun i=>word64 (f i)) k).set k (word64 (f j))).set j (word64 (f k)) = revCells (fun i=>word64 (f i)) (k + 1):=by
         have:=revCells_step (fun i=>word64 (f i)) k hlt
         rw [← Hj.out] at this
         exact this
       rw [hs] at hst
       exact ⟨k + 1,by omega,by go_num,by have:=Hj.out;go_num,hst,⟨hgr.os,hgr.tape,hgr.output,hgr.size,hgr.block⟩⟩
     case measure=>simp [intOf];omega
   · obtain rfl:k = 8:=by omega
     go_wp2
     go_end0
     refine ⟨rfl,?_,hg⟩
     have:revCells (fun i=>word64 (f i)) 8 = (List.range 16).map fun i=>word64 (f (15 - i)):=by
       unfold revCells revAt
       apply List.map_congr_left
       intro i hi
       rw [List.mem_range] at hi
       by_cases h:i < 8 ∨ 15 < i + 8
       · rw [if_pos h]
       · omega
     rw [← this];exact hb
theorem cipher_round (key:List UInt8) (S:Nat):(cipherCells key S)[16]? = some (.func (.func 190) #[] #[.pointer (some ⟨S,0,none⟩)]):=by
 unfold cipherCells
 rw [List.getElem?_append_right (by rw [keyCells_length];exact Nat.le_refl _),keyCells_length]
 rfl
theorem cipher_keys {w:World} {g t:Nat} {key:List UInt8} {S:Nat} (h:Blk w g t (cipherCells key S)):w.rangeAt g 0 (keyCells key):=by
 intro j v hv
 have hj:j < (keyCells key).length:=(List.getElem?_eq_some_iff.1 hv).1
 rw [Nat.zero_add,h.cell j (by rw [cipherCells_length];rw [keyCells_length] at hj;omega)]
 have:(cipherCells key S)[j]? = some v:=by unfold cipherCells;rw [List.getElem?_append_left hj];exact hv
 rw [List.getElem?_eq_getElem (by rw [cipherCells_length];rw [keyCells_length] at hj;omega)] at this
 exact this
def encN (key block:List UInt8):List UInt8:=runN (keyNums key) block
def decN (key block:List UInt8):List UInt8:=runN (keyNums key).reverse block
theorem encN_length (key block:List UInt8):(encN key block).length = 8:=runN_length _ _
theorem decN_length (key block:List UInt8):(decN key block).length = 8:=runN_length _ _
set_option maxHeartbeats 1000000 in
theorem encrypt_any (key block:List UInt8) (S:Nat) (w:World) (h8:block.length = 8) (hS:Blk w S 291 mergedCells) :
   Calls Tryz.prog 110 #[.agg (cipherCells key S).toArray,.agg (block.map byte).toArray] w fun e w'=>e = .returned (.agg ((encN key block).map byte).toArray) ∧ Below w.heap.size w w':=by
 have hz:=(zero_of_info Tryz.zero208).1
 have hl:(block.map byte).length = 8:=by simp [h8]
 obtain ⟨W,hW⟩:∃ W,W = ((w.alloc (.cells (cipherCells key S).toArray 202)).alloc (.cells (block.map byte).toArray 208)).alloc (.cells (zerosOf 8 .u8).toArray 208):=⟨_,rfl⟩
 have k0:Blk W w.heap.size 202 (cipherCells key S):=by rw [hW];exact ((Blk.new w _ _).alloc _).alloc _
 have k1:Blk W (w.heap.size + 1) 208 (block.map byte):=by rw [hW];exact (Blk.new2 w _ _ _).alloc _
 have k2:Blk W (w.heap.size + 1 + 1) 208 (zerosOf 8 .u8):=by rw [hW];exact Blk.newAt _ _ _ _ (by simp)
 have kS:Blk W S 291 mergedCells:=by rw [hW];exact ((hS.alloc _).alloc _).alloc _
 have bW:Below w.heap.size w W:=by rw [hW];exact (((Below.refl _ _).alloc (Nat.le_refl _) _).alloc (by simp) _).alloc (by simp;omega) _
 subst hW
 go_enter Tryz.func110,Tryz.ntmps110
 go_wp2_with (first
   | (refine load_blk rfl 202 _ rfl _ rfl k0 Tryz.underlying202 rfl (by rw [cipherCells_length];kernel_rfl) ?_)
   | (refine load_blk rfl 208 _ rfl _ rfl k1 Tryz.underlying208 rfl (by rw [hl];kernel_rfl) ?_)
   | (refine wpList_load_mid rfl 199 _ rfl w.heap.size 0 rfl (keyCells key) _ (cipher_keys k0) Tryz.underlying199 rfl (by rw [keyCells_length];kernel_rfl) ?_)
   | (go_at_call 159;rw [keyCells_nums];refine (run_any (cipherCells key S) block (keyNums key) S _ (cipherCells_length _ _) (cipher_round _ _) h8 (keyNums_length _) (keyNums_lt _) kS).mono ?_;rintro e w1 ⟨rfl,bel1⟩)
   | (refine store_blk rfl 208 _ _ rfl _ rfl rfl (k2.below bel1 k2.lt) (by rw [List.length_map,runN_length];kernel_rfl) (by rw [List.length_map,runN_length];exact zerosOf_length _ _) (allOne_bytes _) ?_;intro w2 hb2 hg2 hs2))
 have lW:=bW.size
 exact bodyPost_ret (v:=.agg ((encN key block).map byte).toArray) (results_blk Tryz.results110 _ _ rfl hb2 Tryz.underlying208 rfl (by rw [List.length_map,encN_length];kernel_rfl)) rfl
   ⟨rfl,(bW.trans (bel1.mono lW)).grown hg2 (Nat.le_trans lW bel1.size) (by intro k hk;cases hk;omega)⟩
theorem rev_cells (key:List UInt8):((List.range 16).map fun i=>word64 (keyN key (15 - i))) = ((keyNums key).reverse).map word64:=by
 apply List.ext_getElem
 · simp [keyNums]
 · intro i h1 h2
   simp [keyNums]
theorem keyCells_words (key:List UInt8):keyCells key = (List.range 16).map fun i=>word64 (keyN key i):=by
 simp [keyCells,keyCell,word64]
set_option maxHeartbeats 1000000 in
theorem decrypt_any (key block:List UInt8) (S:Nat) (w:World) (h8:block.length = 8) (hS:Blk w S 291 mergedCells) :
   Calls Tryz.prog 112 #[.agg (cipherCells key S).toArray,.agg (block.map byte).toArray] w fun e w'=>e = .returned (.agg ((decN key block).map byte).toArray) ∧ Below w.heap.size w w':=by
 have hz:=(zero_of_info Tryz.zero208).1
 have hz2:=(zero_of_info Tryz.zero199).1
 have hl:(block.map byte).length = 8:=by simp [h8]
 obtain ⟨W,hW⟩:∃ W,W = ((w.alloc (.cells (cipherCells key S).toArray 202)).alloc (.cells (block.map byte).toArray 208)).alloc (.cells (zerosOf 8 .u8).toArray 208):=⟨_,rfl⟩
 have k0:Blk W w.heap.size 202 (cipherCells key S):=by rw [hW];exact ((Blk.new w _ _).alloc _).alloc _
 have k1:Blk W (w.heap.size + 1) 208 (block.map byte):=by rw [hW];exact (Blk.new2 w _ _ _).alloc _
 have k2:Blk W (w.heap.size + 1 + 1) 208 (zerosOf 8 .u8):=by rw [hW];exact Blk.newAt _ _ _ _ (by simp)
 have kS:Blk W S 291 mergedCells:=by rw [hW];exact ((hS.alloc _).alloc _).alloc _
 have bW:Below w.heap.size w W:=by rw [hW];exact (((Below.refl _ _).alloc (Nat.le_refl _) _).alloc (by simp) _).alloc (by simp;omega) _
 have sW:W.heap.size = w.heap.size + 1 + 1 + 1:=by rw [hW];simp
 subst hW
 have lS:=hS.lt
 go_enter Tryz.func112,Tryz.ntmps112
 go_wp2_with (first
   | (refine wpList_load_mid rfl 199 _ rfl w.heap.size 0 rfl (keyCells key) _ (cipher_keys k0) Tryz.underlying199 rfl (by rw [keyCells_length];kernel_rfl) ?_)
   | (refine store_blk rfl 199 _ _ rfl _ rfl rfl (Blk.newAt _ _ _ _ (by simp)) (by rw [keyCells_length];kernel_rfl) (by rw [keyCells_length];exact zerosOf_length _ _) (allOne_keys _) ?_;intro w2 hb2 hg2 hs2))
 have hb2':=hb2
 rw [keyCells_words] at hb2'
 refine (reverse_any _ _ (keyN key) _ hb2').mono ?_
 rintro e w3 ⟨rfl,hb3,hg3⟩
 rw [rev_cells] at hb3
 have s2:w2.heap.size = w.heap.size + 1 + 1 + 1 + 1:=by rw [hs2];simp
 have m0:=((k0.alloc _).grown hg2 (by simp;omega)).grown hg3 (by simp;omega)
 have m1:=((k1.alloc _).grown hg2 (by simp)).grown hg3 (by simp)
 have m2:=((k2.alloc _).grown hg2 (by simp)).grown hg3 (by simp)
 have mS:=((kS.alloc _).grown hg2 (by simp;omega)).grown hg3 (by simp;omega)
 have b3:=((bW.alloc bW.size _).grown hg2 (by simp;omega) (by intro k hk;cases hk;omega)).grown hg3 (by omega) (by intro k hk;cases hk;omega)
 have hrl:(((keyNums key).reverse).map word64).length = 16:=by simp [keyNums_length]
 clear hb2 hb2' k0 k1 k2 kS hg2 hg3 hs2 hz hz2 bW sW
 go_wp2_with (first
   | (refine load_blk rfl 202 _ rfl _ rfl m0 Tryz.underlying202 rfl (by rw [cipherCells_length];kernel_rfl) ?_)
   | (refine load_blk rfl 208 _ rfl _ rfl m1 Tryz.underlying208 rfl (by rw [hl];kernel_rfl) ?_)
   | (refine load_blk rfl 199 _ rfl _ rfl hb3 Tryz.underlying199 rfl (by rw [hrl];kernel_rfl) ?_)
   | (go_at_call 159;refine (run_any (cipherCells key S) block (keyNums key).reverse S _ (cipherCells_length _ _) (cipher_round _ _) h8 (by rw [List.length_reverse];exact keyNums_length _) (fun x hx=>keyNums_lt key x (List.mem_reverse.1 hx)) mS).mono ?_;rintro e w4 ⟨rfl,bel4⟩)
   | (refine store_blk rfl 208 _ _ rfl _ rfl rfl (m2.below bel4 m2.lt) (by rw [List.length_map,runN_length];kernel_rfl) (by rw [List.length_map,runN_length];exact zerosOf_length _ _) (allOne_bytes _) ?_;intro w5 hb5 hg5 hs5))
 have l3:=b3.size
 exact bodyPost_ret (v:=.agg ((decN key block).map byte).toArray) (results_blk Tryz.results112 _ _ rfl hb5 Tryz.underlying208 rfl (by rw [List.length_map,decN_length];kernel_rfl)) rfl
   ⟨rfl,(b3.trans (bel4.mono l3)).grown hg5 (Nat.le_trans l3 bel4.size) (by intro k hk;cases hk;omega)⟩
theorem below_drew {B:Nat} {w w':World} (h:Below B w.drew w'):Below B w w':=⟨h.os,h.tape,h.output,h.size,h.block⟩
theorem own_of_blk {w:World} {g t base n:Nat} {bs:List UInt8} (h:Blk w g t (bs.map byte)) (hb:base ≤ g) (hn:bs.length = n) (hm:n ≤ maxLen):Own w base (.slice (some ⟨g,0,none⟩) n n) bs:=by
 subst hn
 exact ⟨t,by simp,.inr ⟨g,bs.length,(bs.map byte).toArray,rfl,hb,h,Nat.le_refl _,hm,by simp,by rw [List.take_of_length_le (by simp)]⟩⟩
def num (n:Nat):Value:=.int .i64 (n:Int)
def OwnB (w:World) (base:Nat) (v:Value) (l:List UInt8):Prop:=w.ownsRow base 5 1 v l.length (l.map byte)
theorem OwnB.own {w:World} {base:Nat} {v:Value} {l:List UInt8} (h:OwnB w base v l):Own w base v l:=⟨_,h⟩
theorem app_step {w wr w1:World} {l:List UInt8} {v v1 c:Value} {x:UInt8} {o:Obj} (hown:OwnB wr w.heap.size v l) (hbel:Below w.heap.size w wr)
   (hown1:w1.ownsRow w.heap.size 5 1 v1 (l.length + 1) (l.map byte ++ [c])) (hgrow1:(wr.alloc o).grownBy w1 v.ownBlock) (hc:c = byte x):OwnB w1 w.heap.size v1 (l ++ [x]) ∧ Below w.heap.size w w1:=by
 have hsz:=hbel.size
 refine ⟨?_,(hbel.alloc hsz o).grown hgrow1 (by simp;omega) (fun j hj=>(hown.lt j hj).1)⟩
 unfold OwnB
 subst hc
 rw [List.map_append,List.length_append]
 exact hown1
theorem spec_bit_u8:∀ n:Nat,n < 256 → ∀ k:Nat,k < 8 → bits BinOp.and IntKind.u8 ((n:Int) / 2 ^ k) 1 = ((n / 2 ^ k % 2:Nat):Int):=by decide +kernel
def bitN (x:UInt8) (j:Nat):UInt8:=UInt8.ofNat (x.toNat / 2 ^ (7 - j) % 2)
def bits8 (x:UInt8):List UInt8:=(List.range 8).map (bitN x)
def bitsL (bs:List UInt8):List UInt8:=bs.flatMap bits8
theorem bits8_length (x:UInt8):(bits8 x).length = 8:=by simp [bits8]
theorem bitsL_length (bs:List UInt8):(bitsL bs).length = 8 * bs.length:=by
 induction bs with
 | nil=>rfl
 | cons b bs ih=>simp only [bitsL,List.flatMap_cons,List.length_append,bits8_length,List.length_cons] at *;omega
theorem bitsL_snoc (l:List UInt8) (x:UInt8):bitsL (l ++ [x]) = bitsL l ++ bits8 x:=by simp [bitsL]
theorem byte_bit (x:UInt8) (j:Nat) (hj:j < 8) (k:Nat) (hk:k = 7 - j):Value.int .u8 (bits BinOp.and IntKind.u8 ((x.toNat:Int) / 2 ^ k) 1) = byte (bitN x j):=by
 have h:=spec_bit_u8 x.toNat x.toNat_lt (7 - j) (by omega)
 unfold byte bitN
 rw [UInt8.toNat_ofNat',hk,h]
 congr 1
 omega
set_option maxHeartbeats 1000000 in
theorem bits_any (ao:Option Addr) (cap:Nat) (bs:List UInt8) (w:World) (hn:bs.length ≤ 1048576) (hr:RowAt w ao bs) :
   Calls Tryz.prog 148 #[.slice ao bs.length cap] w fun e w'=>∃ v,e = .returned v ∧ OwnB w' w.heap.size v (bitsL bs) ∧ Below w.heap.size w w':=by
 obtain ⟨i0,hi,hz0,hz1,hz2⟩:=info_parts Tryz.info5
 go_enter Tryz.func148,Tryz.ntmps148
 go_wp2
 go_loopw [3,5,6,9] (fun v _ _ i wr=>∃ k:Nat,k ≤ bs.length ∧ i = .int .i64 k ∧ OwnB wr w.heap.size v (bitsL (bs.take k)) ∧ Below w.heap.size w wr) (fun _ _ _ i _=>bs.length - (intOf i).toNat)
 case atStart=>exact ⟨0,Nat.zero_le _,rfl,World.ownsRow_nil _ _ _ _,Below.refl _ _⟩
 case round =>
   obtain ⟨k,hk,rfl,hown,hbel⟩:=hrel
   by_cases hlt:k < bs.length
   · obtain ⟨b,off,rfl,hc⟩:=hr.at hlt
     have hcx:wr.cell? ⟨b,off + k,none⟩ = some (.int .u8 (bs[k].toNat:Int)):=(hbel.cell (RowAt.lt hc hlt)).trans ((hc k hlt).trans (by simp [hlt]))
     clear hc hr
     go_wp2
     have hx:=bs[k].toNat_lt
     go_loopw [3,6] (fun v i wr=>∃ j:Nat,j ≤ 8 ∧ i = .int .i64 (7 - (j:Int)) ∧ OwnB wr w.heap.size v (bitsL (bs.take k) ++ (bits8 bs[k]).take j) ∧ Below w.heap.size w wr) (fun _ i _=>(intOf i + 1).toNat)
     case atStart=>exact ⟨0,Nat.zero_le _,rfl,by simpa using hown,hbel⟩
     case round =>
       clear hown hbel hcx
       obtain ⟨j,hj8,rfl,hown,hbel⟩:=hrel
       by_cases hj:j < 8
       · obtain ⟨s,hs,hs8,Hs⟩:∃ s:Nat,(7 - (j:Int)) = (s:Int) ∧ s ≤ 7 ∧ Hid (s = 7 - j):=⟨7 - j,by omega,by omega,rfl⟩
         have hl:(bitsL (bs.take k) ++ (bits8 bs[k]).take j).length ≤ 16777216:=by simp [bitsL_length,bits8_length];omega
         have hsz:=hbel.size
         rw [hs]
         have hsI:(0:Int) ≤ (s:Int):=by omega
         go_wp2_with (at_builtin;refine wpList_append_own _ rfl _ _ 22 rfl w.heap.size 5 i0 (.int .u8 0) 1 1 Tryz.underlying22 hi hz0 hz1 hz2 rfl (by decide) _ _ _ rfl (hown.alloc _) ⟨wr.heap.size,0,none⟩ 1 1 [.int .u8 (bits BinOp.and IntKind.u8 ((bs[k].toNat:Int) / 2 ^ s) 1)] rfl rfl (cell_one_new _ _ _) (by intro u hu;simp at hu;subst hu;rfl) (by unfold maxLen;omega) (by omega) (by simp;omega) ?_;intro v1 w1 hown1 hgrow1 hnil1)
         have R:=app_step (x:=bitN bs[k] j) hown hbel hown1 hgrow1 (byte_bit bs[k] j hj s Hs.out)
         have e2:bitsL (bs.take k) ++ (bits8 bs[k]).take j ++ [bitN bs[k] j] = bitsL (bs.take k) ++ (bits8 bs[k]).take (j + 1):=by
           rw [List.append_assoc,take_snoc (bits8 bs[k]) j (by rw [bits8_length];exact hj)];simp [bits8]
         rw [e2] at R
         clear hown1 hgrow1 hown hnil1 hs
         go_wp2
         go_roundw
         case rel=>exact ⟨j + 1,by omega,by have:=Hs.out;go_num,R.1,R.2⟩
         case measure=>simp [intOf]
       · obtain rfl:j = 8:=by omega
         go_wp2
         go_roundw
         case rel=>exact ⟨k + 1,by omega,by go_num,by rw [take_snoc bs k hlt,bitsL_snoc];rw [show (bits8 bs[k]).take 8 = bits8 bs[k] from List.take_of_length_le (by rw [bits8_length];exact Nat.le_refl _)] at hown;exact hown,hbel⟩
         case measure=>simp [intOf];omega
   · go_wp2
     go_ret
     obtain rfl:k = bs.length:=by omega
     rw [List.take_length] at hown
     exact ⟨_,rfl,hown,hbel⟩
end Go.Proofs.YtbkokcjolanpeaaGreatDoor
namespace Go.Proofs.YtbkokcjolanpeaaGreatDoor
open Go.RowKit
def xorL (a b:List UInt8):List UInt8:=List.zipWith (· ^^^ ·) a b
theorem xorL_length (a b:List UInt8) (h:a.length = b.length):(xorL a b).length = a.length:=by simp [xorL,h]
theorem xorL_get (a b:List UInt8) (i:Nat) (ha:i < a.length) (hb:i < b.length):(xorL a b)[i]'(by simp [xorL];omega) = a[i] ^^^ b[i]:=by simp [xorL]
theorem byte_xor (x y:UInt8):Value.int .u8 (bits BinOp.xor IntKind.u8 (x.toNat:Int) (y.toNat:Int)) = byte (x ^^^ y):=by
 unfold byte
 rw [u8_xor_nat _ _ x.toNat_lt y.toNat_lt,UInt8.toNat_xor]
set_option maxHeartbeats 1000000 in
theorem xor_any (ao bo:Option Addr) (cap cb:Nat) (a b:List UInt8) (w:World) (hn:a.length ≤ 1048576) (hab:a.length = b.length) (ha:RowAt w ao a) (hb:RowAt w bo b) :
   Calls Tryz.prog 143 #[.slice ao a.length cap,.slice bo b.length cb] w fun e w' =>
     e = .returned (.slice (some ⟨w.heap.size,0,none⟩) a.length a.length) ∧ OwnB w' w.heap.size (.slice (some ⟨w.heap.size,0,none⟩) a.length a.length) (xorL a b) ∧ Below w.heap.size w w':=by
 obtain ⟨i0,hi,hz0,hz1,hz2⟩:=info_parts Tryz.info5
 have hml:=xorL_length a b hab
 have Hab:Hid (a.length = b.length):=hab
 have Hml:Hid ((xorL a b).length = a.length):=hml
 have hle:a.length ≤ b.length:=by omega
 clear hab hml
 go_enter Tryz.func143,Tryz.ntmps143
 go_wp2_with (at_make;refine wpList_make_full _ rfl _ _ 22 rfl w.heap.size 5 i0 (.int .u8 0) 1 Tryz.underlying22 hi hz0 hz1 .i64 .i64 _ _ a.length rfl rfl rfl rfl (by rw [hz2];omega) (by unfold maxLen;omega) (Nat.le_refl _) ?_;intro w0 hown0 hgrow0)
 have hstart:w0.ownsRow w.heap.size 5 1 (.slice (some ⟨w.heap.size,0,none⟩) a.length a.length) a.length (part (xorL a b) 0):=by
   rw [part_zero,Hml.out,← made_zero];exact hown0
 have hb0:=below_of_grown hgrow0
 clear hown0 hgrow0
 go_loopw [6,12] (fun _ i wr=>∃ k:Nat,k ≤ a.length ∧ i = .int .i64 k ∧ wr.ownsRow w.heap.size 5 1 (.slice (some ⟨w.heap.size,0,none⟩) a.length a.length) a.length (part (xorL a b) k) ∧ Below w.heap.size w wr) (fun _ i _=>a.length - (intOf i).toNat)
 case atStart=>exact ⟨0,Nat.zero_le _,rfl,hstart,hb0⟩
 case round =>
   obtain ⟨k,hk,rfl,hown,hbel⟩:=hrel
   clear hstart hb0
   by_cases hlt:k < a.length
   · have hlt2:k < b.length:=by omega
     obtain ⟨b1,off1,rfl,hc1⟩:=ha.at hlt
     obtain ⟨b2,off2,rfl,hc2⟩:=hb.at hlt2
     have hcx:wr.cell? ⟨b1,off1 + k,none⟩ = some (.int .u8 (a[k].toNat:Int)):=(hbel.cell (RowAt.lt hc1 hlt)).trans ((hc1 k hlt).trans (by simp [hlt]))
     have hcy:wr.cell? ⟨b2,off2 + k,none⟩ = some (.int .u8 (b[k].toNat:Int)):=(hbel.cell (RowAt.lt hc2 hlt2)).trans ((hc2 k hlt2).trans (by simp [hlt2]))
     have hfz:wr.frozen? ⟨w.heap.size,k,none⟩ = false:=hown.frozenAt k
     obtain ⟨u,hu⟩:=own_some hown (by omega:k < a.length * 1)
     have hst:=(hown.stored k (byte (a[k] ^^^ b[k]))).1
     have hse:=part_set (xorL a b) k (by rw [Hml.out];exact hlt)
     rw [xorL_get a b k hlt hlt2] at hse
     rw [hse] at hst
     have hb2:=hbel.setCell (p:=⟨w.heap.size,k,none⟩) (Nat.le_refl _) (byte (a[k] ^^^ b[k]))
     have hkI:(k:Int) < (a.length:Int):=by omega
     have hkJ:(k:Int) < (b.length:Int):=by omega
     have HV:Hid (Value.int .u8 (bits BinOp.xor IntKind.u8 (a[k].toNat:Int) (b[k].toNat:Int)) = byte (a[k] ^^^ b[k])):=byte_xor _ _
     have Hst:Hid ((wr.setCell ⟨w.heap.size,k,none⟩ (byte (a[k] ^^^ b[k]))).ownsRow w.heap.size 5 1 (.slice (some ⟨w.heap.size,0,none⟩) a.length a.length) a.length (part (xorL a b) (k + 1))):=hst
     clear hown hbel hc1 hc2 hse ha hb hst
     go_wp2
     go_region
     go_wp2
     go_roundw
     case rel =>
       rw [HV.out]
       exact ⟨k + 1,by omega,by go_num,Hst.out,hb2.drew⟩
     case measure=>simp [intOf];omega
   · go_wp2
     go_ret
     have hkl:k = (xorL a b).length:=by have:=Hml.out;omega
     subst hkl
     rw [part_all] at hown
     exact ⟨rfl,by unfold OwnB;have e:=Hml.out;rw [e];exact hown,hbel⟩
theorem src_cells {w w0:World} {b off:Nat} {bs:List UInt8} (hb:Below w.heap.size w w0) (hl:b < w.heap.size) (hc:∀ i,i < bs.length → w.cell? ⟨b,off + i,none⟩ = some (.int .u8 ((bs.getD i 0).toNat:Int))) :
   ∀ j v,(bs.map byte)[j]? = some v → w0.cell? ((⟨b,off,none⟩:Addr).add j) = some v:=by
 intro j v hv
 have hj:j < bs.length:=by simpa using (List.getElem?_eq_some_iff.1 hv).1
 rw [Go.WideShapes.add_plain,hb.cell (p:=⟨b,off + j,none⟩) hl,hc j hj,← hv]
 simp [hj,byte]
theorem own_blk {w:World} {base e g n:Nat} {xs:List Value} (h:w.ownsRow base e 1 (.slice (some ⟨g,0,none⟩) n n) n xs):Blk w g e xs:=by
 rcases h.2 with ⟨hv,-⟩ | ⟨g',cap,cur,hv,hb,hh,hn,hm,hs,ht⟩
 · cases hv
 · simp only [Value.slice.injEq,Option.some.injEq,Addr.mk.injEq,and_true,true_and] at hv
   obtain ⟨rfl,rfl⟩:=hv
   unfold Blk
   rw [hh,← ht,List.take_of_length_le (by simp;omega)]
theorem blk_own {w:World} {base g:Nat} {l:List UInt8} (h:Blk w g 5 (l.map byte)) (hb:base ≤ g) (hm:l.length ≤ maxLen):OwnB w base (.slice (some ⟨g,0,none⟩) l.length l.length) l :=
 ⟨by simp,.inr ⟨g,l.length,(l.map byte).toArray,rfl,hb,h,Nat.le_refl _,hm,by simp,by rw [List.take_of_length_le (by simp)]⟩⟩
set_option maxHeartbeats 1000000 in
theorem bytes_some (b off cap:Nat) (bs:List UInt8) (w:World) (hn:bs.length ≤ 1048576) (h0:0 < bs.length) (hc:∀ i,i < bs.length → w.cell? ⟨b,off + i,none⟩ = some (.int .u8 ((bs.getD i 0).toNat:Int))) :
   Calls Tryz.prog 37 #[.slice (some ⟨b,off,none⟩) bs.length cap] w fun e w' =>
     e = .returned (.slice (some ⟨w.heap.size,0,none⟩) bs.length bs.length) ∧ OwnB w' w.heap.size (.slice (some ⟨w.heap.size,0,none⟩) bs.length bs.length) bs ∧ Below w.heap.size w w':=by
 obtain ⟨i0,hi,hz0,hz1,hz2⟩:=info_parts Tryz.info5
 have hbl:=RowAt.lt hc h0
 have HC:=fun i hi=>(Hid.out (show Hid (w.cell? ⟨b,off + i,none⟩ = some (.int .u8 ((bs.getD i 0).toNat:Int))) from hc i hi))
 have Hc:Hid (∀ i,i < bs.length → w.cell? ⟨b,off + i,none⟩ = some (.int .u8 ((bs.getD i 0).toNat:Int))):=hc
 clear HC hc
 go_enter Tryz.func37,Tryz.ntmps37
 go_wp2_with (first
   | (at_make;refine wpList_make_full _ rfl _ _ 22 rfl w.heap.size 5 i0 (.int .u8 0) 1 Tryz.underlying22 hi hz0 hz1 .i64 .i64 _ _ bs.length rfl rfl rfl rfl (by rw [hz2];omega) (by unfold maxLen;omega) (Nat.le_refl _) ?_;intro w0 hown0 hgrow0)
   | (refine wpList_copy_own rfl _ _ 22 22 rfl 5 Tryz.underlying22 (by kernel_rfl) w.heap.size 0 bs.length bs.length ⟨b,off,none⟩ bs.length cap rfl rfl _ 5 (own_blk hown0) (bs.map byte) (by simp) (src_cells (below_of_grown hgrow0) hbl Hc.out) (by rw [made_zero];simp) (by intro v hv;simp only [List.mem_map] at hv;obtain ⟨x,-,rfl⟩:=hv;rfl) ?_))
 go_ret
 have hb1:=own_blk hown0
 have hrow:=Blk.setRow hb1 (bs.map byte)
 have e:List.drop bs.length (madeCells #[Value.int IntKind.u8 0] bs.length).toList = []:=by
   rw [toList_madeCells_one];simp
 refine ⟨rfl,blk_own ?_ (Nat.le_refl _) (by unfold maxLen;omega),?_⟩
 · rw [e,List.append_nil];exact hrow
 · exact below_setRow' (below_of_grown hgrow0) (Nat.le_refl _) _
theorem bytes_any (ao:Option Addr) (cap:Nat) (bs:List UInt8) (w:World) (hn:bs.length ≤ 1048576) (h0:0 < bs.length) (hr:RowAt w ao bs) :
   Calls Tryz.prog 37 #[.slice ao bs.length cap] w fun e w' =>
     e = .returned (.slice (some ⟨w.heap.size,0,none⟩) bs.length bs.length) ∧ OwnB w' w.heap.size (.slice (some ⟨w.heap.size,0,none⟩) bs.length bs.length) bs ∧ Below w.heap.size w w':=by
 obtain ⟨b,off,rfl,hc⟩:=hr.at h0
 exact bytes_some b off cap bs w hn h0 hc
end Go.Proofs.YtbkokcjolanpeaaGreatDoor
namespace Go.Proofs.YtbkokcjolanpeaaGreatDoor
open Go.RowKit
def isBits (l:List UInt8):Prop:=∀ b ∈ l,b.toNat ≤ 1
def valN (l:List UInt8):Nat:=l.foldl (fun t b=>2 * t + b.toNat) 0
theorem OwnB.below {w w':World} {base:Nat} {v:Value} {l:List UInt8} (h:OwnB w base v l) (hb:Below w.heap.size w w'):OwnB w' base v l :=
 World.ownsRow.kept h (grown_of_below hb none) (by cases hv:v.ownBlock <;> simp)
theorem OwnB.mono {w:World} {B base:Nat} {v:Value} {l:List UInt8} (h:OwnB w base v l) (hB:B ≤ base):OwnB w B v l:=by
 refine ⟨h.1,?_⟩
 rcases h.2 with h | ⟨g,cap,cur,hv,hb,r⟩
 · exact .inl h
 · exact .inr ⟨g,cap,cur,hv,by omega,r⟩
theorem RowAt.drop {w:World} {b off:Nat} {l:List UInt8} (h:RowAt w (some ⟨b,off,none⟩) l) (n:Nat):RowAt w (some ⟨b,off + n,none⟩) (l.drop n):=by
 rcases h with rfl | ⟨b',off',e,hc⟩
 · exact .inl (by simp)
 · simp only [Option.some.injEq,Addr.mk.injEq,and_true] at e
   obtain ⟨rfl,rfl⟩:=e
   refine .inr ⟨b,off + n,rfl,fun i hi=>?_⟩
   rw [List.length_drop] at hi
   rw [Nat.add_assoc,hc (n + i) (by omega)]
   simp
theorem RowAt.take {w:World} {ao:Option Addr} {l:List UInt8} (h:RowAt w ao l) (n:Nat):RowAt w ao (l.take n):=by
 rcases h with rfl | ⟨b,off,rfl,hc⟩
 · exact .inl (by simp)
 · refine .inr ⟨b,off,rfl,fun i hi=>?_⟩
   rw [List.length_take] at hi
   rw [hc i (by omega)]
   simp [show i < n by omega]
theorem RowAt.news {w:World} {b off:Nat} {l:List UInt8} (h:RowAt w (some ⟨b,off,none⟩) l):∀ j u,(l.map byte)[j]? = some u → w.cell? ((⟨b,off,none⟩:Addr).add j) = some u:=by
 intro j u hj
 have hl:j < l.length:=by simpa using (List.getElem?_eq_some_iff.1 hj).1
 obtain ⟨b',off',e,hc⟩:=h.at hl
 simp only [Option.some.injEq,Addr.mk.injEq,and_true] at e
 obtain ⟨rfl,rfl⟩:=e
 rw [Go.WideShapes.add_plain,hc j hl,← hj]
 simp [hl,byte]
theorem own_at {w:World} {base n:Nat} {v:Value} {l:List UInt8} (h:OwnB w base v l) (hl:l.length = n) (h0:0 < n):∃ g cap,n ≤ cap ∧ v = .slice (some ⟨g,0,none⟩) n cap ∧ RowAt w (some ⟨g,0,none⟩) l:=by
 subst hl
 obtain ⟨ao,cap,rfl,row,-⟩:=h.own.shape
 rcases h.2 with ⟨-,hn⟩ | ⟨g,cap',cur,hv,hb,hh,hn,hm,hs,ht⟩
 · omega
 · simp only [Value.slice.injEq,true_and] at hv
   obtain ⟨rfl,rfl⟩:=hv
   exact ⟨g,cap,hn,rfl,row⟩
theorem own_num {w:World} {base n:Nat} {v:Value} {l:List UInt8} (h:OwnB w base v l) (hn:l.length = n):w.ownsRow base 5 1 v n (l.map byte):=by
 subst hn;exact h
theorem OwnB.low {w:World} {base:Nat} {v:Value} {l:List UInt8} (h:OwnB w base v l):∀ g,v.ownBlock = some g → base ≤ g:=fun g hg=>(h.lt g hg).1
theorem RowAt.blk {w:World} {g:Nat} {l:List UInt8} (h:RowAt w (some ⟨g,0,none⟩) l) (h0:0 < l.length):g < w.heap.size:=by
 obtain ⟨b,off,e,hc⟩:=h.at h0
 simp only [Option.some.injEq,Addr.mk.injEq,and_true] at e
 obtain ⟨rfl,rfl⟩:=e
 exact RowAt.lt hc h0
theorem valN_snoc (l:List UInt8) (b:UInt8):valN (l ++ [b]) = 2 * valN l + b.toNat:=by simp [valN]
theorem valN_lt (l:List UInt8) (h:isBits l):valN l < 2 ^ l.length:=by
 have:∀ t,l.foldl (fun t b=>2 * t + b.toNat) t < (t + 1) * 2 ^ l.length:=by
   induction l with
   | nil=>intro t;simp
   | cons c l ih =>
     intro t
     have hc:=h c (by simp)
     have hh:=ih (fun b hb=>h b (by simp [hb])) (2 * t + c.toNat)
     simp only [List.foldl_cons,List.length_cons]
     refine Nat.lt_of_lt_of_le hh ?_
     rw [Nat.pow_succ,Nat.mul_comm (2 ^ l.length) 2,← Nat.mul_assoc]
     exact Nat.mul_le_mul_right _ (by omega)
 simpa [valN] using this 0
def seg (l:List UInt8) (i j:Nat):List UInt8:=((l.take i).drop (8 * j)).take 8
def cellU (l:List UInt8) (i j:Nat):UInt8:=UInt8.ofNat (valN (seg l i j))
def cellsU (l:List UInt8) (i:Nat):List UInt8:=(List.range (l.length / 8)).map (cellU l i)
def unbitsL (l:List UInt8):List UInt8:=cellsU l l.length
theorem cellsU_length (l:List UInt8) (i:Nat):(cellsU l i).length = l.length / 8:=by simp [cellsU]
theorem seg_same (l:List UInt8) (i:Nat) (h:i < l.length):seg l (i + 1) (i / 8) = seg l i (i / 8) ++ [l[i]]:=by
 unfold seg
 rw [take_snoc l i h,List.drop_append_of_le_length (by simp;omega)]
 have hl:((l.take i).drop (8 * (i / 8))).length = i - 8 * (i / 8):=by simp;omega
 rw [List.take_append,List.take_of_length_le (l:=(l.take i).drop (8 * (i / 8))) (by omega),hl]
 rw [List.take_of_length_le (l:=[l[i]]) (by simp;omega)]
theorem seg_other (l:List UInt8) (i j:Nat) (hj:j ≠ i / 8):seg l (i + 1) j = seg l i j:=by
 unfold seg
 apply List.ext_getElem?
 intro m
 simp only [List.getElem?_take,List.getElem?_drop]
 by_cases hm:m < 8
 · simp only [hm,if_true]
   by_cases h1:8 * j + m < i
   · simp [h1,show 8 * j + m < i + 1 by omega]
   · rw [if_neg h1,if_neg (by omega)]
 · simp [hm]
theorem seg_bits {l:List UInt8} (h:isBits l) (i j:Nat):isBits (seg l i j):=fun b hb=>h b (List.mem_of_mem_take (List.mem_of_mem_drop (List.mem_of_mem_take hb)))
theorem seg_lt {l:List UInt8} (h:isBits l) (i:Nat) (hi:i < l.length):valN (seg l i (i / 8)) < 128:=by
 have h1:=valN_lt _ (seg_bits h i (i / 8))
 have h2:(seg l i (i / 8)).length ≤ 7:=by unfold seg;simp;omega
 have h3:=Nat.pow_le_pow_right (n:=2) (by omega) h2
 omega
theorem cellsU_set (l:List UInt8) (i:Nat) (h:i < l.length) (v:UInt8) (hv:v = UInt8.ofNat (2 * valN (seg l i (i / 8)) + l[i].toNat)):(cellsU l i).set (i / 8) v = cellsU l (i + 1):=by
 apply List.ext_getElem
 · simp [cellsU]
 · intro j h1 h2
   rw [cellsU_length] at h2
   rw [List.getElem_set]
   by_cases hj:i / 8 = j
   · rw [if_pos hj]
     subst hj
     simp [cellsU,cellU,hv,seg_same l i h,valN_snoc]
   · rw [if_neg hj]
     simp [cellsU,cellU,seg_other l i j (fun e=>hj e.symm)]
theorem unbit_step (o x:Nat) (ho:o < 128) (hx:x ≤ 1):bits BinOp.or IntKind.u8 ((o:Int) * 2 % 256) (x:Int) = ((2 * o + x:Nat):Int):=by
 have e:(o:Int) * 2 % 256 = ((2 * o:Nat):Int):=by omega
 rw [e,u8_or_nat _ _ (by omega) (by omega),nat_join 1 (2 * o) x (by omega) (by omega)]
theorem unbit_step2 (o x:Nat) (ho:o < 128) (hx:x ≤ 1):bits BinOp.or IntKind.u8 ((o:Int) * 2) (x:Int) = ((2 * o + x:Nat):Int):=by
 have:=unbit_step o x ho hx
 rw [show (o:Int) * 2 % 256 = (o:Int) * 2 from by omega] at this
 exact this
set_option maxHeartbeats 1000000 in
theorem unbits_any (ao:Option Addr) (cap:Nat) (l:List UInt8) (w:World) (hn:l.length ≤ 1048576) (h8:l.length % 8 = 0) (hb:isBits l) (hr:RowAt w ao l) :
   Calls Tryz.prog 84 #[.slice ao l.length cap] w fun e w'=>∃ v,e = .returned v ∧ OwnB w' w.heap.size v (unbitsL l) ∧ Below w.heap.size w w':=by
 obtain ⟨i0,hi,hz0,hz1,hz2⟩:=info_parts Tryz.info5
 obtain ⟨m,hm,hm8,Hm⟩:∃ m:Nat,((l.length:Int) / 8) = (m:Int) ∧ m ≤ 131072 ∧ Hid (m = l.length / 8):=⟨l.length / 8,by omega,by omega,rfl⟩
 go_enter Tryz.func84,Tryz.ntmps84
 go_wp2_with (at_make;refine wpList_make_full _ rfl _ _ 22 rfl w.heap.size 5 i0 (.int .u8 0) 1 Tryz.underlying22 hi hz0 hz1 .i64 .i64 _ _ m rfl rfl rfl rfl (by rw [hz2];omega) (by unfold maxLen;omega) (Nat.le_refl _) ?_;intro w0 hown0 hgrow0)
 have hstart:w0.ownsRow w.heap.size 5 1 (.slice (some ⟨w.heap.size,0,none⟩) m m) m ((cellsU l 0).map byte):=by
   have e:(cellsU l 0).map byte = List.replicate m (.int .u8 0):=by
     rw [Hm.out]
     apply List.ext_getElem
     · simp [cellsU]
     · intro j h1 h2
       simp [cellsU,cellU,seg,valN,byte]
   rw [e,← made_zero];exact hown0
 have hb0:=below_of_grown hgrow0
 clear hown0 hgrow0 hm
 go_loopw [4,5,12] (fun _ _ i wr=>∃ k:Nat,k ≤ l.length ∧ i = .int .i64 k ∧ wr.ownsRow w.heap.size 5 1 (.slice (some ⟨w.heap.size,0,none⟩) m m) m ((cellsU l k).map byte) ∧ Below w.heap.size w wr) (fun _ _ i _=>l.length - (intOf i).toNat)
 case atStart=>exact ⟨0,Nat.zero_le _,rfl,hstart,hb0⟩
 case round =>
   obtain ⟨k,hk,rfl,hown,hbel⟩:=hrel
   clear hstart hb0
   by_cases hlt:k < l.length
   · obtain ⟨b,off,rfl,hc⟩:=hr.at hlt
     have hcx:wr.cell? ⟨b,off + k,none⟩ = some (.int .u8 (l[k].toNat:Int)):=(hbel.cell (RowAt.lt hc hlt)).trans ((hc k hlt).trans (by simp [hlt]))
     obtain ⟨q,hq,hqm,Hq⟩:∃ q:Nat,((k:Int) / 8) = (q:Int) ∧ q < m ∧ Hid (q = k / 8):=⟨k / 8,by omega,by have:=Hm.out;omega,rfl⟩
     have hfz:wr.frozen? ⟨w.heap.size,q,none⟩ = false:=hown.frozenAt q
     obtain ⟨o,ho,ho128,Ho⟩:∃ o:Nat,wr.cell? ⟨w.heap.size,q,none⟩ = some (.int .u8 (o:Int)) ∧ o < 128 ∧ Hid (o = valN (seg l k (k / 8))):=by
       have h1:=seg_lt hb k hlt
       refine ⟨_,?_,h1,rfl⟩
       rw [hown.cellAt q (by omega)]
       have h2:q < (cellsU l k).length:=by rw [cellsU_length,← Hm.out];exact hqm
       rw [List.getElem?_map,List.getElem?_eq_getElem h2]
       have h3:(cellsU l k)[q] = cellU l k (k / 8):=by simp [cellsU,Hq.out]
       rw [h3]
       simp only [Option.map_some,byte,cellU,UInt8.toNat_ofNat']
       rw [Nat.mod_eq_of_lt (Nat.lt_trans h1 (by decide))]
     have hx1:=hb l[k] (List.getElem_mem hlt)
     have HV:Hid ((2 * o + l[k].toNat:Nat) = 2 * valN (seg l k (k / 8)) + l[k].toNat):=by show _ = _;rw [Ho.out]
     have hst:=(hown.stored q (byte (UInt8.ofNat (2 * o + l[k].toNat)))).1
     rw [← List.map_set,Hq.out,cellsU_set l k hlt _ (by rw [HV.out]),← Hq.out] at hst
     have hb2:=hbel.setCell (p:=⟨w.heap.size,q,none⟩) (Nat.le_refl _) (byte (UInt8.ofNat (2 * o + l[k].toNat)))
     have HE:Hid (byte (UInt8.ofNat (2 * o + l[k].toNat)) = .int .u8 ((2 * o + l[k].toNat:Nat):Int)):=by
       show _ = _
       unfold byte;rw [UInt8.toNat_ofNat',Nat.mod_eq_of_lt (by omega)]
     have hqI:(q:Int) < (m:Int):=by omega
     clear hown hbel hc hr
     go_wp2
     go_roundw
     case rel =>
       rw [unbit_step2 o l[k].toNat ho128 hx1,← HE.out]
       exact ⟨k + 1,by omega,by go_num,hst,hb2⟩
     case measure=>simp [intOf];omega
   · go_wp2
     go_ret
     obtain rfl:k = l.length:=by omega
     exact ⟨_,rfl,by unfold OwnB;show World.ownsRow _ _ _ _ _ (cellsU l l.length).length _;rw [cellsU_length,← Hm.out];exact hown,hbel⟩
end Go.Proofs.YtbkokcjolanpeaaGreatDoor
