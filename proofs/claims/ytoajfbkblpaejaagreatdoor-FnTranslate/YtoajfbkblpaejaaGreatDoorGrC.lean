import Derived.Test.YtoajfbkblpaejaaGreatDoorGrB
import Derived.Deep.MidRow
import Derived.Laws.Cover3
import Derived.Deep.DeepCutAuto
import Derived.Deep.RegionHeld3
namespace Go.Proofs.YtoajfbkblpaejaaGreatDoor
open Go.RowKit
def revAt (f:Nat → Value) (k i:Nat):Value:=if i < k ∨ 15 < i + k then f (15 - i) else f i
def revCells (f:Nat → Value) (k:Nat):List Value:=(List.range 16).map (revAt f k)
theorem revCells_length (f:Nat → Value) (k:Nat):(revCells f k).length = 16:=by simp [revCells]
theorem revCells_get (f:Nat → Value) (k i:Nat) (h:i < 16):(revCells f k)[i]'(by rw [revCells_length];exact h) = revAt f k i:=by simp [revCells]
theorem revCells_step (f:Nat → Value) (k:Nat) (h:k < 8):((revCells f k).set k (f (15 - k))).set (15 - k) (f k) = revCells f (k + 1):=by
 apply List.ext_getElem
 · simp [revCells]
 · intro i h1 h2
   rw [revCells_length] at h2
   rw [List.getElem_set,List.getElem_set,revCells_get f k i h2,revCells_get f (k + 1) i h2]
   unfold revAt
   by_cases e1:15 - k = i
   · rw [if_pos e1,if_pos (by omega),show 15 - i = k from by omega]
   · rw [if_neg e1]
     by_cases e2:k = i
     · rw [if_pos e2,if_pos (by omega),e2]
     · rw [if_neg e2]
       by_cases e3:i < k ∨ 15 < i + k
       · rw [if_pos e3,if_pos (by omega)]
       · rw [if_neg e3,if_neg (by omega)]
set_option maxHeartbeats 1000000 in
theorem reverse_any (g t:Nat) (f:Nat → Nat) (w:World) (hb:Blk w g t ((List.range 16).map fun i=>word64 (f i))) :
   Calls Tryz.prog 114 #[.slice (some ⟨g,0,none⟩) 16 16] w fun e w'=>e = .returned (.tuple #[]) ∧ Blk w' g t ((List.range 16).map fun i=>word64 (f (15 - i))) ∧ w.grownBy w' (some g):=by
 have h0:Blk w g t (revCells (fun i=>word64 (f i)) 0):=by
   have:revCells (fun i=>word64 (f i)) 0 = (List.range 16).map fun i=>word64 (f i):=by
     unfold revCells revAt
     apply List.map_congr_left
     intro i hi
     rw [List.mem_range] at hi
     rw [if_neg (by omega)]
   rw [this];exact hb
 clear hb
 go_enter Tryz.func114,Tryz.ntmps114
 go_wp2
 go_loopw [2,3] (fun i j wr=>∃ k:Nat,k ≤ 8 ∧ i = .int .i64 k ∧ j = .int .i64 ((15:Int) - k) ∧ Blk wr g t (revCells (fun i=>word64 (f i)) k) ∧ w.grownBy wr (some g)) (fun i _ _=>8 - (intOf i).toNat)
 case atStart=>exact ⟨0,Nat.zero_le _,rfl,rfl,h0,World.grownBy.refl _ _⟩
 case round =>
   clear h0
   obtain ⟨k,hk,rfl,rfl,hb,hg⟩:=hrel
   by_cases hlt:k < 8
   · obtain ⟨j,hj,hj16,Hj⟩:∃ j:Nat,((15:Int) - (k:Int)) = (j:Int) ∧ j < 16 ∧ Hid (j = 15 - k):=⟨15 - k,by omega,by omega,rfl⟩
     have hkj:k < j:=by have:=Hj.out;omega
     have hk16:k < 16:=by omega
     have ck:wr.cell? ⟨g,k,none⟩ = some (.int .u64 (f k:Nat)):=by
       rw [hb.cell k (by rw [revCells_length];exact hk16),revCells_get _ _ _ hk16];unfold revAt;rw [if_neg (by omega)];rfl
     have cj:wr.cell? ⟨g,j,none⟩ = some (.int .u64 (f j:Nat)):=by
       rw [hb.cell j (by rw [revCells_length];exact hj16),revCells_get _ _ _ hj16];unfold revAt;rw [if_neg (by have:=Hj.out;omega)];rfl
     have fk:=hb.free k
     have fj:=hb.free j
     have hne:¬ k = j:=by omega
     have hne2:¬ j = k:=by omega
     have hkI:(k:Int) < 16:=by omega
     have hjI:(j:Int) < 16:=by omega
     have hkjI:(k:Int) < (j:Int):=by omega
     have hst:=(hb.set k (word64 (f j))).set j (word64 (f k))
     have hgr:=grown_trans hg (grown_trans (b:=wr.setCell ⟨g,k,none⟩ (word64 (f j))) ⟨rfl,rfl,rfl,by simp [World.setCell],fun i _ hi=>heap_setCell_other wr _ i _ (fun e=>hi (by simp [e]))⟩ (c:=(wr.setCell ⟨g,k,none⟩ (word64 (f j))).setCell ⟨g,j,none⟩ (word64 (f k))) ⟨rfl,rfl,rfl,by simp [World.setCell],fun i _ hi=>heap_setCell_other _ _ i _ (fun e=>hi (by simp [e]))⟩)
     rw [hj]
     clear hj
     go_wp2
     go_region
     go_wp2
     go_roundw
     case rel =>
       have hs:((revCells (fun i=>word64 (f i)) k).set k (word64 (f j))).set j (word64 (f k)) = revCells (fun i=>word64 (f i)) (k + 1):=by
         have:=revCells_step (fun i=>word64 (f i)) k hlt
         rw [← Hj.out] at this
         exact this
       rw [hs] at hst
       exact ⟨k + 1,by omega,by go_num,by have:=Hj.out;go_num,hst,⟨hgr.os,hgr.tape,hgr.output,hgr.size,hgr.block⟩⟩
     case measure=>simp [intOf];omega
   · obtain rfl:k = 8:=by omega
     go_wp2
     go_end0
     refine ⟨rfl,?_,hg⟩
     have:revCells (fun i=>word64 (f i)) 8 = (List.range 16).map fun i=>word64 (f (15 - i)):=by
       unfold revCells revAt
       apply List.map_congr_left
       intro i hi
       rw [List.mem_range] at hi
       by_cases h:i < 8 ∨ 15 < i + 8
       · rw [if_pos h]
       · omega
     rw [← this];exact hb
theorem cipher_round (key:List UInt8) (S:Nat):(cipherCells key S)[16]? = some (.func (.func 110) #[] #[.pointer (some ⟨S,0,none⟩)]):=by
 unfold cipherCells
 rw [List.getElem?_append_right (by rw [keyCells_length];exact Nat.le_refl _),keyCells_length]
 rfl
theorem cipher_keys {w:World} {g t:Nat} {key:List UInt8} {S:Nat} (h:Blk w g t (cipherCells key S)):w.rangeAt g 0 (keyCells key):=by
 intro j v hv
 have hj:j < (keyCells key).length:=(List.getElem?_eq_some_iff.1 hv).1
 rw [Nat.zero_add,h.cell j (by rw [cipherCells_length];rw [keyCells_length] at hj;omega)]
 have:(cipherCells key S)[j]? = some v:=by unfold cipherCells;rw [List.getElem?_append_left hj];exact hv
 rw [List.getElem?_eq_getElem (by rw [cipherCells_length];rw [keyCells_length] at hj;omega)] at this
 exact this
def encN (key block:List UInt8):List UInt8:=runN (keyNums key) block
def decN (key block:List UInt8):List UInt8:=runN (keyNums key).reverse block
theorem encN_length (key block:List UInt8):(encN key block).length = 8:=runN_length _ _
theorem decN_length (key block:List UInt8):(decN key block).length = 8:=runN_length _ _
set_option maxHeartbeats 1000000 in
theorem encrypt_any (key block:List UInt8) (S:Nat) (w:World) (h8:block.length = 8) (hS:Blk w S 150 mergedCells) :
   Calls Tryz.prog 79 #[.agg (cipherCells key S).toArray,.agg (block.map byte).toArray] w fun e w'=>e = .returned (.agg ((encN key block).map byte).toArray) ∧ Below w.heap.size w w':=by
 have hz:=(zero_of_info Tryz.zero79).1
 have hl:(block.map byte).length = 8:=by simp [h8]
 obtain ⟨W,hW⟩:∃ W,W = ((w.alloc (.cells (cipherCells key S).toArray 87)).alloc (.cells (block.map byte).toArray 79)).alloc (.cells (zerosOf 8 .u8).toArray 79):=⟨_,rfl⟩
 have k0:Blk W w.heap.size 87 (cipherCells key S):=by rw [hW];exact ((Blk.new w _ _).alloc _).alloc _
 have k1:Blk W (w.heap.size + 1) 79 (block.map byte):=by rw [hW];exact (Blk.new2 w _ _ _).alloc _
 have k2:Blk W (w.heap.size + 1 + 1) 79 (zerosOf 8 .u8):=by rw [hW];exact Blk.newAt _ _ _ _ (by simp)
 have kS:Blk W S 150 mergedCells:=by rw [hW];exact ((hS.alloc _).alloc _).alloc _
 have bW:Below w.heap.size w W:=by rw [hW];exact (((Below.refl _ _).alloc (Nat.le_refl _) _).alloc (by simp) _).alloc (by simp;omega) _
 subst hW
 go_enter Tryz.func79,Tryz.ntmps79
 go_wp2_with (first
   | (refine load_blk rfl 87 _ rfl _ rfl k0 Tryz.underlying87 rfl (by rw [cipherCells_length];kernel_rfl) ?_)
   | (refine load_blk rfl 79 _ rfl _ rfl k1 Tryz.underlying79 rfl (by rw [hl];kernel_rfl) ?_)
   | (refine wpList_load_mid rfl 84 _ rfl w.heap.size 0 rfl (keyCells key) _ (cipher_keys k0) Tryz.underlying84 rfl (by rw [keyCells_length];kernel_rfl) ?_)
   | (go_at_call 113;rw [keyCells_nums];refine (run_any (cipherCells key S) block (keyNums key) S _ (cipherCells_length _ _) (cipher_round _ _) h8 (keyNums_length _) (keyNums_lt _) kS).mono ?_;rintro e w1 ⟨rfl,bel1⟩)
   | (refine store_blk rfl 79 _ _ rfl _ rfl rfl (k2.below bel1 k2.lt) (by rw [List.length_map,runN_length];kernel_rfl) (by rw [List.length_map,runN_length];exact zerosOf_length _ _) (allOne_bytes _) ?_;intro w2 hb2 hg2 hs2))
 have lW:=bW.size
 exact bodyPost_ret (v:=.agg ((encN key block).map byte).toArray) (results_blk Tryz.results79 _ _ rfl hb2 Tryz.underlying79 rfl (by rw [List.length_map,encN_length];kernel_rfl)) rfl
   ⟨rfl,(bW.trans (bel1.mono lW)).grown hg2 (Nat.le_trans lW bel1.size) (by intro k hk;cases hk;omega)⟩
theorem rev_cells (key:List UInt8):((List.range 16).map fun i=>word64 (keyN key (15 - i))) = ((keyNums key).reverse).map word64:=by
 apply List.ext_getElem
 · simp [keyNums]
 · intro i h1 h2
   simp [keyNums]
theorem keyCells_words (key:List UInt8):keyCells key = (List.range 16).map fun i=>word64 (keyN key i):=by
 simp [keyCells,keyCell,word64]
set_option maxHeartbeats 1000000 in
theorem decrypt_any (key block:List UInt8) (S:Nat) (w:World) (h8:block.length = 8) (hS:Blk w S 150 mergedCells) :
   Calls Tryz.prog 80 #[.agg (cipherCells key S).toArray,.agg (block.map byte).toArray] w fun e w'=>e = .returned (.agg ((decN key block).map byte).toArray) ∧ Below w.heap.size w w':=by
 have hz:=(zero_of_info Tryz.zero79).1
 have hz2:=(zero_of_info Tryz.zero84).1
 have hl:(block.map byte).length = 8:=by simp [h8]
 obtain ⟨W,hW⟩:∃ W,W = ((w.alloc (.cells (cipherCells key S).toArray 87)).alloc (.cells (block.map byte).toArray 79)).alloc (.cells (zerosOf 8 .u8).toArray 79):=⟨_,rfl⟩
 have k0:Blk W w.heap.size 87 (cipherCells key S):=by rw [hW];exact ((Blk.new w _ _).alloc _).alloc _
 have k1:Blk W (w.heap.size + 1) 79 (block.map byte):=by rw [hW];exact (Blk.new2 w _ _ _).alloc _
 have k2:Blk W (w.heap.size + 1 + 1) 79 (zerosOf 8 .u8):=by rw [hW];exact Blk.newAt _ _ _ _ (by simp)
 have kS:Blk W S 150 mergedCells:=by rw [hW];exact ((hS.alloc _).alloc _).alloc _
 have bW:Below w.heap.size w W:=by rw [hW];exact (((Below.refl _ _).alloc (Nat.le_refl _) _).alloc (by simp) _).alloc (by simp;omega) _
 have sW:W.heap.size = w.heap.size + 1 + 1 + 1:=by rw [hW];simp
 subst hW
 have lS:=hS.lt
 go_enter Tryz.func80,Tryz.ntmps80
 go_wp2_with (first
   | (refine wpList_load_mid rfl 84 _ rfl w.heap.size 0 rfl (keyCells key) _ (cipher_keys k0) Tryz.underlying84 rfl (by rw [keyCells_length];kernel_rfl) ?_)
   | (refine store_blk rfl 84 _ _ rfl _ rfl rfl (Blk.newAt _ _ _ _ (by simp)) (by rw [keyCells_length];kernel_rfl) (by rw [keyCells_length];exact zerosOf_length _ _) (allOne_keys _) ?_;intro w2 hb2 hg2 hs2))
 have hb2':=hb2
 rw [keyCells_words] at hb2'
 refine (reverse_any _ _ (keyN key) _ hb2').mono ?_
 rintro e w3 ⟨rfl,hb3,hg3⟩
 rw [rev_cells] at hb3
 have s2:w2.heap.size = w.heap.size + 1 + 1 + 1 + 1:=by rw [hs2];simp
 have m0:=((k0.alloc _).grown hg2 (by simp;omega)).grown hg3 (by simp;omega)
 have m1:=((k1.alloc _).grown hg2 (by simp)).grown hg3 (by simp)
 have m2:=((k2.alloc _).grown hg2 (by simp)).grown hg3 (by simp)
 have mS:=((kS.alloc _).grown hg2 (by simp;omega)).grown hg3 (by simp;omega)
 have b3:=((bW.alloc bW.size _).grown hg2 (by simp;omega) (by intro k hk;cases hk;omega)).grown hg3 (by omega) (by intro k hk;cases hk;omega)
 have hrl:(((keyNums key).reverse).map word64).length = 16:=by simp [keyNums_length]
 clear hb2 hb2' k0 k1 k2 kS hg2 hg3 hs2 hz hz2 bW sW
 go_wp2_with (first
   | (refine load_blk rfl 87 _ rfl _ rfl m0 Tryz.underlying87 rfl (by rw [cipherCells_length];kernel_rfl) ?_)
   | (refine load_blk rfl 79 _ rfl _ rfl m1 Tryz.underlying79 rfl (by rw [hl];kernel_rfl) ?_)
   | (refine load_blk rfl 84 _ rfl _ rfl hb3 Tryz.underlying84 rfl (by rw [hrl];kernel_rfl) ?_)
   | (go_at_call 113;refine (run_any (cipherCells key S) block (keyNums key).reverse S _ (cipherCells_length _ _) (cipher_round _ _) h8 (by rw [List.length_reverse];exact keyNums_length _) (fun x hx=>keyNums_lt key x (List.mem_reverse.1 hx)) mS).mono ?_;rintro e w4 ⟨rfl,bel4⟩)
   | (refine store_blk rfl 79 _ _ rfl _ rfl rfl (m2.below bel4 m2.lt) (by rw [List.length_map,runN_length];kernel_rfl) (by rw [List.length_map,runN_length];exact zerosOf_length _ _) (allOne_bytes _) ?_;intro w5 hb5 hg5 hs5))
 have l3:=b3.size
 exact bodyPost_ret (v:=.agg ((decN key block).map byte).toArray) (results_blk Tryz.results80 _ _ rfl hb5 Tryz.underlying79 rfl (by rw [List.length_map,decN_length];kernel_rfl)) rfl
   ⟨rfl,(b3.trans (bel4.mono l3)).grown hg5 (Nat.le_trans l3 bel4.size) (by intro k hk;cases hk;omega)⟩
set_option maxHeartbeats 400000 in
theorem direction_any (a b:Value) (dec:Bool) (w:World) :
   Calls Tryz.prog 39 #[a,b,.bool dec] w fun e w'=>e = .returned (if dec then b else a) ∧ w' = w:=by
 cases dec
 all_goals
   go_enter Tryz.func39,Tryz.ntmps39
   go_wp2
   go_ret
   exact ⟨rfl,rfl⟩
theorem below_drew {B:Nat} {w w':World} (h:Below B w.drew w'):Below B w w':=⟨h.os,h.tape,h.output,h.size,h.block⟩
theorem own_of_blk {w:World} {g t base n:Nat} {bs:List UInt8} (h:Blk w g t (bs.map byte)) (hb:base ≤ g) (hn:bs.length = n) (hm:n ≤ maxLen):Own w base (.slice (some ⟨g,0,none⟩) n n) bs:=by
 subst hn
 exact ⟨t,by simp,.inr ⟨g,bs.length,(bs.map byte).toArray,rfl,hb,h,Nat.le_refl _,hm,by simp,by rw [List.take_of_length_le (by simp)]⟩⟩
end Go.Proofs.YtoajfbkblpaejaaGreatDoor
