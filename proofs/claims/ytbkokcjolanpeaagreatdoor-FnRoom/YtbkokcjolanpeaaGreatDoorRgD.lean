import Derived.Test.YtbkokcjolanpeaaGreatDoorRgB
namespace Go.Proofs.YtbkokcjolanpeaaGreatDoor
open Go.RowKit
def boxD:List UInt8:=[
 69,52,68,49,50,70,66,56,51,65,54,67,53,57,48,55,48,70,55,52,69,50,68,49,65,54,67,66,57,53,51,56,
 52,49,69,56,68,54,50,66,70,67,57,55,51,65,53,48,70,67,56,50,52,57,49,55,53,66,51,69,65,48,54,68,
 70,49,56,69,54,66,51,52,57,55,50,68,67,48,53,65,51,68,52,55,70,50,56,69,67,48,49,65,54,57,66,53,
 48,69,55,66,65,52,68,49,53,56,67,54,57,51,50,70,68,56,65,49,51,70,52,50,66,54,55,67,48,53,69,57,
 65,48,57,69,54,51,70,53,49,68,67,55,66,52,50,56,68,55,48,57,51,52,54,65,50,56,53,69,67,66,70,49,
 68,54,52,57,56,70,51,48,66,49,50,67,53,65,69,55,49,65,68,48,54,57,56,55,52,70,69,51,66,53,50,67,
 55,68,69,51,48,54,57,65,49,50,56,53,66,67,52,70,68,56,66,53,54,70,48,51,52,55,50,67,49,65,69,57,
 65,54,57,48,67,66,55,68,70,49,51,69,53,50,56,52,51,70,48,54,65,49,68,56,57,52,53,66,67,55,50,69,
 50,67,52,49,55,65,66,54,56,53,51,70,68,48,69,57,69,66,50,67,52,55,68,49,53,48,70,65,51,57,56,54,
 52,50,49,66,65,68,55,56,70,57,67,53,54,51,48,69,66,56,67,55,49,69,50,68,54,70,48,57,65,52,53,51,
 67,49,65,70,57,50,54,56,48,68,51,52,69,55,53,66,65,70,52,50,55,67,57,53,54,49,68,69,48,66,51,56,
 57,69,70,53,50,56,67,51,55,48,52,65,49,68,66,54,52,51,50,67,57,53,70,65,66,69,49,55,54,48,56,68,
 52,66,50,69,70,48,56,68,51,67,57,55,53,65,54,49,68,48,66,55,52,57,49,65,69,51,53,67,50,70,56,54,
 49,52,66,68,67,51,55,69,65,70,54,56,48,53,57,50,54,66,68,56,49,52,65,55,57,53,48,70,69,50,51,67,
 68,50,56,52,54,70,66,49,65,57,51,69,53,48,67,55,49,70,68,56,65,51,55,52,67,53,54,66,48,69,57,50,
 55,66,52,49,57,67,69,50,48,54,65,68,70,51,53,56,50,49,69,55,52,65,56,68,70,67,57,48,51,53,54,66]
def digN (box g:Nat):Nat:=hexN (boxD.getD (64 * box + 16 * (g / 32 * 2 + g % 2) + g / 2 % 16) 0).toNat
def mergedN (box g:Nat):Nat:=spreadN box (digN box g)
def mergedCell (j:Nat):Value:=word32 (mergedN (j / 64) (j % 64))
def mergedCells:List Value:=(List.range 512).map mergedCell
theorem mergedCells_length:mergedCells.length = 512:=by simp [mergedCells]
theorem allOne_merged:mergedCells.toArray.all (·.oneCell') = true:=allOne_map _ (fun _=>rfl) _
set_option maxRecDepth 100000 in
theorem boxD_hex:∀ i:Nat,i < 512 → hexN (boxD.getD i 0).toNat < 16:=by decide +kernel
theorem Tryz.zero291:(Tryz.prog.info? 291).map (fun i=>(i.zero,i.size)) = some (some (.agg (zerosOf 512 .u32).toArray),512):=by kernel_rfl
theorem g1:∀ g:Nat,g < 64 → bits BinOp.and IntKind.i64 ((g:Int) / 16) 2 = ((g / 32 * 2:Nat):Int):=by decide +kernel
theorem g2:∀ g:Nat,g < 64 → bits BinOp.and IntKind.i64 (g:Int) 1 = ((g % 2:Nat):Int):=by decide +kernel
theorem g3:∀ g:Nat,g < 64 → bits BinOp.or IntKind.i64 ((g / 32 * 2:Nat):Int) ((g % 2:Nat):Int) = ((g / 32 * 2 + g % 2:Nat):Int):=by decide +kernel
theorem g4:∀ g:Nat,g < 64 → bits BinOp.and IntKind.i64 ((g:Int) / 2) 15 = ((g / 2 % 16:Nat):Int):=by decide +kernel
theorem hex_lit (L:ByteArray) (x:Nat) (hx:x < L.size) (hL:L.data.toList = boxD) (hx5:x < 512) (w:World) :
   Calls Tryz.prog 223 #[.int .u8 (L[x].toNat:Int)] w fun e w'=>∃ d:Nat,e = .returned (.int .u8 d) ∧ d < 16 ∧ (d:Int) < 16 ∧ Hid (d = hexN (boxD.getD x 0).toNat) ∧ w' = w:=by
 have h:=boxD_hex x hx5
 have e1:L[x] = boxD.getD x 0:=by
   rw [← hL]
   have hl:x < L.data.toList.length:=by simpa using hx
   rw [List.getD_eq_getElem?_getD,List.getElem?_eq_getElem hl]
   rfl
 rw [e1]
 refine (hexValue_any (boxD.getD x 0).toNat w (UInt8.toNat_lt _)).mono ?_
 rintro e w' ⟨rfl,rfl⟩
 exact ⟨_,rfl,h,by omega,rfl,rfl⟩
theorem spread_cell {w:World} {S t k d:Nat} (h:Blk w S t (spreadCells k)) (hd:d < 16):w.cell? ⟨S,d,none⟩ = some (.int .u32 (spreadN k d:Nat)):=by
 rw [h.cell d (by rw [spreadCells_length];exact hd),spreadCells_get k d hd]
 rfl
set_option maxRecDepth 100000 in
set_option maxHeartbeats 1000000 in
theorem mergedBoxes_any (w:World) :
   Calls Tryz.prog 189 #[] w fun e w'=>e = .returned (.agg mergedCells.toArray) ∧ Below w.heap.size w w':=by
 have hz:=(zero_of_info Tryz.zero291).1
 have hz2:=(zero_of_info Tryz.zero319).1
 go_enter Tryz.func189,Tryz.ntmps189
 go_wp2
 go_loopw [2,3,4,5,6,7,12] (fun _ _ _ _ _ i _ wr=>∃ k:Nat,k ≤ 8 ∧ i = .int .i64 k ∧ Blk wr (w.heap.size + 1) 291 (upTo mergedCell (.int .u32 0) 512 (64 * k)) ∧ Blk wr w.heap.size 291 (zerosOf 512 .u32) ∧ Below w.heap.size w wr) (fun _ _ _ _ _ i _ _=>8 - (intOf i).toNat)
 case atStart=>exact ⟨0,Nat.zero_le _,rfl,by rw [upTo_zero];exact Blk.new2 w _ _ _,(Blk.new w _ _).alloc _,((Below.refl _ _).alloc (Nat.le_refl _) _).alloc (by simp) _⟩
 case round =>
   obtain ⟨k,hk,rfl,hb1,hb0,hbel⟩:=hrel
   by_cases hlt:k < 8
   · go_wp2_with (first | (go_at_call 222;refine (spreadDigits_any k _ hlt).mono ?_;rintro e w1 ⟨rfl,bel1⟩) | (refine store_blk rfl 319 _ _ rfl _ rfl rfl (Blk.new w1 _ _) (by rw [spreadCells_length];kernel_rfl) (by rw [zerosOf_length,spreadCells_length]) (allOne_spread _) ?_;intro w3 hb3 hg3 hs3))
     have L:Blk w3 (w.heap.size + 1) 291 (upTo mergedCell (.int .u32 0) 512 (64 * k)) ∧ Blk w3 w.heap.size 291 (zerosOf 512 .u32) ∧ Below w.heap.size w w3 ∧ w.heap.size + 1 < w1.heap.size:=by
       have l1:=hb1.lt
       have l2:=bel1.size
       have q1:Blk (w1.alloc (.cells (zerosOf 16 .u32).toArray 319)) (w.heap.size + 1) 291 (upTo mergedCell (.int .u32 0) 512 (64 * k)):=(hb1.below bel1 l1).alloc _
       have q0:Blk (w1.alloc (.cells (zerosOf 16 .u32).toArray 319)) w.heap.size 291 (zerosOf 512 .u32):=(hb0.below bel1 (by omega)).alloc _
       refine ⟨?_,?_,?_,by omega⟩
       · unfold Blk;rw [hg3.block _ q1.lt (by simp;omega)];exact q1
       · unfold Blk;rw [hg3.block _ q0.lt (by simp;omega)];exact q0
       · exact (((hbel.trans (bel1.mono hbel.size))).alloc (by omega) _).grown hg3 (by simp;omega) (by intro j hj;cases hj;omega)
     obtain ⟨S,hS⟩:∃ S,S = w1.heap.size:=⟨_,rfl⟩
     rw [← hS] at hb3 L
     rw [← hS]
     clear hb1 hb0 hbel hg3 hs3 bel1 hS
     obtain ⟨hb1,hb0,hbel,hSl⟩:=L
     go_loopw [4,5,6,12] (fun _ _ _ i wr=>∃ g:Nat,g ≤ 64 ∧ i = .int .i64 g ∧ Blk wr (w.heap.size + 1) 291 (upTo mergedCell (.int .u32 0) 512 (64 * k + g)) ∧ Blk wr w.heap.size 291 (zerosOf 512 .u32) ∧ Blk wr S 319 (spreadCells k) ∧ Below w.heap.size w wr) (fun _ _ _ i _=>64 - (intOf i).toNat)
     case atStart=>exact ⟨0,Nat.zero_le _,rfl,hb1,hb0,hb3,hbel⟩
     case round =>
       clear hb1 hb0 hbel hb3
       obtain ⟨g,hg,rfl,hb1,hb0,hb3,hbel⟩:=hrel
       by_cases hgl:g < 64
       · obtain ⟨a,ha,Ha⟩:∃ a:Nat,bits BinOp.and IntKind.i64 ((g:Int) / 16) 2 = (a:Int) ∧ Hid (a = g / 32 * 2):=⟨_,g1 g hgl,Eq.refl (g / 32 * 2)⟩
         obtain ⟨b,hb,Hb⟩:∃ b:Nat,bits BinOp.and IntKind.i64 (g:Int) 1 = (b:Int) ∧ Hid (b = g % 2):=⟨_,g2 g hgl,Eq.refl (g % 2)⟩
         obtain ⟨r,hr,hr4,Hr⟩:∃ r:Nat,bits BinOp.or IntKind.i64 (a:Int) (b:Int) = (r:Int) ∧ r < 4 ∧ Hid (r = g / 32 * 2 + g % 2):=⟨g / 32 * 2 + g % 2,by rw [Ha.out,Hb.out];exact g3 g hgl,by omega,rfl⟩
         obtain ⟨c,hc,hc16,Hc⟩:∃ c:Nat,bits BinOp.and IntKind.i64 ((g:Int) / 2) 15 = (c:Int) ∧ c < 16 ∧ Hid (c = g / 2 % 16):=⟨_,g4 g hgl,by omega,Eq.refl (g / 2 % 16)⟩
         obtain ⟨m1,hm1,Hm1⟩:∃ m:Nat,IntKind.i64.wrap (64 * (k:Int)) = (m:Int) ∧ Hid (m = 64 * k):=⟨64 * k,by rw [IntKind.wrap_i64];omega,rfl⟩
         obtain ⟨m2,hm2,Hm2⟩:∃ m:Nat,IntKind.i64.wrap (16 * (r:Int)) = (m:Int) ∧ Hid (m = 16 * r):=⟨16 * r,by rw [IntKind.wrap_i64];omega,rfl⟩
         obtain ⟨m3,hm3,Hm3⟩:∃ m:Nat,IntKind.i64.wrap ((m1:Int) + (m2:Int)) = (m:Int) ∧ Hid (m = 64 * k + 16 * r):=⟨64 * k + 16 * r,by have:=Hm1.out;have:=Hm2.out;rw [IntKind.wrap_i64];omega,rfl⟩
         obtain ⟨x,hx,hx5,Hx⟩:∃ m:Nat,IntKind.i64.wrap ((m3:Int) + (c:Int)) = (m:Int) ∧ m < 512 ∧ Hid (m = 64 * k + 16 * r + c):=⟨64 * k + 16 * r + c,by have:=Hm3.out;rw [IntKind.wrap_i64];omega,by omega,rfl⟩
         have hfm:wr.frozen? ⟨w.heap.size + 1,k * 64 + g,none⟩ = false:=hb1.free _
         obtain ⟨u,hu⟩:∃ u,wr.cell? ⟨w.heap.size + 1,k * 64 + g,none⟩ = some u:=⟨_,hb1.cell (k * 64 + g) (by rw [upTo_length];omega)⟩
         have hxi:(x:Int) < 512:=by omega
         have hkI:(k:Int) < 8:=by omega
         have hgI:(g:Int) < 64:=by omega
         go_wp2
         go_region_with (go_at_call 223;refine (hex_lit _ x _ (by kernel_rfl) hx5 _).mono ?_;rintro e w' ⟨d,rfl,hd16,hdI,Hd,rfl⟩;have hcd:=spread_cell hb3 hd16)
         have hval:Value.int IntKind.u32 (spreadN k d:Nat) = mergedCell (64 * k + g):=by
           unfold mergedCell word32 mergedN digN
           rw [show (64 * k + g) / 64 = k from by omega,show (64 * k + g) % 64 = g from by omega,← Hr.out,← Hc.out,← Hx.out,← Hd.out]
         have hst:=hb1.set (64 * k + g) (mergedCell (64 * k + g))
         rw [upTo_set,show 64 * k + g + 1 = 64 * k + (g + 1) from by omega] at hst
         have HV:Hid (Value.int IntKind.u32 (spreadN k d:Nat) = mergedCell (64 * k + g)):=hval
         clear hval
         go_wp2
         go_roundw
         case rel =>
           rw [HV.out,show k * 64 + g = 64 * k + g from by omega]
           exact ⟨g + 1,by omega,by go_num,hst.drew1,(hb0.other _ _ (by simp)).drew1,(hb3.other _ _ (by simp;omega)).drew1,(hbel.setCell (by simp) _).drew⟩
         case measure=>simp [intOf];omega
       · obtain rfl:g = 64:=by omega
         go_wp2
         go_roundw
         case rel=>exact ⟨k + 1,by omega,by go_num,by rw [show 64 * (k + 1) = 64 * k + 64 from by omega];exact hb1,hb0,hbel⟩
         case measure=>simp [intOf];omega
   · obtain rfl:k = 8:=by omega
     have hb1':Blk wr (w.heap.size + 1) 291 mergedCells:=by rw [upTo_all] at hb1;exact hb1
     go_wp2_with (first | (refine load_blk rfl 291 _ rfl _ rfl hb1' Tryz.underlying291 rfl (by rw [mergedCells_length];kernel_rfl) ?_) | (refine store_blk rfl 291 _ _ rfl _ rfl rfl hb0 (by rw [mergedCells_length];kernel_rfl) (by rw [zerosOf_length,mergedCells_length]) allOne_merged ?_;intro w2 hb2 hg2 hs2))
     exact bodyPost_ret (v:=.agg mergedCells.toArray) (results_blk Tryz.results189 _ _ rfl hb2 Tryz.underlying291 rfl (by rw [mergedCells_length];kernel_rfl)) rfl ⟨rfl,hbel.grown hg2 hbel.size (by intro k hk;cases hk;exact Nat.le_refl _)⟩
def groupN (half key k:Nat):Nat:=(rotN half (4 * k + 5) ^^^ key / 2 ^ (42 - 6 * k) % 4294967296) % 64
def mixN (half key:Nat):Nat → Nat
 | 0=>0
 | k + 1=>mixN half key k ||| mergedN k (groupN half key k)
theorem mixN_lt (half key k:Nat):mixN half key k < 4294967296:=by
 induction k with
 | zero=>simp [mixN]
 | succ k ih=>exact Nat.or_lt_two_pow (n:=32) ih (spreadN_lt _ _)
theorem rotN_lt (x k:Nat) (hx:x < 4294967296):rotN x k < 4294967296:=by
 unfold rotN
 have hd:x / 2 ^ (32 - k % 32) ≤ x:=Nat.div_le_self _ _
 exact Nat.or_lt_two_pow (n:=32) (by omega) (by omega)
theorem merged_cell {w:World} {S t k g:Nat} (h:Blk w S t mergedCells) (hk:k < 8) (hg:g < 64):w.cell? ⟨S,k * 64 + g,none⟩ = some (.int .u32 (mergedN k g:Nat)):=by
 rw [h.cell (k * 64 + g) (by rw [mergedCells_length];omega)]
 have:mergedCells[k * 64 + g]'(by rw [mergedCells_length];omega) = mergedCell (k * 64 + g):=by simp [mergedCells]
 rw [this]
 unfold mergedCell word32
 rw [show (k * 64 + g) / 64 = k from by omega,show (k * 64 + g) % 64 = g from by omega]
theorem drewN_add (w:World) (a b:Nat):(w.drewN a).drewN b = w.drewN (a + b):=by
 simp [World.drewN,Nat.add_assoc]
set_option maxHeartbeats 400000 in
theorem newRound_any (w:World) :
   Calls Tryz.prog 157 #[] w fun e w'=>∃ S,e = .returned (.func (.func 190) #[] #[.pointer (some ⟨S,0,none⟩)]) ∧ w.heap.size ≤ S ∧ Blk w' S 291 mergedCells ∧ Below w.heap.size w w':=by
 have hz:=(zero_of_info Tryz.zero291).1
 go_enter Tryz.func157,Tryz.ntmps157
 go_wp2_with (first | (go_at_call 189;refine (mergedBoxes_any _).mono ?_;rintro e w1 ⟨rfl,bel1⟩) | (refine store_blk rfl 291 _ _ rfl _ rfl rfl (Blk.new w1 _ _) (by rw [mergedCells_length];kernel_rfl) (by rw [zerosOf_length,mergedCells_length]) allOne_merged ?_;intro w2 hb2 hg2 hs2))
 go_ret
 exact ⟨_,rfl,bel1.size,hb2,(bel1.alloc bel1.size _).grown hg2 (by have:=bel1.size;simp;omega) (by intro k hk;cases hk;exact bel1.size)⟩
set_option maxHeartbeats 1000000 in
theorem round_any (half key S:Nat) (w:World) (hh:half < 4294967296) (_hk:key < 18446744073709551616) (hb:Blk w S 291 mergedCells) :
   Calls Tryz.prog 190 #[.int .u32 half,.int .u64 key,.pointer (some ⟨S,0,none⟩)] w fun e w'=>e = .returned (.int .u32 (mixN half key 8:Nat)) ∧ ∃ m,w' = w.drewN m:=by
 go_enter Tryz.func190,Tryz.ntmps190
 go_wp2
 go_loopw [6,7,8,9] (fun t _ _ i wr=>∃ k m:Nat,k ≤ 8 ∧ i = .int .i64 k ∧ t = .int .u32 (mixN half key k:Nat) ∧ wr = w.drewN m) (fun _ _ _ i _=>8 - (intOf i).toNat)
 case atStart=>exact ⟨0,0,Nat.zero_le _,rfl,rfl,rfl⟩
 case round =>
   obtain ⟨k,m,hk8,rfl,rfl,hwr⟩:=hrel
   have Hwr:Hid (wr = w.drewN m):=hwr
   have hbr:Blk wr S 291 mergedCells:=by rw [hwr];exact hb
   clear hwr hb
   by_cases hlt:k < 8
   · obtain ⟨m1,hm1,Hm1⟩:∃ m:Nat,IntKind.i64.wrap (4 * (k:Int)) = (m:Int) ∧ Hid (m = 4 * k):=⟨4 * k,by rw [IntKind.wrap_i64];omega,rfl⟩
     obtain ⟨m2,hm2,hm2b,Hm2⟩:∃ m:Nat,IntKind.i64.wrap ((m1:Int) + 5) = (m:Int) ∧ m ≤ 64 ∧ Hid (m = 4 * k + 5):=⟨4 * k + 5,by have:=Hm1.out;rw [IntKind.wrap_i64];omega,by omega,rfl⟩
     obtain ⟨m3,hm3,Hm3⟩:∃ m:Nat,IntKind.i64.wrap (6 * (k:Int)) = (m:Int) ∧ Hid (m = 6 * k):=⟨6 * k,by rw [IntKind.wrap_i64];omega,rfl⟩
     obtain ⟨m4,hm4,hm4b,Hm4⟩:∃ m:Nat,IntKind.i64.wrap (42 - (m3:Int)) = (m:Int) ∧ m ≤ 42 ∧ Hid (m = 42 - 6 * k):=⟨42 - 6 * k,by have:=Hm3.out;rw [IntKind.wrap_i64];omega,by omega,rfl⟩
     go_wp2
     go_quiet ((go_at_call 169;exact Calls.quiet_of_same (rotl_any _ _ _ hh hm2b)))
     obtain ⟨G,hG,hG32,HG⟩:∃ G:Nat,bits BinOp.xor IntKind.u32 ((rotN half m2:Nat):Int) ((key:Int) / 2 ^ m4 % 4294967296) = (G:Int) ∧ G < 4294967296 ∧ Hid (G = rotN half m2 ^^^ key / 2 ^ m4 % 4294967296):=by
       have h1:=rotN_lt half m2 hh
       have e:(key:Int) / 2 ^ m4 % 4294967296 = ((key / 2 ^ m4 % 4294967296:Nat):Int):=by simp
       exact ⟨_,by rw [e,u32_xor_nat _ _ h1 (by omega)],Nat.xor_lt_two_pow (n:=32) h1 (by omega),rfl⟩
     obtain ⟨gi,hgi,hgl,Hgi⟩:∃ g:Nat,bits BinOp.and IntKind.u32 (G:Int) 63 = (g:Int) ∧ g < 64 ∧ Hid (g = G % 64):=by
       have h:=u32_and_nat G 63 hG32 (by omega)
       rw [nat_mask6] at h
       exact ⟨G % 64,h,by omega,rfl⟩
     have hcell:=merged_cell hbr hlt hgl
     obtain ⟨M,hM,HM⟩:∃ M:Nat,bits BinOp.or IntKind.u32 ((mixN half key k:Nat):Int) ((mergedN k gi:Nat):Int) = (M:Int) ∧ Hid (M = mixN half key (k + 1)):=by
       refine ⟨mixN half key k ||| mergedN k gi,u32_or_nat _ _ (mixN_lt _ _ _) (spreadN_lt _ _),?_⟩
       show _ = mixN half key k ||| mergedN k (groupN half key k)
       rw [Hgi.out,HG.out,Hm2.out,Hm4.out]
       rfl
     have hkI:(k:Int) < 8:=by omega
     have hgI:(gi:Int) < 64:=by omega
     go_wp2
     go_roundw
     case rel=>exact ⟨k + 1,m + nq,by omega,by go_num,by rw [HM.out],by rw [Hwr.out,drewN_add]⟩
     case measure=>simp [intOf];omega
   · go_wp2
     go_ret
     obtain rfl:k = 8:=by omega
     exact ⟨rfl,m,Hwr.out⟩
def pc1Tab:List UInt8:=[57,49,41,33,25,17,9,1,58,50,42,34,26,18,10,2,59,51,43,35,27,19,11,3,60,52,44,36,
 63,55,47,39,31,23,15,7,62,54,46,38,30,22,14,6,61,53,45,37,29,21,13,5,28,20,12,4]
def pc2Tab:List UInt8:=[14,17,11,24,1,5,3,28,15,6,21,10,23,19,12,4,26,8,16,7,27,20,13,2,
 41,52,31,37,47,55,30,40,51,45,33,48,44,49,39,56,34,53,46,42,50,36,29,32]
def turnsTab:List Nat:=[1,1,2,2,2,2,2,2,1,2,2,2,2,2,2,1]
theorem pc1_cells:(pc1Tab.map byte).length = 56:=rfl
theorem pc2_cells:(pc2Tab.map byte).length = 48:=rfl
theorem pc1_in:∀ t ∈ pc1Tab,1 ≤ t.toNat ∧ t.toNat ≤ 64:=by decide
theorem pc2_in:∀ t ∈ pc2Tab,1 ≤ t.toNat ∧ t.toNat ≤ 56:=by decide
def turnCells:List Value:=turnsTab.map fun (n:Nat)=>Value.int .u64 (n:Int)
theorem turnCells_length:turnCells.length = 16:=rfl
theorem turns_in:∀ k,k < 16 → 1 ≤ turnsTab.getD k 0 ∧ turnsTab.getD k 0 ≤ 2:=by decide
theorem turnCells_get (k:Nat) (h:k < 16):turnCells.toArray[k]? = some (.int .u64 (turnsTab.getD k 0:Nat)):=by
 have:k < turnsTab.length:=h
 simp [turnCells,this]
theorem allOne_turns:turnCells.toArray.all (·.oneCell') = true:=allOne_map _ (fun _=>rfl) _
def halfN (h:Nat):Nat → Nat
 | 0=>h
 | k + 1=>turnN (halfN h k) (turnsTab.getD k 0)
theorem halfN_lt (h k:Nat) (hh:h < 268435456) (hk:k ≤ 16):halfN h k < 268435456:=by
 induction k with
 | zero=>exact hh
 | succ k ih=>exact turnN_lt _ _ (ih (by omega)) (turns_in k (by omega)).1 (turns_in k (by omega)).2
def bothN (key:List UInt8):Nat:=takeN (wordN key) 64 pc1Tab
theorem bothN_lt (key:List UInt8):bothN key < 72057594037927936:=takeN_lt _ _ pc1Tab
def keyN (key:List UInt8) (k:Nat):Nat:=takeN (halfN (bothN key / 268435456) (k + 1) * 268435456 + halfN (bothN key % 268435456) (k + 1)) 56 pc2Tab
theorem keyN_lt (key:List UInt8) (k:Nat):keyN key k < 281474976710656:=takeN_lt _ _ pc2Tab
def keyCell (key:List UInt8) (k:Nat):Value:=.int .u64 (keyN key k:Nat)
def keyCells (key:List UInt8):List Value:=(List.range 16).map (keyCell key)
theorem keyCells_length (key:List UInt8):(keyCells key).length = 16:=by simp [keyCells]
def keyNums (key:List UInt8):List Nat:=(List.range 16).map (keyN key)
theorem keyNums_length (key:List UInt8):(keyNums key).length = 16:=by simp [keyNums]
theorem keyNums_lt (key:List UInt8):∀ x ∈ keyNums key,x < 18446744073709551616:=by
 intro x hx
 simp only [keyNums,List.mem_map,List.mem_range] at hx
 obtain ⟨k,-,rfl⟩:=hx
 have:=keyN_lt key k
 omega
def word64 (n:Nat):Value:=.int .u64 (n:Int)
theorem keyCells_nums (key:List UInt8):keyCells key = (keyNums key).map word64:=by
 simp [keyCells,keyNums,keyCell,word64,Function.comp_def]
theorem allOne_keys (key:List UInt8):(keyCells key).toArray.all (·.oneCell') = true:=allOne_map _ (fun _=>rfl) _
theorem Tryz.zero199:(Tryz.prog.info? 199).map (fun i=>(i.zero,i.size)) = some (some (.agg (zerosOf 16 .u64).toArray),16):=by kernel_rfl
theorem Tryz.zero321:(Tryz.prog.info? 321).map (fun i=>(i.zero,i.size)) = some (some (.agg (zerosOf 56 .u8).toArray),56):=by kernel_rfl
theorem Tryz.zero322:(Tryz.prog.info? 322).map (fun i=>(i.zero,i.size)) = some (some (.agg (zerosOf 48 .u8).toArray),48):=by kernel_rfl
theorem Tryz.zero323:(Tryz.prog.info? 323).map (fun i=>(i.zero,i.size)) = some (some (.agg (zerosOf 16 .u64).toArray),16):=by kernel_rfl
theorem eight (bs:List UInt8) (h:bs.length = 8):∃ b0 b1 b2 b3 b4 b5 b6 b7,bs = [b0,b1,b2,b3,b4,b5,b6,b7]:=by
 match bs,h with
 | [b0,b1,b2,b3,b4,b5,b6,b7],_=>exact ⟨b0,b1,b2,b3,b4,b5,b6,b7,rfl⟩
set_option maxHeartbeats 2000000 in
theorem desKeys_any (key:List UInt8) (w:World) (h8:key.length = 8) :
   Calls Tryz.prog 191 #[.agg (key.map byte).toArray] w fun e w'=>e = .returned (.agg (keyCells key).toArray) ∧ Below w.heap.size w w':=by
 have hz1:=(zero_of_info Tryz.zero199).1
 have hz2:=(zero_of_info Tryz.zero321).1
 have hz3:=(zero_of_info Tryz.zero322).1
 have hz4:=(zero_of_info Tryz.zero323).1
 obtain ⟨b0,b1,b2,b3,b4,b5,b6,b7,rfl⟩:=eight key h8
 go_enter Tryz.func191,Tryz.ntmps191
 go_wp2_with (first
   | (refine build_to rfl 321 _ rfl (pc1Tab.map byte) (by kernel_rfl) ?_)
   | (refine build_to rfl 322 _ rfl (pc2Tab.map byte) (by kernel_rfl) ?_)
   | (refine build_to rfl 323 _ rfl turnCells (by kernel_rfl) ?_)
   | (refine store_blk rfl 321 _ _ rfl _ rfl rfl (Blk.newAt _ _ _ _ (by simp)) (by kernel_rfl) (by rw [pc1_cells];exact zerosOf_length _ _) (allOne_bytes _) ?_;intro w2 hb2 hg2 hs2)
   | (refine store_blk rfl 322 _ _ rfl _ rfl rfl (Blk.newAt w2 _ _ _ (by rw [hs2];simp)) (by kernel_rfl) (by rw [pc2_cells];exact zerosOf_length _ _) (allOne_bytes _) ?_;intro w3 hb3 hg3 hs3)
   | (refine store_blk rfl 323 _ _ rfl _ rfl rfl (Blk.newAt w3 _ _ _ (by rw [hs3];simp [hs2])) (by kernel_rfl) (by rw [turnCells_length];exact zerosOf_length _ _) allOne_turns ?_;intro w4 hb4 hg4 hs4))
 have A:Blk w4 w.heap.size 208 ([b0,b1,b2,b3,b4,b5,b6,b7].map byte) ∧ Blk w4 (w.heap.size + 1) 199 (zerosOf 16 .u64) ∧ Blk w4 (w.heap.size + 1 + 1) 321 (pc1Tab.map byte) ∧ Blk w4 (w.heap.size + 1 + 1 + 1) 322 (pc2Tab.map byte) ∧ Blk w4 (w.heap.size + 1 + 1 + 1 + 1) 323 turnCells ∧ Below w.heap.size w w4 ∧ w4.heap.size = w.heap.size + 1 + 1 + 1 + 1 + 1:=by
   have z2:w2.heap.size = w.heap.size + 3:=by rw [hs2];simp
   have z3:w3.heap.size = w.heap.size + 4:=by rw [hs3];simp [z2]
   have z4:w4.heap.size = w.heap.size + 5:=by rw [hs4];simp [z3]
   have q0:Blk w2 w.heap.size 208 ([b0,b1,b2,b3,b4,b5,b6,b7].map byte):=Blk.grown (((Blk.new w _ _).alloc _).alloc _) hg2 (by simp;omega)
   have q1:Blk w2 (w.heap.size + 1) 199 (zerosOf 16 .u64):=Blk.grown ((Blk.new2 w _ _ _).alloc _) hg2 (by simp)
   have b2:Below w.heap.size w w2:=((((Below.refl _ _).alloc (Nat.le_refl _) _).alloc (by simp) _).alloc (by simp;omega) _).grown hg2 (by simp;omega) (by intro k hk;cases hk;omega)
   have b3:Below w.heap.size w w3:=(b2.alloc (by omega) _).grown hg3 (by simp;omega) (by intro k hk;cases hk;omega)
   have b4:Below w.heap.size w w4:=(b3.alloc (by omega) _).grown hg4 (by simp;omega) (by intro k hk;cases hk;omega)
   have s0:=(q0.alloc _).grown hg3 (by simp <;> omega)
   have s1:=(q1.alloc _).grown hg3 (by simp <;> omega)
   have s2:=(hb2.alloc _).grown hg3 (by simp <;> omega)
   exact ⟨(s0.alloc _).grown hg4 (by simp <;> omega),(s1.alloc _).grown hg4 (by simp <;> omega),(s2.alloc _).grown hg4 (by simp <;> omega),(hb3.alloc _).grown hg4 (by simp <;> omega),hb4,b4,z4⟩
 obtain ⟨k0,k1,k2,k3,k4,bel4,z4⟩:=A
 clear hb2 hb3 hb4 hg2 hg3 hg4 hs2 hs3 hs4 hz2 hz3 hz4
 have c0:=k0.cell 0 (by simp)
 have c1:=k0.cell 1 (by simp)
 have c2:=k0.cell 2 (by simp)
 have c3:=k0.cell 3 (by simp)
 have c4:=k0.cell 4 (by simp)
 have c5:=k0.cell 5 (by simp)
 have c6:=k0.cell 6 (by simp)
 have c7:=k0.cell 7 (by simp)
 simp only [List.map_cons,List.map_nil,List.getElem_cons_zero,List.getElem_cons_succ] at c0 c1 c2 c3 c4 c5 c6 c7
 have hw8:=wordN_lt [b0,b1,b2,b3,b4,b5,b6,b7]
 have rw2:=rowAt_block k2
 go_region_with (first | (go_at_call 194;refine (wordOf_any [b0,b1,b2,b3,b4,b5,b6,b7] _ rfl).mono ?_;rintro e w5 ⟨rfl,bel5⟩) | (go_at_call 193;refine (takeBits_at _ 64 56 64 _ _ pc1Tab _ (by simpa using hw8) rfl (by omega) rfl (by omega) pc1_in (rw2.drew1.below bel5)).mono ?_;rintro e w6 ⟨rfl,rfl⟩))
 have bel5':Below w4.heap.size w4 w6:=⟨bel5.os,bel5.tape,bel5.output,bel5.size,bel5.block⟩
 have l5:=bel5'.size
 have j1:=k1.below bel5' (by omega)
 have j3:=k3.below bel5' (by omega)
 have j4:=k4.below bel5' (by omega)
 have bel6:=bel4.trans (bel5'.mono bel4.size)
 obtain ⟨B,hB,hB56,HB⟩:∃ B,takeN (wordN [b0,b1,b2,b3,b4,b5,b6,b7]) 64 pc1Tab = B ∧ B < 72057594037927936 ∧ Hid (B = bothN [b0,b1,b2,b3,b4,b5,b6,b7]):=⟨_,rfl,bothN_lt _,rfl⟩
 obtain ⟨D,hD,hD28,HD⟩:∃ D:Nat,bits BinOp.and IntKind.u64 (B:Int) 268435455 = (D:Int) ∧ D < 268435456 ∧ Hid (D = B % 268435456):=by
   have h:=u64_and_nat B 268435455 (by omega) (by omega)
   have hm:∀ y:Nat,y &&& 268435455 = y % 268435456:=fun y=>Nat.and_two_pow_sub_one_eq_mod y 28
   rw [hm] at h
   exact ⟨_,h,by omega,rfl⟩
 obtain ⟨C,hC,hC28,HC⟩:∃ C:Nat,(B:Int) / 268435456 = (C:Int) ∧ C < 268435456 ∧ Hid (C = B / 268435456):=⟨B / 268435456,by omega,by omega,rfl⟩
 clear k0 k1 k2 k3 k4 c0 c1 c2 c3 c4 c5 c6 c7 bel5 bel5' bel4 rw2 hw8
 obtain ⟨z5,hz5⟩:∃ n,n = w6.heap.size:=⟨_,rfl⟩
 go_wp2_with (refine load_blk rfl 323 _ rfl _ rfl (j4.alloc _) Tryz.underlying323 rfl (by rw [turnCells_length];kernel_rfl) ?_)
 have kK:Blk (w6.alloc (.cells (zerosOf 16 .u64).toArray 199)) z5 199 (zerosOf 16 .u64):=Blk.newAt w6 _ _ _ hz5
 have j1':=j1.alloc (.cells (zerosOf 16 .u64).toArray 199)
 have j3':=j3.alloc (.cells (zerosOf 16 .u64).toArray 199)
 have bel7:=bel6.alloc bel6.size (.cells (zerosOf 16 .u64).toArray 199)
 rw [← hz5]
 have hKl:w.heap.size + 5 ≤ z5:=by omega
 have HC':Hid (C = bothN [b0,b1,b2,b3,b4,b5,b6,b7] / 268435456 ∧ D = bothN [b0,b1,b2,b3,b4,b5,b6,b7] % 268435456):=⟨by rw [HC.out,HB.out],by rw [HD.out,HB.out]⟩
 clear j1 j3 j4 bel6 hz5 l5 z4 hB hD hC HB HD HC
 go_loopw [7,8,10,11,26] (fun c d _ _ i wr=>∃ k:Nat,k ≤ 16 ∧ i = .int .i64 k ∧ c = .int .u32 (halfN C k:Nat) ∧ d = .int .u32 (halfN D k:Nat) ∧ Blk wr z5 199 (upTo (keyCell [b0,b1,b2,b3,b4,b5,b6,b7]) (.int .u64 0) 16 k) ∧ Blk wr (w.heap.size + 1) 199 (zerosOf 16 .u64) ∧ Blk wr (w.heap.size + 1 + 1 + 1) 322 (pc2Tab.map byte) ∧ Below w.heap.size w wr) (fun _ _ _ _ i _=>16 - (intOf i).toNat)
 case atStart=>exact ⟨0,Nat.zero_le _,rfl,rfl,rfl,by rw [upTo_zero];exact kK,j1',j3',bel7⟩
 case round =>
   clear kK j1' j3' bel7
   obtain ⟨k,hk,rfl,rfl,rfl,kK,j1,j3,bel7⟩:=hrel
   by_cases hlt:k < 16
   · have hix:=run_index_agg (P:=Tryz.prog) Tryz.underlying323 Tryz.underlying103 rfl (by kernel_rfl) turnCells.toArray .i64 k hlt _ (turnCells_get k hlt)
     have ht:=turns_in k hlt
     obtain ⟨t,hte,Ht⟩:∃ t,turnsTab.getD k 0 = t ∧ Hid (turnsTab.getD k 0 = t):=⟨_,rfl,rfl⟩
     rw [hte] at hix ht
     clear hte
     have hc1:=halfN_lt C k hC28 hk
     have hd1:=halfN_lt D k hD28 hk
     have hc2:=halfN_lt C (k + 1) hC28 (by omega)
     have hd2:=halfN_lt D (k + 1) hD28 (by omega)
     have HCs:Hid (halfN C (k + 1) = turnN (halfN C k) t):=by rw [← Ht.out];rfl
     have HDs:Hid (halfN D (k + 1) = turnN (halfN D k) t):=by rw [← Ht.out];rfl
     rw [HCs.out] at hc2
     rw [HDs.out] at hd2
     obtain ⟨q,hq,hq64,Hq⟩:∃ q:Nat,bits BinOp.or IntKind.u64 ((turnN (halfN C k) t:Nat) * 268435456:Int) ((turnN (halfN D k) t:Nat):Int) = (q:Int) ∧ q < 18446744073709551616 ∧ Hid (q = turnN (halfN C k) t * 268435456 + turnN (halfN D k) t):=by
       refine ⟨_,?_,?_,rfl⟩
       · have e:((turnN (halfN C k) t:Nat) * 268435456:Int) = ((turnN (halfN C k) t * 268435456:Nat):Int):=by omega
         rw [e,u64_or_nat _ _ (by omega) (by omega),nat_join 28 _ _ (by omega) (by omega)]
       · omega
     have hf:=kK.free k
     obtain ⟨u,hu⟩:∃ u,wr.cell? ⟨z5,k,none⟩ = some u:=⟨_,kK.cell k (by rw [upTo_length];exact hlt)⟩
     have hst:=kK.set k (keyCell [b0,b1,b2,b3,b4,b5,b6,b7] k)
     rw [upTo_set] at hst
     have rw3:=rowAt_block j3
     go_wp2_with fail
     refine (turn28_any _ _ _ hc1 ht.1 ht.2).mono ?_
     rintro e w' ⟨rfl,rfl⟩
     go_wp2_with fail
     refine (turn28_any _ _ _ hd1 ht.1 ht.2).mono ?_
     rintro e w' ⟨rfl,rfl⟩
     go_wp2_with fail
     refine (takeBits_at q 56 48 56 _ _ pc2Tab _ hq64 rfl (by omega) rfl (by omega) pc2_in rw3).mono ?_
     rintro e w' ⟨rfl,rfl⟩
     go_wp2
     go_roundw
     case rel =>
       have hv:Value.int IntKind.u64 (takeN q 56 pc2Tab:Nat) = keyCell [b0,b1,b2,b3,b4,b5,b6,b7] k:=by
         unfold keyCell keyN
         rw [← HC'.out.1,← HC'.out.2,HCs.out,HDs.out,Hq.out]
       rw [hv]
       exact ⟨k + 1,by omega,by go_num,by rw [HCs.out],by rw [HDs.out],hst,j1.other _ _ (by simp;omega),j3.other _ _ (by simp;omega),bel7.setCell (by simp;omega) _⟩
     case measure=>simp [intOf];omega
   · obtain rfl:k = 16:=by omega
     have kK':Blk wr z5 199 (keyCells [b0,b1,b2,b3,b4,b5,b6,b7]):=by rw [upTo_all] at kK;exact kK
     go_wp2_with (first | (refine load_blk rfl 199 _ rfl _ rfl kK' Tryz.underlying199 rfl (by rw [keyCells_length];kernel_rfl) ?_) | (refine store_blk rfl 199 _ _ rfl _ rfl rfl j1 (by rw [keyCells_length];kernel_rfl) (by rw [zerosOf_length,keyCells_length]) (allOne_keys _) ?_;intro w8 hb8 hg8 hs8))
     exact bodyPost_ret (v:=.agg (keyCells [b0,b1,b2,b3,b4,b5,b6,b7]).toArray) (results_blk Tryz.results191 _ _ rfl hb8 Tryz.underlying199 rfl (by rw [keyCells_length];kernel_rfl)) rfl ⟨rfl,bel7.grown hg8 bel7.size (by intro k hk;cases hk;omega)⟩
def roundF (S:Nat):Value:=.func (.func 190) #[] #[.pointer (some ⟨S,0,none⟩)]
def cipherCells (key:List UInt8) (S:Nat):List Value:=keyCells key ++ [roundF S]
theorem cipherCells_length (key:List UInt8) (S:Nat):(cipherCells key S).length = 17:=by simp [cipherCells,keyCells_length]
theorem allOne_cipher (key:List UInt8) (S:Nat):(cipherCells key S).toArray.all (·.oneCell') = true:=by
 rw [Array.all_eq_true_iff_forall_mem]
 intro v hv
 simp only [cipherCells,keyCells,List.mem_toArray,List.mem_append,List.mem_map,List.mem_singleton] at hv
 rcases hv with ⟨k,-,rfl⟩ | rfl <;> rfl
def zeroCipher:List Value:=zerosOf 16 .u64 ++ [.nilFunc]
theorem zeroCipher_length:zeroCipher.length = 17:=rfl
theorem Tryz.zero202:(Tryz.prog.info? 202).map (fun i=>(i.zero,i.size)) = some (some (.agg zeroCipher.toArray),17):=by kernel_rfl
set_option maxHeartbeats 1000000 in
theorem newDes_any (key:List UInt8) (S:Nat) (w:World) (h8:key.length = 8) :
   Calls Tryz.prog 158 #[.agg (key.map byte).toArray,.func (.func 190) #[] #[.pointer (some ⟨S,0,none⟩)]] w fun e w'=>e = .returned (.agg (cipherCells key S).toArray) ∧ Below w.heap.size w w':=by
 have hz:=(zero_of_info Tryz.zero202).1
 have hl:(key.map byte).length = 8:=by simp [h8]
 have k0:Blk ((w.alloc (.cells (key.map byte).toArray 208)).alloc (.cells zeroCipher.toArray 202)) w.heap.size 208 (key.map byte):=(Blk.new w _ _).alloc _
 have k1:Blk ((w.alloc (.cells (key.map byte).toArray 208)).alloc (.cells zeroCipher.toArray 202)) (w.heap.size + 1) 202 zeroCipher:=Blk.new2 w _ _ _
 go_enter Tryz.func158,Tryz.ntmps158
 go_wp2_with (first
   | (refine load_blk rfl 208 _ rfl _ rfl k0 Tryz.underlying208 rfl (by rw [hl];kernel_rfl) ?_)
   | (go_at_call 191;refine (desKeys_any key _ h8).mono ?_;rintro e w1 ⟨rfl,bel1⟩)
   | (refine build_to rfl 202 _ rfl (cipherCells key S) (by kernel_rfl) ?_)
   | (refine store_blk rfl 202 _ _ rfl _ rfl rfl (k1.below bel1 (by simp)) (by rw [cipherCells_length];kernel_rfl) (by rw [cipherCells_length];exact zeroCipher_length) (allOne_cipher _ _) ?_;intro w2 hb2 hg2 hs2))
 exact bodyPost_ret (v:=.agg (cipherCells key S).toArray) (results_blk Tryz.results158 _ _ rfl hb2 Tryz.underlying202 rfl (by rw [cipherCells_length];kernel_rfl)) rfl ⟨rfl,by
   have b:Below w.heap.size w ((w.alloc (.cells (key.map byte).toArray 208)).alloc (.cells zeroCipher.toArray 202)):=((Below.refl _ _).alloc (Nat.le_refl _) _).alloc (by simp) _
   have l:=bel1.size
   exact (b.trans (bel1.mono b.size)).grown hg2 (by simp at l;omega) (by intro k hk;cases hk;omega)⟩
theorem Tryz.zero208:(Tryz.prog.info? 208).map (fun i=>(i.zero,i.size)) = some (some (.agg (zerosOf 8 .u8).toArray),8):=by kernel_rfl
def feisN (ks:List Nat) (L R:Nat):Nat → Nat × Nat
 | 0=>(L,R)
 | k + 1=>((feisN ks L R k).2,(feisN ks L R k).1 ^^^ mixN (feisN ks L R k).2 (ks.getD k 0) 8)
theorem feisN_lt (ks:List Nat) (L R:Nat) (hL:L < 4294967296) (hR:R < 4294967296) (k:Nat):(feisN ks L R k).1 < 4294967296 ∧ (feisN ks L R k).2 < 4294967296:=by
 induction k with
 | zero=>exact ⟨hL,hR⟩
 | succ k ih=>exact ⟨ih.2,Nat.xor_lt_two_pow (n:=32) ih.1 (mixN_lt _ _ _)⟩
def startN (block:List UInt8):Nat:=takeN (wordN block) 64 ipTab
def endN (L R:Nat):List UInt8:=blockN (putN (R * 4294967296 + L) 64 ipTab 64)
def runN (ks:List Nat) (block:List UInt8):List UInt8 :=
 endN (feisN ks (startN block / 4294967296) (startN block % 4294967296) 16).1 (feisN ks (startN block / 4294967296) (startN block % 4294967296) 16).2
theorem startN_lt (block:List UInt8):startN block < 18446744073709551616:=takeN_lt _ _ ipTab
theorem ip_in:∀ t ∈ ipTab,1 ≤ t.toNat ∧ t.toNat ≤ 64:=by decide
theorem runN_length (ks:List Nat) (block:List UInt8):(runN ks block).length = 8:=blockN_length _
set_option maxHeartbeats 2000000 in
theorem run_any (cs:List Value) (block:List UInt8) (ks:List Nat) (S:Nat) (w:World) (hcs:cs.length = 17) (hcf:cs[16]? = some (.func (.func 190) #[] #[.pointer (some ⟨S,0,none⟩)])) (h8:block.length = 8) (hks:ks.length = 16) (hkl:∀ x ∈ ks,x < 18446744073709551616)
   (hS:Blk w S 291 mergedCells) :
   Calls Tryz.prog 159 #[.agg cs.toArray,.agg (block.map byte).toArray,.agg (ks.map word64).toArray] w fun e w'=>e = .returned (.agg ((runN ks block).map byte).toArray) ∧ Below w.heap.size w w':=by
 have hz:=(zero_of_info Tryz.zero208).1
 have hz2:=(zero_of_info Tryz.zero294).1
 obtain ⟨b0,b1,b2,b3,b4,b5,b6,b7,rfl⟩:=eight block h8
 obtain ⟨kc,hkc⟩:∃ kc:List Value,kc = ks.map word64:=⟨_,rfl⟩
 rw [← hkc]
 have Hkc:Hid (kc = ks.map word64):=hkc
 clear hkc
 go_enter Tryz.func159,Tryz.ntmps159
 go_wp2_with (first
   | (go_at_call 192;refine (initialTable_any _).mono ?_;rintro e w1 ⟨rfl,bel1⟩)
   | (refine store_blk rfl 294 _ _ rfl _ rfl rfl (Blk.newAt w1 _ _ _ rfl) (by kernel_rfl) (by rw [ipTab_cells];exact zerosOf_length _ _) (allOne_bytes _) ?_;intro w2 hb2 hg2 hs2))
 have A:Blk w2 w.heap.size 202 cs ∧ Blk w2 (w.heap.size + 1) 208 ([b0,b1,b2,b3,b4,b5,b6,b7].map byte) ∧ Blk w2 (w.heap.size + 1 + 1) 199 kc ∧ Blk w2 (w.heap.size + 1 + 1 + 1) 208 (zerosOf 8 .u8) ∧ Below w.heap.size w w2 ∧ w.heap.size + 1 + 1 + 1 < w1.heap.size ∧ Blk w2 S 291 mergedCells:=by
   have l1:=bel1.size
   have lS:=hS.lt
   simp only [World.size_alloc] at l1
   have q0:=(((Blk.new w 202 cs.toArray).alloc (.cells #[byte b0,byte b1,byte b2,byte b3,byte b4,byte b5,byte b6,byte b7] 208)).alloc (.cells kc.toArray 199)).alloc (.cells (zerosOf 8 .u8).toArray 208)
   have q1:=((Blk.new2 w (.cells cs.toArray 202) 208 #[byte b0,byte b1,byte b2,byte b3,byte b4,byte b5,byte b6,byte b7]).alloc (.cells kc.toArray 199)).alloc (.cells (zerosOf 8 .u8).toArray 208)
   have q2:=(Blk.newAt ((w.alloc (.cells cs.toArray 202)).alloc (.cells #[byte b0,byte b1,byte b2,byte b3,byte b4,byte b5,byte b6,byte b7] 208)) 199 (w.heap.size + 1 + 1) kc.toArray (by simp)).alloc (.cells (zerosOf 8 .u8).toArray 208)
   have q3:=Blk.newAt (((w.alloc (.cells cs.toArray 202)).alloc (.cells #[byte b0,byte b1,byte b2,byte b3,byte b4,byte b5,byte b6,byte b7] 208)).alloc (.cells kc.toArray 199)) 208 (w.heap.size + 1 + 1 + 1) (zerosOf 8 .u8).toArray (by simp)
   have q4:=(((hS.alloc (.cells cs.toArray 202)).alloc (.cells #[byte b0,byte b1,byte b2,byte b3,byte b4,byte b5,byte b6,byte b7] 208)).alloc (.cells kc.toArray 199)).alloc (.cells (zerosOf 8 .u8).toArray 208)
   have b0':Below w.heap.size w ((((w.alloc (.cells cs.toArray 202)).alloc (.cells #[byte b0,byte b1,byte b2,byte b3,byte b4,byte b5,byte b6,byte b7] 208)).alloc (.cells kc.toArray 199)).alloc (.cells (zerosOf 8 .u8).toArray 208)):=((((Below.refl _ _).alloc (Nat.le_refl _) _).alloc (by simp) _).alloc (by simp;omega) _).alloc (by simp;omega) _
   have go:∀ {g t:Nat} {xs:List Value},Blk ((((w.alloc (.cells cs.toArray 202)).alloc (.cells #[byte b0,byte b1,byte b2,byte b3,byte b4,byte b5,byte b6,byte b7] 208)).alloc (.cells kc.toArray 199)).alloc (.cells (zerosOf 8 .u8).toArray 208)) g t xs → Blk w2 g t xs:=by
     intro g t xs h
     have hl:=h.lt
     refine ((h.below bel1 hl).alloc _).grown hg2 ?_
     simp only [World.size_alloc] at hl
     simp only [ne_eq,Option.some.injEq]
     omega
   exact ⟨go q0,go q1,go q2,go q3,((b0'.trans (bel1.mono b0'.size)).alloc (by omega) _).grown hg2 (by simp;omega) (by intro k hk;cases hk;omega),by omega,go q4⟩
 obtain ⟨a0,a1,a2,a3,bel2,hT,aS⟩:=A
 obtain ⟨T,hTe⟩:∃ T,T = w1.heap.size:=⟨_,rfl⟩
 rw [← hTe] at hb2 hT ⊢
 have lT:=hb2.lt
 clear bel1 hg2 hs2 hS hTe
 have c0:=a1.cell 0 (by simp)
 have c1:=a1.cell 1 (by simp)
 have c2:=a1.cell 2 (by simp)
 have c3:=a1.cell 3 (by simp)
 have c4:=a1.cell 4 (by simp)
 have c5:=a1.cell 5 (by simp)
 have c6:=a1.cell 6 (by simp)
 have c7:=a1.cell 7 (by simp)
 simp only [List.map_cons,List.map_nil,List.getElem_cons_zero,List.getElem_cons_succ] at c0 c1 c2 c3 c4 c5 c6 c7
 have hw8:=wordN_lt [b0,b1,b2,b3,b4,b5,b6,b7]
 have rwT:=rowAt_block hb2
 go_region_with (first | (go_at_call 194;refine (wordOf_any [b0,b1,b2,b3,b4,b5,b6,b7] _ rfl).mono ?_;rintro e w5 ⟨rfl,bel5⟩) | (go_at_call 193;refine (takeBits_at _ 64 64 64 _ _ ipTab _ (by simpa using hw8) rfl (by omega) rfl (by omega) ip_in (rwT.drew1.below bel5)).mono ?_;rintro e w6 ⟨rfl,rfl⟩))
 have bel5':Below w2.heap.size w2 w6:=⟨bel5.os,bel5.tape,bel5.output,bel5.size,bel5.block⟩
 have l5:=bel5'.size
 have d0:=a0.below bel5' a0.lt
 have d2:=a2.below bel5' a2.lt
 have d3:=a3.below bel5' a3.lt
 have dT:=hb2.below bel5' lT
 have dS:=aS.below bel5' aS.lt
 have bel6:=bel2.trans (bel5'.mono bel2.size)
 obtain ⟨X,hX,hX64,HX⟩:∃ X,takeN (wordN [b0,b1,b2,b3,b4,b5,b6,b7]) 64 ipTab = X ∧ X < 18446744073709551616 ∧ Hid (X = startN [b0,b1,b2,b3,b4,b5,b6,b7]):=⟨_,rfl,startN_lt _,rfl⟩
 obtain ⟨L,hL,hL32,HL⟩:∃ L:Nat,(X:Int) / 4294967296 = (L:Int) ∧ L < 4294967296 ∧ Hid (L = X / 4294967296):=⟨X / 4294967296,by omega,by omega,rfl⟩
 obtain ⟨R,hR,hR32,HR⟩:∃ R:Nat,(X:Int) % 4294967296 = (R:Int) ∧ R < 4294967296 ∧ Hid (R = X % 4294967296):=⟨X % 4294967296,by omega,by omega,rfl⟩
 clear a0 a1 a2 a3 aS hb2 bel2 bel5 bel5' c0 c1 c2 c3 c4 c5 c6 c7 rwT hw8 hz hz2
 have hkcl:kc.length = 16:=by rw [Hkc.out];simp [hks]
 go_wp2_with (refine load_blk rfl 199 _ rfl _ rfl d2 Tryz.underlying199 rfl (by rw [hkcl];kernel_rfl) ?_)
 have cf:w6.cell? ⟨w.heap.size,16,none⟩ = some (.func (.func 190) #[] #[.pointer (some ⟨S,0,none⟩)]):=by
   rw [d0.cell 16 (by omega)]
   have:=hcf
   rw [List.getElem?_eq_getElem (by omega)] at this
   exact this
 have HLR:Hid (L = startN [b0,b1,b2,b3,b4,b5,b6,b7] / 4294967296 ∧ R = startN [b0,b1,b2,b3,b4,b5,b6,b7] % 4294967296):=⟨by rw [HL.out,HX.out],by rw [HR.out,HX.out]⟩
 clear hX hL hR HX HL HR hX64 d0 d2
 go_loopw [9,10,12,24] (fun l r _ i wr=>∃ k m:Nat,k ≤ 16 ∧ i = .int .i64 k ∧ l = .int .u32 ((feisN ks L R k).1:Nat) ∧ r = .int .u32 ((feisN ks L R k).2:Nat) ∧ wr = w6.drewN m) (fun _ _ _ i _=>16 - (intOf i).toNat)
 case atStart=>exact ⟨0,0,Nat.zero_le _,rfl,rfl,rfl,rfl⟩
 case round =>
   obtain ⟨k,m,hk,rfl,rfl,hwr⟩:=hrel
   obtain ⟨rfl,hwr⟩:=hwr
   have Hwr:Hid (wr = w6.drewN m):=hwr
   have cf':wr.cell? ⟨w.heap.size,16,none⟩ = some (.func (.func 190) #[] #[.pointer (some ⟨S,0,none⟩)]):=by rw [hwr];exact cf
   have eS:Blk wr S 291 mergedCells:=by rw [hwr];exact dS
   have e3:Blk wr (w.heap.size + 1 + 1 + 1) 208 (zerosOf 8 .u8):=by rw [hwr];exact d3
   have eT:Blk wr T 294 (ipTab.map byte):=by rw [hwr];exact dT
   have bel7:Below w.heap.size w wr:=by rw [hwr];exact below_drewN bel6 m
   clear cf dS d3 dT bel6 hwr
   have hb:=feisN_lt ks L R hL32 hR32 k
   obtain ⟨l,hl,Hl⟩:∃ l,(feisN ks L R k).1 = l ∧ Hid ((feisN ks L R k).1 = l):=⟨_,rfl,rfl⟩
   obtain ⟨r,hr,Hr⟩:∃ r,(feisN ks L R k).2 = r ∧ Hid ((feisN ks L R k).2 = r):=⟨_,rfl,rfl⟩
   rw [hl,hr] at hb
   rw [hl,hr]
   clear hl hr
   by_cases hlt:k < 16
   · obtain ⟨y,hy,Hy⟩:∃ y,kc.toArray[k]? = some (.int .u64 (y:Nat)) ∧ y < 18446744073709551616 ∧ Hid (ks.getD k 0 = y):=by
       refine ⟨ks[k]'(by omega),?_,hkl _ (List.getElem_mem _),?_⟩
       · rw [Hkc.out];simp [word64,show k < ks.length by omega]
       · show ks.getD k 0 = _;simp [show k < ks.length by omega]
     have hix:=run_index_agg (P:=Tryz.prog) Tryz.underlying199 Tryz.underlying198 rfl (by kernel_rfl) kc.toArray .i64 k hlt _ hy
     obtain ⟨z,hz,Hz⟩:∃ z:Nat,bits BinOp.xor IntKind.u32 (l:Int) ((mixN r y 8:Nat):Int) = (z:Int) ∧ Hid (z = l ^^^ mixN r y 8):=⟨_,u32_xor_nat _ _ hb.1 (mixN_lt _ _ _),rfl⟩
     go_wp2_with (go_at_call 190;refine (round_any r y S _ hb.2 Hy.1 eS).mono ?_;rintro e w9 ⟨rfl,m9,rfl⟩)
     go_roundw
     case rel =>
       refine ⟨k + 1,m + m9,by omega,by go_num,?_,?_,?_⟩
       · show _ = Value.int IntKind.u32 ((feisN ks L R k).2:Nat)
         rw [Hr.out]
       · show _ = Value.int IntKind.u32 (((feisN ks L R k).1 ^^^ mixN (feisN ks L R k).2 (ks.getD k 0) 8:Nat):Int)
         rw [Hr.out,Hl.out,Hy.2.out,Hz.out]
       · rw [Hwr.out,drewN_add]
     case measure=>simp [intOf];omega
   · obtain rfl:k = 16:=by omega
     obtain ⟨q,hq,hq64,Hq⟩:∃ q:Nat,bits BinOp.or IntKind.u64 ((r:Int) * 4294967296) (l:Int) = (q:Int) ∧ q < 18446744073709551616 ∧ Hid (q = r * 4294967296 + l):=by
       refine ⟨_,?_,?_,rfl⟩
       · have e:((r:Int) * 4294967296) = ((r * 4294967296:Nat):Int):=by omega
         rw [e,u64_or_nat _ _ (by omega) (by omega),nat_join 32 _ _ (by omega) (by omega)]
       · omega
     have hp64:putN q 64 ipTab 64 < 18446744073709551616:=putN_lt q 64 ipTab (by omega) ip_in 64 (by decide)
     have rwT:=rowAt_block eT
     go_wp2_with (first | (go_at_call 196;refine (putBits_at q 64 64 64 _ _ ipTab _ hq64 rfl (by omega) rfl (by omega) ip_in rwT).mono ?_;rintro e w' ⟨rfl,rfl⟩) | (go_at_call 195;refine (blockOf_any _ _ hp64).mono ?_;rintro e w8 ⟨rfl,bel8⟩) | (refine store_blk rfl 208 _ _ rfl _ rfl rfl (e3.below bel8 e3.lt) (by rw [List.length_map,blockN_length];kernel_rfl) (by rw [List.length_map,blockN_length];exact zerosOf_length _ _) (allOne_bytes _) ?_;intro w10 hb10 hg10 hs10))
     have hfin:blockN (putN q 64 ipTab 64) = runN ks [b0,b1,b2,b3,b4,b5,b6,b7]:=by
       unfold runN endN
       rw [← HLR.out.1,← HLR.out.2,Hl.out,Hr.out,Hq.out]
     rw [hfin] at hb10
     have l7:=bel7.size
     exact bodyPost_ret (v:=.agg ((runN ks [b0,b1,b2,b3,b4,b5,b6,b7]).map byte).toArray) (results_blk Tryz.results159 _ _ rfl hb10 Tryz.underlying208 rfl (by rw [List.length_map,runN_length];kernel_rfl)) rfl
       ⟨rfl,(bel7.trans (bel8.mono l7)).grown hg10 (Nat.le_trans l7 bel8.size) (by intro k hk;cases hk;omega)⟩
end Go.Proofs.YtbkokcjolanpeaaGreatDoor
