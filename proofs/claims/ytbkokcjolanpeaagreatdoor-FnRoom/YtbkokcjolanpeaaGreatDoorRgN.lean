import Derived.Test.YtbkokcjolanpeaaGreatDoorRgM
namespace Go.Proofs.YtbkokcjolanpeaaGreatDoor
open Go.RowKit
theorem flat_get (bl:List (List UInt8)) (h16:∀ b ∈ bl,b.length = 16):∀ i,i < bl.length * 16 → bl.flatten[i]? = some ((bl.getD (i / 16) []).getD (i % 16) 0):=by
 induction bl with
 | nil=>intro i hi;simp at hi
 | cons b l ih =>
   intro i hi
   have hb:b.length = 16:=h16 b (by simp)
   rw [List.flatten_cons]
   by_cases h:i < 16
   · rw [List.getElem?_append_left (by omega),show i / 16 = 0 from by omega,show i % 16 = i from by omega]
     have:i < b.length:=by omega
     simp [this]
   · rw [List.getElem?_append_right (by omega),hb,ih (fun c hc=>h16 c (by simp [hc])) (i - 16) (by simp at hi;omega)]
     rw [show i / 16 = (i - 16) / 16 + 1 from by omega,show (i - 16) % 16 = i % 16 from by omega]
     rfl
theorem flat_len (bl:List (List UInt8)) (h16:∀ b ∈ bl,b.length = 16):bl.flatten.length = bl.length * 16:=by
 induction bl with
 | nil=>rfl
 | cons b l ih=>rw [List.flatten_cons,List.length_append,ih (fun c hc=>h16 c (by simp [hc])),h16 b (by simp),List.length_cons];omega
theorem map_get (X:List UInt8) (j:Nat) (h:j < X.length):(X.map byte)[j]? = some (byte (X.getD j 0)):=by simp [h]
theorem flat_at (bl:List (List UInt8)) (h16:∀ b ∈ bl,b.length = 16) (i:Nat) (hi:i < bl.length * 16):(bl.flatten.map byte)[i]? = some (byte ((bl.getD (i / 16) []).getD (i % 16) 0)):=by
 rw [List.getElem?_map,flat_get bl h16 i hi];rfl
structure RowQ (w:World) (base g cap:Nat) (cur:List Value) (bl:List (List UInt8)):Prop where
 low:base ≤ g
 blk:Blk w g 88 cur
 len:bl.length ≤ cap
 max:cap ≤ maxLen
 size:cur.length = cap * 16
 row:cur.take (bl.length * 16) = bl.flatten.map byte
theorem OwnKQ.split {w:World} {base:Nat} {v:Value} {bl:List (List UInt8)} (h:OwnKQ w base v bl) (h0:0 < bl.length):∃ g cap cur,v = .slice (some ⟨g,0,none⟩) bl.length cap ∧ RowQ w base g cap cur bl:=by
 rcases h.2 with ⟨-,hn⟩ | ⟨g,cap,cur,hv,hb,hh,hn,hm,hs,ht⟩
 · omega
 · exact ⟨g,cap,cur.toList,hv,hb,hh,hn,hm,by simpa using hs,ht⟩
theorem RowQ.own {w:World} {base g cap:Nat} {cur:List Value} {bl:List (List UInt8)} (h:RowQ w base g cap cur bl) (h16:∀ b ∈ bl,b.length = 16):OwnKQ w base (.slice (some ⟨g,0,none⟩) bl.length cap) bl :=
 ⟨by rw [List.length_map,flat_len bl h16],.inr ⟨g,cap,cur.toArray,rfl,h.low,h.blk,h.len,h.max,by simpa using h.size,h.row⟩⟩
theorem set_mem16 {bl:List (List UInt8)} (h16:∀ b ∈ bl,b.length = 16) (k:Nat) (Y:List UInt8) (hY:Y.length = 16):∀ b ∈ bl.set k Y,b.length = 16:=by
 intro b hb
 rcases List.mem_or_eq_of_mem_set hb with h | h
 · exact h16 b h
 · rw [h,hY]
theorem RowQ.range {w:World} {base g cap:Nat} {cur:List Value} {bl:List (List UInt8)} (h:RowQ w base g cap cur bl) (h16:∀ b ∈ bl,b.length = 16) (k:Nat) (hk:k < bl.length):w.rangeAt g (k * 16) ((bl.getD k []).map byte):=by
 intro j v hv
 have hl:(bl.getD k []).length = 16:=by
   rw [show bl.getD k [] = bl[k] from by simp [hk]]
   exact h16 _ (List.getElem_mem _)
 have hj:j < 16:=by have:=(List.getElem?_eq_some_iff.1 hv).1;rw [List.length_map,hl] at this;exact this
 have hsz:=h.size
 have hn:=h.len
 have hi:k * 16 + j < bl.length * 16:=by omega
 have e:cur[k * 16 + j]? = some v:=by
   have e1:(cur.take (bl.length * 16))[k * 16 + j]? = cur[k * 16 + j]?:=List.getElem?_take_of_lt hi
   rw [← e1,h.row,flat_at bl h16 _ hi,← hv,show (k * 16 + j) / 16 = k from by omega,show (k * 16 + j) % 16 = j from by omega,map_get _ j (by omega)]
 rw [h.blk.cell (k * 16 + j) (by omega),← List.getElem?_eq_getElem,e]
theorem RowQ.put {w w':World} {base g cap:Nat} {cur cur':List Value} {bl:List (List UInt8)} (h:RowQ w base g cap cur bl) (h16:∀ b ∈ bl,b.length = 16) (k:Nat) (hk:k < bl.length) (Y:List UInt8) (hY:Y.length = 16) (hb:Blk w' g 88 cur') (hl:cur'.length = cur.length)
   (hc:∀ i,cur'[i]? = if k * 16 ≤ i ∧ i < k * 16 + 16 then (Y.map byte)[i - k * 16]? else cur[i]?):RowQ w' base g cap cur' (bl.set k Y):=by
 refine ⟨h.low,hb,by rw [List.length_set];exact h.len,h.max,by rw [hl];exact h.size,?_⟩
 rw [List.length_set]
 apply List.ext_getElem?
 intro i
 have hfl:=flat_len (bl.set k Y) (set_mem16 h16 k Y hY)
 rw [List.length_set] at hfl
 by_cases hi:i < bl.length * 16
 · rw [List.getElem?_take_of_lt hi,hc,flat_at _ (set_mem16 h16 k Y hY) i (by rw [List.length_set];exact hi)]
   by_cases hr:k * 16 ≤ i ∧ i < k * 16 + 16
   · rw [if_pos hr,show i / 16 = k from by omega,show i - k * 16 = i % 16 from by omega]
     have e3:(bl.set k Y).getD k [] = Y:=by rw [List.getD_eq_getElem?_getD,List.getElem?_set_self hk];rfl
     rw [e3,map_get Y _ (by omega)]
   · rw [if_neg hr]
     have e1:(cur.take (bl.length * 16))[i]? = cur[i]?:=List.getElem?_take_of_lt hi
     rw [← e1,h.row,flat_at bl h16 i hi]
     have hne:¬ k = i / 16:=by omega
     have e2:(bl.set k Y).getD (i / 16) [] = bl.getD (i / 16) []:=by
       rw [List.getD_eq_getElem?_getD,List.getD_eq_getElem?_getD,List.getElem?_set_ne hne]
     rw [e2]
 · rw [List.getElem?_eq_none (by rw [List.length_take];omega),List.getElem?_eq_none (by rw [List.length_map,hfl];omega)]
theorem RowQ.below {w w':World} {base g cap:Nat} {cur:List Value} {bl:List (List UInt8)} (h:RowQ w base g cap cur bl) (hb:Below w.heap.size w w'):RowQ w' base g cap cur bl:=⟨h.low,h.blk.below hb h.blk.lt,h.len,h.max,h.size,h.row⟩
theorem RowQ.whole {w w':World} {base g cap:Nat} {cur:List Value} {bl:List (List UInt8)} (h:RowQ w base g cap cur bl) (h16:∀ b ∈ bl,b.length = 16) (k:Nat) (hk:k < bl.length) (Y:List UInt8) (hY:Y.length = 16) (hb:Blk w' g 88 (setL cur (k * 16) (Y.map byte))):RowQ w' base g cap (setL cur (k * 16) (Y.map byte)) (bl.set k Y):=by
 have hsz:=h.size
 have hn:=h.len
 refine h.put h16 k hk Y hY hb (setL_length _ _ _) ?_
 intro i
 rw [setL_get _ _ _ _ (by rw [List.length_map,hY];omega),List.length_map,hY]
theorem RowQ.one {w w':World} {base g cap:Nat} {cur:List Value} {bl:List (List UInt8)} (h:RowQ w base g cap cur bl) (h16:∀ b ∈ bl,b.length = 16) (k:Nat) (hk:k < bl.length) (r:Nat) (hr:r < 16) (x:UInt8) (hb:Blk w' g 88 (cur.set (k * 16 + r) (byte x))):RowQ w' base g cap (cur.set (k * 16 + r) (byte x)) (bl.set k ((bl.getD k []).set r x)):=by
 have hsz:=h.size
 have hn:=h.len
 have hl:(bl.getD k []).length = 16:=by
   rw [show bl.getD k [] = bl[k] from by simp [hk]]
   exact h16 _ (List.getElem_mem _)
 refine h.put h16 k hk _ (by rw [List.length_set,hl]) hb (by rw [List.length_set]) ?_
 intro i
 by_cases hri:k * 16 ≤ i ∧ i < k * 16 + 16
 · rw [if_pos hri,List.map_set]
   by_cases e:k * 16 + r = i
   · subst e
     rw [List.getElem?_set_self (by omega),show k * 16 + r - k * 16 = r from by omega,List.getElem?_set_self (by rw [List.length_map];omega)]
   · rw [List.getElem?_set_ne e,List.getElem?_set_ne (by omega)]
     have hi:i < bl.length * 16:=by omega
     have e1:(cur.take (bl.length * 16))[i]? = cur[i]?:=List.getElem?_take_of_lt hi
     rw [← e1,h.row,flat_at bl h16 i hi,show i / 16 = k from by omega,show i - k * 16 = i % 16 from by omega,map_get _ _ (by omega)]
 · rw [if_neg hri,List.getElem?_set_ne (by omega)]
theorem there_blk {w:World} {g t o n:Nat} {cs:List Value} (h:Blk w g t cs) (hl:o + n ≤ cs.length):w.there g o n:=by
 intro j hj
 exact ⟨by rw [h.cell (o + j) (by omega)];rfl,h.free _⟩
def lastQ (data:List UInt8):List UInt8:=(macBlocksQ data).getD ((macBlocksQ data).length - 1) []
def cmacB (data whole:List UInt8):List (List UInt8) :=
 if data.length % 16 = 0 ∧ 0 < data.length then (macBlocksQ data).set ((macBlocksQ data).length - 1) (xorL (lastQ data) whole)
 else (macBlocksQ data).set ((macBlocksQ data).length - 1) (xorL ((lastQ data).set (data.length % 16) 128) (dblL whole))
set_option maxRecDepth 100000 in
set_option maxHeartbeats 4000000 in
theorem cmacBlocks_any (data whole:List UInt8) (ao:Option Addr) (cap:Nat) (w:World) (hn:data.length ≤ 4096) (hc:data.length ≤ cap) (hwh:whole.length = 16) (hr:RowAt w ao data) :
   Calls Tryz.prog 77 #[.slice ao data.length cap,.agg (whole.map byte).toArray] w fun e w'=>∃ v,e = .returned v ∧ OwnKQ w' w.heap.size v (cmacB data whole) ∧ Below w.heap.size w w':=by
 have hwm:(whole.map byte).length = 16:=by rw [List.length_map,hwh]
 have h16:=macBlocks_eightQ data
 have hpos:=macBlocks_posQ data
 have hle:=macBlocks_leQ data hn
 have HCut:=hid_of' (fun (wx:World) (h:RowAt wx ao data)=>cut_anyQ data ao cap wx hn hc h)
 have HLe:=hid_of' (fun (v:Value) (base:Nat) (wx:World) (hb:base ≤ wx.heap.size) (h:OwnKQ wx base v (chunksQ data (nBlocksQ data)))=>least_anyQ v (chunksQ data (nBlocksQ data)) base wx (by rw [chunks_lengthQ];unfold nBlocksQ;omega) hb h)
 obtain ⟨N,hN⟩:∃ N,N = data.length:=⟨_,rfl⟩
 have HN:=hid_of' hN
 rw [← hN] at HCut ⊢
 clear hN
 go_enter Tryz.func77,Tryz.ntmps77
 go_wp2_with fail
 refine (HCut.out _ (hr.below (below_new w _))).mono ?_
 rintro e w1 ⟨v1,rfl,own1,bel1⟩
 go_wp2_with fail
 refine (HLe.out v1 _ w1 bel1.size own1).mono ?_
 rintro e V ⟨v2,rfl,own2,bel2⟩
 have own2:OwnKQ V (w.alloc (.cells (whole.map byte).toArray 88)).heap.size v2 (macBlocksQ data):=own2
 have own3:=own2.mono (B:=w.heap.size + 1) (by simp)
 have bV:Below w.heap.size w V:=(below_step (below_step (below_new w _) bel1) bel2)
 have kW:Blk V w.heap.size 88 (whole.map byte):=((Blk.new w _ _).below bel1 (by simp)).below bel2 (by have:=bel1.size;simp at this;omega)
 obtain ⟨g,cap2,cur,rfl,hrow⟩:=own3.split hpos
 have HA:=hid_of' (fun (h:N % 16 = 0 ∧ 0 < N)=>show cmacB data whole = (macBlocksQ data).set ((macBlocksQ data).length - 1) (xorL ((macBlocksQ data).getD ((macBlocksQ data).length - 1) []) whole) from by unfold cmacB;rw [← HN.out,if_pos h];rfl)
 have HB2:=hid_of' (fun (h:¬ (N % 16 = 0 ∧ 0 < N))=>show cmacB data whole = (macBlocksQ data).set ((macBlocksQ data).length - 1) (xorL (((macBlocksQ data).getD ((macBlocksQ data).length - 1) []).set (N % 16) 128) (dblL whole)) from by unfold cmacB;rw [← HN.out,if_neg h];rfl)
 obtain ⟨bl,hbl⟩:∃ bl,bl = macBlocksQ data:=⟨_,rfl⟩
 rw [← hbl] at h16 hpos hle hrow HA HB2 ⊢
 obtain ⟨n,hbn⟩:∃ n,bl.length = n:=⟨_,rfl⟩
 have hrl:=hrow.len
 rw [hbn] at hpos hle HA HB2 hrl ⊢
 obtain ⟨m,hmw,hmI,hmn,Hm⟩:∃ m:Nat,IntKind.i64.wrap ((n:Int) - 1) = (m:Int) ∧ (m:Int) < (n:Int) ∧ m < n ∧ Hid (n - 1 = m):=⟨n - 1,by rw [IntKind.wrap_i64];omega,by omega,by omega,rfl⟩
 have hm:m < bl.length:=by omega
 rw [Hm.out] at HA HB2
 obtain ⟨r,hrw,hr16,hrI,Hr⟩:∃ r:Nat,Int.tmod (N:Int) 16 = (r:Int) ∧ r < 16 ∧ (r:Int) < 16 ∧ Hid (r = N % 16):=⟨N % 16,by rw [Int.tmod_eq_emod_of_nonneg (by omega)];omega,by omega,by omega,rfl⟩
 rw [← Hr.out] at HA HB2
 have hNl:N ≤ 4096:=by have:=HN.out;omega
 obtain ⟨X,hX⟩:∃ X,bl.getD m [] = X:=⟨_,rfl⟩
 have hXl:X.length = 16:=by
   rw [← hX,show bl.getD m [] = bl[m] from by simp [hm]]
   exact h16 _ (List.getElem_mem _)
 rw [hX] at HA HB2
 have Hgl:=hrow.low
 clear own1 own2 own3 bel1 bel2 HCut HLe hr hbl
 by_cases hA:r = 0 ∧ 0 < N
 · obtain ⟨rfl,hN0⟩:=hA
   have hN0I:(0:Int) < (N:Int):=by omega
   have HC:=hid_of' (HA.out ⟨rfl,hN0⟩)
   have hXm:(X.map byte).length = 16:=by rw [List.length_map,hXl]
   have hNl:=xor16_let X whole hXl hwh
   have hNm:((xorL X whole).map byte).length = 16:=by rw [List.length_map,hNl]
   clear HA HB2
   have keep:Hid (∀ {w'},Below V.heap.size V w' → w'.rangeAt w.heap.size 0 (whole.map byte)):=fun h=>blk_whole (kW.below h kW.lt)
   go_upto_region 5 with fail
   refine wp_region_held_drew (S:=fun w'=>w'.rangeAt w.heap.size 0 (whole.map byte)) (by kernel_rfl) (keep.out (Below.refl _ _).drew) (fun hHeld=>?_)
   refine tkA (i:=0) (v:=(.slice (some ⟨g,0,none⟩) n cap2)) rfl hHeld ?_
   try dsimp only [Act.put]
   refine tkA (i:=1) (v:=(.int .i64 m)) rfl hHeld ?_
   dsimp only [Act.put,List.getElem_toArray,List.getElem_cons_zero,List.getElem_cons_succ]
   simp only [List.setIfInBounds_toArray,List.set_cons_succ,List.set_cons_zero]
   refine tkA (i:=2) (v:=(.slice (some ⟨g,0,none⟩) n cap2)) rfl hHeld ?_
   try dsimp only [Act.put]
   refine tkA (i:=3) (v:=(.int .i64 m)) rfl hHeld ?_
   dsimp only [Act.put,List.getElem_toArray,List.getElem_cons_zero,List.getElem_cons_succ]
   simp only [List.setIfInBounds_toArray,List.set_cons_succ,List.set_cons_zero]
   refine tkA (i:=4) (v:=(.pointer (some ⟨g,m * 16,none⟩))) rfl hHeld ?_
   try dsimp only [Act.put]
   refine tk (i:=6) (v:=.agg (whole.map byte).toArray) rfl (yieldsIf_load_mid (by rfl) 88 _ rfl w.heap.size 0 rfl (whole.map byte) _ (fun _ h=>h) Tryz.underlying88 rfl (by rw [hwm];kernel_rfl)) hHeld ?_
   dsimp only [Act.put,List.getElem_toArray,List.getElem_cons_zero,List.getElem_cons_succ]
   simp only [List.setIfInBounds_toArray,List.set_cons_succ,List.set_cons_zero]
   refine rdy1 5 (fun K hK=>?_)
   rw [if_pos (by rfl)]
   try dsimp only [Act.put,List.getElem_toArray,List.getElem_cons_zero,List.getElem_cons_succ]
   try simp only [List.setIfInBounds_toArray,List.set_cons_succ,List.set_cons_zero]
   have hrg_1:=(hrow.below (Below.refl V.heap.size V).drew).range h16 m hm
   rw [hX] at hrg_1
   refine wp_load_to (some 29) rfl 88 _ rfl g (m * 16) (by kernel_rfl) (X.map byte) _ hrg_1 Tryz.underlying88 rfl (by rw [hXm];kernel_rfl) ?_
   refine hK.out _ _ (keep.out (Below.refl V.heap.size V).drew) (fun hHeld=>?_)
   clear hK K
   try dsimp only [Act.put]
   refine rdy1 7 (fun K hK=>?_)
   rw [if_pos (by rfl)]
   try dsimp only [Act.put,List.getElem_toArray,List.getElem_cons_zero,List.getElem_cons_succ]
   try simp only [List.setIfInBounds_toArray,List.set_cons_succ,List.set_cons_zero]
   refine wp_build2 (some 31) rfl 148 _ _ rfl 88 16 _ (X.map byte) (whole.map byte) (by kernel_rfl) (by kernel_rfl) Tryz.underlying148 Tryz.z16 hXm hwm (by omega) (by omega) ?_
   try dsimp only [Act.put]
   obtain ⟨w_2,hw_2⟩:∃ x,x = World.alloc V.drew (.cells (X.map byte ++ whole.map byte).toArray 88):=⟨_,rfl⟩
   have bel_2:Below V.drew.heap.size V.drew w_2:=by rw [hw_2];exact below_new _ _
   have two_2:Blk w_2 V.drew.heap.size 88 (X.map byte ++ whole.map byte):=by rw [hw_2];exact Blk.new _ _ _
   have le_two_2:=(Below.refl V.heap.size V).drew.size
   have lt_two_2:=two_2.lt
   have wh_2:=kW.drew1.below bel_2 kW.drew1.lt
   have b_2:=below_step (Below.refl V.heap.size V).drew bel_2
   have row_2:=(hrow.below (Below.refl V.heap.size V).drew).below bel_2
   rw [← hw_2]
   clear hw_2
   refine hK.out _ _ (keep.out b_2) (fun hHeld=>?_)
   clear hK K
   try dsimp only [Act.put]
   refine rdy1 8 (fun K hK=>?_)
   go_simp
   refine (xor16_two X whole _ _ _ _ hXl hwh two_2).mono ?_
   rintro e w_3 ⟨rfl,bel_3⟩
   have wh_3:=wh_2.below bel_3 wh_2.lt
   have two_3:=two_2.below bel_3 two_2.lt
   have b_3:=below_step b_2 bel_3
   have row_3:=row_2.below bel_3
   go_wp2_with fail
   refine hK.out _ _ (keep.out b_3) (fun hHeld=>?_)
   clear hK K
   try dsimp only [Act.put]
   refine tkA (i:=9) (v:=(.pointer (some ⟨g,m * 16,none⟩))) rfl hHeld ?_
   try dsimp only [Act.put]
   refine rdy1 10 (fun K hK=>?_)
   rw [if_pos (by rfl)]
   refine wp_store_mid 88 _ _ rfl g (m * 16) ((xorL X whole).map byte).toArray (by kernel_rfl) (by kernel_rfl) (there_blk row_3.blk (by have:=row_3.size;have:=row_3.len;rw [List.size_toArray,hNm];omega)) (by rw [List.size_toArray,hNm];kernel_rfl) (allOne_bytes _) ?_
   obtain ⟨sb_4,sg_4,sz_4⟩:=setCells_blk ((xorL X whole).map byte) _ (m * 16) row_3.blk
   have rw_4:=row_3.whole h16 m hm (xorL X whole) (by rw [← List.length_map (f:=byte),hNm]) sb_4
   have bz_4:Below w.heap.size w _:=(bV.trans (b_3.mono bV.size)).grown sg_4 (by have:=bV.size;have:=b_3.size;omega) (by intro k hk;cases hk;omega)
   have kw_4:=(wh_3).grown sg_4 (by simp;omega)
   refine hK.out _ _ (blk_whole kw_4) (fun hHeld=>?_)
   clear hK K
   try dsimp only [Act.put]
   refine wpAnyH_done (by kernel_rfl) ?_ _
   go_wp2_with fail
   go_ret
   refine ⟨_,rfl,?_,bz_4⟩
   have hown:=rw_4.own (set_mem16 h16 m _ hNl)
   rw [List.length_set,hbn] at hown
   rw [HC.out]
   exact hown.mono (by omega)
 · have HC:=hid_of' (HB2.out hA)
   have hcond:¬ ((r:Int) = 0 ∧ (0:Int) < (N:Int)):=by omega
   have hl0:m * 16 + r < cur.length:=by have:=hrow.size;omega
   have hfz:=hrow.blk.free (m * 16 + r)
   obtain ⟨u,hu⟩:∃ u,V.cell? ⟨g,m * 16 + r,none⟩ = some u:=⟨_,hrow.blk.cell (m * 16 + r) hl0⟩
   have hrow2:=hrow.one (w':=V.setCell ⟨g,m * 16 + r,none⟩ (.int .u8 128)) h16 m hm r hr16 128 (hrow.blk.set (m * 16 + r) (byte 128))
   rw [hX] at hrow2
   have kW2:=kW.other ⟨g,m * 16 + r,none⟩ (.int .u8 128) (by simp;omega)
   have bV2:=bV.setCell (p:=⟨g,m * 16 + r,none⟩) (by show w.heap.size ≤ g;omega) (.int .u8 128)
   have h16b:=set_mem16 h16 m (X.set r 128) (by rw [List.length_set,hXl])
   have hYl:(X.set r 128).length = 16:=by rw [List.length_set,hXl]
   obtain ⟨Y,hY⟩:∃ Y,Y = X.set r 128:=⟨_,rfl⟩
   obtain ⟨bl2,hb2⟩:∃ b,b = bl.set m (X.set r 128):=⟨_,rfl⟩
   have hbn2:bl2.length = n:=by rw [hb2,List.length_set,hbn]
   have hX2:bl2.getD m [] = Y:=by rw [hb2,List.getD_eq_getElem?_getD,List.getElem?_set_self hm,hY];rfl
   have HC2:Hid (cmacB data whole = bl2.set m (xorL Y (dblL whole))):=hid_of' (by rw [HC.out,hb2,List.set_set,hY])
   rw [← hb2] at hrow2 h16b
   rw [← hY] at hYl
   clear HC HA HB2 hb2 hY
   by_cases hr0:r = 0
   · have hrb:((r:Int) == 0) = true:=by rw [hr0];rfl
     have hrd:decide ((r:Int) = 0) = true:=by rw [hr0];rfl
     have hNI:¬ ((0:Int) < (N:Int)):=by omega
     clear hr0 hA hcond
     go_upto_region 8 with fail
     obtain ⟨V2,hV2⟩:∃ x,x = V.setCell ⟨g,m * 16 + r,none⟩ (.int .u8 128):=⟨_,rfl⟩
     rw [← hV2] at hrow2 kW2 bV2 ⊢
     clear hV2 hrow kW bV hu hfz hX hm hXl h16 hbn hrl hl0 hrb
     obtain ⟨V,rfl⟩:∃ V,V = V2:=⟨_,rfl⟩
     obtain ⟨X,rfl⟩:∃ X,X = Y:=⟨_,rfl⟩
     obtain ⟨bl,rfl⟩:∃ b,b = bl2:=⟨_,rfl⟩
     have hrow:=hrow2
     have kW:=kW2
     have bV:=bV2
     have h16:=h16b
     have hX:=hX2
     have hXl:=hYl
     have hbn:=hbn2
     have hm:m < bl.length:=by omega
     have HC:=HC2
     have hXm:(X.map byte).length = 16:=by rw [List.length_map,hXl]
     have hdm:((dblL whole).map byte).length = 16:=by rw [List.length_map,dblL_length]
     have hNl:=xor16_let X (dblL whole) hXl (dblL_length _)
     have hNm:((xorL X (dblL whole)).map byte).length = 16:=by rw [List.length_map,hNl]
     clear hrow2 kW2 bV2 h16b hX2 hYl hbn2 HC2
     have keep:Hid (∀ {w'},Below V.heap.size V w' → w'.rangeAt w.heap.size 0 (whole.map byte)):=fun h=>blk_whole (kW.below h kW.lt)
     refine wp_region_held_drew (S:=fun w'=>w'.rangeAt w.heap.size 0 (whole.map byte)) (by kernel_rfl) (keep.out (Below.refl _ _).drew) (fun hHeld=>?_)
     refine tkA (i:=0) (v:=(.slice (some ⟨g,0,none⟩) n cap2)) rfl hHeld ?_
     dsimp only [Act.put,List.getElem_toArray,List.getElem_cons_zero,List.getElem_cons_succ]
     simp only [List.setIfInBounds_toArray,List.set_cons_succ,List.set_cons_zero]
     refine tkA (i:=1) (v:=(.int .i64 m)) rfl hHeld ?_
     try dsimp only [Act.put]
     refine tkA (i:=2) (v:=(.slice (some ⟨g,0,none⟩) n cap2)) rfl hHeld ?_
     dsimp only [Act.put,List.getElem_toArray,List.getElem_cons_zero,List.getElem_cons_succ]
     simp only [List.setIfInBounds_toArray,List.set_cons_succ,List.set_cons_zero]
     refine tkA (i:=3) (v:=(.int .i64 m)) rfl hHeld ?_
     try dsimp only [Act.put]
     refine tkA (i:=4) (v:=(.pointer (some ⟨g,m * 16,none⟩))) rfl hHeld ?_
     dsimp only [Act.put,List.getElem_toArray,List.getElem_cons_zero,List.getElem_cons_succ]
     simp only [List.setIfInBounds_toArray,List.set_cons_succ,List.set_cons_zero]
     refine tk (i:=6) (v:=.agg (whole.map byte).toArray) rfl (yieldsIf_load_mid (by rfl) 88 _ rfl w.heap.size 0 rfl (whole.map byte) _ (fun _ h=>h) Tryz.underlying88 rfl (by rw [hwm];kernel_rfl)) hHeld ?_
     try dsimp only [Act.put]
     refine wpAnyH_ready (rs:=[5,7]) (by kernel_rfl) (by simp) ?_
     refine AllReadyH.cons rfl (fun K hK=>?_) (AllReadyH.cons rfl (fun K hK=>?_) (AllReadyH.nil))
     · rw [if_pos (by rfl)]
       try dsimp only [Act.put,List.getElem_toArray,List.getElem_cons_zero,List.getElem_cons_succ]
       try simp only [List.setIfInBounds_toArray,List.set_cons_succ,List.set_cons_zero]
       have hrg_1:=(hrow.below (Below.refl V.heap.size V).drew).range h16 m hm
       rw [hX] at hrg_1
       refine wp_load_to (some 45) rfl 88 _ rfl g (m * 16) (by kernel_rfl) (X.map byte) _ hrg_1 Tryz.underlying88 rfl (by rw [hXm];kernel_rfl) ?_
       refine hK.out _ _ (keep.out (Below.refl V.heap.size V).drew) (fun hHeld=>?_)
       clear hK K
       try dsimp only [Act.put]
       refine rdy1 7 (fun K hK=>?_)
       go_simp
       refine (doubled_any whole _ hwh).mono ?_
       rintro e w_2 ⟨rfl,bel_2⟩
       have wh_2:=kW.drew1.below bel_2 kW.drew1.lt
       have b_2:=below_step (Below.refl V.heap.size V).drew bel_2
       have row_2:=(hrow.below (Below.refl V.heap.size V).drew).below bel_2
       go_wp2_with fail
       refine hK.out _ _ (keep.out b_2) (fun hHeld=>?_)
       clear hK K
       try dsimp only [Act.put]
       refine rdy1 8 (fun K hK=>?_)
       rw [if_pos (by rfl)]
       try dsimp only [Act.put,List.getElem_toArray,List.getElem_cons_zero,List.getElem_cons_succ]
       try simp only [List.setIfInBounds_toArray,List.set_cons_succ,List.set_cons_zero]
       refine wp_build2 (some 48) rfl 148 _ _ rfl 88 16 _ (X.map byte) ((dblL whole).map byte) (by kernel_rfl) (by kernel_rfl) Tryz.underlying148 Tryz.z16 hXm hdm (by omega) (by omega) ?_
       try dsimp only [Act.put]
       obtain ⟨w_3,hw_3⟩:∃ x,x = World.alloc w_2 (.cells (X.map byte ++ (dblL whole).map byte).toArray 88):=⟨_,rfl⟩
       have bel_3:Below w_2.heap.size w_2 w_3:=by rw [hw_3];exact below_new _ _
       have two_3:Blk w_3 w_2.heap.size 88 (X.map byte ++ (dblL whole).map byte):=by rw [hw_3];exact Blk.new _ _ _
       have le_two_3:=b_2.size
       have lt_two_3:=two_3.lt
       have wh_3:=wh_2.below bel_3 wh_2.lt
       have b_3:=below_step b_2 bel_3
       have row_3:=row_2.below bel_3
       rw [← hw_3]
       clear hw_3
       refine hK.out _ _ (keep.out b_3) (fun hHeld=>?_)
       clear hK K
       try dsimp only [Act.put]
       refine rdy1 9 (fun K hK=>?_)
       go_simp
       refine (xor16_two X (dblL whole) _ _ _ _ hXl (dblL_length _) two_3).mono ?_
       rintro e w_4 ⟨rfl,bel_4⟩
       have wh_4:=wh_3.below bel_4 wh_3.lt
       have two_4:=two_3.below bel_4 two_3.lt
       have b_4:=below_step b_3 bel_4
       have row_4:=row_3.below bel_4
       go_wp2_with fail
       refine hK.out _ _ (keep.out b_4) (fun hHeld=>?_)
       clear hK K
       try dsimp only [Act.put]
       refine tkA (i:=10) (v:=(.pointer (some ⟨g,m * 16,none⟩))) rfl hHeld ?_
       dsimp only [Act.put,List.getElem_toArray,List.getElem_cons_zero,List.getElem_cons_succ]
       simp only [List.setIfInBounds_toArray,List.set_cons_succ,List.set_cons_zero]
       refine rdy1 11 (fun K hK=>?_)
       rw [if_pos (by rfl)]
       refine wp_store_mid 88 _ _ rfl g (m * 16) ((xorL X (dblL whole)).map byte).toArray (by kernel_rfl) (by kernel_rfl) (there_blk row_4.blk (by have:=row_4.size;have:=row_4.len;rw [List.size_toArray,hNm];omega)) (by rw [List.size_toArray,hNm];kernel_rfl) (allOne_bytes _) ?_
       obtain ⟨sb_5,sg_5,sz_5⟩:=setCells_blk ((xorL X (dblL whole)).map byte) _ (m * 16) row_4.blk
       have rw_5:=row_4.whole h16 m hm (xorL X (dblL whole)) (by rw [← List.length_map (f:=byte),hNm]) sb_5
       have bz_5:Below w.heap.size w _:=(bV.trans (b_4.mono bV.size)).grown sg_5 (by have:=bV.size;have:=b_4.size;omega) (by intro k hk;cases hk;omega)
       have kw_5:=(wh_4).grown sg_5 (by simp;omega)
       refine hK.out _ _ (blk_whole kw_5) (fun hHeld=>?_)
       clear hK K
       try dsimp only [Act.put]
       refine wpAnyH_done (by kernel_rfl) ?_ _
       go_wp2_with fail
       go_ret
       refine ⟨_,rfl,?_,bz_5⟩
       have hown:=rw_5.own (set_mem16 h16 m _ hNl)
       rw [List.length_set,hbn] at hown
       rw [HC.out]
       exact hown.mono (by omega)
     · go_simp
       refine (doubled_any whole _ hwh).mono ?_
       rintro e w_6 ⟨rfl,bel_6⟩
       have wh_6:=kW.drew1.below bel_6 kW.drew1.lt
       have b_6:=below_step (Below.refl V.heap.size V).drew bel_6
       have row_6:=(hrow.below (Below.refl V.heap.size V).drew).below bel_6
       go_wp2_with fail
       refine hK.out _ _ (keep.out b_6) (fun hHeld=>?_)
       clear hK K
       try dsimp only [Act.put]
       refine rdy1 5 (fun K hK=>?_)
       rw [if_pos (by rfl)]
       try dsimp only [Act.put,List.getElem_toArray,List.getElem_cons_zero,List.getElem_cons_succ]
       try simp only [List.setIfInBounds_toArray,List.set_cons_succ,List.set_cons_zero]
       have hrg_7:=row_6.range h16 m hm
       rw [hX] at hrg_7
       refine wp_load_to (some 45) rfl 88 _ rfl g (m * 16) (by kernel_rfl) (X.map byte) _ hrg_7 Tryz.underlying88 rfl (by rw [hXm];kernel_rfl) ?_
       refine hK.out _ _ (keep.out b_6) (fun hHeld=>?_)
       clear hK K
       try dsimp only [Act.put]
       refine rdy1 8 (fun K hK=>?_)
       rw [if_pos (by rfl)]
       try dsimp only [Act.put,List.getElem_toArray,List.getElem_cons_zero,List.getElem_cons_succ]
       try simp only [List.setIfInBounds_toArray,List.set_cons_succ,List.set_cons_zero]
       refine wp_build2 (some 48) rfl 148 _ _ rfl 88 16 _ (X.map byte) ((dblL whole).map byte) (by kernel_rfl) (by kernel_rfl) Tryz.underlying148 Tryz.z16 hXm hdm (by omega) (by omega) ?_
       try dsimp only [Act.put]
       obtain ⟨w_8,hw_8⟩:∃ x,x = World.alloc w_6 (.cells (X.map byte ++ (dblL whole).map byte).toArray 88):=⟨_,rfl⟩
       have bel_8:Below w_6.heap.size w_6 w_8:=by rw [hw_8];exact below_new _ _
       have two_8:Blk w_8 w_6.heap.size 88 (X.map byte ++ (dblL whole).map byte):=by rw [hw_8];exact Blk.new _ _ _
       have le_two_8:=b_6.size
       have lt_two_8:=two_8.lt
       have wh_8:=wh_6.below bel_8 wh_6.lt
       have b_8:=below_step b_6 bel_8
       have row_8:=row_6.below bel_8
       rw [← hw_8]
       clear hw_8
       refine hK.out _ _ (keep.out b_8) (fun hHeld=>?_)
       clear hK K
       try dsimp only [Act.put]
       refine rdy1 9 (fun K hK=>?_)
       go_simp
       refine (xor16_two X (dblL whole) _ _ _ _ hXl (dblL_length _) two_8).mono ?_
       rintro e w_9 ⟨rfl,bel_9⟩
       have wh_9:=wh_8.below bel_9 wh_8.lt
       have two_9:=two_8.below bel_9 two_8.lt
       have b_9:=below_step b_8 bel_9
       have row_9:=row_8.below bel_9
       go_wp2_with fail
       refine hK.out _ _ (keep.out b_9) (fun hHeld=>?_)
       clear hK K
       try dsimp only [Act.put]
       refine tkA (i:=10) (v:=(.pointer (some ⟨g,m * 16,none⟩))) rfl hHeld ?_
       try dsimp only [Act.put]
       refine rdy1 11 (fun K hK=>?_)
       rw [if_pos (by rfl)]
       refine wp_store_mid 88 _ _ rfl g (m * 16) ((xorL X (dblL whole)).map byte).toArray (by kernel_rfl) (by kernel_rfl) (there_blk row_9.blk (by have:=row_9.size;have:=row_9.len;rw [List.size_toArray,hNm];omega)) (by rw [List.size_toArray,hNm];kernel_rfl) (allOne_bytes _) ?_
       obtain ⟨sb_10,sg_10,sz_10⟩:=setCells_blk ((xorL X (dblL whole)).map byte) _ (m * 16) row_9.blk
       have rw_10:=row_9.whole h16 m hm (xorL X (dblL whole)) (by rw [← List.length_map (f:=byte),hNm]) sb_10
       have bz_10:Below w.heap.size w _:=(bV.trans (b_9.mono bV.size)).grown sg_10 (by have:=bV.size;have:=b_9.size;omega) (by intro k hk;cases hk;omega)
       have kw_10:=(wh_9).grown sg_10 (by simp;omega)
       refine hK.out _ _ (blk_whole kw_10) (fun hHeld=>?_)
       clear hK K
       try dsimp only [Act.put]
       refine wpAnyH_done (by kernel_rfl) ?_ _
       go_wp2_with fail
       go_ret
       refine ⟨_,rfl,?_,bz_10⟩
       have hown:=rw_10.own (set_mem16 h16 m _ hNl)
       rw [List.length_set,hbn] at hown
       rw [HC.out]
       exact hown.mono (by omega)
   · have hrI0:¬ ((r:Int) = 0):=by omega
     have hrb:((r:Int) == 0) = false:=by simpa using hrI0
     clear hr0 hA hcond
     go_upto_region 8 with fail
     obtain ⟨V2,hV2⟩:∃ x,x = V.setCell ⟨g,m * 16 + r,none⟩ (.int .u8 128):=⟨_,rfl⟩
     rw [← hV2] at hrow2 kW2 bV2 ⊢
     clear hV2 hrow kW bV hu hfz hX hm hXl h16 hbn hrl hl0 hrb
     obtain ⟨V,rfl⟩:∃ V,V = V2:=⟨_,rfl⟩
     obtain ⟨X,rfl⟩:∃ X,X = Y:=⟨_,rfl⟩
     obtain ⟨bl,rfl⟩:∃ b,b = bl2:=⟨_,rfl⟩
     have hrow:=hrow2
     have kW:=kW2
     have bV:=bV2
     have h16:=h16b
     have hX:=hX2
     have hXl:=hYl
     have hbn:=hbn2
     have hm:m < bl.length:=by omega
     have HC:=HC2
     have hXm:(X.map byte).length = 16:=by rw [List.length_map,hXl]
     have hdm:((dblL whole).map byte).length = 16:=by rw [List.length_map,dblL_length]
     have hNl:=xor16_let X (dblL whole) hXl (dblL_length _)
     have hNm:((xorL X (dblL whole)).map byte).length = 16:=by rw [List.length_map,hNl]
     clear hrow2 kW2 bV2 h16b hX2 hYl hbn2 HC2
     have keep:Hid (∀ {w'},Below V.heap.size V w' → w'.rangeAt w.heap.size 0 (whole.map byte)):=fun h=>blk_whole (kW.below h kW.lt)
     refine wp_region_held_drew (S:=fun w'=>w'.rangeAt w.heap.size 0 (whole.map byte)) (by kernel_rfl) (keep.out (Below.refl _ _).drew) (fun hHeld=>?_)
     refine tkA (i:=0) (v:=(.slice (some ⟨g,0,none⟩) n cap2)) rfl hHeld ?_
     dsimp only [Act.put,List.getElem_toArray,List.getElem_cons_zero,List.getElem_cons_succ]
     simp only [List.setIfInBounds_toArray,List.set_cons_succ,List.set_cons_zero]
     refine tkA (i:=1) (v:=(.int .i64 m)) rfl hHeld ?_
     try dsimp only [Act.put]
     refine tkA (i:=2) (v:=(.slice (some ⟨g,0,none⟩) n cap2)) rfl hHeld ?_
     dsimp only [Act.put,List.getElem_toArray,List.getElem_cons_zero,List.getElem_cons_succ]
     simp only [List.setIfInBounds_toArray,List.set_cons_succ,List.set_cons_zero]
     refine tkA (i:=3) (v:=(.int .i64 m)) rfl hHeld ?_
     try dsimp only [Act.put]
     refine tkA (i:=4) (v:=(.pointer (some ⟨g,m * 16,none⟩))) rfl hHeld ?_
     dsimp only [Act.put,List.getElem_toArray,List.getElem_cons_zero,List.getElem_cons_succ]
     simp only [List.setIfInBounds_toArray,List.set_cons_succ,List.set_cons_zero]
     refine tk (i:=6) (v:=.agg (whole.map byte).toArray) rfl (yieldsIf_load_mid (by rfl) 88 _ rfl w.heap.size 0 rfl (whole.map byte) _ (fun _ h=>h) Tryz.underlying88 rfl (by rw [hwm];kernel_rfl)) hHeld ?_
     try dsimp only [Act.put]
     refine wpAnyH_ready (rs:=[5,7]) (by kernel_rfl) (by simp) ?_
     refine AllReadyH.cons rfl (fun K hK=>?_) (AllReadyH.cons rfl (fun K hK=>?_) (AllReadyH.nil))
     · rw [if_pos (by rfl)]
       try dsimp only [Act.put,List.getElem_toArray,List.getElem_cons_zero,List.getElem_cons_succ]
       try simp only [List.setIfInBounds_toArray,List.set_cons_succ,List.set_cons_zero]
       have hrg_1:=(hrow.below (Below.refl V.heap.size V).drew).range h16 m hm
       rw [hX] at hrg_1
       refine wp_load_to (some 45) rfl 88 _ rfl g (m * 16) (by kernel_rfl) (X.map byte) _ hrg_1 Tryz.underlying88 rfl (by rw [hXm];kernel_rfl) ?_
       refine hK.out _ _ (keep.out (Below.refl V.heap.size V).drew) (fun hHeld=>?_)
       clear hK K
       try dsimp only [Act.put]
       refine rdy1 7 (fun K hK=>?_)
       go_simp
       refine (doubled_any whole _ hwh).mono ?_
       rintro e w_2 ⟨rfl,bel_2⟩
       have wh_2:=kW.drew1.below bel_2 kW.drew1.lt
       have b_2:=below_step (Below.refl V.heap.size V).drew bel_2
       have row_2:=(hrow.below (Below.refl V.heap.size V).drew).below bel_2
       go_wp2_with fail
       refine hK.out _ _ (keep.out b_2) (fun hHeld=>?_)
       clear hK K
       try dsimp only [Act.put]
       refine rdy1 8 (fun K hK=>?_)
       rw [if_pos (by rfl)]
       try dsimp only [Act.put,List.getElem_toArray,List.getElem_cons_zero,List.getElem_cons_succ]
       try simp only [List.setIfInBounds_toArray,List.set_cons_succ,List.set_cons_zero]
       refine wp_build2 (some 48) rfl 148 _ _ rfl 88 16 _ (X.map byte) ((dblL whole).map byte) (by kernel_rfl) (by kernel_rfl) Tryz.underlying148 Tryz.z16 hXm hdm (by omega) (by omega) ?_
       try dsimp only [Act.put]
       obtain ⟨w_3,hw_3⟩:∃ x,x = World.alloc w_2 (.cells (X.map byte ++ (dblL whole).map byte).toArray 88):=⟨_,rfl⟩
       have bel_3:Below w_2.heap.size w_2 w_3:=by rw [hw_3];exact below_new _ _
       have two_3:Blk w_3 w_2.heap.size 88 (X.map byte ++ (dblL whole).map byte):=by rw [hw_3];exact Blk.new _ _ _
       have le_two_3:=b_2.size
       have lt_two_3:=two_3.lt
       have wh_3:=wh_2.below bel_3 wh_2.lt
       have b_3:=below_step b_2 bel_3
       have row_3:=row_2.below bel_3
       rw [← hw_3]
       clear hw_3
       refine hK.out _ _ (keep.out b_3) (fun hHeld=>?_)
       clear hK K
       try dsimp only [Act.put]
       refine rdy1 9 (fun K hK=>?_)
       go_simp
       refine (xor16_two X (dblL whole) _ _ _ _ hXl (dblL_length _) two_3).mono ?_
       rintro e w_4 ⟨rfl,bel_4⟩
       have wh_4:=wh_3.below bel_4 wh_3.lt
       have two_4:=two_3.below bel_4 two_3.lt
       have b_4:=below_step b_3 bel_4
       have row_4:=row_3.below bel_4
       go_wp2_with fail
       refine hK.out _ _ (keep.out b_4) (fun hHeld=>?_)
       clear hK K
       try dsimp only [Act.put]
       refine tkA (i:=10) (v:=(.pointer (some ⟨g,m * 16,none⟩))) rfl hHeld ?_
       dsimp only [Act.put,List.getElem_toArray,List.getElem_cons_zero,List.getElem_cons_succ]
       simp only [List.setIfInBounds_toArray,List.set_cons_succ,List.set_cons_zero]
       refine rdy1 11 (fun K hK=>?_)
       rw [if_pos (by rfl)]
       refine wp_store_mid 88 _ _ rfl g (m * 16) ((xorL X (dblL whole)).map byte).toArray (by kernel_rfl) (by kernel_rfl) (there_blk row_4.blk (by have:=row_4.size;have:=row_4.len;rw [List.size_toArray,hNm];omega)) (by rw [List.size_toArray,hNm];kernel_rfl) (allOne_bytes _) ?_
       obtain ⟨sb_5,sg_5,sz_5⟩:=setCells_blk ((xorL X (dblL whole)).map byte) _ (m * 16) row_4.blk
       have rw_5:=row_4.whole h16 m hm (xorL X (dblL whole)) (by rw [← List.length_map (f:=byte),hNm]) sb_5
       have bz_5:Below w.heap.size w _:=(bV.trans (b_4.mono bV.size)).grown sg_5 (by have:=bV.size;have:=b_4.size;omega) (by intro k hk;cases hk;omega)
       have kw_5:=(wh_4).grown sg_5 (by simp;omega)
       refine hK.out _ _ (blk_whole kw_5) (fun hHeld=>?_)
       clear hK K
       try dsimp only [Act.put]
       refine wpAnyH_done (by kernel_rfl) ?_ _
       go_wp2_with fail
       go_ret
       refine ⟨_,rfl,?_,bz_5⟩
       have hown:=rw_5.own (set_mem16 h16 m _ hNl)
       rw [List.length_set,hbn] at hown
       rw [HC.out]
       exact hown.mono (by omega)
     · go_simp
       refine (doubled_any whole _ hwh).mono ?_
       rintro e w_6 ⟨rfl,bel_6⟩
       have wh_6:=kW.drew1.below bel_6 kW.drew1.lt
       have b_6:=below_step (Below.refl V.heap.size V).drew bel_6
       have row_6:=(hrow.below (Below.refl V.heap.size V).drew).below bel_6
       go_wp2_with fail
       refine hK.out _ _ (keep.out b_6) (fun hHeld=>?_)
       clear hK K
       try dsimp only [Act.put]
       refine rdy1 5 (fun K hK=>?_)
       rw [if_pos (by rfl)]
       try dsimp only [Act.put,List.getElem_toArray,List.getElem_cons_zero,List.getElem_cons_succ]
       try simp only [List.setIfInBounds_toArray,List.set_cons_succ,List.set_cons_zero]
       have hrg_7:=row_6.range h16 m hm
       rw [hX] at hrg_7
       refine wp_load_to (some 45) rfl 88 _ rfl g (m * 16) (by kernel_rfl) (X.map byte) _ hrg_7 Tryz.underlying88 rfl (by rw [hXm];kernel_rfl) ?_
       refine hK.out _ _ (keep.out b_6) (fun hHeld=>?_)
       clear hK K
       try dsimp only [Act.put]
       refine rdy1 8 (fun K hK=>?_)
       rw [if_pos (by rfl)]
       try dsimp only [Act.put,List.getElem_toArray,List.getElem_cons_zero,List.getElem_cons_succ]
       try simp only [List.setIfInBounds_toArray,List.set_cons_succ,List.set_cons_zero]
       refine wp_build2 (some 48) rfl 148 _ _ rfl 88 16 _ (X.map byte) ((dblL whole).map byte) (by kernel_rfl) (by kernel_rfl) Tryz.underlying148 Tryz.z16 hXm hdm (by omega) (by omega) ?_
       try dsimp only [Act.put]
       obtain ⟨w_8,hw_8⟩:∃ x,x = World.alloc w_6 (.cells (X.map byte ++ (dblL whole).map byte).toArray 88):=⟨_,rfl⟩
       have bel_8:Below w_6.heap.size w_6 w_8:=by rw [hw_8];exact below_new _ _
       have two_8:Blk w_8 w_6.heap.size 88 (X.map byte ++ (dblL whole).map byte):=by rw [hw_8];exact Blk.new _ _ _
       have le_two_8:=b_6.size
       have lt_two_8:=two_8.lt
       have wh_8:=wh_6.below bel_8 wh_6.lt
       have b_8:=below_step b_6 bel_8
       have row_8:=row_6.below bel_8
       rw [← hw_8]
       clear hw_8
       refine hK.out _ _ (keep.out b_8) (fun hHeld=>?_)
       clear hK K
       try dsimp only [Act.put]
       refine rdy1 9 (fun K hK=>?_)
       go_simp
       refine (xor16_two X (dblL whole) _ _ _ _ hXl (dblL_length _) two_8).mono ?_
       rintro e w_9 ⟨rfl,bel_9⟩
       have wh_9:=wh_8.below bel_9 wh_8.lt
       have two_9:=two_8.below bel_9 two_8.lt
       have b_9:=below_step b_8 bel_9
       have row_9:=row_8.below bel_9
       go_wp2_with fail
       refine hK.out _ _ (keep.out b_9) (fun hHeld=>?_)
       clear hK K
       try dsimp only [Act.put]
       refine tkA (i:=10) (v:=(.pointer (some ⟨g,m * 16,none⟩))) rfl hHeld ?_
       try dsimp only [Act.put]
       refine rdy1 11 (fun K hK=>?_)
       rw [if_pos (by rfl)]
       refine wp_store_mid 88 _ _ rfl g (m * 16) ((xorL X (dblL whole)).map byte).toArray (by kernel_rfl) (by kernel_rfl) (there_blk row_9.blk (by have:=row_9.size;have:=row_9.len;rw [List.size_toArray,hNm];omega)) (by rw [List.size_toArray,hNm];kernel_rfl) (allOne_bytes _) ?_
       obtain ⟨sb_10,sg_10,sz_10⟩:=setCells_blk ((xorL X (dblL whole)).map byte) _ (m * 16) row_9.blk
       have rw_10:=row_9.whole h16 m hm (xorL X (dblL whole)) (by rw [← List.length_map (f:=byte),hNm]) sb_10
       have bz_10:Below w.heap.size w _:=(bV.trans (b_9.mono bV.size)).grown sg_10 (by have:=bV.size;have:=b_9.size;omega) (by intro k hk;cases hk;omega)
       have kw_10:=(wh_9).grown sg_10 (by simp;omega)
       refine hK.out _ _ (blk_whole kw_10) (fun hHeld=>?_)
       clear hK K
       try dsimp only [Act.put]
       refine wpAnyH_done (by kernel_rfl) ?_ _
       go_wp2_with fail
       go_ret
       refine ⟨_,rfl,?_,bz_10⟩
       have hown:=rw_10.own (set_mem16 h16 m _ hNl)
       rw [List.length_set,hbn] at hown
       rw [HC.out]
       exact hown.mono (by omega)
def cmacK (key:List UInt8):List UInt8:=dblL (encL (keyR key) (zeros8 16))
def cmacN (key data:List UInt8):List UInt8:=befLQ (encL (keyR key)) (zeros8 16) (cmacB data (cmacK key)) (cmacB data (cmacK key)).length
theorem z16_length:(zeros8 16).length = 16:=by simp [zeros8]
theorem lastQ_length (data:List UInt8):(lastQ data).length = 16:=by
 have hp:=macBlocks_posQ data
 unfold lastQ
 rw [show (macBlocksQ data).getD ((macBlocksQ data).length - 1) [] = (macBlocksQ data)[(macBlocksQ data).length - 1] from by simp [show (macBlocksQ data).length - 1 < (macBlocksQ data).length from by omega]]
 exact macBlocks_eightQ data _ (List.getElem_mem _)
theorem cmacB_sixteen (data whole:List UInt8) (hw:whole.length = 16):∀ b ∈ cmacB data whole,b.length = 16:=by
 unfold cmacB
 split
 · exact set_mem16 (macBlocks_eightQ data) _ _ (xor16_let _ _ (lastQ_length data) hw)
 · exact set_mem16 (macBlocks_eightQ data) _ _ (xor16_let _ _ (by rw [List.length_set];exact lastQ_length data) (dblL_length _))
theorem cmacB_length (data whole:List UInt8):(cmacB data whole).length = (macBlocksQ data).length:=by
 unfold cmacB
 split <;> rw [List.length_set]
theorem cmacN_length (key data:List UInt8) (hk:key.length = 16):(cmacN key data).length = 16:=by
 unfold cmacN
 exact befL_lengthQ _ (fun x=>encL_length _ x (keyR_length key hk)) _ z16_length _ _
set_option maxRecDepth 100000 in
set_option maxHeartbeats 4000000 in
theorem cmac_some (key data:List UInt8) (kb ko ck cap:Nat) (ao:Option Addr) (w:World) (hk:key.length = 16) (hn:data.length ≤ 4096) (hc:data.length ≤ cap) (rk:w.rangeAt kb ko (key.map byte)) (rd:RowAt w ao data) :
   Calls Tryz.prog 31 #[.slice (some ⟨kb,ko,none⟩) 16 ck,.slice ao data.length cap] w fun e w'=>∃ v,e = .returned v ∧ Own w' w.heap.size v (cmacN key data) ∧ Below w.heap.size w w':=by
 have hz:=(zero_of_info Tryz.zero93).1
 have hz2:=(zero_of_info Tryz.z16).1
 have hkl:(key.map byte).length = 16:=by rw [List.length_map,hk]
 have hks:((keysUpto key 11).map byte).length = 176:=by rw [List.length_map,keysUpto_length key hk]
 have har:=fun c (wx:World)=>run_arrayAt (P:=Tryz.prog) (w:=wx) 88 5 16 (some ⟨kb,ko,none⟩) 16 c Tryz.underlying88 (Nat.le_refl _)
 have HNew:=hid_of' (fun wx=>newAes_any key wx hk)
 have HE:=hid_of' (fun S1 S2 S3 S4 (x:List UInt8) (wx:World) (hx:x.length = 16) (h:Tabs wx S1 S2 S3 S4)=>aes_encrypt key x S1 S2 S3 S4 wx hk hx h.t1 h.t3)
 have hfl:∀ x,(encL (keyR key) x).length = 16:=fun x=>encL_length _ x (keyR_length key hk)
 have hel:=hfl (zeros8 16)
 have HD:=hid_of' (fun wx=>doubled_any (encL (keyR key) (zeros8 16)) wx hel)
 have hdl:=dblL_length (encL (keyR key) (zeros8 16))
 have HB:=hid_of' (fun (wx:World) (h:RowAt wx ao data)=>cmacBlocks_any data (dblL (encL (keyR key) (zeros8 16))) ao cap wx hn hc hdl h)
 have hb16:=cmacB_sixteen data (dblL (encL (keyR key) (zeros8 16))) hdl
 have hbl:=cmacB_length data (dblL (encL (keyR key) (zeros8 16)))
 have hpos:=macBlocks_posQ data
 have hle:=macBlocks_leQ data hn
 have HM:Hid (cmacN key data = befLQ (encL (keyR key)) (zeros8 16) (cmacB data (dblL (encL (keyR key) (zeros8 16)))) (cmacB data (dblL (encL (keyR key) (zeros8 16)))).length):=hid_of' rfl
 have hnl2:=cmacN_length key data hk
 obtain ⟨MM,hMM⟩:∃ M,M = cmacN key data:=⟨_,rfl⟩
 rw [← hMM] at HM hnl2 ⊢
 obtain ⟨f,hf⟩:∃ f,f = encL (keyR key):=⟨_,rfl⟩
 rw [← hf] at HE hfl hel HD hdl HB hb16 hbl HM
 obtain ⟨E0,hE0⟩:∃ E,E = f (zeros8 16):=⟨_,rfl⟩
 rw [← hE0] at HD hdl HB hb16 hbl HM
 obtain ⟨K1,hK1⟩:∃ K,K = dblL E0:=⟨_,rfl⟩
 rw [← hK1] at HD hdl HB hb16 hbl HM
 obtain ⟨bl,hbb⟩:∃ b,b = cmacB data K1:=⟨_,rfl⟩
 rw [← hbb] at HB hb16 hbl HM
 obtain ⟨n,hn1⟩:∃ n,bl.length = n:=⟨_,rfl⟩
 rw [hn1] at hbl HM
 have hn0:0 < n:=by omega
 have hn4:n ≤ 4096:=by omega
 have HE0:=hid_of' hE0
 obtain ⟨D,hD⟩:∃ D,D = data.length:=⟨_,rfl⟩
 have hDI:¬ ((D:Int) > 4096):=by omega
 rw [← hD] at HB ⊢
 have hnm:(MM.map byte).length = 16:=by rw [List.length_map,hnl2]
 clear hMM hf hK1 hbb hE0 hpos hle hbl hD
 go_enter Tryz.func31,Tryz.ntmps31
 go_wp2_with (first
   | (refine wpList_load_mid rfl 88 _ rfl kb ko rfl (key.map byte) _ rk Tryz.underlying88 rfl (by rw [hkl];kernel_rfl) ?_)
   | (go_at_call 76;refine (HNew.out _).mono ?_;rintro e w1 ⟨S1,S2,S3,S4,rfl,g1,g2,g3,g4,bel1⟩;have htl:=aesCells_length ((keysUpto key 11).map byte) S1 S2 S3 S4 hks)
   | (refine store_blk rfl 93 _ _ rfl _ rfl rfl (Blk.new w1 _ _) (by rw [htl];kernel_rfl) (by rw [htl];exact zeroAes_length) (allOne_aes _ _ _ _ _) ?_;intro w2 hb2 hg2 hs2;have l1:=bel1.size;have bx:Below w1.heap.size w1 w2:=((((Below.refl _ _).alloc (Nat.le_refl _) _).grown hg2 (by simp) (by intro k hk;cases hk;exact Nat.le_refl _)));have b2:Below w.heap.size w w2:=(bel1.trans (bx.mono l1));have mS:Tabs w2 S1 S2 S3 S4:=(Tabs.below ⟨g1,g2,g3,g4⟩ bx);have rd2:=rd.below b2)
   | (refine load_blk rfl 93 _ rfl _ rfl hb2 Tryz.underlying93 rfl (by rw [htl];kernel_rfl) ?_)
   | (refine build_to rfl 88 _ rfl ((zeros8 16).map byte) (by kernel_rfl) ?_)
   | fail)
 refine (HE.out S1 S2 S3 S4 (zeros8 16) w2 z16_length mS).mono ?_
 rintro e w3 ⟨rfl,bel3⟩
 rw [← HE0.out]
 go_wp2_with fail
 refine (HD.out w3).mono ?_
 rintro e w4 ⟨rfl,bel4⟩
 have b24:=below_step bel3 bel4
 have b4:=below_step b2 b24
 go_wp2_with fail
 refine (HB.out w4 (rd.below b4)).mono ?_
 rintro e w5 ⟨v5,rfl,own5,bel5⟩
 obtain ⟨ao5,cap5,rfl,hc5,hB5⟩:=own5.blks hb16
 rw [hn1] at hc5 ⊢
 have b25:=below_step b24 bel5
 have b5:=below_step b2 b25
 have hC5:=hb2.below b25 hb2.lt
 have mS5:=mS.below b25
 have HCh:=hid_of' (chainE_aes f hfl (.agg (aesCells ((keysUpto key 11).map byte) S1 S2 S3 S4).toArray) (zeros8 16) z16_length bl hb16 ao5 n cap5 hn1 hn4 w5 hB5 (fun x wx hx hbx=>HE.out S1 S2 S3 S4 x wx hx (mS5.below hbx)))
 have hol:=outL_lengthQ f (zeros8 16) bl n
 have hom:∀ b ∈ outLQ f (zeros8 16) bl n,b.length = 16:=by
   intro b hb
   simp only [outLQ,List.mem_map] at hb
   obtain ⟨j,-,rfl⟩:=hb
   exact befL_lengthQ f hfl _ z16_length bl _
 obtain ⟨m,hmw,hmI,hmn,Hm⟩:∃ m:Nat,IntKind.i64.wrap ((n:Int) - 1) = (m:Int) ∧ (m:Int) < (n:Int) ∧ m < n ∧ Hid (n = m + 1):=⟨n - 1,by rw [IntKind.wrap_i64];omega,by omega,by omega,hid_of' (by omega:n = n - 1 + 1)⟩
 have HG:Hid ((outLQ f (zeros8 16) bl n).getD m [] = MM):=hid_of' (by
   rw [HM.out]
   have e:(outLQ f (zeros8 16) bl n).getD m [] = befLQ f (zeros8 16) bl (m + 1):=by simp [outLQ,hmn]
   rw [e,← Hm.out])
 clear HE HD HB HNew bel3 bel4 bel5 own5 b24 b4 mS rd2
 go_wp2_with (first
   | (refine load_blk rfl 93 _ rfl _ rfl hC5 Tryz.underlying93 rfl (by rw [htl];kernel_rfl) ?_)
   | (refine build_to rfl 88 _ rfl ((zeros8 16).map byte) (by kernel_rfl) ?_)
   | fail)
 refine HCh.out.mono ?_
 rintro e w6 ⟨v6,rfl,own6,bel6⟩
 obtain ⟨g6,cap6,cur6,rfl,hrow6⟩:=own6.split (by omega)
 have hr6:=hrow6.range hom m (by omega)
 rw [HG.out] at hr6
 rw [hol]
 have b6:=below_step b5 bel6
 clear own6 hrow6 HCh
 go_wp2_with (first
   | (refine wpList_load_mid rfl 88 _ rfl g6 (m * 16) rfl (MM.map byte) _ hr6 Tryz.underlying88 rfl (by rw [hnm];kernel_rfl) ?_)
   | (refine store_blk rfl 88 _ _ rfl _ rfl rfl (Blk.new w6 _ _) (by rw [hnm];kernel_rfl) (by rw [hnm];exact zerosOf_length _ _) (allOne_bytes _) ?_;intro w7 hb7 hg7 hs7))
 go_ret
 have l6:=b6.size
 exact ⟨_,rfl,own_of_blk hb7 (by omega) hnl2 (by unfold maxLen;omega),(b6.alloc (by omega) _).grown hg7 (by simp;omega) (by intro k hk;cases hk;omega)⟩
def wholeQ (data:List UInt8):Prop:=data.length % 16 = 0 ∧ 0 < data.length
instance (data:List UInt8):Decidable (wholeQ data):=inferInstanceAs (Decidable (_ ∧ _))
def fillQ (data:List UInt8):List UInt8:=if wholeQ data then data else data ++ [128] ++ zeros8 (15 - data.length % 16)
theorem nB_len (data:List UInt8):(macBlocksQ data).length = if wholeQ data then data.length / 16 else data.length / 16 + 1:=by
 have e:(macBlocksQ data).length = if (data.length + 15) / 16 = 0 then 1 else (data.length + 15) / 16:=by
   unfold macBlocksQ leastOneQ
   rw [chunks_lengthQ]
   unfold nBlocksQ
   split
   · rfl
   · rw [chunks_lengthQ]
 rw [e]
 by_cases h:wholeQ data
 · rw [if_pos h]
   unfold wholeQ at h
   rw [if_neg (by omega)]
   omega
 · rw [if_neg h]
   unfold wholeQ at h
   by_cases h0:(data.length + 15) / 16 = 0
   · rw [if_pos h0];omega
   · rw [if_neg h0];omega
theorem fillQ_length (data:List UInt8):(fillQ data).length = 16 * (macBlocksQ data).length:=by
 rw [nB_len]
 unfold fillQ
 by_cases h:wholeQ data
 · rw [if_pos h,if_pos h];unfold wholeQ at h;omega
 · rw [if_neg h,if_neg h,List.length_append,List.length_append,List.length_singleton]
   simp only [zeros8,List.length_replicate]
   omega
theorem block_at (data:List UInt8) (k:Nat) (hk:k < (macBlocksQ data).length):(macBlocksQ data).getD k [] = pad8Q ((data.drop (16 * k)).take 16):=by
 unfold macBlocksQ leastOneQ at hk ⊢
 by_cases h0:(chunksQ data (nBlocksQ data)).length = 0
 · rw [if_pos h0] at hk ⊢
   obtain rfl:k = 0:=by simpa using hk
   have hd:data = []:=by
     rw [chunks_lengthQ] at h0
     unfold nBlocksQ at h0
     exact List.length_eq_zero_iff.1 (by omega)
   subst hd
   rfl
 · rw [if_neg h0] at hk ⊢
   rw [chunks_lengthQ] at hk
   simp [chunksQ,chunkQ,hk]
theorem fill_at (data:List UInt8) (k:Nat) (hk:k + 1 < (macBlocksQ data).length):((fillQ data).drop (16 * k)).take 16 = (macBlocksQ data).getD k []:=by
 rw [block_at data k (by omega)]
 rw [nB_len] at hk
 have hl:16 * k + 16 ≤ data.length:=by split at hk <;> omega
 have e:((fillQ data).drop (16 * k)).take 16 = (data.drop (16 * k)).take 16:=by
   unfold fillQ
   split
   · rfl
   · rw [List.append_assoc,List.drop_append_of_le_length (by omega),List.take_append_of_le_length (by rw [List.length_drop];omega)]
 rw [e]
 unfold pad8Q
 rw [List.length_take,List.length_drop,show 16 - min 16 (data.length - 16 * k) = 0 from by omega]
 simp [zeros8]
theorem fill_last (data:List UInt8):(fillQ data).drop (16 * ((macBlocksQ data).length - 1)) = if wholeQ data then lastQ data else (lastQ data).set (data.length % 16) 128:=by
 have hp:=macBlocks_posQ data
 have hb:=block_at data ((macBlocksQ data).length - 1) (by omega)
 unfold lastQ
 rw [hb]
 rw [nB_len] at hp ⊢
 unfold fillQ
 by_cases h:wholeQ data
 · rw [if_pos h] at hp ⊢
   rw [if_pos h,if_pos h]
   unfold wholeQ at h
   have hl:(data.drop (16 * (data.length / 16 - 1))).length = 16:=by rw [List.length_drop];omega
   unfold pad8Q
   rw [List.take_of_length_le (by omega),hl]
   simp [zeros8]
 · rw [if_neg h] at hp ⊢
   rw [if_neg h,if_neg h,Nat.add_sub_cancel]
   have hl:(data.drop (16 * (data.length / 16))).length = data.length % 16:=by rw [List.length_drop];omega
   rw [List.append_assoc,List.drop_append_of_le_length (by omega)]
   unfold pad8Q
   rw [List.take_of_length_le (by omega),hl,List.set_append_right _ _ (by omega),hl,Nat.sub_self]
   congr 1
   rw [show 16 - data.length % 16 = (15 - data.length % 16) + 1 from by omega]
   simp [zeros8,List.replicate_succ]
def maskQ (data K:List UInt8):List UInt8:=if wholeQ data then K else dblL K
theorem maskQ_length (data K:List UInt8) (h:K.length = 16):(maskQ data K).length = 16:=by
 unfold maskQ
 split
 · exact h
 · exact dblL_length _
def fullX (data K:List UInt8):List UInt8:=(fillQ data).take (16 * ((macBlocksQ data).length - 1)) ++ xorL ((fillQ data).drop (16 * ((macBlocksQ data).length - 1))) (maskQ data K)
theorem fill_tail (data:List UInt8):((fillQ data).drop (16 * ((macBlocksQ data).length - 1))).length = 16:=by
 have:=fillQ_length data
 have:=macBlocks_posQ data
 rw [List.length_drop]
 omega
theorem fullX_length (data K:List UInt8) (h:K.length = 16):(fullX data K).length = 16 * (macBlocksQ data).length:=by
 have h1:=fillQ_length data
 have h2:=macBlocks_posQ data
 have h3:=fill_tail data
 unfold fullX
 rw [List.length_append,xorL_length _ _ (by rw [h3,maskQ_length data K h]),h3,List.length_take]
 omega
theorem full_at (data K:List UInt8) (h:K.length = 16) (k:Nat) (hk:k < (macBlocksQ data).length):((fullX data K).drop (16 * k)).take 16 = (cmacB data K).getD k []:=by
 have h1:=fillQ_length data
 have h3:=fill_tail data
 have hx:(xorL ((fillQ data).drop (16 * ((macBlocksQ data).length - 1))) (maskQ data K)).length = 16:=by rw [xorL_length _ _ (by rw [h3,maskQ_length data K h]),h3]
 have hc:cmacB data K = (macBlocksQ data).set ((macBlocksQ data).length - 1) (xorL ((fillQ data).drop (16 * ((macBlocksQ data).length - 1))) (maskQ data K)):=by
   rw [fill_last]
   unfold cmacB maskQ
   by_cases hw:wholeQ data
   · rw [if_pos hw,if_pos hw,if_pos (show data.length % 16 = 0 ∧ 0 < data.length from hw)]
   · rw [if_neg hw,if_neg hw,if_neg (show ¬ (data.length % 16 = 0 ∧ 0 < data.length) from hw)]
 rw [hc]
 by_cases e:k = (macBlocksQ data).length - 1
 · subst e
   rw [List.getD_eq_getElem?_getD,List.getElem?_set_self hk]
   unfold fullX
   rw [List.drop_append,List.drop_of_length_le (by rw [List.length_take];omega),List.nil_append,List.length_take,show 16 * ((macBlocksQ data).length - 1) - min (16 * ((macBlocksQ data).length - 1)) (fillQ data).length = 0 from by omega,List.drop_zero,List.take_of_length_le (by omega)]
   rfl
 · rw [List.getD_eq_getElem?_getD,List.getElem?_set_ne (fun h=>e h.symm),← List.getD_eq_getElem?_getD,← fill_at data k (by omega)]
   unfold fullX
   rw [List.drop_append_of_le_length (by rw [List.length_take];omega),List.take_append_of_le_length (by rw [List.length_drop,List.length_take];omega),List.drop_take,List.take_take]
   congr 1
   omega
def chQ (f:List UInt8 → List UInt8) (full:List UInt8):Nat → List UInt8
 | 0=>zeros8 16
 | k + 1=>f (xorL (chQ f full k) ((full.drop (16 * k)).take 16))
theorem ch_eqQ (f:List UInt8 → List UInt8) (data K:List UInt8) (h:K.length = 16) (k:Nat) (hk:k ≤ (macBlocksQ data).length):chQ f (fullX data K) k = befLQ f (zeros8 16) (cmacB data K) k:=by
 induction k with
 | zero=>rfl
 | succ k ih =>
   show f (xorL (chQ f (fullX data K) k) (((fullX data K).drop (16 * k)).take 16)) = f (xorL ((cmacB data K).getD k []) (befLQ f (zeros8 16) (cmacB data K) k))
   rw [ih (by omega),full_at data K h k (by omega),xorL_comm]
theorem cmac_eq (key data:List UInt8):cmacN key data = chQ (encL (keyR key)) (fullX data (cmacK key)) (macBlocksQ data).length:=by
 unfold cmacN
 rw [cmacB_length,ch_eqQ _ data (cmacK key) (dblL_length _) _ (Nat.le_refl _)]
end Go.Proofs.YtbkokcjolanpeaaGreatDoor
