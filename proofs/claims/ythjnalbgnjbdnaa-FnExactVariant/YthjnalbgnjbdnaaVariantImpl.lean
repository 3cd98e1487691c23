/-
  impl.Variant.
-/
import Derived.Test.YthjnalbgnjbdnaaTwo
namespace Go.Proofs.Ythjnalbgnjbdnaa
open Go.RowKit

/-- The mask of a use. -/
def maskL (use : Int) : List UInt8 := if use = 1 then [0, 0, 0, 0, 0, 0, 0, 255] else [0, 0, 0, 0, 0, 0, 255, 0]
theorem maskL_length (use : Int) : (maskL use).length = 8 := by unfold maskL; split <;> rfl
/-- What Variant answers. -/
def variantL (key : List UInt8) (use : Int) : List UInt8 := if key.length = 16 ∧ (use = 1 ∨ use = 2) then xorL key (maskL use ++ maskL use) else []

set_option maxRecDepth 100000 in
set_option maxHeartbeats 2000000 in
theorem variant_1 (key : List UInt8) (kb ko ck : Nat) (w : World) (hk : key.length = 16) (rk : w.rangeAt kb ko (key.map byte)) :
    Calls Try.prog 36 #[.slice (some ⟨kb, ko, none⟩) 16 ck, .int .i64 1] w fun e w' => ∃ v, e = .returned v ∧ Own w' w.heap.size v (xorL key (maskL 1 ++ maskL 1)) ∧ Below w.heap.size w w' := by
  have hz := (zero_of_info Try.zero50).1
  have hz2 := (zero_of_info Try.zero57).1
  have har := fun (wx : World) => run_arrayAt (P := Try.prog) (w := wx) 57 5 16 (some ⟨kb, ko, none⟩) 16 ck Try.underlying57 (Nat.le_refl _)
  have n0 := Blk.new w 50 (zerosOf 8 .u8).toArray
  have hu : (w.alloc (.cells (zerosOf 8 .u8).toArray 50)).cell? ⟨w.heap.size, 7, none⟩ = some (.int .u8 0) := n0.cell 7 (by rw [List.toList_toArray, zerosOf_length]; omega)
  have hf := n0.free 7
  obtain ⟨W, hW⟩ : ∃ W, W = w.alloc (.cells ((zerosOf 8 .u8).set 7 (.int .u8 255)).toArray 50) := ⟨_, rfl⟩
  have k1 : Blk W w.heap.size 50 ((maskL 1).map byte) := by rw [hW]; exact Blk.new w 50 ((zerosOf 8 .u8).set 7 (.int .u8 255)).toArray
  have bW : Below w.heap.size w W := by rw [hW]; exact below_new w _
  have gW : Hid (W = w.alloc (.cells ((zerosOf 8 .u8).set 7 (.int .u8 255)).toArray 50)) := hW
  clear hW n0
  obtain ⟨mask, hmk⟩ : ∃ m, m = maskL 1 := ⟨_, rfl⟩
  have hm := maskL_length 1
  rw [← hmk] at hm k1 ⊢
  have HT := fun wx => twoOf_any mask wx hm
  obtain ⟨mm, hmm⟩ : ∃ mm, mm = mask ++ mask := ⟨_, rfl⟩
  have h2l : mm.length = 16 := by rw [hmm, List.length_append, hm]
  rw [← hmm] at HT ⊢
  clear hmk hmm
  go_enter Try.func36, Try.ntmps36
  go_wp2_with fail
  rw [← show W = _ from gW]
  clear gW hz hu hf
  have hkl : (key.map byte).length = 16 := by rw [List.length_map, hk]
  have hml : (mask.map byte).length = 8 := by rw [List.length_map, hm]
  have h2m : (mm.map byte).length = 16 := by rw [List.length_map, h2l]
  have hxn : (xorL key mm).length = 16 := by rw [xorL_length _ _ (by rw [hk, h2l]), hk]
  have hxl : ((xorL key mm).map byte).length = 16 := by rw [List.length_map, hxn]
  obtain ⟨V, hV⟩ : ∃ V, V = W.drew := ⟨_, rfl⟩
  replace k1 : Blk V w.heap.size 50 (mask.map byte) := by rw [hV]; exact k1.drew1
  have bV : Below w.heap.size w V := by rw [hV]; exact bW.drew
  have rV := range_below rk bV
  have hwV := bV.size
  clear bW
  have b_0 : Below V.heap.size V V := Below.refl _ _
  have keep : ∀ {x}, Below V.heap.size V x → x.rangeAt kb ko (key.map byte) ∧ x.rangeAt w.heap.size 0 (mask.map byte) := fun h => ⟨range_below rV h, blk_whole (k1.below h k1.lt)⟩
  refine wp_region_held_drew (S := fun x => x.rangeAt kb ko (key.map byte) ∧ x.rangeAt w.heap.size 0 (mask.map byte)) (by kernel_rfl) (by rw [← hV]; exact keep b_0) (fun hHeld => ?_)
  rw [← hV] at hHeld ⊢
  clear hV
  refine wpAnyH_take (i := 0) (v := (.slice (some ⟨kb, ko, none⟩) 16 ck)) rfl (by kernel_rfl) (by kernel_rfl) (by kernel_rfl) (fun _ _ _ h => h) (Or.inl ⟨by rfl, ?_⟩) hHeld ?_
  · intro _ _; go_simp
  try dsimp only [Act.put]
  refine wpAnyH_take (i := 1) (v := (.pointer (some ⟨kb, ko, none⟩))) rfl (by kernel_rfl) (by kernel_rfl) (by kernel_rfl) (fun _ _ _ h => h) (Or.inl ⟨by rfl, ?_⟩) hHeld ?_
  · intro _ _; go_simp
  try dsimp only [Act.put]
  refine wpAnyH_take (i := 2) (v := (.agg (key.map byte).toArray)) rfl (by kernel_rfl) (by kernel_rfl) (by kernel_rfl) (fun _ _ _ h => h) (yieldsIf_load_mid (by rfl) 57 _ rfl kb ko rfl (key.map byte) _ (fun _ h => h.1) Try.underlying57 rfl (by rw [hkl]; kernel_rfl)) hHeld ?_
  try dsimp only [Act.put]
  refine wpAnyH_take (i := 3) (v := (.agg (mask.map byte).toArray)) rfl (by kernel_rfl) (by kernel_rfl) (by kernel_rfl) (fun _ _ _ h => h) (yieldsIf_load_mid (by rfl) 50 _ rfl w.heap.size 0 rfl (mask.map byte) _ (fun _ h => h.2) Try.underlying50 rfl (by rw [hml]; kernel_rfl)) hHeld ?_
  try dsimp only [Act.put]
  refine wpAnyH_ready (rs := [4, 7]) (by kernel_rfl) (by simp) ?_
  refine AllReadyH.cons rfl (fun K hK => ?_) (AllReadyH.cons rfl (fun K hK => ?_) (AllReadyH.nil))
  · go_simp
    refine (HT _).mono ?_
    rintro e w_1 ⟨rfl, bel_1⟩
    have b_1 := below_step b_0 bel_1
    go_wp2_with fail
    refine hK.out _ _ (keep b_1) (fun hHeld => ?_)
    clear hK K
    try dsimp only [Act.put]
    refine wpAnyH_ready (rs := [5, 7]) (by kernel_rfl) (by simp) ?_
    refine AllReadyH.cons rfl (fun K hK => ?_) (AllReadyH.cons rfl (fun K hK => ?_) (AllReadyH.nil))
    · rw [if_pos (by rfl)]
      refine wp_build2 (some 22) rfl 99 _ _ rfl 57 16 _ (key.map byte) (mm.map byte) rfl rfl Try.underlying99 Try.zero57 hkl h2m (by omega) (by omega) ?_
      try dsimp only [Act.put]
      obtain ⟨w_2, hw_2⟩ : ∃ x, x = World.alloc w_1 (.cells (key.map byte ++ mm.map byte).toArray 57) := ⟨_, rfl⟩
      have bel_2 : Below w_1.heap.size w_1 w_2 := by rw [hw_2]; exact below_new _ _
      have bs_2 : Blk w_2 w_1.heap.size 57 (key.map byte ++ mm.map byte) := by rw [hw_2]; exact Blk.new _ _ _
      have le_bs_2 := b_1.size
      have b_2 := below_step b_1 bel_2
      rw [← hw_2]
      clear hw_2
      refine hK.out _ _ (keep b_2) (fun hHeld => ?_)
      clear hK K
      try dsimp only [Act.put]
      refine wpAnyH_ready (rs := [6, 7]) (by kernel_rfl) (by simp) ?_
      refine AllReadyH.cons rfl (fun K hK => ?_) (AllReadyH.cons rfl (fun K hK => ?_) (AllReadyH.nil))
      · go_simp
        refine (xor16_two key mm w_1.heap.size 2 57 _ hk h2l bs_2).mono ?_
        rintro e w_3 ⟨rfl, bel_3⟩
        have bs_3 := bs_2.below bel_3 bs_2.lt
        have b_3 := below_step b_2 bel_3
        go_wp2_with fail
        refine hK.out _ _ (keep b_3) (fun hHeld => ?_)
        clear hK K
        try dsimp only [Act.put]
        refine wpAnyH_ready (rs := [7]) (by kernel_rfl) (by simp) ?_
        refine AllReadyH.cons rfl (fun K hK => ?_) (AllReadyH.nil)
        go_simp
        obtain ⟨w_4, hw_4⟩ : ∃ x, x = World.alloc w_3 (.cells (zerosOf 16 .u8).toArray 57) := ⟨_, rfl⟩
        have bel_4 : Below w_3.heap.size w_3 w_4 := by rw [hw_4]; exact below_new _ _
        have G_4 : Blk w_4 w_3.heap.size 57 (zerosOf 16 .u8) := by rw [hw_4]; exact Blk.new _ _ _
        have le_G_4 := b_3.size
        have bs_4 := bs_3.below bel_4 bs_3.lt
        have b_4 := below_step b_3 bel_4
        rw [← hw_4]
        clear hw_4
        refine hK.out _ _ (keep b_4) (fun hHeld => ?_)
        clear hK K
        try dsimp only [Act.put]
        refine wpAnyH_ready (rs := [8]) (by kernel_rfl) (by simp) ?_
        refine AllReadyH.cons rfl (fun K hK => ?_) (AllReadyH.nil)
        rw [if_pos (by rfl)]
        refine wp_store_blk rfl 57 _ _ rfl w_3.heap.size rfl rfl G_4 (by rw [hxl]; kernel_rfl) (by rw [hxl]; exact zerosOf_length _ _) (allOne_bytes _) ?_
        have G_5 := Blk.setRow G_4 ((xorL key mm).map byte)
        have b_5 := below_setRow' (g := w_3.heap.size) b_4 le_G_4 ((xorL key mm).map byte).toArray
        refine hK.out _ _ (keep b_5) (fun hHeld => ?_)
        clear hK K
        try dsimp only [Act.put]
        refine wpAnyH_done (by kernel_rfl) ?_ _
        go_wp2
        go_ret
        exact ⟨_, rfl, own_of_blk G_5 (by omega) hxn (by unfold maxLen; omega), bV.trans (b_5.mono hwV)⟩
      · go_simp
        obtain ⟨w_6, hw_6⟩ : ∃ x, x = World.alloc w_2 (.cells (zerosOf 16 .u8).toArray 57) := ⟨_, rfl⟩
        have bel_6 : Below w_2.heap.size w_2 w_6 := by rw [hw_6]; exact below_new _ _
        have G_6 : Blk w_6 w_2.heap.size 57 (zerosOf 16 .u8) := by rw [hw_6]; exact Blk.new _ _ _
        have le_G_6 := b_2.size
        have bs_6 := bs_2.below bel_6 bs_2.lt
        have b_6 := below_step b_2 bel_6
        rw [← hw_6]
        clear hw_6
        refine hK.out _ _ (keep b_6) (fun hHeld => ?_)
        clear hK K
        try dsimp only [Act.put]
        refine wpAnyH_ready (rs := [6]) (by kernel_rfl) (by simp) ?_
        refine AllReadyH.cons rfl (fun K hK => ?_) (AllReadyH.nil)
        go_simp
        refine (xor16_two key mm w_1.heap.size 2 57 _ hk h2l bs_6).mono ?_
        rintro e w_7 ⟨rfl, bel_7⟩
        have bs_7 := bs_6.below bel_7 bs_6.lt
        have G_7 := G_6.below bel_7 G_6.lt
        have b_7 := below_step b_6 bel_7
        go_wp2_with fail
        refine hK.out _ _ (keep b_7) (fun hHeld => ?_)
        clear hK K
        try dsimp only [Act.put]
        refine wpAnyH_ready (rs := [8]) (by kernel_rfl) (by simp) ?_
        refine AllReadyH.cons rfl (fun K hK => ?_) (AllReadyH.nil)
        rw [if_pos (by rfl)]
        refine wp_store_blk rfl 57 _ _ rfl w_2.heap.size rfl rfl G_7 (by rw [hxl]; kernel_rfl) (by rw [hxl]; exact zerosOf_length _ _) (allOne_bytes _) ?_
        have G_8 := Blk.setRow G_7 ((xorL key mm).map byte)
        have b_8 := below_setRow' (g := w_2.heap.size) b_7 le_G_6 ((xorL key mm).map byte).toArray
        refine hK.out _ _ (keep b_8) (fun hHeld => ?_)
        clear hK K
        try dsimp only [Act.put]
        refine wpAnyH_done (by kernel_rfl) ?_ _
        go_wp2
        go_ret
        exact ⟨_, rfl, own_of_blk G_8 (by omega) hxn (by unfold maxLen; omega), bV.trans (b_8.mono hwV)⟩
    · go_simp
      obtain ⟨w_9, hw_9⟩ : ∃ x, x = World.alloc w_1 (.cells (zerosOf 16 .u8).toArray 57) := ⟨_, rfl⟩
      have bel_9 : Below w_1.heap.size w_1 w_9 := by rw [hw_9]; exact below_new _ _
      have G_9 : Blk w_9 w_1.heap.size 57 (zerosOf 16 .u8) := by rw [hw_9]; exact Blk.new _ _ _
      have le_G_9 := b_1.size
      have b_9 := below_step b_1 bel_9
      rw [← hw_9]
      clear hw_9
      refine hK.out _ _ (keep b_9) (fun hHeld => ?_)
      clear hK K
      try dsimp only [Act.put]
      refine wpAnyH_ready (rs := [5]) (by kernel_rfl) (by simp) ?_
      refine AllReadyH.cons rfl (fun K hK => ?_) (AllReadyH.nil)
      rw [if_pos (by rfl)]
      refine wp_build2 (some 22) rfl 99 _ _ rfl 57 16 _ (key.map byte) (mm.map byte) rfl rfl Try.underlying99 Try.zero57 hkl h2m (by omega) (by omega) ?_
      try dsimp only [Act.put]
      obtain ⟨w_10, hw_10⟩ : ∃ x, x = World.alloc w_9 (.cells (key.map byte ++ mm.map byte).toArray 57) := ⟨_, rfl⟩
      have bel_10 : Below w_9.heap.size w_9 w_10 := by rw [hw_10]; exact below_new _ _
      have bs_10 : Blk w_10 w_9.heap.size 57 (key.map byte ++ mm.map byte) := by rw [hw_10]; exact Blk.new _ _ _
      have le_bs_10 := b_9.size
      have G_10 := G_9.below bel_10 G_9.lt
      have b_10 := below_step b_9 bel_10
      rw [← hw_10]
      clear hw_10
      refine hK.out _ _ (keep b_10) (fun hHeld => ?_)
      clear hK K
      try dsimp only [Act.put]
      refine wpAnyH_ready (rs := [6]) (by kernel_rfl) (by simp) ?_
      refine AllReadyH.cons rfl (fun K hK => ?_) (AllReadyH.nil)
      go_simp
      refine (xor16_two key mm w_9.heap.size 2 57 _ hk h2l bs_10).mono ?_
      rintro e w_11 ⟨rfl, bel_11⟩
      have G_11 := G_10.below bel_11 G_10.lt
      have bs_11 := bs_10.below bel_11 bs_10.lt
      have b_11 := below_step b_10 bel_11
      go_wp2_with fail
      refine hK.out _ _ (keep b_11) (fun hHeld => ?_)
      clear hK K
      try dsimp only [Act.put]
      refine wpAnyH_ready (rs := [8]) (by kernel_rfl) (by simp) ?_
      refine AllReadyH.cons rfl (fun K hK => ?_) (AllReadyH.nil)
      rw [if_pos (by rfl)]
      refine wp_store_blk rfl 57 _ _ rfl w_1.heap.size rfl rfl G_11 (by rw [hxl]; kernel_rfl) (by rw [hxl]; exact zerosOf_length _ _) (allOne_bytes _) ?_
      have G_12 := Blk.setRow G_11 ((xorL key mm).map byte)
      have b_12 := below_setRow' (g := w_1.heap.size) b_11 le_G_9 ((xorL key mm).map byte).toArray
      refine hK.out _ _ (keep b_12) (fun hHeld => ?_)
      clear hK K
      try dsimp only [Act.put]
      refine wpAnyH_done (by kernel_rfl) ?_ _
      go_wp2
      go_ret
      exact ⟨_, rfl, own_of_blk G_12 (by omega) hxn (by unfold maxLen; omega), bV.trans (b_12.mono hwV)⟩
  · go_simp
    obtain ⟨w_13, hw_13⟩ : ∃ x, x = World.alloc V (.cells (zerosOf 16 .u8).toArray 57) := ⟨_, rfl⟩
    have bel_13 : Below V.heap.size V w_13 := by rw [hw_13]; exact below_new _ _
    have G_13 : Blk w_13 V.heap.size 57 (zerosOf 16 .u8) := by rw [hw_13]; exact Blk.new _ _ _
    have le_G_13 := b_0.size
    have b_13 := below_step b_0 bel_13
    rw [← hw_13]
    clear hw_13
    refine hK.out _ _ (keep b_13) (fun hHeld => ?_)
    clear hK K
    try dsimp only [Act.put]
    refine wpAnyH_ready (rs := [4]) (by kernel_rfl) (by simp) ?_
    refine AllReadyH.cons rfl (fun K hK => ?_) (AllReadyH.nil)
    go_simp
    refine (HT _).mono ?_
    rintro e w_14 ⟨rfl, bel_14⟩
    have G_14 := G_13.below bel_14 G_13.lt
    have b_14 := below_step b_13 bel_14
    go_wp2_with fail
    refine hK.out _ _ (keep b_14) (fun hHeld => ?_)
    clear hK K
    try dsimp only [Act.put]
    refine wpAnyH_ready (rs := [5]) (by kernel_rfl) (by simp) ?_
    refine AllReadyH.cons rfl (fun K hK => ?_) (AllReadyH.nil)
    rw [if_pos (by rfl)]
    refine wp_build2 (some 22) rfl 99 _ _ rfl 57 16 _ (key.map byte) (mm.map byte) rfl rfl Try.underlying99 Try.zero57 hkl h2m (by omega) (by omega) ?_
    try dsimp only [Act.put]
    obtain ⟨w_15, hw_15⟩ : ∃ x, x = World.alloc w_14 (.cells (key.map byte ++ mm.map byte).toArray 57) := ⟨_, rfl⟩
    have bel_15 : Below w_14.heap.size w_14 w_15 := by rw [hw_15]; exact below_new _ _
    have bs_15 : Blk w_15 w_14.heap.size 57 (key.map byte ++ mm.map byte) := by rw [hw_15]; exact Blk.new _ _ _
    have le_bs_15 := b_14.size
    have G_15 := G_14.below bel_15 G_14.lt
    have b_15 := below_step b_14 bel_15
    rw [← hw_15]
    clear hw_15
    refine hK.out _ _ (keep b_15) (fun hHeld => ?_)
    clear hK K
    try dsimp only [Act.put]
    refine wpAnyH_ready (rs := [6]) (by kernel_rfl) (by simp) ?_
    refine AllReadyH.cons rfl (fun K hK => ?_) (AllReadyH.nil)
    go_simp
    refine (xor16_two key mm w_14.heap.size 2 57 _ hk h2l bs_15).mono ?_
    rintro e w_16 ⟨rfl, bel_16⟩
    have G_16 := G_15.below bel_16 G_15.lt
    have bs_16 := bs_15.below bel_16 bs_15.lt
    have b_16 := below_step b_15 bel_16
    go_wp2_with fail
    refine hK.out _ _ (keep b_16) (fun hHeld => ?_)
    clear hK K
    try dsimp only [Act.put]
    refine wpAnyH_ready (rs := [8]) (by kernel_rfl) (by simp) ?_
    refine AllReadyH.cons rfl (fun K hK => ?_) (AllReadyH.nil)
    rw [if_pos (by rfl)]
    refine wp_store_blk rfl 57 _ _ rfl V.heap.size rfl rfl G_16 (by rw [hxl]; kernel_rfl) (by rw [hxl]; exact zerosOf_length _ _) (allOne_bytes _) ?_
    have G_17 := Blk.setRow G_16 ((xorL key mm).map byte)
    have b_17 := below_setRow' (g := V.heap.size) b_16 le_G_13 ((xorL key mm).map byte).toArray
    refine hK.out _ _ (keep b_17) (fun hHeld => ?_)
    clear hK K
    try dsimp only [Act.put]
    refine wpAnyH_done (by kernel_rfl) ?_ _
    go_wp2
    go_ret
    exact ⟨_, rfl, own_of_blk G_17 (by omega) hxn (by unfold maxLen; omega), bV.trans (b_17.mono hwV)⟩

set_option maxRecDepth 100000 in
set_option maxHeartbeats 2000000 in
theorem variant_2 (key : List UInt8) (kb ko ck : Nat) (w : World) (hk : key.length = 16) (rk : w.rangeAt kb ko (key.map byte)) :
    Calls Try.prog 36 #[.slice (some ⟨kb, ko, none⟩) 16 ck, .int .i64 2] w fun e w' => ∃ v, e = .returned v ∧ Own w' w.heap.size v (xorL key (maskL 2 ++ maskL 2)) ∧ Below w.heap.size w w' := by
  have hz := (zero_of_info Try.zero50).1
  have hz2 := (zero_of_info Try.zero57).1
  have har := fun (wx : World) => run_arrayAt (P := Try.prog) (w := wx) 57 5 16 (some ⟨kb, ko, none⟩) 16 ck Try.underlying57 (Nat.le_refl _)
  have n0 := Blk.new w 50 (zerosOf 8 .u8).toArray
  have hu : (w.alloc (.cells (zerosOf 8 .u8).toArray 50)).cell? ⟨w.heap.size, 6, none⟩ = some (.int .u8 0) := n0.cell 6 (by rw [List.toList_toArray, zerosOf_length]; omega)
  have hf := n0.free 6
  obtain ⟨W, hW⟩ : ∃ W, W = w.alloc (.cells ((zerosOf 8 .u8).set 6 (.int .u8 255)).toArray 50) := ⟨_, rfl⟩
  have k1 : Blk W w.heap.size 50 ((maskL 2).map byte) := by rw [hW]; exact Blk.new w 50 ((zerosOf 8 .u8).set 6 (.int .u8 255)).toArray
  have bW : Below w.heap.size w W := by rw [hW]; exact below_new w _
  have gW : Hid (W = w.alloc (.cells ((zerosOf 8 .u8).set 6 (.int .u8 255)).toArray 50)) := hW
  clear hW n0
  obtain ⟨mask, hmk⟩ : ∃ m, m = maskL 2 := ⟨_, rfl⟩
  have hm := maskL_length 2
  rw [← hmk] at hm k1 ⊢
  have HT := fun wx => twoOf_any mask wx hm
  obtain ⟨mm, hmm⟩ : ∃ mm, mm = mask ++ mask := ⟨_, rfl⟩
  have h2l : mm.length = 16 := by rw [hmm, List.length_append, hm]
  rw [← hmm] at HT ⊢
  clear hmk hmm
  go_enter Try.func36, Try.ntmps36
  go_wp2_with fail
  rw [← show W = _ from gW]
  clear gW hz hu hf
  have hkl : (key.map byte).length = 16 := by rw [List.length_map, hk]
  have hml : (mask.map byte).length = 8 := by rw [List.length_map, hm]
  have h2m : (mm.map byte).length = 16 := by rw [List.length_map, h2l]
  have hxn : (xorL key mm).length = 16 := by rw [xorL_length _ _ (by rw [hk, h2l]), hk]
  have hxl : ((xorL key mm).map byte).length = 16 := by rw [List.length_map, hxn]
  obtain ⟨V, hV⟩ : ∃ V, V = W.drew := ⟨_, rfl⟩
  replace k1 : Blk V w.heap.size 50 (mask.map byte) := by rw [hV]; exact k1.drew1
  have bV : Below w.heap.size w V := by rw [hV]; exact bW.drew
  have rV := range_below rk bV
  have hwV := bV.size
  clear bW
  have b_0 : Below V.heap.size V V := Below.refl _ _
  have keep : ∀ {x}, Below V.heap.size V x → x.rangeAt kb ko (key.map byte) ∧ x.rangeAt w.heap.size 0 (mask.map byte) := fun h => ⟨range_below rV h, blk_whole (k1.below h k1.lt)⟩
  refine wp_region_held_drew (S := fun x => x.rangeAt kb ko (key.map byte) ∧ x.rangeAt w.heap.size 0 (mask.map byte)) (by kernel_rfl) (by rw [← hV]; exact keep b_0) (fun hHeld => ?_)
  rw [← hV] at hHeld ⊢
  clear hV
  refine wpAnyH_take (i := 0) (v := (.slice (some ⟨kb, ko, none⟩) 16 ck)) rfl (by kernel_rfl) (by kernel_rfl) (by kernel_rfl) (fun _ _ _ h => h) (Or.inl ⟨by rfl, ?_⟩) hHeld ?_
  · intro _ _; go_simp
  try dsimp only [Act.put]
  refine wpAnyH_take (i := 1) (v := (.pointer (some ⟨kb, ko, none⟩))) rfl (by kernel_rfl) (by kernel_rfl) (by kernel_rfl) (fun _ _ _ h => h) (Or.inl ⟨by rfl, ?_⟩) hHeld ?_
  · intro _ _; go_simp
  try dsimp only [Act.put]
  refine wpAnyH_take (i := 2) (v := (.agg (key.map byte).toArray)) rfl (by kernel_rfl) (by kernel_rfl) (by kernel_rfl) (fun _ _ _ h => h) (yieldsIf_load_mid (by rfl) 57 _ rfl kb ko rfl (key.map byte) _ (fun _ h => h.1) Try.underlying57 rfl (by rw [hkl]; kernel_rfl)) hHeld ?_
  try dsimp only [Act.put]
  refine wpAnyH_take (i := 3) (v := (.agg (mask.map byte).toArray)) rfl (by kernel_rfl) (by kernel_rfl) (by kernel_rfl) (fun _ _ _ h => h) (yieldsIf_load_mid (by rfl) 50 _ rfl w.heap.size 0 rfl (mask.map byte) _ (fun _ h => h.2) Try.underlying50 rfl (by rw [hml]; kernel_rfl)) hHeld ?_
  try dsimp only [Act.put]
  refine wpAnyH_ready (rs := [4, 7]) (by kernel_rfl) (by simp) ?_
  refine AllReadyH.cons rfl (fun K hK => ?_) (AllReadyH.cons rfl (fun K hK => ?_) (AllReadyH.nil))
  · go_simp
    refine (HT _).mono ?_
    rintro e w_1 ⟨rfl, bel_1⟩
    have b_1 := below_step b_0 bel_1
    go_wp2_with fail
    refine hK.out _ _ (keep b_1) (fun hHeld => ?_)
    clear hK K
    try dsimp only [Act.put]
    refine wpAnyH_ready (rs := [5, 7]) (by kernel_rfl) (by simp) ?_
    refine AllReadyH.cons rfl (fun K hK => ?_) (AllReadyH.cons rfl (fun K hK => ?_) (AllReadyH.nil))
    · rw [if_pos (by rfl)]
      refine wp_build2 (some 22) rfl 99 _ _ rfl 57 16 _ (key.map byte) (mm.map byte) rfl rfl Try.underlying99 Try.zero57 hkl h2m (by omega) (by omega) ?_
      try dsimp only [Act.put]
      obtain ⟨w_2, hw_2⟩ : ∃ x, x = World.alloc w_1 (.cells (key.map byte ++ mm.map byte).toArray 57) := ⟨_, rfl⟩
      have bel_2 : Below w_1.heap.size w_1 w_2 := by rw [hw_2]; exact below_new _ _
      have bs_2 : Blk w_2 w_1.heap.size 57 (key.map byte ++ mm.map byte) := by rw [hw_2]; exact Blk.new _ _ _
      have le_bs_2 := b_1.size
      have b_2 := below_step b_1 bel_2
      rw [← hw_2]
      clear hw_2
      refine hK.out _ _ (keep b_2) (fun hHeld => ?_)
      clear hK K
      try dsimp only [Act.put]
      refine wpAnyH_ready (rs := [6, 7]) (by kernel_rfl) (by simp) ?_
      refine AllReadyH.cons rfl (fun K hK => ?_) (AllReadyH.cons rfl (fun K hK => ?_) (AllReadyH.nil))
      · go_simp
        refine (xor16_two key mm w_1.heap.size 2 57 _ hk h2l bs_2).mono ?_
        rintro e w_3 ⟨rfl, bel_3⟩
        have bs_3 := bs_2.below bel_3 bs_2.lt
        have b_3 := below_step b_2 bel_3
        go_wp2_with fail
        refine hK.out _ _ (keep b_3) (fun hHeld => ?_)
        clear hK K
        try dsimp only [Act.put]
        refine wpAnyH_ready (rs := [7]) (by kernel_rfl) (by simp) ?_
        refine AllReadyH.cons rfl (fun K hK => ?_) (AllReadyH.nil)
        go_simp
        obtain ⟨w_4, hw_4⟩ : ∃ x, x = World.alloc w_3 (.cells (zerosOf 16 .u8).toArray 57) := ⟨_, rfl⟩
        have bel_4 : Below w_3.heap.size w_3 w_4 := by rw [hw_4]; exact below_new _ _
        have G_4 : Blk w_4 w_3.heap.size 57 (zerosOf 16 .u8) := by rw [hw_4]; exact Blk.new _ _ _
        have le_G_4 := b_3.size
        have bs_4 := bs_3.below bel_4 bs_3.lt
        have b_4 := below_step b_3 bel_4
        rw [← hw_4]
        clear hw_4
        refine hK.out _ _ (keep b_4) (fun hHeld => ?_)
        clear hK K
        try dsimp only [Act.put]
        refine wpAnyH_ready (rs := [8]) (by kernel_rfl) (by simp) ?_
        refine AllReadyH.cons rfl (fun K hK => ?_) (AllReadyH.nil)
        rw [if_pos (by rfl)]
        refine wp_store_blk rfl 57 _ _ rfl w_3.heap.size rfl rfl G_4 (by rw [hxl]; kernel_rfl) (by rw [hxl]; exact zerosOf_length _ _) (allOne_bytes _) ?_
        have G_5 := Blk.setRow G_4 ((xorL key mm).map byte)
        have b_5 := below_setRow' (g := w_3.heap.size) b_4 le_G_4 ((xorL key mm).map byte).toArray
        refine hK.out _ _ (keep b_5) (fun hHeld => ?_)
        clear hK K
        try dsimp only [Act.put]
        refine wpAnyH_done (by kernel_rfl) ?_ _
        go_wp2
        go_ret
        exact ⟨_, rfl, own_of_blk G_5 (by omega) hxn (by unfold maxLen; omega), bV.trans (b_5.mono hwV)⟩
      · go_simp
        obtain ⟨w_6, hw_6⟩ : ∃ x, x = World.alloc w_2 (.cells (zerosOf 16 .u8).toArray 57) := ⟨_, rfl⟩
        have bel_6 : Below w_2.heap.size w_2 w_6 := by rw [hw_6]; exact below_new _ _
        have G_6 : Blk w_6 w_2.heap.size 57 (zerosOf 16 .u8) := by rw [hw_6]; exact Blk.new _ _ _
        have le_G_6 := b_2.size
        have bs_6 := bs_2.below bel_6 bs_2.lt
        have b_6 := below_step b_2 bel_6
        rw [← hw_6]
        clear hw_6
        refine hK.out _ _ (keep b_6) (fun hHeld => ?_)
        clear hK K
        try dsimp only [Act.put]
        refine wpAnyH_ready (rs := [6]) (by kernel_rfl) (by simp) ?_
        refine AllReadyH.cons rfl (fun K hK => ?_) (AllReadyH.nil)
        go_simp
        refine (xor16_two key mm w_1.heap.size 2 57 _ hk h2l bs_6).mono ?_
        rintro e w_7 ⟨rfl, bel_7⟩
        have bs_7 := bs_6.below bel_7 bs_6.lt
        have G_7 := G_6.below bel_7 G_6.lt
        have b_7 := below_step b_6 bel_7
        go_wp2_with fail
        refine hK.out _ _ (keep b_7) (fun hHeld => ?_)
        clear hK K
        try dsimp only [Act.put]
        refine wpAnyH_ready (rs := [8]) (by kernel_rfl) (by simp) ?_
        refine AllReadyH.cons rfl (fun K hK => ?_) (AllReadyH.nil)
        rw [if_pos (by rfl)]
        refine wp_store_blk rfl 57 _ _ rfl w_2.heap.size rfl rfl G_7 (by rw [hxl]; kernel_rfl) (by rw [hxl]; exact zerosOf_length _ _) (allOne_bytes _) ?_
        have G_8 := Blk.setRow G_7 ((xorL key mm).map byte)
        have b_8 := below_setRow' (g := w_2.heap.size) b_7 le_G_6 ((xorL key mm).map byte).toArray
        refine hK.out _ _ (keep b_8) (fun hHeld => ?_)
        clear hK K
        try dsimp only [Act.put]
        refine wpAnyH_done (by kernel_rfl) ?_ _
        go_wp2
        go_ret
        exact ⟨_, rfl, own_of_blk G_8 (by omega) hxn (by unfold maxLen; omega), bV.trans (b_8.mono hwV)⟩
    · go_simp
      obtain ⟨w_9, hw_9⟩ : ∃ x, x = World.alloc w_1 (.cells (zerosOf 16 .u8).toArray 57) := ⟨_, rfl⟩
      have bel_9 : Below w_1.heap.size w_1 w_9 := by rw [hw_9]; exact below_new _ _
      have G_9 : Blk w_9 w_1.heap.size 57 (zerosOf 16 .u8) := by rw [hw_9]; exact Blk.new _ _ _
      have le_G_9 := b_1.size
      have b_9 := below_step b_1 bel_9
      rw [← hw_9]
      clear hw_9
      refine hK.out _ _ (keep b_9) (fun hHeld => ?_)
      clear hK K
      try dsimp only [Act.put]
      refine wpAnyH_ready (rs := [5]) (by kernel_rfl) (by simp) ?_
      refine AllReadyH.cons rfl (fun K hK => ?_) (AllReadyH.nil)
      rw [if_pos (by rfl)]
      refine wp_build2 (some 22) rfl 99 _ _ rfl 57 16 _ (key.map byte) (mm.map byte) rfl rfl Try.underlying99 Try.zero57 hkl h2m (by omega) (by omega) ?_
      try dsimp only [Act.put]
      obtain ⟨w_10, hw_10⟩ : ∃ x, x = World.alloc w_9 (.cells (key.map byte ++ mm.map byte).toArray 57) := ⟨_, rfl⟩
      have bel_10 : Below w_9.heap.size w_9 w_10 := by rw [hw_10]; exact below_new _ _
      have bs_10 : Blk w_10 w_9.heap.size 57 (key.map byte ++ mm.map byte) := by rw [hw_10]; exact Blk.new _ _ _
      have le_bs_10 := b_9.size
      have G_10 := G_9.below bel_10 G_9.lt
      have b_10 := below_step b_9 bel_10
      rw [← hw_10]
      clear hw_10
      refine hK.out _ _ (keep b_10) (fun hHeld => ?_)
      clear hK K
      try dsimp only [Act.put]
      refine wpAnyH_ready (rs := [6]) (by kernel_rfl) (by simp) ?_
      refine AllReadyH.cons rfl (fun K hK => ?_) (AllReadyH.nil)
      go_simp
      refine (xor16_two key mm w_9.heap.size 2 57 _ hk h2l bs_10).mono ?_
      rintro e w_11 ⟨rfl, bel_11⟩
      have G_11 := G_10.below bel_11 G_10.lt
      have bs_11 := bs_10.below bel_11 bs_10.lt
      have b_11 := below_step b_10 bel_11
      go_wp2_with fail
      refine hK.out _ _ (keep b_11) (fun hHeld => ?_)
      clear hK K
      try dsimp only [Act.put]
      refine wpAnyH_ready (rs := [8]) (by kernel_rfl) (by simp) ?_
      refine AllReadyH.cons rfl (fun K hK => ?_) (AllReadyH.nil)
      rw [if_pos (by rfl)]
      refine wp_store_blk rfl 57 _ _ rfl w_1.heap.size rfl rfl G_11 (by rw [hxl]; kernel_rfl) (by rw [hxl]; exact zerosOf_length _ _) (allOne_bytes _) ?_
      have G_12 := Blk.setRow G_11 ((xorL key mm).map byte)
      have b_12 := below_setRow' (g := w_1.heap.size) b_11 le_G_9 ((xorL key mm).map byte).toArray
      refine hK.out _ _ (keep b_12) (fun hHeld => ?_)
      clear hK K
      try dsimp only [Act.put]
      refine wpAnyH_done (by kernel_rfl) ?_ _
      go_wp2
      go_ret
      exact ⟨_, rfl, own_of_blk G_12 (by omega) hxn (by unfold maxLen; omega), bV.trans (b_12.mono hwV)⟩
  · go_simp
    obtain ⟨w_13, hw_13⟩ : ∃ x, x = World.alloc V (.cells (zerosOf 16 .u8).toArray 57) := ⟨_, rfl⟩
    have bel_13 : Below V.heap.size V w_13 := by rw [hw_13]; exact below_new _ _
    have G_13 : Blk w_13 V.heap.size 57 (zerosOf 16 .u8) := by rw [hw_13]; exact Blk.new _ _ _
    have le_G_13 := b_0.size
    have b_13 := below_step b_0 bel_13
    rw [← hw_13]
    clear hw_13
    refine hK.out _ _ (keep b_13) (fun hHeld => ?_)
    clear hK K
    try dsimp only [Act.put]
    refine wpAnyH_ready (rs := [4]) (by kernel_rfl) (by simp) ?_
    refine AllReadyH.cons rfl (fun K hK => ?_) (AllReadyH.nil)
    go_simp
    refine (HT _).mono ?_
    rintro e w_14 ⟨rfl, bel_14⟩
    have G_14 := G_13.below bel_14 G_13.lt
    have b_14 := below_step b_13 bel_14
    go_wp2_with fail
    refine hK.out _ _ (keep b_14) (fun hHeld => ?_)
    clear hK K
    try dsimp only [Act.put]
    refine wpAnyH_ready (rs := [5]) (by kernel_rfl) (by simp) ?_
    refine AllReadyH.cons rfl (fun K hK => ?_) (AllReadyH.nil)
    rw [if_pos (by rfl)]
    refine wp_build2 (some 22) rfl 99 _ _ rfl 57 16 _ (key.map byte) (mm.map byte) rfl rfl Try.underlying99 Try.zero57 hkl h2m (by omega) (by omega) ?_
    try dsimp only [Act.put]
    obtain ⟨w_15, hw_15⟩ : ∃ x, x = World.alloc w_14 (.cells (key.map byte ++ mm.map byte).toArray 57) := ⟨_, rfl⟩
    have bel_15 : Below w_14.heap.size w_14 w_15 := by rw [hw_15]; exact below_new _ _
    have bs_15 : Blk w_15 w_14.heap.size 57 (key.map byte ++ mm.map byte) := by rw [hw_15]; exact Blk.new _ _ _
    have le_bs_15 := b_14.size
    have G_15 := G_14.below bel_15 G_14.lt
    have b_15 := below_step b_14 bel_15
    rw [← hw_15]
    clear hw_15
    refine hK.out _ _ (keep b_15) (fun hHeld => ?_)
    clear hK K
    try dsimp only [Act.put]
    refine wpAnyH_ready (rs := [6]) (by kernel_rfl) (by simp) ?_
    refine AllReadyH.cons rfl (fun K hK => ?_) (AllReadyH.nil)
    go_simp
    refine (xor16_two key mm w_14.heap.size 2 57 _ hk h2l bs_15).mono ?_
    rintro e w_16 ⟨rfl, bel_16⟩
    have G_16 := G_15.below bel_16 G_15.lt
    have bs_16 := bs_15.below bel_16 bs_15.lt
    have b_16 := below_step b_15 bel_16
    go_wp2_with fail
    refine hK.out _ _ (keep b_16) (fun hHeld => ?_)
    clear hK K
    try dsimp only [Act.put]
    refine wpAnyH_ready (rs := [8]) (by kernel_rfl) (by simp) ?_
    refine AllReadyH.cons rfl (fun K hK => ?_) (AllReadyH.nil)
    rw [if_pos (by rfl)]
    refine wp_store_blk rfl 57 _ _ rfl V.heap.size rfl rfl G_16 (by rw [hxl]; kernel_rfl) (by rw [hxl]; exact zerosOf_length _ _) (allOne_bytes _) ?_
    have G_17 := Blk.setRow G_16 ((xorL key mm).map byte)
    have b_17 := below_setRow' (g := V.heap.size) b_16 le_G_13 ((xorL key mm).map byte).toArray
    refine hK.out _ _ (keep b_17) (fun hHeld => ?_)
    clear hK K
    try dsimp only [Act.put]
    refine wpAnyH_done (by kernel_rfl) ?_ _
    go_wp2
    go_ret
    exact ⟨_, rfl, own_of_blk G_17 (by omega) hxn (by unfold maxLen; omega), bV.trans (b_17.mono hwV)⟩
end Go.Proofs.Ythjnalbgnjbdnaa
