/-
  impl: the method decrypt of an aesCipher.
-/
import Derived.Test.YthjnalbgnjbdnaaAesEnc
namespace Go.Proofs.Ythjnalbgnjbdnaa
open Go.RowKit

theorem changer_unsub (s : List UInt8) (S : Nat) (w : World) (hs : s.length = 16) (hS : Blk w S 103 (invTab.map byte)) :
    Calls Try.prog 124 #[.agg (s.map byte).toArray, .pointer (some ⟨S, 0, none⟩)] w fun e w' => e = .returned (.agg ((s.map unsubB).map byte).toArray) ∧ Below w.heap.size w w' := changer_any invTab s S w invTab_length hs hS
set_option maxRecDepth 100000 in
set_option maxHeartbeats 4000000 in
theorem aes_decrypt (key block : List UInt8) (S1 S2 S3 S4 : Nat) (w : World) (hk : key.length = 16) (hb : block.length = 16) (h2 : Blk w S2 103 (invTab.map byte)) (h4 : Blk w S4 109 (tabCells unmixT)) :
    Calls Try.prog 88 #[.agg (aesCells ((keysUpto key 11).map byte) S1 S2 S3 S4).toArray, .agg (block.map byte).toArray] w fun e w' => e = .returned (.agg ((decL (keyR key) block).map byte).toArray) ∧ Below w.heap.size w w' := by
  have hz := (zero_of_info Try.z16).1
  have hbm : (block.map byte).length = 16 := by rw [List.length_map, hb]
  have HKl := hid_of' (fun r => keyR_length key hk r)
  have hks : ((keysUpto key 11).map byte).length = 176 := by rw [List.length_map, keysUpto_length key hk]
  have hcl := aesCells_length ((keysUpto key 11).map byte) S1 S2 S3 S4 hks
  have HR := hid_of' (fun (wx : World) (h : Blk wx w.heap.size 86 (aesCells ((keysUpto key 11).map byte) S1 S2 S3 S4)) (r : Nat) (hr : r < 11) => aes_range hk h r hr)
  have HF := hid_of' (fun (wx : World) (h : Blk wx w.heap.size 86 (aesCells ((keysUpto key 11).map byte) S1 S2 S3 S4)) => aes_funcs hks h)
  obtain ⟨CC, hCC⟩ : ∃ l, l = aesCells ((keysUpto key 11).map byte) S1 S2 S3 S4 := ⟨_, rfl⟩
  rw [← hCC] at HR HF hcl ⊢
  clear hCC
  obtain ⟨W, hW⟩ : ∃ W, W = ((w.alloc (.cells CC.toArray 86)).alloc (.cells (block.map byte).toArray 57)).alloc (.cells (zerosOf 16 .u8).toArray 57) := ⟨_, rfl⟩
  have C0 : Blk W w.heap.size 86 CC := by rw [hW]; exact ((Blk.new w _ _).alloc _).alloc _
  have C1 : Blk W (w.heap.size + 1) 57 (block.map byte) := by rw [hW]; exact (Blk.new2 w _ _ _).alloc _
  have C2 : Blk W (w.heap.size + 1 + 1) 57 (zerosOf 16 .u8) := by rw [hW]; exact Blk.newAt _ _ _ _ (by simp)
  have bW : Below w.heap.size w W := by rw [hW]; exact (((Below.refl _ _).alloc (Nat.le_refl _) _).alloc (by simp) _).alloc (by simp; omega) _
  have zW : Hid (W.heap.size = w.heap.size + 1 + 1 + 1) := hid_of' (by rw [hW]; simp)
  have T2 := h2.below bW h2.lt
  have T4 := h4.below bW h4.lt
  have l2 := h2.lt
  have l4 := h4.lt
  go_enter Try.func88, Try.ntmps88
  go_upto_region 1 with fail
  rw [← hW]
  clear h2 h4 hW
  go_cut [5] (fun p wx => ∃ St, p = .pointer (some ⟨St, 0, none⟩) ∧ w.heap.size + 3 ≤ St ∧ S2 < St ∧ S4 < St ∧ Blk wx St 57 ((decGo (keyR key) block 0).map byte) ∧ Blk wx w.heap.size 86 CC ∧ Blk wx (w.heap.size + 1 + 1) 57 (zerosOf 16 .u8) ∧ Blk wx S2 103 (invTab.map byte) ∧ Blk wx S4 109 (tabCells unmixT) ∧ Below w.heap.size w wx)
  case first =>
    have hKl := HKl.out 10
    have HRK := hid_of' (fun (wx : World) (h : Blk wx w.heap.size 86 CC) => HR.out wx h 10 (by omega))
    have HN : Hid (decGo (keyR key) block 0 = (turnL 3 (xorL block (keyR key 10))).map unsubB) := hid_of' rfl
    obtain ⟨KR, hKR⟩ : ∃ P, P = keyR key 10 := ⟨_, rfl⟩
    rw [← hKR] at hKl HRK HN
    clear hKR
    have zz := zW.out
    have zW' : w.heap.size + 3 ≤ W.heap.size := by omega
    clear zz
    have hKm : (KR.map byte).length = 16 := by rw [List.length_map, hKl]
    have hXl := xor16_let block KR hb hKl
    have HU := hid_of' (fun (wx : World) (h : Blk wx S2 103 (invTab.map byte)) => changer_unsub (turnL 3 (xorL block KR)) S2 wx (turnL_length _ _) h)
    have hNm : (((turnL 3 (xorL block KR)).map unsubB).map byte).length = 16 := by rw [List.length_map, List.length_map, turnL_length]
    obtain ⟨NN, hNN⟩ : ∃ l, l = (turnL 3 (xorL block KR)).map unsubB := ⟨_, rfl⟩
    rw [← hNN] at HU HN hNm
    clear hNN
    have kC := C0
    have kR := C2
    have k2 := T2
    have k4 := T4
    have keep : Hid (∀ {w'}, Below W.heap.size W w' → w'.cell? ⟨w.heap.size, 177, none⟩ = some (.func (.func 124) #[] #[.pointer (some ⟨S2, 0, none⟩)]) ∧ w'.rangeAt w.heap.size 160 (KR.map byte) ∧ w'.rangeAt (w.heap.size + 1) 0 (block.map byte)) := fun h => ⟨(HF.out _ (kC.below h kC.lt)).2.1, HRK.out _ (kC.below h kC.lt), blk_whole (C1.below h C1.lt)⟩
    refine wp_region_held_drew (S := fun w' => w'.cell? ⟨w.heap.size, 177, none⟩ = some (.func (.func 124) #[] #[.pointer (some ⟨S2, 0, none⟩)]) ∧ w'.rangeAt w.heap.size 160 (KR.map byte) ∧ w'.rangeAt (w.heap.size + 1) 0 (block.map byte)) (by kernel_rfl) (keep.out (Below.refl _ _).drew) (fun hHeld => ?_)
    obtain ⟨V, hV⟩ : ∃ V, V = W.drew := ⟨_, rfl⟩
    have b_0 : Below W.heap.size W V := by rw [hV]; exact (Below.refl _ _).drew
    have vC := kC.below b_0 kC.lt
    have vR := kR.below b_0 kR.lt
    have v2 := k2.below b_0 k2.lt
    have v4 := k4.below b_0 k4.lt
    rw [← hV] at hHeld ⊢
    clear hV
    refine wpAnyH_take (i := 0) (v := (.pointer (some ⟨w.heap.size, 177, none⟩))) rfl (by kernel_rfl) (by kernel_rfl) (by kernel_rfl) (fun _ _ _ h => h) (Or.inl ⟨by rfl, ?_⟩) hHeld ?_
    · intro _ _; go_simp
    dsimp only [Act.put, List.getElem_toArray, List.getElem_cons_zero, List.getElem_cons_succ]
    simp only [List.setIfInBounds_toArray, List.set_cons_succ, List.set_cons_zero]
    refine wpAnyH_take (i := 1) (v := (.func (.func 124) #[] #[.pointer (some ⟨S2, 0, none⟩)])) rfl (by kernel_rfl) (by kernel_rfl) (by kernel_rfl) (fun _ _ _ h => h) (Or.inl ⟨by rfl, fun w1 h => by have hc := h.1; go_simp⟩) hHeld ?_
    dsimp only [Act.put, List.getElem_toArray, List.getElem_cons_zero, List.getElem_cons_succ]
    simp only [List.setIfInBounds_toArray, List.set_cons_succ, List.set_cons_zero]
    refine wpAnyH_take (i := 2) (v := .agg (block.map byte).toArray) rfl (by kernel_rfl) (by kernel_rfl) (by kernel_rfl) (fun _ _ _ h => h) (yieldsIf_load_mid (by rfl) 57 _ rfl (w.heap.size + 1) 0 rfl (block.map byte) _ (fun _ h => h.2.2) Try.underlying57 rfl (by rw [hbm]; kernel_rfl)) hHeld ?_
    dsimp only [Act.put, List.getElem_toArray, List.getElem_cons_zero, List.getElem_cons_succ]
    simp only [List.setIfInBounds_toArray, List.set_cons_succ, List.set_cons_zero]
    refine wpAnyH_take (i := 3) (v := (.pointer (some ⟨w.heap.size, 0, none⟩))) rfl (by kernel_rfl) (by kernel_rfl) (by kernel_rfl) (fun _ _ _ h => h) (Or.inl ⟨by rfl, ?_⟩) hHeld ?_
    · intro _ _; go_simp
    dsimp only [Act.put, List.getElem_toArray, List.getElem_cons_zero, List.getElem_cons_succ]
    simp only [List.setIfInBounds_toArray, List.set_cons_succ, List.set_cons_zero]
    refine wpAnyH_take (i := 4) (v := (.pointer (some ⟨w.heap.size, 160, none⟩))) rfl (by kernel_rfl) (by kernel_rfl) (by kernel_rfl) (fun _ _ _ h => h) (Or.inl ⟨by rfl, ?_⟩) hHeld ?_
    · intro _ _; go_simp
    dsimp only [Act.put, List.getElem_toArray, List.getElem_cons_zero, List.getElem_cons_succ]
    simp only [List.setIfInBounds_toArray, List.set_cons_succ, List.set_cons_zero]
    refine wpAnyH_take (i := 5) (v := .agg (KR.map byte).toArray) rfl (by kernel_rfl) (by kernel_rfl) (by kernel_rfl) (fun _ _ _ h => h) (yieldsIf_load_mid (by rfl) 57 _ rfl w.heap.size 160 rfl (KR.map byte) _ (fun _ h => h.2.1) Try.underlying57 rfl (by rw [hKm]; kernel_rfl)) hHeld ?_
    dsimp only [Act.put, List.getElem_toArray, List.getElem_cons_zero, List.getElem_cons_succ]
    simp only [List.setIfInBounds_toArray, List.set_cons_succ, List.set_cons_zero]
    refine wpAnyH_ready (rs := [6, 10]) (by kernel_rfl) (by simp) ?_
    refine AllReadyH.cons rfl (fun K hK => ?_) (AllReadyH.cons rfl (fun K hK => ?_) (AllReadyH.nil))
    · rw [if_pos (by rfl)]
      try dsimp only [Act.put, List.getElem_toArray, List.getElem_cons_zero, List.getElem_cons_succ]
      try simp only [List.setIfInBounds_toArray, List.set_cons_succ, List.set_cons_zero]
      refine wp_build2 (some 13) rfl 99 _ _ rfl 57 16 _ (block.map byte) (KR.map byte) (by kernel_rfl) (by kernel_rfl) Try.underlying99 Try.z16 hbm hKm (by omega) (by omega) ?_
      try dsimp only [Act.put]
      obtain ⟨w_1, hw_1⟩ : ∃ x, x = World.alloc V (.cells (block.map byte ++ KR.map byte).toArray 57) := ⟨_, rfl⟩
      have bel_1 : Below V.heap.size V w_1 := by rw [hw_1]; exact below_new _ _
      have two_1 : Blk w_1 V.heap.size 57 (block.map byte ++ KR.map byte) := by rw [hw_1]; exact Blk.new _ _ _
      have le_two_1 := b_0.size
      have lt_two_1 := two_1.lt
      have c_1 := vC.below bel_1 vC.lt
      have res_1 := vR.below bel_1 vR.lt
      have t2_1 := v2.below bel_1 v2.lt
      have t4_1 := v4.below bel_1 v4.lt
      have b_1 := below_step b_0 bel_1
      rw [← hw_1]
      clear hw_1
      refine hK.out _ _ (keep.out b_1) (fun hHeld => ?_)
      clear hK K
      try dsimp only [Act.put]
      refine wpAnyH_ready (rs := [7, 10]) (by kernel_rfl) (by simp) ?_
      refine AllReadyH.cons rfl (fun K hK => ?_) (AllReadyH.cons rfl (fun K hK => ?_) (AllReadyH.nil))
      · go_simp
        refine (xor16_two block KR _ _ _ _ hb hKl two_1).mono ?_
        rintro e w_2 ⟨rfl, bel_2⟩
        have c_2 := c_1.below bel_2 c_1.lt
        have res_2 := res_1.below bel_2 res_1.lt
        have t2_2 := t2_1.below bel_2 t2_1.lt
        have t4_2 := t4_1.below bel_2 t4_1.lt
        have two_2 := two_1.below bel_2 two_1.lt
        have b_2 := below_step b_1 bel_2
        go_wp2_with fail
        refine hK.out _ _ (keep.out b_2) (fun hHeld => ?_)
        clear hK K
        try dsimp only [Act.put]
        refine wpAnyH_ready (rs := [8, 10]) (by kernel_rfl) (by simp) ?_
        refine AllReadyH.cons rfl (fun K hK => ?_) (AllReadyH.cons rfl (fun K hK => ?_) (AllReadyH.nil))
        · go_simp
          refine (turnRows_any 3 _ (xorL block KR) _ (.inr rfl) rfl hXl).mono ?_
          rintro e w_3 ⟨rfl, bel_3⟩
          have c_3 := c_2.below bel_3 c_2.lt
          have res_3 := res_2.below bel_3 res_2.lt
          have t2_3 := t2_2.below bel_3 t2_2.lt
          have t4_3 := t4_2.below bel_3 t4_2.lt
          have two_3 := two_2.below bel_3 two_2.lt
          have b_3 := below_step b_2 bel_3
          go_wp2_with fail
          refine hK.out _ _ (keep.out b_3) (fun hHeld => ?_)
          clear hK K
          try dsimp only [Act.put]
          refine wpAnyH_ready (rs := [9, 10]) (by kernel_rfl) (by simp) ?_
          refine AllReadyH.cons rfl (fun K hK => ?_) (AllReadyH.cons rfl (fun K hK => ?_) (AllReadyH.nil))
          · go_simp
            refine (HU.out _ t2_3).mono ?_
            rintro e w_4 ⟨rfl, bel_4⟩
            have c_4 := c_3.below bel_4 c_3.lt
            have res_4 := res_3.below bel_4 res_3.lt
            have t2_4 := t2_3.below bel_4 t2_3.lt
            have t4_4 := t4_3.below bel_4 t4_3.lt
            have two_4 := two_3.below bel_4 two_3.lt
            have b_4 := below_step b_3 bel_4
            go_wp2_with fail
            refine hK.out _ _ (keep.out b_4) (fun hHeld => ?_)
            clear hK K
            try dsimp only [Act.put]
            refine wpAnyH_ready (rs := [10]) (by kernel_rfl) (by simp) ?_
            refine AllReadyH.cons rfl (fun K hK => ?_) (AllReadyH.nil)
            go_simp
            obtain ⟨w_5, hw_5⟩ : ∃ x, x = World.alloc w_4 (.cells (zerosOf 16 .u8).toArray 57) := ⟨_, rfl⟩
            have bel_5 : Below w_4.heap.size w_4 w_5 := by rw [hw_5]; exact below_new _ _
            have st_5 : Blk w_5 w_4.heap.size 57 (zerosOf 16 .u8) := by rw [hw_5]; exact Blk.new _ _ _
            have le_st_5 := b_4.size
            have lt_st_5 := st_5.lt
            have c_5 := c_4.below bel_5 c_4.lt
            have res_5 := res_4.below bel_5 res_4.lt
            have t2_5 := t2_4.below bel_5 t2_4.lt
            have t4_5 := t4_4.below bel_5 t4_4.lt
            have two_5 := two_4.below bel_5 two_4.lt
            have b_5 := below_step b_4 bel_5
            rw [← hw_5]
            clear hw_5
            refine hK.out _ _ (keep.out b_5) (fun hHeld => ?_)
            clear hK K
            try dsimp only [Act.put]
            refine wpAnyH_ready (rs := [11]) (by kernel_rfl) (by simp) ?_
            refine AllReadyH.cons rfl (fun K hK => ?_) (AllReadyH.nil)
            rw [if_pos (by rfl)]
            refine wp_store_blk (cs := NN.map byte) rfl 57 _ _ rfl w_4.heap.size (by kernel_rfl) (by kernel_rfl) st_5 (by rw [hNm]; kernel_rfl) (by rw [hNm, zerosOf_length]) (allOne_bytes _) ?_
            have st_6 := Blk.setRow st_5 (NN.map byte)
            have c_6 := Blk.setRow_other (g' := w_4.heap.size) (cs := (NN.map byte).toArray) c_5 (by have := kC.lt; omega)
            have res_6 := Blk.setRow_other (g' := w_4.heap.size) (cs := (NN.map byte).toArray) res_5 (by have := kR.lt; omega)
            have t2_6 := Blk.setRow_other (g' := w_4.heap.size) (cs := (NN.map byte).toArray) t2_5 (by have := k2.lt; omega)
            have t4_6 := Blk.setRow_other (g' := w_4.heap.size) (cs := (NN.map byte).toArray) t4_5 (by have := k4.lt; omega)
            have b_6 := below_setRow' (g := w_4.heap.size) b_5 le_st_5 (NN.map byte).toArray
            refine hK.out _ _ (keep.out b_6) (fun hHeld => ?_)
            clear hK K
            try dsimp only [Act.put]
            refine wpAnyH_done (by kernel_rfl) ?_ _
            go_wp2_with fail
            go_meet
            case rel => exact ⟨w_4.heap.size, rfl, by have := le_st_5; omega, by have := le_st_5; have := k2.lt; omega, by have := le_st_5; have := k4.lt; omega, by rw [HN.out]; exact st_6, c_6, res_6, t2_6, t4_6, bW.trans (b_6.mono bW.size)⟩
          · go_simp
            obtain ⟨w_7, hw_7⟩ : ∃ x, x = World.alloc w_3 (.cells (zerosOf 16 .u8).toArray 57) := ⟨_, rfl⟩
            have bel_7 : Below w_3.heap.size w_3 w_7 := by rw [hw_7]; exact below_new _ _
            have st_7 : Blk w_7 w_3.heap.size 57 (zerosOf 16 .u8) := by rw [hw_7]; exact Blk.new _ _ _
            have le_st_7 := b_3.size
            have lt_st_7 := st_7.lt
            have c_7 := c_3.below bel_7 c_3.lt
            have res_7 := res_3.below bel_7 res_3.lt
            have t2_7 := t2_3.below bel_7 t2_3.lt
            have t4_7 := t4_3.below bel_7 t4_3.lt
            have two_7 := two_3.below bel_7 two_3.lt
            have b_7 := below_step b_3 bel_7
            rw [← hw_7]
            clear hw_7
            refine hK.out _ _ (keep.out b_7) (fun hHeld => ?_)
            clear hK K
            try dsimp only [Act.put]
            refine wpAnyH_ready (rs := [9]) (by kernel_rfl) (by simp) ?_
            refine AllReadyH.cons rfl (fun K hK => ?_) (AllReadyH.nil)
            go_simp
            refine (HU.out _ t2_7).mono ?_
            rintro e w_8 ⟨rfl, bel_8⟩
            have c_8 := c_7.below bel_8 c_7.lt
            have res_8 := res_7.below bel_8 res_7.lt
            have t2_8 := t2_7.below bel_8 t2_7.lt
            have t4_8 := t4_7.below bel_8 t4_7.lt
            have two_8 := two_7.below bel_8 two_7.lt
            have st_8 := st_7.below bel_8 st_7.lt
            have b_8 := below_step b_7 bel_8
            go_wp2_with fail
            refine hK.out _ _ (keep.out b_8) (fun hHeld => ?_)
            clear hK K
            try dsimp only [Act.put]
            refine wpAnyH_ready (rs := [11]) (by kernel_rfl) (by simp) ?_
            refine AllReadyH.cons rfl (fun K hK => ?_) (AllReadyH.nil)
            rw [if_pos (by rfl)]
            refine wp_store_blk (cs := NN.map byte) rfl 57 _ _ rfl w_3.heap.size (by kernel_rfl) (by kernel_rfl) st_8 (by rw [hNm]; kernel_rfl) (by rw [hNm, zerosOf_length]) (allOne_bytes _) ?_
            have st_9 := Blk.setRow st_8 (NN.map byte)
            have c_9 := Blk.setRow_other (g' := w_3.heap.size) (cs := (NN.map byte).toArray) c_8 (by have := kC.lt; omega)
            have res_9 := Blk.setRow_other (g' := w_3.heap.size) (cs := (NN.map byte).toArray) res_8 (by have := kR.lt; omega)
            have t2_9 := Blk.setRow_other (g' := w_3.heap.size) (cs := (NN.map byte).toArray) t2_8 (by have := k2.lt; omega)
            have t4_9 := Blk.setRow_other (g' := w_3.heap.size) (cs := (NN.map byte).toArray) t4_8 (by have := k4.lt; omega)
            have b_9 := below_setRow' (g := w_3.heap.size) b_8 le_st_7 (NN.map byte).toArray
            refine hK.out _ _ (keep.out b_9) (fun hHeld => ?_)
            clear hK K
            try dsimp only [Act.put]
            refine wpAnyH_done (by kernel_rfl) ?_ _
            go_wp2_with fail
            go_meet
            case rel => exact ⟨w_3.heap.size, rfl, by have := le_st_7; omega, by have := le_st_7; have := k2.lt; omega, by have := le_st_7; have := k4.lt; omega, by rw [HN.out]; exact st_9, c_9, res_9, t2_9, t4_9, bW.trans (b_9.mono bW.size)⟩
        · go_simp
          obtain ⟨w_10, hw_10⟩ : ∃ x, x = World.alloc w_2 (.cells (zerosOf 16 .u8).toArray 57) := ⟨_, rfl⟩
          have bel_10 : Below w_2.heap.size w_2 w_10 := by rw [hw_10]; exact below_new _ _
          have st_10 : Blk w_10 w_2.heap.size 57 (zerosOf 16 .u8) := by rw [hw_10]; exact Blk.new _ _ _
          have le_st_10 := b_2.size
          have lt_st_10 := st_10.lt
          have c_10 := c_2.below bel_10 c_2.lt
          have res_10 := res_2.below bel_10 res_2.lt
          have t2_10 := t2_2.below bel_10 t2_2.lt
          have t4_10 := t4_2.below bel_10 t4_2.lt
          have two_10 := two_2.below bel_10 two_2.lt
          have b_10 := below_step b_2 bel_10
          rw [← hw_10]
          clear hw_10
          refine hK.out _ _ (keep.out b_10) (fun hHeld => ?_)
          clear hK K
          try dsimp only [Act.put]
          refine wpAnyH_ready (rs := [8]) (by kernel_rfl) (by simp) ?_
          refine AllReadyH.cons rfl (fun K hK => ?_) (AllReadyH.nil)
          go_simp
          refine (turnRows_any 3 _ (xorL block KR) _ (.inr rfl) rfl hXl).mono ?_
          rintro e w_11 ⟨rfl, bel_11⟩
          have c_11 := c_10.below bel_11 c_10.lt
          have res_11 := res_10.below bel_11 res_10.lt
          have t2_11 := t2_10.below bel_11 t2_10.lt
          have t4_11 := t4_10.below bel_11 t4_10.lt
          have two_11 := two_10.below bel_11 two_10.lt
          have st_11 := st_10.below bel_11 st_10.lt
          have b_11 := below_step b_10 bel_11
          go_wp2_with fail
          refine hK.out _ _ (keep.out b_11) (fun hHeld => ?_)
          clear hK K
          try dsimp only [Act.put]
          refine wpAnyH_ready (rs := [9]) (by kernel_rfl) (by simp) ?_
          refine AllReadyH.cons rfl (fun K hK => ?_) (AllReadyH.nil)
          go_simp
          refine (HU.out _ t2_11).mono ?_
          rintro e w_12 ⟨rfl, bel_12⟩
          have c_12 := c_11.below bel_12 c_11.lt
          have res_12 := res_11.below bel_12 res_11.lt
          have t2_12 := t2_11.below bel_12 t2_11.lt
          have t4_12 := t4_11.below bel_12 t4_11.lt
          have two_12 := two_11.below bel_12 two_11.lt
          have st_12 := st_11.below bel_12 st_11.lt
          have b_12 := below_step b_11 bel_12
          go_wp2_with fail
          refine hK.out _ _ (keep.out b_12) (fun hHeld => ?_)
          clear hK K
          try dsimp only [Act.put]
          refine wpAnyH_ready (rs := [11]) (by kernel_rfl) (by simp) ?_
          refine AllReadyH.cons rfl (fun K hK => ?_) (AllReadyH.nil)
          rw [if_pos (by rfl)]
          refine wp_store_blk (cs := NN.map byte) rfl 57 _ _ rfl w_2.heap.size (by kernel_rfl) (by kernel_rfl) st_12 (by rw [hNm]; kernel_rfl) (by rw [hNm, zerosOf_length]) (allOne_bytes _) ?_
          have st_13 := Blk.setRow st_12 (NN.map byte)
          have c_13 := Blk.setRow_other (g' := w_2.heap.size) (cs := (NN.map byte).toArray) c_12 (by have := kC.lt; omega)
          have res_13 := Blk.setRow_other (g' := w_2.heap.size) (cs := (NN.map byte).toArray) res_12 (by have := kR.lt; omega)
          have t2_13 := Blk.setRow_other (g' := w_2.heap.size) (cs := (NN.map byte).toArray) t2_12 (by have := k2.lt; omega)
          have t4_13 := Blk.setRow_other (g' := w_2.heap.size) (cs := (NN.map byte).toArray) t4_12 (by have := k4.lt; omega)
          have b_13 := below_setRow' (g := w_2.heap.size) b_12 le_st_10 (NN.map byte).toArray
          refine hK.out _ _ (keep.out b_13) (fun hHeld => ?_)
          clear hK K
          try dsimp only [Act.put]
          refine wpAnyH_done (by kernel_rfl) ?_ _
          go_wp2_with fail
          go_meet
          case rel => exact ⟨w_2.heap.size, rfl, by have := le_st_10; omega, by have := le_st_10; have := k2.lt; omega, by have := le_st_10; have := k4.lt; omega, by rw [HN.out]; exact st_13, c_13, res_13, t2_13, t4_13, bW.trans (b_13.mono bW.size)⟩
      · go_simp
        obtain ⟨w_14, hw_14⟩ : ∃ x, x = World.alloc w_1 (.cells (zerosOf 16 .u8).toArray 57) := ⟨_, rfl⟩
        have bel_14 : Below w_1.heap.size w_1 w_14 := by rw [hw_14]; exact below_new _ _
        have st_14 : Blk w_14 w_1.heap.size 57 (zerosOf 16 .u8) := by rw [hw_14]; exact Blk.new _ _ _
        have le_st_14 := b_1.size
        have lt_st_14 := st_14.lt
        have c_14 := c_1.below bel_14 c_1.lt
        have res_14 := res_1.below bel_14 res_1.lt
        have t2_14 := t2_1.below bel_14 t2_1.lt
        have t4_14 := t4_1.below bel_14 t4_1.lt
        have two_14 := two_1.below bel_14 two_1.lt
        have b_14 := below_step b_1 bel_14
        rw [← hw_14]
        clear hw_14
        refine hK.out _ _ (keep.out b_14) (fun hHeld => ?_)
        clear hK K
        try dsimp only [Act.put]
        refine wpAnyH_ready (rs := [7]) (by kernel_rfl) (by simp) ?_
        refine AllReadyH.cons rfl (fun K hK => ?_) (AllReadyH.nil)
        go_simp
        refine (xor16_two block KR _ _ _ _ hb hKl two_14).mono ?_
        rintro e w_15 ⟨rfl, bel_15⟩
        have c_15 := c_14.below bel_15 c_14.lt
        have res_15 := res_14.below bel_15 res_14.lt
        have t2_15 := t2_14.below bel_15 t2_14.lt
        have t4_15 := t4_14.below bel_15 t4_14.lt
        have two_15 := two_14.below bel_15 two_14.lt
        have st_15 := st_14.below bel_15 st_14.lt
        have b_15 := below_step b_14 bel_15
        go_wp2_with fail
        refine hK.out _ _ (keep.out b_15) (fun hHeld => ?_)
        clear hK K
        try dsimp only [Act.put]
        refine wpAnyH_ready (rs := [8]) (by kernel_rfl) (by simp) ?_
        refine AllReadyH.cons rfl (fun K hK => ?_) (AllReadyH.nil)
        go_simp
        refine (turnRows_any 3 _ (xorL block KR) _ (.inr rfl) rfl hXl).mono ?_
        rintro e w_16 ⟨rfl, bel_16⟩
        have c_16 := c_15.below bel_16 c_15.lt
        have res_16 := res_15.below bel_16 res_15.lt
        have t2_16 := t2_15.below bel_16 t2_15.lt
        have t4_16 := t4_15.below bel_16 t4_15.lt
        have two_16 := two_15.below bel_16 two_15.lt
        have st_16 := st_15.below bel_16 st_15.lt
        have b_16 := below_step b_15 bel_16
        go_wp2_with fail
        refine hK.out _ _ (keep.out b_16) (fun hHeld => ?_)
        clear hK K
        try dsimp only [Act.put]
        refine wpAnyH_ready (rs := [9]) (by kernel_rfl) (by simp) ?_
        refine AllReadyH.cons rfl (fun K hK => ?_) (AllReadyH.nil)
        go_simp
        refine (HU.out _ t2_16).mono ?_
        rintro e w_17 ⟨rfl, bel_17⟩
        have c_17 := c_16.below bel_17 c_16.lt
        have res_17 := res_16.below bel_17 res_16.lt
        have t2_17 := t2_16.below bel_17 t2_16.lt
        have t4_17 := t4_16.below bel_17 t4_16.lt
        have two_17 := two_16.below bel_17 two_16.lt
        have st_17 := st_16.below bel_17 st_16.lt
        have b_17 := below_step b_16 bel_17
        go_wp2_with fail
        refine hK.out _ _ (keep.out b_17) (fun hHeld => ?_)
        clear hK K
        try dsimp only [Act.put]
        refine wpAnyH_ready (rs := [11]) (by kernel_rfl) (by simp) ?_
        refine AllReadyH.cons rfl (fun K hK => ?_) (AllReadyH.nil)
        rw [if_pos (by rfl)]
        refine wp_store_blk (cs := NN.map byte) rfl 57 _ _ rfl w_1.heap.size (by kernel_rfl) (by kernel_rfl) st_17 (by rw [hNm]; kernel_rfl) (by rw [hNm, zerosOf_length]) (allOne_bytes _) ?_
        have st_18 := Blk.setRow st_17 (NN.map byte)
        have c_18 := Blk.setRow_other (g' := w_1.heap.size) (cs := (NN.map byte).toArray) c_17 (by have := kC.lt; omega)
        have res_18 := Blk.setRow_other (g' := w_1.heap.size) (cs := (NN.map byte).toArray) res_17 (by have := kR.lt; omega)
        have t2_18 := Blk.setRow_other (g' := w_1.heap.size) (cs := (NN.map byte).toArray) t2_17 (by have := k2.lt; omega)
        have t4_18 := Blk.setRow_other (g' := w_1.heap.size) (cs := (NN.map byte).toArray) t4_17 (by have := k4.lt; omega)
        have b_18 := below_setRow' (g := w_1.heap.size) b_17 le_st_14 (NN.map byte).toArray
        refine hK.out _ _ (keep.out b_18) (fun hHeld => ?_)
        clear hK K
        try dsimp only [Act.put]
        refine wpAnyH_done (by kernel_rfl) ?_ _
        go_wp2_with fail
        go_meet
        case rel => exact ⟨w_1.heap.size, rfl, by have := le_st_14; omega, by have := le_st_14; have := k2.lt; omega, by have := le_st_14; have := k4.lt; omega, by rw [HN.out]; exact st_18, c_18, res_18, t2_18, t4_18, bW.trans (b_18.mono bW.size)⟩
    · go_simp
      obtain ⟨w_19, hw_19⟩ : ∃ x, x = World.alloc V (.cells (zerosOf 16 .u8).toArray 57) := ⟨_, rfl⟩
      have bel_19 : Below V.heap.size V w_19 := by rw [hw_19]; exact below_new _ _
      have st_19 : Blk w_19 V.heap.size 57 (zerosOf 16 .u8) := by rw [hw_19]; exact Blk.new _ _ _
      have le_st_19 := b_0.size
      have lt_st_19 := st_19.lt
      have c_19 := vC.below bel_19 vC.lt
      have res_19 := vR.below bel_19 vR.lt
      have t2_19 := v2.below bel_19 v2.lt
      have t4_19 := v4.below bel_19 v4.lt
      have b_19 := below_step b_0 bel_19
      rw [← hw_19]
      clear hw_19
      refine hK.out _ _ (keep.out b_19) (fun hHeld => ?_)
      clear hK K
      try dsimp only [Act.put]
      refine wpAnyH_ready (rs := [6]) (by kernel_rfl) (by simp) ?_
      refine AllReadyH.cons rfl (fun K hK => ?_) (AllReadyH.nil)
      rw [if_pos (by rfl)]
      try dsimp only [Act.put, List.getElem_toArray, List.getElem_cons_zero, List.getElem_cons_succ]
      try simp only [List.setIfInBounds_toArray, List.set_cons_succ, List.set_cons_zero]
      refine wp_build2 (some 13) rfl 99 _ _ rfl 57 16 _ (block.map byte) (KR.map byte) (by kernel_rfl) (by kernel_rfl) Try.underlying99 Try.z16 hbm hKm (by omega) (by omega) ?_
      try dsimp only [Act.put]
      obtain ⟨w_20, hw_20⟩ : ∃ x, x = World.alloc w_19 (.cells (block.map byte ++ KR.map byte).toArray 57) := ⟨_, rfl⟩
      have bel_20 : Below w_19.heap.size w_19 w_20 := by rw [hw_20]; exact below_new _ _
      have two_20 : Blk w_20 w_19.heap.size 57 (block.map byte ++ KR.map byte) := by rw [hw_20]; exact Blk.new _ _ _
      have le_two_20 := b_19.size
      have lt_two_20 := two_20.lt
      have c_20 := c_19.below bel_20 c_19.lt
      have res_20 := res_19.below bel_20 res_19.lt
      have t2_20 := t2_19.below bel_20 t2_19.lt
      have t4_20 := t4_19.below bel_20 t4_19.lt
      have st_20 := st_19.below bel_20 st_19.lt
      have b_20 := below_step b_19 bel_20
      rw [← hw_20]
      clear hw_20
      refine hK.out _ _ (keep.out b_20) (fun hHeld => ?_)
      clear hK K
      try dsimp only [Act.put]
      refine wpAnyH_ready (rs := [7]) (by kernel_rfl) (by simp) ?_
      refine AllReadyH.cons rfl (fun K hK => ?_) (AllReadyH.nil)
      go_simp
      refine (xor16_two block KR _ _ _ _ hb hKl two_20).mono ?_
      rintro e w_21 ⟨rfl, bel_21⟩
      have c_21 := c_20.below bel_21 c_20.lt
      have res_21 := res_20.below bel_21 res_20.lt
      have t2_21 := t2_20.below bel_21 t2_20.lt
      have t4_21 := t4_20.below bel_21 t4_20.lt
      have st_21 := st_20.below bel_21 st_20.lt
      have two_21 := two_20.below bel_21 two_20.lt
      have b_21 := below_step b_20 bel_21
      go_wp2_with fail
      refine hK.out _ _ (keep.out b_21) (fun hHeld => ?_)
      clear hK K
      try dsimp only [Act.put]
      refine wpAnyH_ready (rs := [8]) (by kernel_rfl) (by simp) ?_
      refine AllReadyH.cons rfl (fun K hK => ?_) (AllReadyH.nil)
      go_simp
      refine (turnRows_any 3 _ (xorL block KR) _ (.inr rfl) rfl hXl).mono ?_
      rintro e w_22 ⟨rfl, bel_22⟩
      have c_22 := c_21.below bel_22 c_21.lt
      have res_22 := res_21.below bel_22 res_21.lt
      have t2_22 := t2_21.below bel_22 t2_21.lt
      have t4_22 := t4_21.below bel_22 t4_21.lt
      have st_22 := st_21.below bel_22 st_21.lt
      have two_22 := two_21.below bel_22 two_21.lt
      have b_22 := below_step b_21 bel_22
      go_wp2_with fail
      refine hK.out _ _ (keep.out b_22) (fun hHeld => ?_)
      clear hK K
      try dsimp only [Act.put]
      refine wpAnyH_ready (rs := [9]) (by kernel_rfl) (by simp) ?_
      refine AllReadyH.cons rfl (fun K hK => ?_) (AllReadyH.nil)
      go_simp
      refine (HU.out _ t2_22).mono ?_
      rintro e w_23 ⟨rfl, bel_23⟩
      have c_23 := c_22.below bel_23 c_22.lt
      have res_23 := res_22.below bel_23 res_22.lt
      have t2_23 := t2_22.below bel_23 t2_22.lt
      have t4_23 := t4_22.below bel_23 t4_22.lt
      have st_23 := st_22.below bel_23 st_22.lt
      have two_23 := two_22.below bel_23 two_22.lt
      have b_23 := below_step b_22 bel_23
      go_wp2_with fail
      refine hK.out _ _ (keep.out b_23) (fun hHeld => ?_)
      clear hK K
      try dsimp only [Act.put]
      refine wpAnyH_ready (rs := [11]) (by kernel_rfl) (by simp) ?_
      refine AllReadyH.cons rfl (fun K hK => ?_) (AllReadyH.nil)
      rw [if_pos (by rfl)]
      refine wp_store_blk (cs := NN.map byte) rfl 57 _ _ rfl V.heap.size (by kernel_rfl) (by kernel_rfl) st_23 (by rw [hNm]; kernel_rfl) (by rw [hNm, zerosOf_length]) (allOne_bytes _) ?_
      have st_24 := Blk.setRow st_23 (NN.map byte)
      have c_24 := Blk.setRow_other (g' := V.heap.size) (cs := (NN.map byte).toArray) c_23 (by have := kC.lt; omega)
      have res_24 := Blk.setRow_other (g' := V.heap.size) (cs := (NN.map byte).toArray) res_23 (by have := kR.lt; omega)
      have t2_24 := Blk.setRow_other (g' := V.heap.size) (cs := (NN.map byte).toArray) t2_23 (by have := k2.lt; omega)
      have t4_24 := Blk.setRow_other (g' := V.heap.size) (cs := (NN.map byte).toArray) t4_23 (by have := k4.lt; omega)
      have b_24 := below_setRow' (g := V.heap.size) b_23 le_st_19 (NN.map byte).toArray
      refine hK.out _ _ (keep.out b_24) (fun hHeld => ?_)
      clear hK K
      try dsimp only [Act.put]
      refine wpAnyH_done (by kernel_rfl) ?_ _
      go_wp2_with fail
      go_meet
      case rel => exact ⟨V.heap.size, rfl, by have := le_st_19; omega, by have := le_st_19; have := k2.lt; omega, by have := le_st_19; have := k4.lt; omega, by rw [HN.out]; exact st_24, c_24, res_24, t2_24, t4_24, bW.trans (b_24.mono bW.size)⟩
  case rest =>
    obtain ⟨St, rfl, hSt3, hn2, hn4, q4, q0, q2, qT2, qT4, qb⟩ := hcut
    clear C0 C1 C2 T2 T4 bW zW
    go_wp2_with fail
    go_loopw [6] (fun i wr => ∃ k : Nat, k ≤ 9 ∧ i = .int .i64 ((9 - k : Nat) : Int) ∧ Blk wr St 57 ((decGo (keyR key) block k).map byte) ∧ Blk wr w.heap.size 86 CC ∧ Blk wr (w.heap.size + 1 + 1) 57 (zerosOf 16 .u8) ∧ Blk wr S2 103 (invTab.map byte) ∧ Blk wr S4 109 (tabCells unmixT) ∧ Below w.heap.size w wr) (fun i _ => (intOf i).toNat)
    case atStart => exact ⟨0, by omega, rfl, q4, q0, q2, qT2, qT4, qb⟩
    case round =>
      clear q4 q0 q2 qT2 qT4 qb
      obtain ⟨k, hk9, rfl, kS, kC, kR, k2, k4, hbel⟩ := hrel
      have hPl := decGo_length (keyR key) block k
      have zb := hbel.size
      by_cases hlt : k < 9
      · obtain ⟨r, hr, HRk⟩ : ∃ r : Nat, 9 - k = r ∧ Hid (r = 9 - k) := ⟨_, rfl, rfl⟩
        rw [hr]
        have hrI : (0 : Int) < (r : Int) := by omega
        have hrJ : (r : Int) < 11 := by omega
        have hr11 : r < 11 := by omega
        obtain ⟨R1, hR1, HR1⟩ : ∃ q : Nat, IntKind.i64.wrap ((r : Int) - 1) = (q : Int) ∧ Hid (q = r - 1) := ⟨r - 1, by rw [IntKind.wrap_i64]; omega, rfl⟩
        have hKl := HKl.out r
        have HRK := hid_of' (fun (wx : World) (h : Blk wx w.heap.size 86 CC) => HR.out wx h r hr11)
        have HN : Hid (decGo (keyR key) block (k + 1) = (turnL 3 (mixCols unmixT (xorL (decGo (keyR key) block k) (keyR key r)))).map unsubB) := hid_of' (by rw [HRk.out]; rfl)
        obtain ⟨P, hP⟩ : ∃ P, P = decGo (keyR key) block k := ⟨_, rfl⟩
        obtain ⟨KR, hKR⟩ : ∃ P, P = keyR key r := ⟨_, rfl⟩
        rw [← hP] at kS hPl HN
        rw [← hKR] at hKl HRK HN
        clear hP hKR hr
        have hPm : (P.map byte).length = 16 := by rw [List.length_map, hPl]
        have hKm : (KR.map byte).length = 16 := by rw [List.length_map, hKl]
        have hXl := xor16_let P KR hPl hKl
        have HU := hid_of' (fun (wx : World) (h : Blk wx S2 103 (invTab.map byte)) => changer_unsub (turnL 3 (mixCols unmixT (xorL P KR))) S2 wx (turnL_length _ _) h)
        have hNm : (((turnL 3 (mixCols unmixT (xorL P KR))).map unsubB).map byte).length = 16 := by rw [List.length_map, List.length_map, turnL_length]
        obtain ⟨NN, hNN⟩ : ∃ l, l = (turnL 3 (mixCols unmixT (xorL P KR))).map unsubB := ⟨_, rfl⟩
        rw [← hNN] at HU HN hNm
        clear hNN
        have keep : Hid (∀ {w'}, Below wr.heap.size wr w' → w'.cell? ⟨w.heap.size, 177, none⟩ = some (.func (.func 124) #[] #[.pointer (some ⟨S2, 0, none⟩)]) ∧ w'.cell? ⟨w.heap.size, 179, none⟩ = some (.func (.func 125) #[] #[.pointer (some ⟨S4, 0, none⟩)]) ∧ w'.rangeAt w.heap.size (r * 16) (KR.map byte)) := fun h => ⟨(HF.out _ (kC.below h kC.lt)).2.1, (HF.out _ (kC.below h kC.lt)).2.2.2, HRK.out _ (kC.below h kC.lt)⟩
        go_upto_region 5 with fail
        refine wp_region_held_drew (S := fun w' => w'.cell? ⟨w.heap.size, 177, none⟩ = some (.func (.func 124) #[] #[.pointer (some ⟨S2, 0, none⟩)]) ∧ w'.cell? ⟨w.heap.size, 179, none⟩ = some (.func (.func 125) #[] #[.pointer (some ⟨S4, 0, none⟩)]) ∧ w'.rangeAt w.heap.size (r * 16) (KR.map byte)) (by kernel_rfl) (keep.out (Below.refl _ _).drew) (fun hHeld => ?_)
        refine wpAnyH_take (i := 0) (v := (.pointer (some ⟨w.heap.size, 177, none⟩))) rfl (by kernel_rfl) (by kernel_rfl) (by kernel_rfl) (fun _ _ _ h => h) (Or.inl ⟨by rfl, ?_⟩) hHeld ?_
        · intro _ _; go_simp
        dsimp only [Act.put, List.getElem_toArray, List.getElem_cons_zero, List.getElem_cons_succ]
        simp only [List.setIfInBounds_toArray, List.set_cons_succ, List.set_cons_zero]
        refine wpAnyH_take (i := 1) (v := (.func (.func 124) #[] #[.pointer (some ⟨S2, 0, none⟩)])) rfl (by kernel_rfl) (by kernel_rfl) (by kernel_rfl) (fun _ _ _ h => h) (Or.inl ⟨by rfl, fun w1 h => by have hc := h.1; go_simp⟩) hHeld ?_
        dsimp only [Act.put, List.getElem_toArray, List.getElem_cons_zero, List.getElem_cons_succ]
        simp only [List.setIfInBounds_toArray, List.set_cons_succ, List.set_cons_zero]
        refine wpAnyH_take (i := 2) (v := (.pointer (some ⟨w.heap.size, 179, none⟩))) rfl (by kernel_rfl) (by kernel_rfl) (by kernel_rfl) (fun _ _ _ h => h) (Or.inl ⟨by rfl, ?_⟩) hHeld ?_
        · intro _ _; go_simp
        dsimp only [Act.put, List.getElem_toArray, List.getElem_cons_zero, List.getElem_cons_succ]
        simp only [List.setIfInBounds_toArray, List.set_cons_succ, List.set_cons_zero]
        refine wpAnyH_take (i := 3) (v := (.func (.func 125) #[] #[.pointer (some ⟨S4, 0, none⟩)])) rfl (by kernel_rfl) (by kernel_rfl) (by kernel_rfl) (fun _ _ _ h => h) (Or.inl ⟨by rfl, fun w1 h => by have hc := h.2.1; go_simp⟩) hHeld ?_
        dsimp only [Act.put, List.getElem_toArray, List.getElem_cons_zero, List.getElem_cons_succ]
        simp only [List.setIfInBounds_toArray, List.set_cons_succ, List.set_cons_zero]
        refine wpAnyH_take (i := 5) (v := (.int .i64 r)) rfl (by kernel_rfl) (by kernel_rfl) (by kernel_rfl) (fun _ _ _ h => h) (Or.inl ⟨by rfl, ?_⟩) hHeld ?_
        · intro _ _; go_simp
        dsimp only [Act.put, List.getElem_toArray, List.getElem_cons_zero, List.getElem_cons_succ]
        simp only [List.setIfInBounds_toArray, List.set_cons_succ, List.set_cons_zero]
        refine wpAnyH_take (i := 6) (v := (.pointer (some ⟨w.heap.size, 0, none⟩))) rfl (by kernel_rfl) (by kernel_rfl) (by kernel_rfl) (fun _ _ _ h => h) (Or.inl ⟨by rfl, ?_⟩) hHeld ?_
        · intro _ _; go_simp
        dsimp only [Act.put, List.getElem_toArray, List.getElem_cons_zero, List.getElem_cons_succ]
        simp only [List.setIfInBounds_toArray, List.set_cons_succ, List.set_cons_zero]
        refine wpAnyH_take (i := 7) (v := (.pointer (some ⟨w.heap.size, r * 16, none⟩))) rfl (by kernel_rfl) (by kernel_rfl) (by kernel_rfl) (fun _ _ _ h => h) (Or.inl ⟨by rfl, ?_⟩) hHeld ?_
        · intro _ _; go_simp
        dsimp only [Act.put, List.getElem_toArray, List.getElem_cons_zero, List.getElem_cons_succ]
        simp only [List.setIfInBounds_toArray, List.set_cons_succ, List.set_cons_zero]
        refine wpAnyH_take (i := 8) (v := .agg (KR.map byte).toArray) rfl (by kernel_rfl) (by kernel_rfl) (by kernel_rfl) (fun _ _ _ h => h) (yieldsIf_load_mid (by rfl) 57 _ rfl w.heap.size (r * 16) rfl (KR.map byte) _ (fun _ h => h.2.2) Try.underlying57 rfl (by rw [hKm]; kernel_rfl)) hHeld ?_
        dsimp only [Act.put, List.getElem_toArray, List.getElem_cons_zero, List.getElem_cons_succ]
        simp only [List.setIfInBounds_toArray, List.set_cons_succ, List.set_cons_zero]
        refine wpAnyH_ready (rs := [4]) (by kernel_rfl) (by simp) ?_
        refine AllReadyH.cons rfl (fun K hK => ?_) (AllReadyH.nil)
        rw [if_pos (by rfl)]
        try dsimp only [Act.put, List.getElem_toArray, List.getElem_cons_zero, List.getElem_cons_succ]
        try simp only [List.setIfInBounds_toArray, List.set_cons_succ, List.set_cons_zero]
        have hrg_1 := blk_whole kS.drew1
        refine wp_load_to (some 25) rfl 57 _ rfl St 0 (by kernel_rfl) (P.map byte) _ hrg_1 Try.underlying57 rfl (by rw [hPm]; kernel_rfl) ?_
        refine hK.out _ _ (keep.out (Below.refl wr.heap.size wr).drew) (fun hHeld => ?_)
        clear hK K
        try dsimp only [Act.put]
        refine wpAnyH_ready (rs := [9]) (by kernel_rfl) (by simp) ?_
        refine AllReadyH.cons rfl (fun K hK => ?_) (AllReadyH.nil)
        rw [if_pos (by rfl)]
        try dsimp only [Act.put, List.getElem_toArray, List.getElem_cons_zero, List.getElem_cons_succ]
        try simp only [List.setIfInBounds_toArray, List.set_cons_succ, List.set_cons_zero]
        refine wp_build2 (some 30) rfl 99 _ _ rfl 57 16 _ (P.map byte) (KR.map byte) (by kernel_rfl) (by kernel_rfl) Try.underlying99 Try.z16 hPm hKm (by omega) (by omega) ?_
        try dsimp only [Act.put]
        obtain ⟨w_2, hw_2⟩ : ∃ x, x = World.alloc wr.drew (.cells (P.map byte ++ KR.map byte).toArray 57) := ⟨_, rfl⟩
        have bel_2 : Below wr.drew.heap.size wr.drew w_2 := by rw [hw_2]; exact below_new _ _
        have two_2 : Blk w_2 wr.drew.heap.size 57 (P.map byte ++ KR.map byte) := by rw [hw_2]; exact Blk.new _ _ _
        have le_two_2 := (Below.refl wr.heap.size wr).drew.size
        have lt_two_2 := two_2.lt
        have c_2 := kC.drew1.below bel_2 kC.drew1.lt
        have res_2 := kR.drew1.below bel_2 kR.drew1.lt
        have t2_2 := k2.drew1.below bel_2 k2.drew1.lt
        have t4_2 := k4.drew1.below bel_2 k4.drew1.lt
        have st_2 := kS.drew1.below bel_2 kS.drew1.lt
        have b_2 := below_step (Below.refl wr.heap.size wr).drew bel_2
        rw [← hw_2]
        clear hw_2
        refine hK.out _ _ (keep.out b_2) (fun hHeld => ?_)
        clear hK K
        try dsimp only [Act.put]
        refine wpAnyH_ready (rs := [10]) (by kernel_rfl) (by simp) ?_
        refine AllReadyH.cons rfl (fun K hK => ?_) (AllReadyH.nil)
        go_simp
        refine (xor16_two P KR _ _ _ _ hPl hKl two_2).mono ?_
        rintro e w_3 ⟨rfl, bel_3⟩
        have c_3 := c_2.below bel_3 c_2.lt
        have res_3 := res_2.below bel_3 res_2.lt
        have t2_3 := t2_2.below bel_3 t2_2.lt
        have t4_3 := t4_2.below bel_3 t4_2.lt
        have st_3 := st_2.below bel_3 st_2.lt
        have two_3 := two_2.below bel_3 two_2.lt
        have b_3 := below_step b_2 bel_3
        go_wp2_with fail
        refine hK.out _ _ (keep.out b_3) (fun hHeld => ?_)
        clear hK K
        try dsimp only [Act.put]
        refine wpAnyH_ready (rs := [11]) (by kernel_rfl) (by simp) ?_
        refine AllReadyH.cons rfl (fun K hK => ?_) (AllReadyH.nil)
        go_simp
        refine (mixer_any unmixT (xorL P KR) S4 _ unmixT_lt hXl t4_3).mono ?_
        rintro e w_4 ⟨rfl, bel_4⟩
        have c_4 := c_3.below bel_4 c_3.lt
        have res_4 := res_3.below bel_4 res_3.lt
        have t2_4 := t2_3.below bel_4 t2_3.lt
        have t4_4 := t4_3.below bel_4 t4_3.lt
        have st_4 := st_3.below bel_4 st_3.lt
        have two_4 := two_3.below bel_4 two_3.lt
        have b_4 := below_step b_3 bel_4
        go_wp2_with fail
        refine hK.out _ _ (keep.out b_4) (fun hHeld => ?_)
        clear hK K
        try dsimp only [Act.put]
        refine wpAnyH_ready (rs := [12]) (by kernel_rfl) (by simp) ?_
        refine AllReadyH.cons rfl (fun K hK => ?_) (AllReadyH.nil)
        go_simp
        refine (turnRows_any 3 _ (mixCols unmixT (xorL P KR)) _ (.inr rfl) rfl (mixCols_length _ _)).mono ?_
        rintro e w_5 ⟨rfl, bel_5⟩
        have c_5 := c_4.below bel_5 c_4.lt
        have res_5 := res_4.below bel_5 res_4.lt
        have t2_5 := t2_4.below bel_5 t2_4.lt
        have t4_5 := t4_4.below bel_5 t4_4.lt
        have st_5 := st_4.below bel_5 st_4.lt
        have two_5 := two_4.below bel_5 two_4.lt
        have b_5 := below_step b_4 bel_5
        go_wp2_with fail
        refine hK.out _ _ (keep.out b_5) (fun hHeld => ?_)
        clear hK K
        try dsimp only [Act.put]
        refine wpAnyH_ready (rs := [13]) (by kernel_rfl) (by simp) ?_
        refine AllReadyH.cons rfl (fun K hK => ?_) (AllReadyH.nil)
        go_simp
        refine (HU.out _ t2_5).mono ?_
        rintro e w_6 ⟨rfl, bel_6⟩
        have c_6 := c_5.below bel_6 c_5.lt
        have res_6 := res_5.below bel_6 res_5.lt
        have t2_6 := t2_5.below bel_6 t2_5.lt
        have t4_6 := t4_5.below bel_6 t4_5.lt
        have st_6 := st_5.below bel_6 st_5.lt
        have two_6 := two_5.below bel_6 two_5.lt
        have b_6 := below_step b_5 bel_6
        go_wp2_with fail
        refine hK.out _ _ (keep.out b_6) (fun hHeld => ?_)
        clear hK K
        try dsimp only [Act.put]
        refine wpAnyH_ready (rs := [14]) (by kernel_rfl) (by simp) ?_
        refine AllReadyH.cons rfl (fun K hK => ?_) (AllReadyH.nil)
        rw [if_pos (by rfl)]
        refine wp_store_blk (cs := NN.map byte) rfl 57 _ _ rfl St (by kernel_rfl) (by kernel_rfl) st_6 (by rw [hNm]; kernel_rfl) (by rw [hNm, hPm]) (allOne_bytes _) ?_
        have st_7 := Blk.setRow st_6 (NN.map byte)
        have c_7 := Blk.setRow_other (g' := St) (cs := (NN.map byte).toArray) c_6 (by omega)
        have res_7 := Blk.setRow_other (g' := St) (cs := (NN.map byte).toArray) res_6 (by omega)
        have t2_7 := Blk.setRow_other (g' := St) (cs := (NN.map byte).toArray) t2_6 (by omega)
        have t4_7 := Blk.setRow_other (g' := St) (cs := (NN.map byte).toArray) t4_6 (by omega)
        have bz_7 := below_setRow' (g := St) (hbel.trans (b_6.mono hbel.size)) (by omega) (NN.map byte).toArray
        refine hK.out _ _ ⟨(HF.out _ c_7).2.1, (HF.out _ c_7).2.2.2, HRK.out _ c_7⟩ (fun hHeld => ?_)
        clear hK K
        try dsimp only [Act.put]
        refine wpAnyH_done (by kernel_rfl) ?_ _
        have hfin : Blk (World.setRow w_6 St (NN.map byte).toArray) St 57 ((decGo (keyR key) block (k + 1)).map byte) := by rw [HN.out]; exact st_7
        clear hHeld
        go_wp2
        go_roundw
        case rel => exact ⟨k + 1, by omega, by have := HRk.out; have := HR1.out; go_num, hfin, c_7, res_7, t2_7, t4_7, bz_7⟩
        case measure => have := HRk.out; have := HR1.out; simp [intOf]; omega
      · obtain rfl : k = 9 := by omega
        have hK0 := HKl.out 0
        have hK0m : ((keyR key 0).map byte).length = 16 := by rw [List.length_map, hK0]
        have r0 := HR.out wr kC 0 (by omega)
        have HN : Hid (decL (keyR key) block = xorL (decGo (keyR key) block 9) (keyR key 0)) := hid_of' rfl
        obtain ⟨P, hP⟩ : ∃ P, P = decGo (keyR key) block 9 := ⟨_, rfl⟩
        rw [← hP] at kS hPl HN
        clear hP
        have hPm : (P.map byte).length = 16 := by rw [List.length_map, hPl]
        have hxl := xor16_let P (keyR key 0) hPl hK0
        have hxm : ((xorL P (keyR key 0)).map byte).length = 16 := by rw [List.length_map, hxl]
        have n2 : Blk (wr.alloc (.cells (P.map byte ++ (keyR key 0).map byte).toArray 57)) wr.heap.size 57 (P.map byte ++ (keyR key 0).map byte) := Blk.new wr _ _
        go_wp2_with (first
          | (refine load_blk rfl 57 _ rfl _ rfl kS Try.underlying57 rfl (by rw [hPm]; kernel_rfl) ?_)
          | (refine wpList_load_mid rfl 57 _ rfl w.heap.size 0 rfl ((keyR key 0).map byte) _ r0 Try.underlying57 rfl (by rw [hK0m]; kernel_rfl) ?_)
          | (refine wpList_bld2 rfl 99 _ _ rfl 57 16 _ (P.map byte) ((keyR key 0).map byte) rfl rfl Try.underlying99 Try.z16 hPm hK0m (by omega) (by omega) ?_)
          | (go_at_call 68; refine (xor16_two P (keyR key 0) _ _ _ _ hPl hK0 n2).mono ?_; rintro e w3 ⟨rfl, bel3⟩; have b3 : Below wr.heap.size wr w3 := ((below_step (below_new wr _) bel3)); have kR3 := kR.below b3 kR.lt)
          | (refine store_blk rfl 57 _ _ rfl _ rfl rfl kR3 (by rw [hxm]; kernel_rfl) (by rw [zerosOf_length, hxm]) (allOne_bytes _) ?_; intro w4 hb4 hg4 hs4))
        have qf := (hbel.trans (b3.mono zb)).grown hg4 (by have := b3.size; omega) (by intro k hk; cases hk; omega)
        exact bodyPost_ret (v := .agg ((xorL P (keyR key 0)).map byte).toArray) (results_blk Try.results88 _ _ rfl hb4 Try.underlying57 rfl (by rw [hxm]; kernel_rfl)) rfl ⟨by rw [HN.out], qf⟩
end Go.Proofs.Ythjnalbgnjbdnaa
