/-
  impl.DukptInitial.
-/
import Derived.Test.YthjnalbgnjbdnaaDukSpec2
namespace Go.Proofs.Ythjnalbgnjbdnaa
open Go.RowKit

theorem range_take {w : World} {b o n : Nat} {l : List UInt8} (h : w.rangeAt b o (l.map byte)) : w.rangeAt b o ((l.take n).map byte) := by
  intro j v hv
  rw [List.map_take, List.getElem?_take] at hv
  split at hv
  · exact h j v hv
  · cases hv
theorem take_seven (s : List UInt8) (h : s.length = 10) : ((s.take 8).map byte).set 7 (byte (clr (s.getD 7 0))) = (serR s).map byte := by
  obtain ⟨s0, s1, s2, s3, s4, s5, s6, s7, s8, s9, rfl⟩ := ten s h
  rfl
theorem take_eight (s : List UInt8) (h : s.length = 10) : ((s.take 8).map byte)[7]? = some (.int .u8 ((s.getD 7 0).toNat : Int)) := by
  obtain ⟨s0, s1, s2, s3, s4, s5, s6, s7, s8, s9, rfl⟩ := ten s h
  rfl

set_option maxRecDepth 100000 in
set_option maxHeartbeats 4000000 in
theorem dinit_ok (bdk ksn : List UInt8) (kb ko sb so ck cs : Nat) (w : World) (hk : bdk.length = 16) (hs : ksn.length = 10) (hcs : 10 ≤ cs) (rk : w.rangeAt kb ko (bdk.map byte)) (rs : w.rangeAt sb so (ksn.map byte)) :
    Calls Try.prog 32 #[.slice (some ⟨kb, ko, none⟩) 16 ck, .slice (some ⟨sb, so, none⟩) 10 cs] w fun e w' => ∃ v, e = .returned v ∧ Own w' w.heap.size v (dinitL bdk ksn) ∧ Below w.heap.size w w' := by
  have hz := (zero_of_info Try.zero50).1
  have har := fun (wx : World) => run_arrayAt (P := Try.prog) (w := wx) 57 5 16 (some ⟨kb, ko, none⟩) 16 ck Try.underlying57 (Nat.le_refl _)
  have har2 := fun (wx : World) => run_arrayAt (P := Try.prog) (w := wx) 50 5 8 (some ⟨sb, so, none⟩) 8 cs Try.underlying50 (Nat.le_refl _)
  have hcI : (8 : Int) ≤ (cs : Int) := by omega
  have hkl : (bdk.map byte).length = 16 := by rw [List.length_map, hk]
  have hrl := serR_length ksn hs
  have rs8 := range_take (n := 8) rs
  have h8l : ((ksn.take 8).map byte).length = 8 := by rw [List.length_map, List.length_take, hs]; rfl
  have hset := take_seven ksn hs
  have hat := take_eight ksn hs
  obtain ⟨T8, hT8⟩ : ∃ T, T = (ksn.take 8).map byte := ⟨_, rfl⟩
  obtain ⟨x7, hx7⟩ : ∃ x, x = ksn.getD 7 0 := ⟨_, rfl⟩
  have hone8 := allOne_bytes (ksn.take 8)
  rw [← hT8] at rs8 h8l hset hat hone8
  rw [← hx7] at hset hat
  clear hT8 hx7 rs
  show Calls Try.prog 32 #[.slice (some ⟨kb, ko, none⟩) 16 ck, .slice (some ⟨sb, so, none⟩) 10 cs] w fun e w' => ∃ v, e = .returned v ∧ Own w' w.heap.size v (tdeaN bdk (serR ksn) false ++ tdeaN (xorL bdk serialL) (serR ksn) false) ∧ Below w.heap.size w w'
  have HE1 := fun S wx => tdea_encrypt (bdk.take 8) (bdk.drop 8) (serR ksn) S wx hrl
  have HE2 := fun S wx => tdea_encrypt ((xorL bdk serialL).take 8) ((xorL bdk serialL).drop 8) (serR ksn) S wx hrl
  rw [← tdeaN_enc bdk (serR ksn)] at HE1
  rw [← tdeaN_enc (xorL bdk serialL) (serR ksn)] at HE2
  have hA8 := tdeaN_length bdk (serR ksn) false
  have hB8 := tdeaN_length (xorL bdk serialL) (serR ksn) false
  have HM := serialMask_any
  have hml := serialL_length
  have hXl : (xorL bdk serialL).length = 16 := by rw [xorL_length _ _ (by rw [hk]; rfl), hk]
  have HX2 := fun (g : Nat) (wx : World) (h : Blk wx g 57 (bdk.map byte ++ serialL.map byte)) => xor16_two bdk serialL g 2 57 wx hk serialL_length h
  obtain ⟨A, hA⟩ : ∃ A, A = tdeaN bdk (serR ksn) false := ⟨_, rfl⟩
  obtain ⟨B, hB⟩ : ∃ B, B = tdeaN (xorL bdk serialL) (serR ksn) false := ⟨_, rfl⟩
  rw [← hA] at HE1 hA8 ⊢
  rw [← hB] at HE2 hB8 ⊢
  clear hA hB
  obtain ⟨X, hX⟩ : ∃ X, X = xorL bdk serialL := ⟨_, rfl⟩
  rw [← hX] at HE2 HX2 hXl
  obtain ⟨mm, hmm0⟩ : ∃ m, m = serialL := ⟨_, rfl⟩
  rw [← hmm0] at HM hml HX2
  obtain ⟨r, hr⟩ : ∃ r, r = serR ksn := ⟨_, rfl⟩
  rw [← hr] at HE1 HE2 hrl hset
  clear hX hmm0 hr
  replace HE1 := hide HE1
  replace HE2 := hide HE2
  replace HM := hide HM
  replace HX2 := hide HX2
  have hmm : (mm.map byte).length = 16 := by rw [List.length_map, hml]
  have hrm : (r.map byte).length = 8 := by rw [List.length_map, hrl]
  have hAm : (A.map byte).length = 8 := by rw [List.length_map, hA8]
  have hBm : (B.map byte).length = 8 := by rw [List.length_map, hB8]
  have hfa : [A, B].flatten = A ++ B := by simp
  have hfl : [A, B].flatten.length ≤ 1048576 := by rw [hfa, List.length_append, hA8, hB8]; omega
  have hcl := (clr_nat x7.toNat x7.toNat_lt).2
  rw [byte_clr] at hset
  obtain ⟨y, hy⟩ : ∃ y : Nat, y = x7.toNat / 32 * 32 := ⟨_, rfl⟩
  rw [← hy] at hcl hset
  clear hy
  go_enter Try.func32, Try.ntmps32
  go_wp2_with (first
    | (refine wpList_load_mid rfl 50 _ rfl sb so rfl T8 _ rs8 Try.underlying50 rfl (by rw [h8l]; kernel_rfl) ?_)
    | (refine store_blk rfl 50 _ _ rfl _ rfl rfl (Blk.new w _ _) (by rw [h8l]; kernel_rfl) (by rw [h8l]; exact zerosOf_length _ _) hone8 ?_; intro w3 hb3 hg3 hs3; have c7 : w3.cell? ⟨w.heap.size, 7, none⟩ = some (.int .u8 (x7.toNat : Int)) := (blk_whole hb3 7 _ hat); have f7 := hb3.free 7; have b3 := (below_new w _).grown hg3 (by simp) (by intro k hk; cases hk; exact Nat.le_refl _)))
  have k1 := hb3.set 7 (.int .u8 (y : Int))
  rw [hset] at k1
  have bW := b3.setCell (p := ⟨w.heap.size, 7, none⟩) (Nat.le_refl _) (.int .u8 (y : Int))
  obtain ⟨W, hW⟩ : ∃ W, W = w3.setCell ⟨w.heap.size, 7, none⟩ (.int .u8 (y : Int)) := ⟨_, rfl⟩
  rw [← hW] at k1 bW ⊢
  clear hW hset hat hb3 hg3 hs3 c7 f7 b3 rs8 hone8 hcl har2
  go_cut [6] (fun p wx => ∃ G, p = .pointer (some ⟨G, 0, none⟩) ∧ w.heap.size < G ∧ Blk wx G 50 (A.map byte) ∧ Blk wx w.heap.size 50 (r.map byte) ∧ Below w.heap.size w wx)
  case first =>
    obtain ⟨V, hV⟩ : ∃ V, V = W.drew := ⟨_, rfl⟩
    replace k1 : Blk V w.heap.size 50 (r.map byte) := by rw [hV]; exact k1.drew1
    have bV : Below w.heap.size w V := by rw [hV]; exact bW.drew
    have hwV := bV.size
    have lV := k1.lt
    clear bW
    have b_0 : Below V.heap.size V V := Below.refl _ _
    have blk_keep : Hid (∀ {x}, Below V.heap.size V x → Blk x w.heap.size 50 (r.map byte)) := fun h => k1.below h k1.lt
    have keep : Hid (∀ {x}, Below V.heap.size V x → x.rangeAt kb ko (bdk.map byte) ∧ x.rangeAt w.heap.size 0 (r.map byte)) := fun h => ⟨range_below (range_below rk bV) h, blk_whole (blk_keep.out h)⟩
    refine wp_region_held_drew (S := fun x => x.rangeAt kb ko (bdk.map byte) ∧ x.rangeAt w.heap.size 0 (r.map byte)) (by kernel_rfl) (by rw [← hV]; exact keep.out b_0) (fun hHeld => ?_)
    rw [← hV] at hHeld ⊢
    clear hV
    refine wpAnyH_take (i := 0) (v := (.slice (some ⟨kb, ko, none⟩) 16 ck)) rfl (by kernel_rfl) (by kernel_rfl) (by kernel_rfl) (fun _ _ _ h => h) (Or.inl ⟨by rfl, ?_⟩) hHeld ?_
    · intro _ _; go_simp
    try dsimp only [Act.put]
    refine wpAnyH_take (i := 1) (v := (.pointer (some ⟨kb, ko, none⟩))) rfl (by kernel_rfl) (by kernel_rfl) (by kernel_rfl) (fun _ _ _ h => h) (Or.inl ⟨by rfl, ?_⟩) hHeld ?_
    · intro _ _; go_simp
    try dsimp only [Act.put]
    refine wpAnyH_take (i := 2) (v := (.agg (bdk.map byte).toArray)) rfl (by kernel_rfl) (by kernel_rfl) (by kernel_rfl) (fun _ _ _ h => h) (yieldsIf_load_mid (by rfl) 57 _ rfl kb ko rfl (bdk.map byte) _ (fun _ h => h.1) Try.underlying57 rfl (by rw [hkl]; kernel_rfl)) hHeld ?_
    try dsimp only [Act.put]
    refine wpAnyH_take (i := 4) (v := (.agg (r.map byte).toArray)) rfl (by kernel_rfl) (by kernel_rfl) (by kernel_rfl) (fun _ _ _ h => h) (yieldsIf_load_mid (by rfl) 50 _ rfl w.heap.size 0 rfl (r.map byte) _ (fun _ h => h.2) Try.underlying50 rfl (by rw [hrm]; kernel_rfl)) hHeld ?_
    try dsimp only [Act.put]
    refine wpAnyH_ready (rs := [3, 6]) (by kernel_rfl) (by simp) ?_
    refine AllReadyH.cons rfl (fun K hK => ?_) (AllReadyH.cons rfl (fun K hK => ?_) (AllReadyH.nil))
    · go_simp
      refine (newTdea_any bdk _ hk).mono ?_
      rintro e w_1 ⟨S_1, rfl, -, hS_1, bel_1⟩
      have b_1 := below_step b_0 bel_1
      go_wp2_with fail
      refine hK.out _ _ (keep.out b_1) (fun hHeld => ?_)
      clear hK K
      try dsimp only [Act.put]
      refine wpAnyH_ready (rs := [5, 6]) (by kernel_rfl) (by simp) ?_
      refine AllReadyH.cons rfl (fun K hK => ?_) (AllReadyH.cons rfl (fun K hK => ?_) (AllReadyH.nil))
      · go_simp
        refine (HE1.out S_1 _ hS_1).mono ?_
        rintro e w_2 ⟨rfl, bel_2⟩
        have box_2 := hS_1.below bel_2 hS_1.lt
        have b_2 := below_step b_1 bel_2
        go_wp2_with fail
        refine hK.out _ _ (keep.out b_2) (fun hHeld => ?_)
        clear hK K
        try dsimp only [Act.put]
        refine wpAnyH_ready (rs := [6]) (by kernel_rfl) (by simp) ?_
        refine AllReadyH.cons rfl (fun K hK => ?_) (AllReadyH.nil)
        go_simp
        obtain ⟨w_3, hw_3⟩ : ∃ x, x = World.alloc w_2 (.cells (zerosOf 8 .u8).toArray 50) := ⟨_, rfl⟩
        have bel_3 : Below w_2.heap.size w_2 w_3 := by rw [hw_3]; exact below_new _ _
        have G_3 : Blk w_3 w_2.heap.size 50 (zerosOf 8 .u8) := by rw [hw_3]; exact Blk.new _ _ _
        have le_G_3 := b_2.size
        have box_3 := box_2.below bel_3 box_2.lt
        have b_3 := below_step b_2 bel_3
        rw [← hw_3]
        clear hw_3
        refine hK.out _ _ (keep.out b_3) (fun hHeld => ?_)
        clear hK K
        try dsimp only [Act.put]
        refine wpAnyH_ready (rs := [7]) (by kernel_rfl) (by simp) ?_
        refine AllReadyH.cons rfl (fun K hK => ?_) (AllReadyH.nil)
        rw [if_pos (by rfl)]
        refine wp_store_blk rfl 50 _ _ rfl w_2.heap.size rfl rfl G_3 (by rw [hAm]; kernel_rfl) (by rw [hAm]; exact zerosOf_length _ _) (allOne_bytes _) ?_
        have G_4 := Blk.setRow G_3 (A.map byte)
        have b_4 := below_setRow' (g := w_2.heap.size) b_3 le_G_3 (A.map byte).toArray
        refine hK.out _ _ (keep.out b_4) (fun hHeld => ?_)
        clear hK K
        try dsimp only [Act.put]
        refine wpAnyH_done (by kernel_rfl) ?_ _
        go_wp2_with fail
        go_meet
        case rel => exact ⟨_, rfl, by omega, G_4, blk_keep.out b_4, bV.trans (b_4.mono hwV)⟩
      · go_simp
        obtain ⟨w_5, hw_5⟩ : ∃ x, x = World.alloc w_1 (.cells (zerosOf 8 .u8).toArray 50) := ⟨_, rfl⟩
        have bel_5 : Below w_1.heap.size w_1 w_5 := by rw [hw_5]; exact below_new _ _
        have G_5 : Blk w_5 w_1.heap.size 50 (zerosOf 8 .u8) := by rw [hw_5]; exact Blk.new _ _ _
        have le_G_5 := b_1.size
        have box_5 := hS_1.below bel_5 hS_1.lt
        have b_5 := below_step b_1 bel_5
        rw [← hw_5]
        clear hw_5
        refine hK.out _ _ (keep.out b_5) (fun hHeld => ?_)
        clear hK K
        try dsimp only [Act.put]
        refine wpAnyH_ready (rs := [5]) (by kernel_rfl) (by simp) ?_
        refine AllReadyH.cons rfl (fun K hK => ?_) (AllReadyH.nil)
        go_simp
        refine (HE1.out S_1 _ box_5).mono ?_
        rintro e w_6 ⟨rfl, bel_6⟩
        have box_6 := box_5.below bel_6 box_5.lt
        have G_6 := G_5.below bel_6 G_5.lt
        have b_6 := below_step b_5 bel_6
        go_wp2_with fail
        refine hK.out _ _ (keep.out b_6) (fun hHeld => ?_)
        clear hK K
        try dsimp only [Act.put]
        refine wpAnyH_ready (rs := [7]) (by kernel_rfl) (by simp) ?_
        refine AllReadyH.cons rfl (fun K hK => ?_) (AllReadyH.nil)
        rw [if_pos (by rfl)]
        refine wp_store_blk rfl 50 _ _ rfl w_1.heap.size rfl rfl G_6 (by rw [hAm]; kernel_rfl) (by rw [hAm]; exact zerosOf_length _ _) (allOne_bytes _) ?_
        have G_7 := Blk.setRow G_6 (A.map byte)
        have b_7 := below_setRow' (g := w_1.heap.size) b_6 le_G_5 (A.map byte).toArray
        refine hK.out _ _ (keep.out b_7) (fun hHeld => ?_)
        clear hK K
        try dsimp only [Act.put]
        refine wpAnyH_done (by kernel_rfl) ?_ _
        go_wp2_with fail
        go_meet
        case rel => exact ⟨_, rfl, by omega, G_7, blk_keep.out b_7, bV.trans (b_7.mono hwV)⟩
    · go_simp
      obtain ⟨w_8, hw_8⟩ : ∃ x, x = World.alloc V (.cells (zerosOf 8 .u8).toArray 50) := ⟨_, rfl⟩
      have bel_8 : Below V.heap.size V w_8 := by rw [hw_8]; exact below_new _ _
      have G_8 : Blk w_8 V.heap.size 50 (zerosOf 8 .u8) := by rw [hw_8]; exact Blk.new _ _ _
      have le_G_8 := b_0.size
      have b_8 := below_step b_0 bel_8
      rw [← hw_8]
      clear hw_8
      refine hK.out _ _ (keep.out b_8) (fun hHeld => ?_)
      clear hK K
      try dsimp only [Act.put]
      refine wpAnyH_ready (rs := [3]) (by kernel_rfl) (by simp) ?_
      refine AllReadyH.cons rfl (fun K hK => ?_) (AllReadyH.nil)
      go_simp
      refine (newTdea_any bdk _ hk).mono ?_
      rintro e w_9 ⟨S_9, rfl, -, hS_9, bel_9⟩
      have G_9 := G_8.below bel_9 G_8.lt
      have b_9 := below_step b_8 bel_9
      go_wp2_with fail
      refine hK.out _ _ (keep.out b_9) (fun hHeld => ?_)
      clear hK K
      try dsimp only [Act.put]
      refine wpAnyH_ready (rs := [5]) (by kernel_rfl) (by simp) ?_
      refine AllReadyH.cons rfl (fun K hK => ?_) (AllReadyH.nil)
      go_simp
      refine (HE1.out S_9 _ hS_9).mono ?_
      rintro e w_10 ⟨rfl, bel_10⟩
      have G_10 := G_9.below bel_10 G_9.lt
      have box_10 := hS_9.below bel_10 hS_9.lt
      have b_10 := below_step b_9 bel_10
      go_wp2_with fail
      refine hK.out _ _ (keep.out b_10) (fun hHeld => ?_)
      clear hK K
      try dsimp only [Act.put]
      refine wpAnyH_ready (rs := [7]) (by kernel_rfl) (by simp) ?_
      refine AllReadyH.cons rfl (fun K hK => ?_) (AllReadyH.nil)
      rw [if_pos (by rfl)]
      refine wp_store_blk rfl 50 _ _ rfl V.heap.size rfl rfl G_10 (by rw [hAm]; kernel_rfl) (by rw [hAm]; exact zerosOf_length _ _) (allOne_bytes _) ?_
      have G_11 := Blk.setRow G_10 (A.map byte)
      have b_11 := below_setRow' (g := V.heap.size) b_10 le_G_8 (A.map byte).toArray
      refine hK.out _ _ (keep.out b_11) (fun hHeld => ?_)
      clear hK K
      try dsimp only [Act.put]
      refine wpAnyH_done (by kernel_rfl) ?_ _
      go_wp2_with fail
      go_meet
      case rel => exact ⟨_, rfl, by omega, G_11, blk_keep.out b_11, bV.trans (b_11.mono hwV)⟩
  case rest =>
    clear k1 bW W
    obtain ⟨G1, rfl, hG1, kG1, k1, bW⟩ := hcut
    go_wp2_with fail
    go_cut [7] (fun p wx => ∃ G, p = .pointer (some ⟨G, 0, none⟩) ∧ w.heap.size < G ∧ Blk wx G 50 (B.map byte) ∧ Blk wx G1 50 (A.map byte) ∧ Below w.heap.size w wx)
    case first =>
      obtain ⟨V, hV⟩ : ∃ V, V = wc.drew := ⟨_, rfl⟩
      replace k1 : Blk V w.heap.size 50 (r.map byte) := by rw [hV]; exact k1.drew1
      replace kG1 : Blk V G1 50 (A.map byte) := by rw [hV]; exact kG1.drew1
      have bV : Below w.heap.size w V := by rw [hV]; exact bW.drew
      have hwV := bV.size
      have lV := k1.lt
      clear bW
      have hz16 := (zero_of_info Try.zero57).1
      have b_0 : Below V.heap.size V V := Below.refl _ _
      have gl_keep : Hid (∀ {x}, Below V.heap.size V x → Blk x G1 50 (A.map byte)) := fun h => kG1.below h kG1.lt
      have keep : Hid (∀ {x}, Below V.heap.size V x → x.rangeAt kb ko (bdk.map byte) ∧ x.rangeAt w.heap.size 0 (r.map byte)) := fun h => ⟨range_below (range_below rk bV) h, blk_whole (k1.below h k1.lt)⟩
      refine wp_region_held_drew (S := fun x => x.rangeAt kb ko (bdk.map byte) ∧ x.rangeAt w.heap.size 0 (r.map byte)) (by kernel_rfl) (by rw [← hV]; exact keep.out b_0) (fun hHeld => ?_)
      rw [← hV] at hHeld ⊢
      clear hV
      refine wpAnyH_take (i := 0) (v := (.slice (some ⟨kb, ko, none⟩) 16 ck)) rfl (by kernel_rfl) (by kernel_rfl) (by kernel_rfl) (fun _ _ _ h => h) (Or.inl ⟨by rfl, ?_⟩) hHeld ?_
      · intro _ _; go_simp
      try dsimp only [Act.put]
      refine wpAnyH_take (i := 1) (v := (.pointer (some ⟨kb, ko, none⟩))) rfl (by kernel_rfl) (by kernel_rfl) (by kernel_rfl) (fun _ _ _ h => h) (Or.inl ⟨by rfl, ?_⟩) hHeld ?_
      · intro _ _; go_simp
      try dsimp only [Act.put]
      refine wpAnyH_take (i := 2) (v := (.agg (bdk.map byte).toArray)) rfl (by kernel_rfl) (by kernel_rfl) (by kernel_rfl) (fun _ _ _ h => h) (yieldsIf_load_mid (by rfl) 57 _ rfl kb ko rfl (bdk.map byte) _ (fun _ h => h.1) Try.underlying57 rfl (by rw [hkl]; kernel_rfl)) hHeld ?_
      try dsimp only [Act.put]
      refine wpAnyH_take (i := 7) (v := (.agg (r.map byte).toArray)) rfl (by kernel_rfl) (by kernel_rfl) (by kernel_rfl) (fun _ _ _ h => h) (yieldsIf_load_mid (by rfl) 50 _ rfl w.heap.size 0 rfl (r.map byte) _ (fun _ h => h.2) Try.underlying50 rfl (by rw [hrm]; kernel_rfl)) hHeld ?_
      try dsimp only [Act.put]
      refine wpAnyH_ready (rs := [3, 9]) (by kernel_rfl) (by simp) ?_
      refine AllReadyH.cons rfl (fun K hK => ?_) (AllReadyH.cons rfl (fun K hK => ?_) (AllReadyH.nil))
      · go_simp
        refine (HM.out _).mono ?_
        rintro e w_1 ⟨rfl, bel_1⟩
        have b_1 := below_step b_0 bel_1
        go_wp2_with fail
        refine hK.out _ _ (keep.out b_1) (fun hHeld => ?_)
        clear hK K
        try dsimp only [Act.put]
        refine wpAnyH_ready (rs := [4, 9]) (by kernel_rfl) (by simp) ?_
        refine AllReadyH.cons rfl (fun K hK => ?_) (AllReadyH.cons rfl (fun K hK => ?_) (AllReadyH.nil))
        · rw [if_pos (by rfl)]
          refine wp_build2 (some 34) rfl 99 _ _ rfl 57 16 _ (bdk.map byte) (mm.map byte) rfl rfl Try.underlying99 Try.zero57 hkl hmm (by omega) (by omega) ?_
          try dsimp only [Act.put]
          obtain ⟨w_2, hw_2⟩ : ∃ x, x = World.alloc w_1 (.cells (bdk.map byte ++ mm.map byte).toArray 57) := ⟨_, rfl⟩
          have bel_2 : Below w_1.heap.size w_1 w_2 := by rw [hw_2]; exact below_new _ _
          have bs_2 : Blk w_2 w_1.heap.size 57 (bdk.map byte ++ mm.map byte) := by rw [hw_2]; exact Blk.new _ _ _
          have le_bs_2 := b_1.size
          have b_2 := below_step b_1 bel_2
          rw [← hw_2]
          clear hw_2
          refine hK.out _ _ (keep.out b_2) (fun hHeld => ?_)
          clear hK K
          try dsimp only [Act.put]
          refine wpAnyH_ready (rs := [5, 9]) (by kernel_rfl) (by simp) ?_
          refine AllReadyH.cons rfl (fun K hK => ?_) (AllReadyH.cons rfl (fun K hK => ?_) (AllReadyH.nil))
          · go_simp
            refine (HX2.out w_1.heap.size _ bs_2).mono ?_
            rintro e w_3 ⟨rfl, bel_3⟩
            have bs_3 := bs_2.below bel_3 bs_2.lt
            have b_3 := below_step b_2 bel_3
            go_wp2_with fail
            refine hK.out _ _ (keep.out b_3) (fun hHeld => ?_)
            clear hK K
            try dsimp only [Act.put]
            refine wpAnyH_ready (rs := [6, 9]) (by kernel_rfl) (by simp) ?_
            refine AllReadyH.cons rfl (fun K hK => ?_) (AllReadyH.cons rfl (fun K hK => ?_) (AllReadyH.nil))
            · go_simp
              refine (newTdea_any X _ hXl).mono ?_
              rintro e w_4 ⟨S_4, rfl, -, hS_4, bel_4⟩
              have bs_4 := bs_3.below bel_4 bs_3.lt
              have b_4 := below_step b_3 bel_4
              go_wp2_with fail
              refine hK.out _ _ (keep.out b_4) (fun hHeld => ?_)
              clear hK K
              try dsimp only [Act.put]
              refine wpAnyH_ready (rs := [8, 9]) (by kernel_rfl) (by simp) ?_
              refine AllReadyH.cons rfl (fun K hK => ?_) (AllReadyH.cons rfl (fun K hK => ?_) (AllReadyH.nil))
              · go_simp
                refine (HE2.out S_4 _ hS_4).mono ?_
                rintro e w_5 ⟨rfl, bel_5⟩
                have bs_5 := bs_4.below bel_5 bs_4.lt
                have box_5 := hS_4.below bel_5 hS_4.lt
                have b_5 := below_step b_4 bel_5
                go_wp2_with fail
                refine hK.out _ _ (keep.out b_5) (fun hHeld => ?_)
                clear hK K
                try dsimp only [Act.put]
                refine wpAnyH_ready (rs := [9]) (by kernel_rfl) (by simp) ?_
                refine AllReadyH.cons rfl (fun K hK => ?_) (AllReadyH.nil)
                go_simp
                obtain ⟨w_6, hw_6⟩ : ∃ x, x = World.alloc w_5 (.cells (zerosOf 8 .u8).toArray 50) := ⟨_, rfl⟩
                have bel_6 : Below w_5.heap.size w_5 w_6 := by rw [hw_6]; exact below_new _ _
                have G_6 : Blk w_6 w_5.heap.size 50 (zerosOf 8 .u8) := by rw [hw_6]; exact Blk.new _ _ _
                have le_G_6 := b_5.size
                have bs_6 := bs_5.below bel_6 bs_5.lt
                have box_6 := box_5.below bel_6 box_5.lt
                have b_6 := below_step b_5 bel_6
                rw [← hw_6]
                clear hw_6
                refine hK.out _ _ (keep.out b_6) (fun hHeld => ?_)
                clear hK K
                try dsimp only [Act.put]
                refine wpAnyH_ready (rs := [10]) (by kernel_rfl) (by simp) ?_
                refine AllReadyH.cons rfl (fun K hK => ?_) (AllReadyH.nil)
                rw [if_pos (by rfl)]
                refine wp_store_blk rfl 50 _ _ rfl w_5.heap.size rfl rfl G_6 (by rw [hBm]; kernel_rfl) (by rw [hBm]; exact zerosOf_length _ _) (allOne_bytes _) ?_
                have G_7 := Blk.setRow G_6 (B.map byte)
                have b_7 := below_setRow' (g := w_5.heap.size) b_6 le_G_6 (B.map byte).toArray
                refine hK.out _ _ (keep.out b_7) (fun hHeld => ?_)
                clear hK K
                try dsimp only [Act.put]
                refine wpAnyH_done (by kernel_rfl) ?_ _
                go_wp2_with fail
                go_meet
                case rel => exact ⟨_, rfl, by omega, G_7, gl_keep.out b_7, bV.trans (b_7.mono hwV)⟩
              · go_simp
                obtain ⟨w_8, hw_8⟩ : ∃ x, x = World.alloc w_4 (.cells (zerosOf 8 .u8).toArray 50) := ⟨_, rfl⟩
                have bel_8 : Below w_4.heap.size w_4 w_8 := by rw [hw_8]; exact below_new _ _
                have G_8 : Blk w_8 w_4.heap.size 50 (zerosOf 8 .u8) := by rw [hw_8]; exact Blk.new _ _ _
                have le_G_8 := b_4.size
                have bs_8 := bs_4.below bel_8 bs_4.lt
                have box_8 := hS_4.below bel_8 hS_4.lt
                have b_8 := below_step b_4 bel_8
                rw [← hw_8]
                clear hw_8
                refine hK.out _ _ (keep.out b_8) (fun hHeld => ?_)
                clear hK K
                try dsimp only [Act.put]
                refine wpAnyH_ready (rs := [8]) (by kernel_rfl) (by simp) ?_
                refine AllReadyH.cons rfl (fun K hK => ?_) (AllReadyH.nil)
                go_simp
                refine (HE2.out S_4 _ box_8).mono ?_
                rintro e w_9 ⟨rfl, bel_9⟩
                have bs_9 := bs_8.below bel_9 bs_8.lt
                have box_9 := box_8.below bel_9 box_8.lt
                have G_9 := G_8.below bel_9 G_8.lt
                have b_9 := below_step b_8 bel_9
                go_wp2_with fail
                refine hK.out _ _ (keep.out b_9) (fun hHeld => ?_)
                clear hK K
                try dsimp only [Act.put]
                refine wpAnyH_ready (rs := [10]) (by kernel_rfl) (by simp) ?_
                refine AllReadyH.cons rfl (fun K hK => ?_) (AllReadyH.nil)
                rw [if_pos (by rfl)]
                refine wp_store_blk rfl 50 _ _ rfl w_4.heap.size rfl rfl G_9 (by rw [hBm]; kernel_rfl) (by rw [hBm]; exact zerosOf_length _ _) (allOne_bytes _) ?_
                have G_10 := Blk.setRow G_9 (B.map byte)
                have b_10 := below_setRow' (g := w_4.heap.size) b_9 le_G_8 (B.map byte).toArray
                refine hK.out _ _ (keep.out b_10) (fun hHeld => ?_)
                clear hK K
                try dsimp only [Act.put]
                refine wpAnyH_done (by kernel_rfl) ?_ _
                go_wp2_with fail
                go_meet
                case rel => exact ⟨_, rfl, by omega, G_10, gl_keep.out b_10, bV.trans (b_10.mono hwV)⟩
            · go_simp
              obtain ⟨w_11, hw_11⟩ : ∃ x, x = World.alloc w_3 (.cells (zerosOf 8 .u8).toArray 50) := ⟨_, rfl⟩
              have bel_11 : Below w_3.heap.size w_3 w_11 := by rw [hw_11]; exact below_new _ _
              have G_11 : Blk w_11 w_3.heap.size 50 (zerosOf 8 .u8) := by rw [hw_11]; exact Blk.new _ _ _
              have le_G_11 := b_3.size
              have bs_11 := bs_3.below bel_11 bs_3.lt
              have b_11 := below_step b_3 bel_11
              rw [← hw_11]
              clear hw_11
              refine hK.out _ _ (keep.out b_11) (fun hHeld => ?_)
              clear hK K
              try dsimp only [Act.put]
              refine wpAnyH_ready (rs := [6]) (by kernel_rfl) (by simp) ?_
              refine AllReadyH.cons rfl (fun K hK => ?_) (AllReadyH.nil)
              go_simp
              refine (newTdea_any X _ hXl).mono ?_
              rintro e w_12 ⟨S_12, rfl, -, hS_12, bel_12⟩
              have bs_12 := bs_11.below bel_12 bs_11.lt
              have G_12 := G_11.below bel_12 G_11.lt
              have b_12 := below_step b_11 bel_12
              go_wp2_with fail
              refine hK.out _ _ (keep.out b_12) (fun hHeld => ?_)
              clear hK K
              try dsimp only [Act.put]
              refine wpAnyH_ready (rs := [8]) (by kernel_rfl) (by simp) ?_
              refine AllReadyH.cons rfl (fun K hK => ?_) (AllReadyH.nil)
              go_simp
              refine (HE2.out S_12 _ hS_12).mono ?_
              rintro e w_13 ⟨rfl, bel_13⟩
              have bs_13 := bs_12.below bel_13 bs_12.lt
              have G_13 := G_12.below bel_13 G_12.lt
              have box_13 := hS_12.below bel_13 hS_12.lt
              have b_13 := below_step b_12 bel_13
              go_wp2_with fail
              refine hK.out _ _ (keep.out b_13) (fun hHeld => ?_)
              clear hK K
              try dsimp only [Act.put]
              refine wpAnyH_ready (rs := [10]) (by kernel_rfl) (by simp) ?_
              refine AllReadyH.cons rfl (fun K hK => ?_) (AllReadyH.nil)
              rw [if_pos (by rfl)]
              refine wp_store_blk rfl 50 _ _ rfl w_3.heap.size rfl rfl G_13 (by rw [hBm]; kernel_rfl) (by rw [hBm]; exact zerosOf_length _ _) (allOne_bytes _) ?_
              have G_14 := Blk.setRow G_13 (B.map byte)
              have b_14 := below_setRow' (g := w_3.heap.size) b_13 le_G_11 (B.map byte).toArray
              refine hK.out _ _ (keep.out b_14) (fun hHeld => ?_)
              clear hK K
              try dsimp only [Act.put]
              refine wpAnyH_done (by kernel_rfl) ?_ _
              go_wp2_with fail
              go_meet
              case rel => exact ⟨_, rfl, by omega, G_14, gl_keep.out b_14, bV.trans (b_14.mono hwV)⟩
          · go_simp
            obtain ⟨w_15, hw_15⟩ : ∃ x, x = World.alloc w_2 (.cells (zerosOf 8 .u8).toArray 50) := ⟨_, rfl⟩
            have bel_15 : Below w_2.heap.size w_2 w_15 := by rw [hw_15]; exact below_new _ _
            have G_15 : Blk w_15 w_2.heap.size 50 (zerosOf 8 .u8) := by rw [hw_15]; exact Blk.new _ _ _
            have le_G_15 := b_2.size
            have bs_15 := bs_2.below bel_15 bs_2.lt
            have b_15 := below_step b_2 bel_15
            rw [← hw_15]
            clear hw_15
            refine hK.out _ _ (keep.out b_15) (fun hHeld => ?_)
            clear hK K
            try dsimp only [Act.put]
            refine wpAnyH_ready (rs := [5]) (by kernel_rfl) (by simp) ?_
            refine AllReadyH.cons rfl (fun K hK => ?_) (AllReadyH.nil)
            go_simp
            refine (HX2.out w_1.heap.size _ bs_15).mono ?_
            rintro e w_16 ⟨rfl, bel_16⟩
            have bs_16 := bs_15.below bel_16 bs_15.lt
            have G_16 := G_15.below bel_16 G_15.lt
            have b_16 := below_step b_15 bel_16
            go_wp2_with fail
            refine hK.out _ _ (keep.out b_16) (fun hHeld => ?_)
            clear hK K
            try dsimp only [Act.put]
            refine wpAnyH_ready (rs := [6]) (by kernel_rfl) (by simp) ?_
            refine AllReadyH.cons rfl (fun K hK => ?_) (AllReadyH.nil)
            go_simp
            refine (newTdea_any X _ hXl).mono ?_
            rintro e w_17 ⟨S_17, rfl, -, hS_17, bel_17⟩
            have bs_17 := bs_16.below bel_17 bs_16.lt
            have G_17 := G_16.below bel_17 G_16.lt
            have b_17 := below_step b_16 bel_17
            go_wp2_with fail
            refine hK.out _ _ (keep.out b_17) (fun hHeld => ?_)
            clear hK K
            try dsimp only [Act.put]
            refine wpAnyH_ready (rs := [8]) (by kernel_rfl) (by simp) ?_
            refine AllReadyH.cons rfl (fun K hK => ?_) (AllReadyH.nil)
            go_simp
            refine (HE2.out S_17 _ hS_17).mono ?_
            rintro e w_18 ⟨rfl, bel_18⟩
            have bs_18 := bs_17.below bel_18 bs_17.lt
            have G_18 := G_17.below bel_18 G_17.lt
            have box_18 := hS_17.below bel_18 hS_17.lt
            have b_18 := below_step b_17 bel_18
            go_wp2_with fail
            refine hK.out _ _ (keep.out b_18) (fun hHeld => ?_)
            clear hK K
            try dsimp only [Act.put]
            refine wpAnyH_ready (rs := [10]) (by kernel_rfl) (by simp) ?_
            refine AllReadyH.cons rfl (fun K hK => ?_) (AllReadyH.nil)
            rw [if_pos (by rfl)]
            refine wp_store_blk rfl 50 _ _ rfl w_2.heap.size rfl rfl G_18 (by rw [hBm]; kernel_rfl) (by rw [hBm]; exact zerosOf_length _ _) (allOne_bytes _) ?_
            have G_19 := Blk.setRow G_18 (B.map byte)
            have b_19 := below_setRow' (g := w_2.heap.size) b_18 le_G_15 (B.map byte).toArray
            refine hK.out _ _ (keep.out b_19) (fun hHeld => ?_)
            clear hK K
            try dsimp only [Act.put]
            refine wpAnyH_done (by kernel_rfl) ?_ _
            go_wp2_with fail
            go_meet
            case rel => exact ⟨_, rfl, by omega, G_19, gl_keep.out b_19, bV.trans (b_19.mono hwV)⟩
        · go_simp
          obtain ⟨w_20, hw_20⟩ : ∃ x, x = World.alloc w_1 (.cells (zerosOf 8 .u8).toArray 50) := ⟨_, rfl⟩
          have bel_20 : Below w_1.heap.size w_1 w_20 := by rw [hw_20]; exact below_new _ _
          have G_20 : Blk w_20 w_1.heap.size 50 (zerosOf 8 .u8) := by rw [hw_20]; exact Blk.new _ _ _
          have le_G_20 := b_1.size
          have b_20 := below_step b_1 bel_20
          rw [← hw_20]
          clear hw_20
          refine hK.out _ _ (keep.out b_20) (fun hHeld => ?_)
          clear hK K
          try dsimp only [Act.put]
          refine wpAnyH_ready (rs := [4]) (by kernel_rfl) (by simp) ?_
          refine AllReadyH.cons rfl (fun K hK => ?_) (AllReadyH.nil)
          rw [if_pos (by rfl)]
          refine wp_build2 (some 34) rfl 99 _ _ rfl 57 16 _ (bdk.map byte) (mm.map byte) rfl rfl Try.underlying99 Try.zero57 hkl hmm (by omega) (by omega) ?_
          try dsimp only [Act.put]
          obtain ⟨w_21, hw_21⟩ : ∃ x, x = World.alloc w_20 (.cells (bdk.map byte ++ mm.map byte).toArray 57) := ⟨_, rfl⟩
          have bel_21 : Below w_20.heap.size w_20 w_21 := by rw [hw_21]; exact below_new _ _
          have bs_21 : Blk w_21 w_20.heap.size 57 (bdk.map byte ++ mm.map byte) := by rw [hw_21]; exact Blk.new _ _ _
          have le_bs_21 := b_20.size
          have G_21 := G_20.below bel_21 G_20.lt
          have b_21 := below_step b_20 bel_21
          rw [← hw_21]
          clear hw_21
          refine hK.out _ _ (keep.out b_21) (fun hHeld => ?_)
          clear hK K
          try dsimp only [Act.put]
          refine wpAnyH_ready (rs := [5]) (by kernel_rfl) (by simp) ?_
          refine AllReadyH.cons rfl (fun K hK => ?_) (AllReadyH.nil)
          go_simp
          refine (HX2.out w_20.heap.size _ bs_21).mono ?_
          rintro e w_22 ⟨rfl, bel_22⟩
          have G_22 := G_21.below bel_22 G_21.lt
          have bs_22 := bs_21.below bel_22 bs_21.lt
          have b_22 := below_step b_21 bel_22
          go_wp2_with fail
          refine hK.out _ _ (keep.out b_22) (fun hHeld => ?_)
          clear hK K
          try dsimp only [Act.put]
          refine wpAnyH_ready (rs := [6]) (by kernel_rfl) (by simp) ?_
          refine AllReadyH.cons rfl (fun K hK => ?_) (AllReadyH.nil)
          go_simp
          refine (newTdea_any X _ hXl).mono ?_
          rintro e w_23 ⟨S_23, rfl, -, hS_23, bel_23⟩
          have G_23 := G_22.below bel_23 G_22.lt
          have bs_23 := bs_22.below bel_23 bs_22.lt
          have b_23 := below_step b_22 bel_23
          go_wp2_with fail
          refine hK.out _ _ (keep.out b_23) (fun hHeld => ?_)
          clear hK K
          try dsimp only [Act.put]
          refine wpAnyH_ready (rs := [8]) (by kernel_rfl) (by simp) ?_
          refine AllReadyH.cons rfl (fun K hK => ?_) (AllReadyH.nil)
          go_simp
          refine (HE2.out S_23 _ hS_23).mono ?_
          rintro e w_24 ⟨rfl, bel_24⟩
          have G_24 := G_23.below bel_24 G_23.lt
          have bs_24 := bs_23.below bel_24 bs_23.lt
          have box_24 := hS_23.below bel_24 hS_23.lt
          have b_24 := below_step b_23 bel_24
          go_wp2_with fail
          refine hK.out _ _ (keep.out b_24) (fun hHeld => ?_)
          clear hK K
          try dsimp only [Act.put]
          refine wpAnyH_ready (rs := [10]) (by kernel_rfl) (by simp) ?_
          refine AllReadyH.cons rfl (fun K hK => ?_) (AllReadyH.nil)
          rw [if_pos (by rfl)]
          refine wp_store_blk rfl 50 _ _ rfl w_1.heap.size rfl rfl G_24 (by rw [hBm]; kernel_rfl) (by rw [hBm]; exact zerosOf_length _ _) (allOne_bytes _) ?_
          have G_25 := Blk.setRow G_24 (B.map byte)
          have b_25 := below_setRow' (g := w_1.heap.size) b_24 le_G_20 (B.map byte).toArray
          refine hK.out _ _ (keep.out b_25) (fun hHeld => ?_)
          clear hK K
          try dsimp only [Act.put]
          refine wpAnyH_done (by kernel_rfl) ?_ _
          go_wp2_with fail
          go_meet
          case rel => exact ⟨_, rfl, by omega, G_25, gl_keep.out b_25, bV.trans (b_25.mono hwV)⟩
      · go_simp
        obtain ⟨w_26, hw_26⟩ : ∃ x, x = World.alloc V (.cells (zerosOf 8 .u8).toArray 50) := ⟨_, rfl⟩
        have bel_26 : Below V.heap.size V w_26 := by rw [hw_26]; exact below_new _ _
        have G_26 : Blk w_26 V.heap.size 50 (zerosOf 8 .u8) := by rw [hw_26]; exact Blk.new _ _ _
        have le_G_26 := b_0.size
        have b_26 := below_step b_0 bel_26
        rw [← hw_26]
        clear hw_26
        refine hK.out _ _ (keep.out b_26) (fun hHeld => ?_)
        clear hK K
        try dsimp only [Act.put]
        refine wpAnyH_ready (rs := [3]) (by kernel_rfl) (by simp) ?_
        refine AllReadyH.cons rfl (fun K hK => ?_) (AllReadyH.nil)
        go_simp
        refine (HM.out _).mono ?_
        rintro e w_27 ⟨rfl, bel_27⟩
        have G_27 := G_26.below bel_27 G_26.lt
        have b_27 := below_step b_26 bel_27
        go_wp2_with fail
        refine hK.out _ _ (keep.out b_27) (fun hHeld => ?_)
        clear hK K
        try dsimp only [Act.put]
        refine wpAnyH_ready (rs := [4]) (by kernel_rfl) (by simp) ?_
        refine AllReadyH.cons rfl (fun K hK => ?_) (AllReadyH.nil)
        rw [if_pos (by rfl)]
        refine wp_build2 (some 34) rfl 99 _ _ rfl 57 16 _ (bdk.map byte) (mm.map byte) rfl rfl Try.underlying99 Try.zero57 hkl hmm (by omega) (by omega) ?_
        try dsimp only [Act.put]
        obtain ⟨w_28, hw_28⟩ : ∃ x, x = World.alloc w_27 (.cells (bdk.map byte ++ mm.map byte).toArray 57) := ⟨_, rfl⟩
        have bel_28 : Below w_27.heap.size w_27 w_28 := by rw [hw_28]; exact below_new _ _
        have bs_28 : Blk w_28 w_27.heap.size 57 (bdk.map byte ++ mm.map byte) := by rw [hw_28]; exact Blk.new _ _ _
        have le_bs_28 := b_27.size
        have G_28 := G_27.below bel_28 G_27.lt
        have b_28 := below_step b_27 bel_28
        rw [← hw_28]
        clear hw_28
        refine hK.out _ _ (keep.out b_28) (fun hHeld => ?_)
        clear hK K
        try dsimp only [Act.put]
        refine wpAnyH_ready (rs := [5]) (by kernel_rfl) (by simp) ?_
        refine AllReadyH.cons rfl (fun K hK => ?_) (AllReadyH.nil)
        go_simp
        refine (HX2.out w_27.heap.size _ bs_28).mono ?_
        rintro e w_29 ⟨rfl, bel_29⟩
        have G_29 := G_28.below bel_29 G_28.lt
        have bs_29 := bs_28.below bel_29 bs_28.lt
        have b_29 := below_step b_28 bel_29
        go_wp2_with fail
        refine hK.out _ _ (keep.out b_29) (fun hHeld => ?_)
        clear hK K
        try dsimp only [Act.put]
        refine wpAnyH_ready (rs := [6]) (by kernel_rfl) (by simp) ?_
        refine AllReadyH.cons rfl (fun K hK => ?_) (AllReadyH.nil)
        go_simp
        refine (newTdea_any X _ hXl).mono ?_
        rintro e w_30 ⟨S_30, rfl, -, hS_30, bel_30⟩
        have G_30 := G_29.below bel_30 G_29.lt
        have bs_30 := bs_29.below bel_30 bs_29.lt
        have b_30 := below_step b_29 bel_30
        go_wp2_with fail
        refine hK.out _ _ (keep.out b_30) (fun hHeld => ?_)
        clear hK K
        try dsimp only [Act.put]
        refine wpAnyH_ready (rs := [8]) (by kernel_rfl) (by simp) ?_
        refine AllReadyH.cons rfl (fun K hK => ?_) (AllReadyH.nil)
        go_simp
        refine (HE2.out S_30 _ hS_30).mono ?_
        rintro e w_31 ⟨rfl, bel_31⟩
        have G_31 := G_30.below bel_31 G_30.lt
        have bs_31 := bs_30.below bel_31 bs_30.lt
        have box_31 := hS_30.below bel_31 hS_30.lt
        have b_31 := below_step b_30 bel_31
        go_wp2_with fail
        refine hK.out _ _ (keep.out b_31) (fun hHeld => ?_)
        clear hK K
        try dsimp only [Act.put]
        refine wpAnyH_ready (rs := [10]) (by kernel_rfl) (by simp) ?_
        refine AllReadyH.cons rfl (fun K hK => ?_) (AllReadyH.nil)
        rw [if_pos (by rfl)]
        refine wp_store_blk rfl 50 _ _ rfl V.heap.size rfl rfl G_31 (by rw [hBm]; kernel_rfl) (by rw [hBm]; exact zerosOf_length _ _) (allOne_bytes _) ?_
        have G_32 := Blk.setRow G_31 (B.map byte)
        have b_32 := below_setRow' (g := V.heap.size) b_31 le_G_26 (B.map byte).toArray
        refine hK.out _ _ (keep.out b_32) (fun hHeld => ?_)
        clear hK K
        try dsimp only [Act.put]
        refine wpAnyH_done (by kernel_rfl) ?_ _
        go_wp2_with fail
        go_meet
        case rel => exact ⟨_, rfl, by omega, G_32, gl_keep.out b_32, bV.trans (b_32.mono hwV)⟩
    case rest =>
      clear kG1 k1 bW
      obtain ⟨G2, rfl, hG2, kG2, kG1, bW⟩ := hcut
      go_wp2_with fail
      obtain ⟨V, hV⟩ : ∃ V, V = World.drew wc := ⟨_, rfl⟩
      replace kG1 : Blk V G1 50 (A.map byte) := by rw [hV]; exact kG1.drew1
      replace kG2 : Blk V G2 50 (B.map byte) := by rw [hV]; exact kG2.drew1
      have bV : Below w.heap.size w V := by rw [hV]; exact bW.drew
      have hwV := bV.size
      clear bW
      have b_0 : Below V.heap.size V V := Below.refl _ _
      have hsrc : Hid (∀ {x}, Below V.heap.size V x → ∀ k, k < 2 → Src x ([Value.slice (some ⟨G1, 0, none⟩) 8 8, Value.slice (some ⟨G2, 0, none⟩) 8 8].getD k undef) ([A, B].getD k [])) := by
        intro x hx k hk
        match k, hk with
        | 0, _ => exact ⟨G1, 0, 8, by rw [show ([A, B].getD 0 []).length = 8 from hA8]; rfl, rowAt_block (kG1.below hx kG1.lt)⟩
        | 1, _ => exact ⟨G2, 0, 8, by rw [show ([A, B].getD 1 []).length = 8 from hB8]; rfl, rowAt_block (kG2.below hx kG2.lt)⟩
      have keep : Hid (∀ {B x}, Below B V x → True) := fun _ => trivial
      refine wp_region_held_drew (S := fun _ => True) (by kernel_rfl) trivial (fun hHeld => ?_)
      rw [← hV]
      clear hV
      refine wpAnyH_take (i := 0) (v := (Value.slice (some ⟨G1, 0, none⟩) 8 8)) rfl (by kernel_rfl) (by kernel_rfl) (by kernel_rfl) (fun _ _ _ h => h) (Or.inl ⟨by rfl, ?_⟩) hHeld ?_
      · intro _ _; go_simp
      try dsimp only [Act.put]
      refine wpAnyH_take (i := 1) (v := (Value.slice (some ⟨G2, 0, none⟩) 8 8)) rfl (by kernel_rfl) (by kernel_rfl) (by kernel_rfl) (fun _ _ _ h => h) (Or.inl ⟨by rfl, ?_⟩) hHeld ?_
      · intro _ _; go_simp
      try dsimp only [Act.put]
      refine wpAnyH_ready (rs := [2]) (by kernel_rfl) (by simp) ?_
      refine AllReadyH.cons rfl (fun K hK => ?_) (AllReadyH.nil)
      go_simp
      obtain ⟨w_1, hw_1⟩ : ∃ x, x = World.alloc V (.cells ([Value.slice (some ⟨G1, 0, none⟩) 8 8, Value.slice (some ⟨G2, 0, none⟩) 8 8]).toArray 22) := ⟨_, rfl⟩
      have bel_1 : Below V.heap.size V w_1 := by rw [hw_1]; exact below_new _ _
      have sl_1 : Blk w_1 V.heap.size 22 ([Value.slice (some ⟨G1, 0, none⟩) 8 8, Value.slice (some ⟨G2, 0, none⟩) 8 8]) := by rw [hw_1]; exact Blk.new _ _ _
      have le_sl_1 := b_0.size
      have b_1 := below_step b_0 bel_1
      rw [← hw_1]
      clear hw_1
      refine hK.out _ _ (keep.out b_1) (fun hHeld => ?_)
      clear hK K
      try dsimp only [Act.put]
      refine wpAnyH_ready (rs := [3]) (by kernel_rfl) (by simp) ?_
      refine AllReadyH.cons rfl (fun K hK => ?_) (AllReadyH.nil)
      go_simp
      refine (concat_any [Value.slice (some ⟨G1, 0, none⟩) 8 8, Value.slice (some ⟨G2, 0, none⟩) 8 8] [A, B] V.heap.size 0 2 2 _ rfl rfl (by omega) hfl (blk_whole sl_1) (hsrc.out b_1)).mono ?_
      rintro e w_2 ⟨v_2, rfl, own_2, bel_2⟩
      have sl_2 := sl_1.below bel_2 sl_1.lt
      have b_2 := below_step b_1 bel_2
      have bq := b_2
      go_wp2_with fail
      refine hK.out _ _ (keep.out b_2) (fun hHeld => ?_)
      clear hK K
      try dsimp only [Act.put]
      refine wpAnyH_ready (rs := [4]) (by kernel_rfl) (by simp) ?_
      refine AllReadyH.cons rfl (fun K hK => ?_) (AllReadyH.nil)
      go_simp
      refine hK.out _ _ (keep.out b_2) (fun hHeld => ?_)
      clear hK K
      try dsimp only [Act.put]
      refine wpAnyH_done (by kernel_rfl) ?_ _
      go_wp2_with fail
      go_ret
      refine ⟨_, rfl, ?_, bV.trans (bq.mono hwV)⟩
      have h := (own_2.mono (Nat.le_trans hwV b_1.size)).own
      rw [hfa] at h
      exact h
end Go.Proofs.Ythjnalbgnjbdnaa
