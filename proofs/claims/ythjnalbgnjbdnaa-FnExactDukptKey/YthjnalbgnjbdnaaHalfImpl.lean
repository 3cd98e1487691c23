/-
  impl.half.
-/
import Derived.Test.YthjnalbgnjbdnaaDukSpec2
import Derived.Test.YthjnalbgnjbdnaaXorImpl8
namespace Go.Proofs.Ythjnalbgnjbdnaa
open Go.RowKit

def dhalfN (key r : List UInt8) : List UInt8 := xorL (encN (key.take 8) (xorL r (key.drop 8))) (key.drop 8)
theorem dhalfN_length (key r : List UInt8) (hk : key.length = 16) : (dhalfN key r).length = 8 := by
  unfold dhalfN
  rw [xorL_length _ _ (by rw [encN_length, drop8 hk]), encN_length]

set_option maxRecDepth 100000 in
set_option maxHeartbeats 4000000 in
theorem half_any (key r : List UInt8) (S : Nat) (w : World) (hk : key.length = 16) (hr : r.length = 8) (hS : Blk w S 93 mergedCells) :
    Calls Try.prog 73 #[.agg (key.map byte).toArray, .agg (r.map byte).toArray, roundF S] w fun e w' => e = .returned (.agg ((dhalfN key r).map byte).toArray) ∧ Below w.heap.size w w' := by
  have hz := (zero_of_info Try.zero50).1
  have hal := take8 hk
  have hbl := drop8 hk
  have hkab : key.map byte = (key.take 8).map byte ++ (key.drop 8).map byte := by rw [← List.map_append, List.take_append_drop]
  have hzl := dhalfN_length key r hk
  have HX1 := hide (fun (g : Nat) (wx : World) (h : Blk wx g 50 (r.map byte ++ (key.drop 8).map byte)) => xor8_two r (key.drop 8) g 2 50 wx hr hbl h)
  have HE := hide (fun (wx : World) (h : Blk wx S 93 mergedCells) => encrypt_any (key.take 8) (xorL r (key.drop 8)) S wx (by rw [xorL_length _ _ (by rw [hr, hbl]), hr]) h)
  have hyl := encN_length (key.take 8) (xorL r (key.drop 8))
  have HX2 := hide (fun (g : Nat) (wx : World) (h : Blk wx g 50 ((encN (key.take 8) (xorL r (key.drop 8))).map byte ++ (key.drop 8).map byte)) => xor8_two (encN (key.take 8) (xorL r (key.drop 8))) (key.drop 8) g 2 50 wx hyl hbl h)
  change Hid (∀ (g : Nat) (wx : World), Blk wx g 50 ((encN (key.take 8) (xorL r (key.drop 8))).map byte ++ (key.drop 8).map byte) → Calls Try.prog 61 #[.slice (some ⟨g, 0, none⟩) 2 2] wx fun e w' => e = .returned (.agg ((dhalfN key r).map byte).toArray) ∧ Below wx.heap.size wx w') at HX2
  obtain ⟨z, hzE⟩ : ∃ z, z = dhalfN key r := ⟨_, rfl⟩
  rw [← hzE] at HX2 hzl ⊢
  obtain ⟨y, hyE⟩ : ∃ y, y = encN (key.take 8) (xorL r (key.drop 8)) := ⟨_, rfl⟩
  rw [← hyE] at HX2 HE hyl
  obtain ⟨x, hxE⟩ : ∃ x, x = xorL r (key.drop 8) := ⟨_, rfl⟩
  rw [← hxE] at HX1 HE
  obtain ⟨a, haE⟩ : ∃ a, a = key.take 8 := ⟨_, rfl⟩
  obtain ⟨b, hbE⟩ : ∃ b, b = key.drop 8 := ⟨_, rfl⟩
  rw [← haE] at HE hal hkab
  rw [← hbE] at HX1 HX2 hbl hkab
  rw [hkab]
  clear hzE hyE hxE haE hbE hkab hk
  have ham : (a.map byte).length = 8 := by rw [List.length_map, hal]
  have hbm : (b.map byte).length = 8 := by rw [List.length_map, hbl]
  have hrm : (r.map byte).length = 8 := by rw [List.length_map, hr]
  have hym : (y.map byte).length = 8 := by rw [List.length_map, hyl]
  have hzm : (z.map byte).length = 8 := by rw [List.length_map, hzl]
  obtain ⟨kc, hkc⟩ : ∃ kc, kc = a.map byte ++ b.map byte := ⟨_, rfl⟩
  have HKC := hide hkc
  rw [← hkc]
  obtain ⟨W, hW⟩ : ∃ W, W = ((w.alloc (.cells kc.toArray 57)).alloc (.cells (r.map byte).toArray 50)).alloc (.cells (zerosOf 8 .u8).toArray 50) := ⟨_, rfl⟩
  have k0 : Blk W w.heap.size 57 kc := by rw [hW]; exact ((Blk.new w _ _).alloc _).alloc _
  have k1 : Blk W (w.heap.size + 1) 50 (r.map byte) := by rw [hW]; exact (Blk.new2 w _ _ _).alloc _
  have k2 : Blk W (w.heap.size + 1 + 1) 50 (zerosOf 8 .u8) := by rw [hW]; exact Blk.newAt _ _ _ _ (by simp)
  have kS : Blk W S 93 mergedCells := by rw [hW]; exact ((hS.alloc _).alloc _).alloc _
  have bW : Below w.heap.size w W := by rw [hW]; exact (((Below.refl _ _).alloc (Nat.le_refl _) _).alloc (by simp) _).alloc (by simp; omega) _
  have gW : Hid (W = ((w.alloc (.cells kc.toArray 57)).alloc (.cells (r.map byte).toArray 50)).alloc (.cells (zerosOf 8 .u8).toArray 50)) := hW
  clear hW hkc hS
  have har := fun (c : Nat) (o : Nat) (wx : World) => run_arrayAt (P := Try.prog) (w := wx) 50 5 8 (some ⟨w.heap.size, o, none⟩) 8 c Try.underlying50 (Nat.le_refl _)
  unfold roundF
  go_enter Try.func73, Try.ntmps73
  go_wp2_with fail
  rw [← show W = _ from gW]
  clear gW
  go_cut [7, 8] (fun p q wx => ∃ GA GB, p = .pointer (some ⟨GA, 0, none⟩) ∧ q = .pointer (some ⟨GB, 0, none⟩) ∧ w.heap.size + 2 < GA ∧ w.heap.size + 2 < GB ∧ Blk wx GA 50 (a.map byte) ∧ Blk wx GB 50 (b.map byte) ∧ (Blk wx (w.heap.size + 1) 50 (r.map byte) ∧ Blk wx (w.heap.size + 1 + 1) 50 (zerosOf 8 .u8) ∧ Blk wx S 93 mergedCells) ∧ Below w.heap.size w wx)
  case first =>
    obtain ⟨V, hV⟩ : ∃ V, V = W.drew := ⟨_, rfl⟩
    replace k0 : Blk V w.heap.size 57 kc := by rw [hV]; exact k0.drew1
    replace k1 : Blk V (w.heap.size + 1) 50 (r.map byte) := by rw [hV]; exact k1.drew1
    replace k2 : Blk V (w.heap.size + 1 + 1) 50 (zerosOf 8 .u8) := by rw [hV]; exact k2.drew1
    replace kS : Blk V S 93 mergedCells := by rw [hV]; exact kS.drew1
    have bV : Below w.heap.size w V := by rw [hV]; exact bW.drew
    have hwV := bV.size
    have l2 := k2.lt
    clear bW
    have b_0 : Below V.heap.size V V := Below.refl _ _
    have restV : Hid (∀ {x}, Below V.heap.size V x → Blk x (w.heap.size + 1) 50 (r.map byte) ∧ Blk x (w.heap.size + 1 + 1) 50 (zerosOf 8 .u8) ∧ Blk x S 93 mergedCells) := fun h => ⟨k1.below h k1.lt, k2.below h k2.lt, kS.below h kS.lt⟩
    have keep : Hid (∀ {x}, Below V.heap.size V x → x.rangeAt w.heap.size 0 (a.map byte) ∧ x.rangeAt w.heap.size 8 (b.map byte)) := fun {x} h => by
      have hx : Blk x w.heap.size 57 (a.map byte ++ b.map byte) := by rw [← HKC.out]; exact k0.below h k0.lt
      exact ⟨blk_first hx, blk_second hx ham⟩
    refine wp_region_held_drew (S := fun x => x.rangeAt w.heap.size 0 (a.map byte) ∧ x.rangeAt w.heap.size 8 (b.map byte)) (by kernel_rfl) (by rw [← hV]; exact keep.out b_0) (fun hHeld => ?_)
    rw [← hV] at hHeld ⊢
    clear hV k0 k1 k2 kS
    refine wpAnyH_take (i := 0) (v := (.slice (some ⟨w.heap.size, 0, none⟩) 8 16)) rfl (by kernel_rfl) (by kernel_rfl) (by kernel_rfl) (fun _ _ _ h => h) (Or.inl ⟨by rfl, ?_⟩) hHeld ?_
    · intro _ _; go_simp
    try dsimp only [Act.put]
    refine wpAnyH_take (i := 1) (v := (.pointer (some ⟨w.heap.size, 0, none⟩))) rfl (by kernel_rfl) (by kernel_rfl) (by kernel_rfl) (fun _ _ _ h => h) (Or.inl ⟨by rfl, ?_⟩) hHeld ?_
    · intro _ _; go_simp
    try dsimp only [Act.put]
    refine wpAnyH_take (i := 2) (v := (.agg (a.map byte).toArray)) rfl (by kernel_rfl) (by kernel_rfl) (by kernel_rfl) (fun _ _ _ h => h) (yieldsIf_load_mid (by rfl) 50 _ rfl w.heap.size 0 rfl (a.map byte) _ (fun _ h => h.1) Try.underlying50 rfl (by rw [ham]; kernel_rfl)) hHeld ?_
    try dsimp only [Act.put]
    refine wpAnyH_take (i := 3) (v := (.slice (some ⟨w.heap.size, 8, none⟩) 8 8)) rfl (by kernel_rfl) (by kernel_rfl) (by kernel_rfl) (fun _ _ _ h => h) (Or.inl ⟨by rfl, ?_⟩) hHeld ?_
    · intro _ _; go_simp
    try dsimp only [Act.put]
    refine wpAnyH_take (i := 4) (v := (.pointer (some ⟨w.heap.size, 8, none⟩))) rfl (by kernel_rfl) (by kernel_rfl) (by kernel_rfl) (fun _ _ _ h => h) (Or.inl ⟨by rfl, ?_⟩) hHeld ?_
    · intro _ _; go_simp
    try dsimp only [Act.put]
    refine wpAnyH_take (i := 5) (v := (.agg (b.map byte).toArray)) rfl (by kernel_rfl) (by kernel_rfl) (by kernel_rfl) (fun _ _ _ h => h) (yieldsIf_load_mid (by rfl) 50 _ rfl w.heap.size 8 rfl (b.map byte) _ (fun _ h => h.2) Try.underlying50 rfl (by rw [hbm]; kernel_rfl)) hHeld ?_
    try dsimp only [Act.put]
    refine wpAnyH_ready (rs := [6, 7]) (by kernel_rfl) (by simp) ?_
    refine AllReadyH.cons rfl (fun K hK => ?_) (AllReadyH.cons rfl (fun K hK => ?_) (AllReadyH.nil))
    · go_simp
      obtain ⟨w_1, hw_1⟩ : ∃ x, x = World.alloc V (.cells (zerosOf 8 .u8).toArray 50) := ⟨_, rfl⟩
      have bel_1 : Below V.heap.size V w_1 := by rw [hw_1]; exact below_new _ _
      have GA_1 : Blk w_1 V.heap.size 50 (zerosOf 8 .u8) := by rw [hw_1]; exact Blk.new _ _ _
      have le_GA_1 := b_0.size
      have lt_GA_1 := GA_1.lt
      have b_1 := below_step b_0 bel_1
      rw [← hw_1]
      clear hw_1
      refine hK.out _ _ (keep.out b_1) (fun hHeld => ?_)
      clear hK K
      try dsimp only [Act.put]
      refine wpAnyH_ready (rs := [7]) (by kernel_rfl) (by simp) ?_
      refine AllReadyH.cons rfl (fun K hK => ?_) (AllReadyH.nil)
      go_simp
      obtain ⟨w_2, hw_2⟩ : ∃ x, x = World.alloc w_1 (.cells (zerosOf 8 .u8).toArray 50) := ⟨_, rfl⟩
      have bel_2 : Below w_1.heap.size w_1 w_2 := by rw [hw_2]; exact below_new _ _
      have GB_2 : Blk w_2 w_1.heap.size 50 (zerosOf 8 .u8) := by rw [hw_2]; exact Blk.new _ _ _
      have le_GB_2 := b_1.size
      have lt_GB_2 := GB_2.lt
      have GA_2 := GA_1.below bel_2 GA_1.lt
      have b_2 := below_step b_1 bel_2
      rw [← hw_2]
      clear hw_2
      refine hK.out _ _ (keep.out b_2) (fun hHeld => ?_)
      clear hK K
      try dsimp only [Act.put]
      refine wpAnyH_ready (rs := [8]) (by kernel_rfl) (by simp) ?_
      refine AllReadyH.cons rfl (fun K hK => ?_) (AllReadyH.nil)
      rw [if_pos (by rfl)]
      refine wp_store_blk rfl 50 _ _ rfl V.heap.size rfl rfl GA_2 (by rw [ham]; kernel_rfl) (by rw [ham]; exact zerosOf_length _ _) (allOne_bytes _) ?_
      have GA_3 := Blk.setRow GA_2 (a.map byte)
      have b_3 := below_setRow' (g := V.heap.size) b_2 le_GA_1 (a.map byte).toArray
      have GB_3 := Blk.setRow_other (g' := V.heap.size) (cs := (a.map byte).toArray) GB_2 (by omega)
      refine hK.out _ _ (keep.out b_3) (fun hHeld => ?_)
      clear hK K
      try dsimp only [Act.put]
      refine wpAnyH_ready (rs := [9]) (by kernel_rfl) (by simp) ?_
      refine AllReadyH.cons rfl (fun K hK => ?_) (AllReadyH.nil)
      rw [if_pos (by rfl)]
      refine wp_store_blk rfl 50 _ _ rfl w_1.heap.size rfl rfl GB_3 (by rw [hbm]; kernel_rfl) (by rw [hbm]; exact zerosOf_length _ _) (allOne_bytes _) ?_
      have GB_4 := Blk.setRow GB_3 (b.map byte)
      have b_4 := below_setRow' (g := w_1.heap.size) b_3 le_GB_2 (b.map byte).toArray
      have GA_4 := Blk.setRow_other (g' := w_1.heap.size) (cs := (b.map byte).toArray) GA_3 (by omega)
      refine hK.out _ _ (keep.out b_4) (fun hHeld => ?_)
      clear hK K
      try dsimp only [Act.put]
      refine wpAnyH_done (by kernel_rfl) ?_ _
      go_wp2_with fail
      go_meet
      case rel => exact ⟨_, _, rfl, rfl, by omega, by omega, GA_4, GB_4, restV.out b_4, bV.trans (b_4.mono hwV)⟩
    · go_simp
      obtain ⟨w_5, hw_5⟩ : ∃ x, x = World.alloc V (.cells (zerosOf 8 .u8).toArray 50) := ⟨_, rfl⟩
      have bel_5 : Below V.heap.size V w_5 := by rw [hw_5]; exact below_new _ _
      have GB_5 : Blk w_5 V.heap.size 50 (zerosOf 8 .u8) := by rw [hw_5]; exact Blk.new _ _ _
      have le_GB_5 := b_0.size
      have lt_GB_5 := GB_5.lt
      have b_5 := below_step b_0 bel_5
      rw [← hw_5]
      clear hw_5
      refine hK.out _ _ (keep.out b_5) (fun hHeld => ?_)
      clear hK K
      try dsimp only [Act.put]
      refine wpAnyH_ready (rs := [6]) (by kernel_rfl) (by simp) ?_
      refine AllReadyH.cons rfl (fun K hK => ?_) (AllReadyH.nil)
      go_simp
      obtain ⟨w_6, hw_6⟩ : ∃ x, x = World.alloc w_5 (.cells (zerosOf 8 .u8).toArray 50) := ⟨_, rfl⟩
      have bel_6 : Below w_5.heap.size w_5 w_6 := by rw [hw_6]; exact below_new _ _
      have GA_6 : Blk w_6 w_5.heap.size 50 (zerosOf 8 .u8) := by rw [hw_6]; exact Blk.new _ _ _
      have le_GA_6 := b_5.size
      have lt_GA_6 := GA_6.lt
      have GB_6 := GB_5.below bel_6 GB_5.lt
      have b_6 := below_step b_5 bel_6
      rw [← hw_6]
      clear hw_6
      refine hK.out _ _ (keep.out b_6) (fun hHeld => ?_)
      clear hK K
      try dsimp only [Act.put]
      refine wpAnyH_ready (rs := [8]) (by kernel_rfl) (by simp) ?_
      refine AllReadyH.cons rfl (fun K hK => ?_) (AllReadyH.nil)
      rw [if_pos (by rfl)]
      refine wp_store_blk rfl 50 _ _ rfl w_5.heap.size rfl rfl GA_6 (by rw [ham]; kernel_rfl) (by rw [ham]; exact zerosOf_length _ _) (allOne_bytes _) ?_
      have GA_7 := Blk.setRow GA_6 (a.map byte)
      have b_7 := below_setRow' (g := w_5.heap.size) b_6 le_GA_6 (a.map byte).toArray
      have GB_7 := Blk.setRow_other (g' := w_5.heap.size) (cs := (a.map byte).toArray) GB_6 (by omega)
      refine hK.out _ _ (keep.out b_7) (fun hHeld => ?_)
      clear hK K
      try dsimp only [Act.put]
      refine wpAnyH_ready (rs := [9]) (by kernel_rfl) (by simp) ?_
      refine AllReadyH.cons rfl (fun K hK => ?_) (AllReadyH.nil)
      rw [if_pos (by rfl)]
      refine wp_store_blk rfl 50 _ _ rfl V.heap.size rfl rfl GB_7 (by rw [hbm]; kernel_rfl) (by rw [hbm]; exact zerosOf_length _ _) (allOne_bytes _) ?_
      have GB_8 := Blk.setRow GB_7 (b.map byte)
      have b_8 := below_setRow' (g := V.heap.size) b_7 le_GB_5 (b.map byte).toArray
      have GA_8 := Blk.setRow_other (g' := V.heap.size) (cs := (b.map byte).toArray) GA_7 (by omega)
      refine hK.out _ _ (keep.out b_8) (fun hHeld => ?_)
      clear hK K
      try dsimp only [Act.put]
      refine wpAnyH_done (by kernel_rfl) ?_ _
      go_wp2_with fail
      go_meet
      case rel => exact ⟨_, _, rfl, rfl, by omega, by omega, GA_8, GB_8, restV.out b_8, bV.trans (b_8.mono hwV)⟩
  case rest =>
    clear k0 k1 k2 kS bW W har
    obtain ⟨GA, GB, rfl, rfl, hGA, hGB, kA, kB, ⟨k1, k2, kS⟩, bW⟩ := hcut
    go_wp2_with fail
    obtain ⟨V, hV⟩ : ∃ V, V = World.drew wc := ⟨_, rfl⟩
    replace kA : Blk V GA 50 (a.map byte) := by rw [hV]; exact kA.drew1
    replace kB : Blk V GB 50 (b.map byte) := by rw [hV]; exact kB.drew1
    replace k1 : Blk V (w.heap.size + 1) 50 (r.map byte) := by rw [hV]; exact k1.drew1
    replace k2 : Blk V (w.heap.size + 1 + 1) 50 (zerosOf 8 .u8) := by rw [hV]; exact k2.drew1
    replace kS : Blk V S 93 mergedCells := by rw [hV]; exact kS.drew1
    have bV : Below w.heap.size w V := by rw [hV]; exact bW.drew
    have hwV := bV.size
    have l2 := k2.lt
    clear bW
    have b_0 : Below V.heap.size V V := Below.refl _ _
    have boxes : Hid (∀ {x}, Below V.heap.size V x → Blk x S 93 mergedCells) := fun h => kS.below h kS.lt
    have kR : Hid (∀ {x}, Below V.heap.size V x → Blk x (w.heap.size + 1 + 1) 50 (zerosOf 8 .u8)) := fun h => k2.below h k2.lt
    have keep : Hid (∀ {x}, Below V.heap.size V x → x.rangeAt GA 0 (a.map byte) ∧ x.rangeAt GB 0 (b.map byte) ∧ x.rangeAt (w.heap.size + 1) 0 (r.map byte)) := fun h => ⟨blk_whole (kA.below h kA.lt), blk_whole (kB.below h kB.lt), blk_whole (k1.below h k1.lt)⟩
    have keepS : Hid (∀ {x : World}, Below V.heap.size V x → (x.setRow (w.heap.size + 1 + 1) (z.map byte).toArray).rangeAt GA 0 (a.map byte) ∧ (x.setRow (w.heap.size + 1 + 1) (z.map byte).toArray).rangeAt GB 0 (b.map byte) ∧ (x.setRow (w.heap.size + 1 + 1) (z.map byte).toArray).rangeAt (w.heap.size + 1) 0 (r.map byte)) := fun h => ⟨blk_whole ((kA.below h kA.lt).setRow_other (by omega)), blk_whole ((kB.below h kB.lt).setRow_other (by omega)), blk_whole ((k1.below h k1.lt).setRow_other (by omega))⟩
    refine wp_region_held_drew (S := fun x => x.rangeAt GA 0 (a.map byte) ∧ x.rangeAt GB 0 (b.map byte) ∧ x.rangeAt (w.heap.size + 1) 0 (r.map byte)) (by kernel_rfl) (by rw [← hV]; exact keep.out b_0) (fun hHeld => ?_)
    rw [← hV] at hHeld ⊢
    clear hV kA kB k1 k2 kS
    refine wpAnyH_take (i := 0) (v := (.agg (a.map byte).toArray)) rfl (by kernel_rfl) (by kernel_rfl) (by kernel_rfl) (fun _ _ _ h => h) (yieldsIf_load_mid (by rfl) 50 _ rfl GA 0 rfl (a.map byte) _ (fun _ h => h.1) Try.underlying50 rfl (by rw [ham]; kernel_rfl)) hHeld ?_
    try dsimp only [Act.put]
    refine wpAnyH_take (i := 1) (v := (.func (.func 97) #[] #[.pointer (some ⟨S, 0, none⟩)])) rfl (by kernel_rfl) (by kernel_rfl) (by kernel_rfl) (fun _ _ _ h => h) (Or.inl ⟨by rfl, ?_⟩) hHeld ?_
    · intro _ _; go_simp
    try dsimp only [Act.put]
    refine wpAnyH_take (i := 3) (v := (.agg (r.map byte).toArray)) rfl (by kernel_rfl) (by kernel_rfl) (by kernel_rfl) (fun _ _ _ h => h) (yieldsIf_load_mid (by rfl) 50 _ rfl (w.heap.size + 1) 0 rfl (r.map byte) _ (fun _ h => h.2.2) Try.underlying50 rfl (by rw [hrm]; kernel_rfl)) hHeld ?_
    try dsimp only [Act.put]
    refine wpAnyH_take (i := 4) (v := (.agg (b.map byte).toArray)) rfl (by kernel_rfl) (by kernel_rfl) (by kernel_rfl) (fun _ _ _ h => h) (yieldsIf_load_mid (by rfl) 50 _ rfl GB 0 rfl (b.map byte) _ (fun _ h => h.2.1) Try.underlying50 rfl (by rw [hbm]; kernel_rfl)) hHeld ?_
    try dsimp only [Act.put]
    refine wpAnyH_take (i := 8) (v := (.agg (b.map byte).toArray)) rfl (by kernel_rfl) (by kernel_rfl) (by kernel_rfl) (fun _ _ _ h => h) (yieldsIf_load_mid (by rfl) 50 _ rfl GB 0 rfl (b.map byte) _ (fun _ h => h.2.1) Try.underlying50 rfl (by rw [hbm]; kernel_rfl)) hHeld ?_
    try dsimp only [Act.put]
    refine wpAnyH_ready (rs := [2, 5]) (by kernel_rfl) (by simp) ?_
    refine AllReadyH.cons rfl (fun K hK => ?_) (AllReadyH.cons rfl (fun K hK => ?_) (AllReadyH.nil))
    · go_simp
      refine (newDes_any a S _ hal).mono ?_
      rintro e w_1 ⟨rfl, bel_1⟩
      have b_1 := below_step b_0 bel_1
      go_wp2_with fail
      refine hK.out _ _ (keep.out b_1) (fun hHeld => ?_)
      clear hK K
      try dsimp only [Act.put]
      refine wpAnyH_ready (rs := [5]) (by kernel_rfl) (by simp) ?_
      refine AllReadyH.cons rfl (fun K hK => ?_) (AllReadyH.nil)
      rw [if_pos (by rfl)]
      refine wp_build2 (some 20) rfl 58 _ _ rfl 50 8 _ (r.map byte) (b.map byte) rfl rfl Try.underlying58 Try.zero50 hrm hbm (by omega) (by omega) ?_
      try dsimp only [Act.put]
      obtain ⟨w_2, hw_2⟩ : ∃ x, x = World.alloc w_1 (.cells (r.map byte ++ b.map byte).toArray 50) := ⟨_, rfl⟩
      have bel_2 : Below w_1.heap.size w_1 w_2 := by rw [hw_2]; exact below_new _ _
      have s1_2 : Blk w_2 w_1.heap.size 50 (r.map byte ++ b.map byte) := by rw [hw_2]; exact Blk.new _ _ _
      have le_s1_2 := b_1.size
      have lt_s1_2 := s1_2.lt
      have b_2 := below_step b_1 bel_2
      rw [← hw_2]
      clear hw_2
      refine hK.out _ _ (keep.out b_2) (fun hHeld => ?_)
      clear hK K
      try dsimp only [Act.put]
      refine wpAnyH_ready (rs := [6]) (by kernel_rfl) (by simp) ?_
      refine AllReadyH.cons rfl (fun K hK => ?_) (AllReadyH.nil)
      go_simp
      refine (HX1.out _ _ s1_2).mono ?_
      rintro e w_3 ⟨rfl, bel_3⟩
      have s1_3 := s1_2.below bel_3 s1_2.lt
      have b_3 := below_step b_2 bel_3
      go_wp2_with fail
      refine hK.out _ _ (keep.out b_3) (fun hHeld => ?_)
      clear hK K
      try dsimp only [Act.put]
      refine wpAnyH_ready (rs := [7]) (by kernel_rfl) (by simp) ?_
      refine AllReadyH.cons rfl (fun K hK => ?_) (AllReadyH.nil)
      go_simp
      refine (HE.out _ (boxes.out b_3)).mono ?_
      rintro e w_4 ⟨rfl, bel_4⟩
      have s1_4 := s1_3.below bel_4 s1_3.lt
      have b_4 := below_step b_3 bel_4
      go_wp2_with fail
      refine hK.out _ _ (keep.out b_4) (fun hHeld => ?_)
      clear hK K
      try dsimp only [Act.put]
      refine wpAnyH_ready (rs := [9]) (by kernel_rfl) (by simp) ?_
      refine AllReadyH.cons rfl (fun K hK => ?_) (AllReadyH.nil)
      rw [if_pos (by rfl)]
      refine wp_build2 (some 24) rfl 58 _ _ rfl 50 8 _ (y.map byte) (b.map byte) rfl rfl Try.underlying58 Try.zero50 hym hbm (by omega) (by omega) ?_
      try dsimp only [Act.put]
      obtain ⟨w_5, hw_5⟩ : ∃ x, x = World.alloc w_4 (.cells (y.map byte ++ b.map byte).toArray 50) := ⟨_, rfl⟩
      have bel_5 : Below w_4.heap.size w_4 w_5 := by rw [hw_5]; exact below_new _ _
      have s2_5 : Blk w_5 w_4.heap.size 50 (y.map byte ++ b.map byte) := by rw [hw_5]; exact Blk.new _ _ _
      have le_s2_5 := b_4.size
      have lt_s2_5 := s2_5.lt
      have s1_5 := s1_4.below bel_5 s1_4.lt
      have b_5 := below_step b_4 bel_5
      rw [← hw_5]
      clear hw_5
      refine hK.out _ _ (keep.out b_5) (fun hHeld => ?_)
      clear hK K
      try dsimp only [Act.put]
      refine wpAnyH_ready (rs := [10]) (by kernel_rfl) (by simp) ?_
      refine AllReadyH.cons rfl (fun K hK => ?_) (AllReadyH.nil)
      go_simp
      refine (HX2.out _ _ s2_5).mono ?_
      rintro e w_6 ⟨rfl, bel_6⟩
      have s1_6 := s1_5.below bel_6 s1_5.lt
      have s2_6 := s2_5.below bel_6 s2_5.lt
      have b_6 := below_step b_5 bel_6
      go_wp2_with fail
      refine hK.out _ _ (keep.out b_6) (fun hHeld => ?_)
      clear hK K
      try dsimp only [Act.put]
      refine wpAnyH_ready (rs := [11]) (by kernel_rfl) (by simp) ?_
      refine AllReadyH.cons rfl (fun K hK => ?_) (AllReadyH.nil)
      rw [if_pos (by rfl)]
      have res := kR.out b_6
      refine wp_store_blk rfl 50 _ _ rfl (w.heap.size + 1 + 1) rfl rfl res (by rw [hzm]; kernel_rfl) (by rw [hzm]; exact zerosOf_length _ _) (allOne_bytes _) ?_
      have res2 := Blk.setRow res (z.map byte)
      have bq : Below w.heap.size V _ := below_setRow' (g := w.heap.size + 1 + 1) (b_6.mono hwV) (by omega) (z.map byte).toArray
      have kp : _ ∧ _ ∧ _ := keepS.out b_6
      refine hK.out _ _ kp (fun hHeld => ?_)
      clear hK K
      try dsimp only [Act.put]
      refine wpAnyH_done (by kernel_rfl) ?_ _
      go_wp2_with fail
      exact bodyPost_ret (v := .agg (z.map byte).toArray) (results_blk Try.results73 _ _ rfl res2 Try.underlying50 rfl (by rw [hzm]; kernel_rfl)) rfl ⟨rfl, bV.trans bq⟩
    · rw [if_pos (by rfl)]
      refine wp_build2 (some 20) rfl 58 _ _ rfl 50 8 _ (r.map byte) (b.map byte) rfl rfl Try.underlying58 Try.zero50 hrm hbm (by omega) (by omega) ?_
      try dsimp only [Act.put]
      obtain ⟨w_8, hw_8⟩ : ∃ x, x = World.alloc V (.cells (r.map byte ++ b.map byte).toArray 50) := ⟨_, rfl⟩
      have bel_8 : Below V.heap.size V w_8 := by rw [hw_8]; exact below_new _ _
      have s1_8 : Blk w_8 V.heap.size 50 (r.map byte ++ b.map byte) := by rw [hw_8]; exact Blk.new _ _ _
      have le_s1_8 := b_0.size
      have lt_s1_8 := s1_8.lt
      have b_8 := below_step b_0 bel_8
      rw [← hw_8]
      clear hw_8
      refine hK.out _ _ (keep.out b_8) (fun hHeld => ?_)
      clear hK K
      try dsimp only [Act.put]
      refine wpAnyH_ready (rs := [2]) (by kernel_rfl) (by simp) ?_
      refine AllReadyH.cons rfl (fun K hK => ?_) (AllReadyH.nil)
      go_simp
      refine (newDes_any a S _ hal).mono ?_
      rintro e w_9 ⟨rfl, bel_9⟩
      have s1_9 := s1_8.below bel_9 s1_8.lt
      have b_9 := below_step b_8 bel_9
      go_wp2_with fail
      refine hK.out _ _ (keep.out b_9) (fun hHeld => ?_)
      clear hK K
      try dsimp only [Act.put]
      refine wpAnyH_ready (rs := [6]) (by kernel_rfl) (by simp) ?_
      refine AllReadyH.cons rfl (fun K hK => ?_) (AllReadyH.nil)
      go_simp
      refine (HX1.out _ _ s1_9).mono ?_
      rintro e w_10 ⟨rfl, bel_10⟩
      have s1_10 := s1_9.below bel_10 s1_9.lt
      have b_10 := below_step b_9 bel_10
      go_wp2_with fail
      refine hK.out _ _ (keep.out b_10) (fun hHeld => ?_)
      clear hK K
      try dsimp only [Act.put]
      refine wpAnyH_ready (rs := [7]) (by kernel_rfl) (by simp) ?_
      refine AllReadyH.cons rfl (fun K hK => ?_) (AllReadyH.nil)
      go_simp
      refine (HE.out _ (boxes.out b_10)).mono ?_
      rintro e w_11 ⟨rfl, bel_11⟩
      have s1_11 := s1_10.below bel_11 s1_10.lt
      have b_11 := below_step b_10 bel_11
      go_wp2_with fail
      refine hK.out _ _ (keep.out b_11) (fun hHeld => ?_)
      clear hK K
      try dsimp only [Act.put]
      refine wpAnyH_ready (rs := [9]) (by kernel_rfl) (by simp) ?_
      refine AllReadyH.cons rfl (fun K hK => ?_) (AllReadyH.nil)
      rw [if_pos (by rfl)]
      refine wp_build2 (some 24) rfl 58 _ _ rfl 50 8 _ (y.map byte) (b.map byte) rfl rfl Try.underlying58 Try.zero50 hym hbm (by omega) (by omega) ?_
      try dsimp only [Act.put]
      obtain ⟨w_12, hw_12⟩ : ∃ x, x = World.alloc w_11 (.cells (y.map byte ++ b.map byte).toArray 50) := ⟨_, rfl⟩
      have bel_12 : Below w_11.heap.size w_11 w_12 := by rw [hw_12]; exact below_new _ _
      have s2_12 : Blk w_12 w_11.heap.size 50 (y.map byte ++ b.map byte) := by rw [hw_12]; exact Blk.new _ _ _
      have le_s2_12 := b_11.size
      have lt_s2_12 := s2_12.lt
      have s1_12 := s1_11.below bel_12 s1_11.lt
      have b_12 := below_step b_11 bel_12
      rw [← hw_12]
      clear hw_12
      refine hK.out _ _ (keep.out b_12) (fun hHeld => ?_)
      clear hK K
      try dsimp only [Act.put]
      refine wpAnyH_ready (rs := [10]) (by kernel_rfl) (by simp) ?_
      refine AllReadyH.cons rfl (fun K hK => ?_) (AllReadyH.nil)
      go_simp
      refine (HX2.out _ _ s2_12).mono ?_
      rintro e w_13 ⟨rfl, bel_13⟩
      have s1_13 := s1_12.below bel_13 s1_12.lt
      have s2_13 := s2_12.below bel_13 s2_12.lt
      have b_13 := below_step b_12 bel_13
      go_wp2_with fail
      refine hK.out _ _ (keep.out b_13) (fun hHeld => ?_)
      clear hK K
      try dsimp only [Act.put]
      refine wpAnyH_ready (rs := [11]) (by kernel_rfl) (by simp) ?_
      refine AllReadyH.cons rfl (fun K hK => ?_) (AllReadyH.nil)
      rw [if_pos (by rfl)]
      have res := kR.out b_13
      refine wp_store_blk rfl 50 _ _ rfl (w.heap.size + 1 + 1) rfl rfl res (by rw [hzm]; kernel_rfl) (by rw [hzm]; exact zerosOf_length _ _) (allOne_bytes _) ?_
      have res2 := Blk.setRow res (z.map byte)
      have bq : Below w.heap.size V _ := below_setRow' (g := w.heap.size + 1 + 1) (b_13.mono hwV) (by omega) (z.map byte).toArray
      have kp : _ ∧ _ ∧ _ := keepS.out b_13
      refine hK.out _ _ kp (fun hHeld => ?_)
      clear hK K
      try dsimp only [Act.put]
      refine wpAnyH_done (by kernel_rfl) ?_ _
      go_wp2_with fail
      exact bodyPost_ret (v := .agg (z.map byte).toArray) (results_blk Try.results73 _ _ rfl res2 Try.underlying50 rfl (by rw [hzm]; kernel_rfl)) rfl ⟨rfl, bV.trans bq⟩
end Go.Proofs.Ythjnalbgnjbdnaa
