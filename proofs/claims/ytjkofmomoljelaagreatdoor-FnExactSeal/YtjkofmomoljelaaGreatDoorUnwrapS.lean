/-
  spec.Unwrap at every argument.
-/
import Derived.Test.YtjkofmomoljelaaGreatDoorUnwrapI
import Derived.Lib.SlBytesConst
namespace Go.Proofs.YtjkofmomoljelaaGreatDoor
open Go.RowKit

abbrev oneOp : List Value := [.int .i64 1, .int .i64 0, .int .i64 0, .slice none 0 0]
set_option maxRecDepth 100000 in
set_option maxHeartbeats 2000000 in
theorem unwrapS_len (n m : Nat) (am ab : Option Addr) (cm cb : Nat) (w : World) (hn : n ≤ 1048576) (h : ¬ (n = 16 ∧ m = 36)) :
    Calls Tryz.prog 87 #[.slice am n cm, .slice ab m cb] w fun e w' => e = .returned (.agg oneOp.toArray) ∧ Below w.heap.size w w' := by
  have hz := (zero_of_info Tryz.zeroOp).1
  have hb2 : Below w.heap.size w ((w.alloc (.cells oneOp.toArray 139)).alloc (.cells oneOp.toArray 139)) := ((Below.refl _ w).alloc (Nat.le_refl _) _).alloc (by simp) _
  have hk2 : Blk ((w.alloc (.cells oneOp.toArray 139)).alloc (.cells oneOp.toArray 139)) w.heap.size 139 oneOp := (Blk.new w _ _).alloc _
  by_cases h1 : n = 16
  · have h2 : ¬ m = 36 := fun h2 => h ⟨h1, h2⟩
    subst h1
    go_enter Tryz.func87, Tryz.ntmps87
    go_wp2_with fail
    exact bodyPost_ret (v := .agg oneOp.toArray) (results_blk Tryz.results87 _ _ rfl hk2 Tryz.underlying139 rfl (by kernel_rfl)) rfl ⟨rfl, hb2⟩
  · go_enter Tryz.func87, Tryz.ntmps87
    go_wp2_with fail
    exact bodyPost_ret (v := .agg oneOp.toArray) (results_blk Tryz.results87 _ _ rfl hk2 Tryz.underlying139 rfl (by kernel_rfl)) rfl ⟨rfl, hb2⟩

set_option maxRecDepth 100000 in
set_option maxHeartbeats 4000000 in
theorem unwrapS_main (master block : List UInt8) (am : Option Addr) (cm bb bo cb : Nat) (w : World) (hm : master.length = 16) (hbl : block.length = 36) (hcb : 36 ≤ cb) (rm : RowAt w am master) (rb : RowAt w (some ⟨bb, bo, none⟩) block) :
    Calls Tryz.prog 87 #[.slice am 16 cm, .slice (some ⟨bb, bo, none⟩) 36 cb] w fun e w' =>
      ((e = .returned (.agg oneOp.toArray) ∧ headOK block = false) ∨
       (e = .returned (.agg #[.int .i64 2, .int .i64 0, .int .i64 0, .slice none 0 0]) ∧ headOK block = true ∧ tagOK master block = false) ∨
       (∃ g, e = .returned (.agg #[.int .i64 0, .int .i64 (uOf block : Nat), .int .i64 (gOf block : Nat), .slice (some ⟨g, 0, none⟩) 16 16]) ∧ w.heap.size < g ∧ Blk w' g 5 ((unkeyN master block).map byte) ∧ headOK block = true ∧ tagOK master block = true)) ∧ Below w.heap.size w w' := by
  have hz := (zero_of_info Tryz.zeroOp).1
  have hzk := (zero_of_info Tryz.zeroKI).1
  have rcell : ∀ j, j < 36 → w.cell? ⟨bb, bo + j, none⟩ = some (.int .u8 ((block.getD j 0).toNat : Int)) := by
    intro j hj
    obtain ⟨b', o', e, hc⟩ := rb.at (k := j) (by omega)
    cases e
    exact hc j (by omega)
  have r0 := rcell 0 (by omega)
  have r1 := rcell 1 (by omega)
  have r2 := rcell 2 (by omega)
  have r3 := rcell 3 (by omega)
  rw [Nat.add_zero] at r0
  have lb0 : bb < w.heap.size := World.block_lt_of_cell? w _ r1
  have HHd : Hid (headOK block = (decide ((block.getD 0 0).toNat = 75) && decide ((block.getD 3 0).toNat = 16) && (decide (1 ≤ (block.getD 1 0).toNat) && decide ((block.getD 1 0).toNat ≤ 3)))) := rfl
  have hEl : (sealK master).length = 16 := cmacN_length master [69] hm
  have hDl : (block.drop 20).length = 16 := by rw [List.length_drop, hbl]
  have hE4l : ((block.drop 4).take 16).length = 16 := by rw [List.length_take, List.length_drop, hbl]; rfl
  have hrb : w.rangeAt bb bo (block.map byte) := by obtain ⟨b', o', e, h⟩ := rb.range (by omega); cases e; exact h
  have rD : RowAt w (some ⟨bb, bo + 20, none⟩) (block.drop 20) := by have h := range_part' hrb 20 16; rw [List.take_of_length_le (by omega)] at h; exact row_of h
  have rE4 : RowAt w (some ⟨bb, bo + 4, none⟩) ((block.drop 4).take 16) := row_of (range_part' hrb 4 16)
  have HC1 := hide (fun (c : Nat) (g : Nat) (wx : World) (h1 : RowAt wx am master) (h2 : RowAt wx (some ⟨g, 0, none⟩) [69]) => cmac_spec master [69] am (some ⟨g, 0, none⟩) cm c wx hm (by simp) h1 h2)
  have hE2 : cmacN master [69] = sealK master := rfl
  rw [hE2] at HC1
  have hWl := wrapN_length master (unkeyN master block) (uOf block) (gOf block) hm
  have HTG : Hid (tagOK master block = decide (wrapN master (unkeyN master block) (uOf block) (gOf block) = block)) := rfl
  have hgen : (block.getD 2 0).toNat ≤ 255 := by have := UInt8.toNat_lt (block.getD 2 0); omega
  have hUk : unkeyN master block = xorL (aesN (sealK master) (block.drop 20) true) ((block.drop 4).take 16) := rfl
  show Calls Tryz.prog 87 _ w fun e w' =>
      ((e = .returned (.agg oneOp.toArray) ∧ headOK block = false) ∨
       (e = .returned (.agg #[.int .i64 2, .int .i64 0, .int .i64 0, .slice none 0 0]) ∧ headOK block = true ∧ tagOK master block = false) ∨
       (∃ g, e = .returned (.agg #[.int .i64 0, .int .i64 (((block.getD 1 0).toNat : Nat) : Int), .int .i64 (((block.getD 2 0).toNat : Nat) : Int), .slice (some ⟨g, 0, none⟩) 16 16]) ∧ w.heap.size < g ∧ Blk w' g 5 ((unkeyN master block).map byte) ∧ headOK block = true ∧ tagOK master block = true)) ∧ Below w.heap.size w w'
  change (wrapN master (unkeyN master block) (block.getD 1 0).toNat (block.getD 2 0).toNat).length = 36 at hWl
  change Hid (tagOK master block = decide (wrapN master (unkeyN master block) (block.getD 1 0).toNat (block.getD 2 0).toNat = block)) at HTG
  have l0 := UInt8.toNat_lt (block.getD 0 0)
  have l1 := UInt8.toNat_lt (block.getD 1 0)
  have l3 := UInt8.toNat_lt (block.getD 3 0)
  obtain ⟨y0, hy0⟩ : ∃ y, y = (block.getD 0 0).toNat := ⟨_, rfl⟩
  obtain ⟨y1, hy1⟩ : ∃ y, y = (block.getD 1 0).toNat := ⟨_, rfl⟩
  obtain ⟨y2, hy2⟩ : ∃ y, y = (block.getD 2 0).toNat := ⟨_, rfl⟩
  obtain ⟨y3, hy3⟩ : ∃ y, y = (block.getD 3 0).toNat := ⟨_, rfl⟩
  rw [← hy0] at r0 HHd l0
  rw [← hy1] at r1 HHd hWl HTG l1 ⊢
  rw [← hy2] at r2 hgen hWl HTG ⊢
  rw [← hy3] at r3 HHd l3
  clear hy0 hy1 hy2 hy3 rcell
  obtain ⟨E, hE⟩ : ∃ E, E = sealK master := ⟨_, rfl⟩
  rw [← hE] at HC1 hEl hUk
  obtain ⟨D, hD⟩ : ∃ D, D = block.drop 20 := ⟨_, rfl⟩
  obtain ⟨E4, hE4⟩ : ∃ D, D = (block.drop 4).take 16 := ⟨_, rfl⟩
  rw [← hD] at hDl rD hUk
  rw [← hE4] at hE4l rE4 hUk
  have HD := hide (fun (g c c2 : Nat) (wx : World) (h1 : RowAt wx (some ⟨g, 0, none⟩) E) (h2 : RowAt wx (some ⟨bb, bo + 20, none⟩) D) => aesD_spec E D (some ⟨g, 0, none⟩) bb (bo + 20) c c2 wx hEl hDl h1 h2)
  have hMl := aesN_length E D true hEl
  have hM2 : decL (keyR E) D = aesN E D true := rfl
  rw [hM2] at HD
  obtain ⟨M, hM⟩ : ∃ M, M = aesN E D true := ⟨_, rfl⟩
  rw [← hM] at HD hMl hUk
  have HX := hide (fun (c : Nat) (gM cM : Nat) (wx : World) (h1 : RowAt wx (some ⟨gM, 0, none⟩) M) (h2 : RowAt wx (some ⟨bb, bo + 4, none⟩) E4) => xor16s M E4 gM 0 cM bb (bo + 4) c wx hMl hE4l h1 h2)
  have hXl : (xorL M E4).length = 16 := by rw [xorL_length _ _ (by omega), hMl]
  rw [← hUk] at HX hXl
  obtain ⟨X, hX⟩ : ∃ X, X = unkeyN master block := ⟨_, rfl⟩
  rw [← hX] at HX hXl hWl HTG ⊢
  have HWr := hide (fun (q1 : 1 ≤ y1) (q2 : y1 ≤ 3) (yb : Nat) (wx : World) (h1 : RowAt wx am master) (h2 : RowAt wx (some ⟨yb, 0, none⟩) X) => wrapS_some master X y1 y2 cm yb 0 16 am wx hm hXl q1 q2 hgen h1 h2)
  obtain ⟨WN, hWN⟩ : ∃ x, x = wrapN master X y1 y2 := ⟨_, rfl⟩
  rw [← hWN] at HWr hWl HTG
  have HCV := hide (fun (wx : World) (h : RowAt wx (some ⟨bb, bo, none⟩) block) => conv_any block (some ⟨bb, bo, none⟩) 36 cb wx hbl h)
  have HCW := hide (fun (ao : Option Addr) (c : Nat) (wx : World) (h : RowAt wx ao WN) => conv_any WN ao 36 c wx hWl h)
  have HBQ := hide (beq_rows WN block)
  obtain ⟨ys, hys⟩ : ∃ x : ByteArray, x = ⟨block.toArray⟩ := ⟨_, rfl⟩
  obtain ⟨xs, hxs⟩ : ∃ x : ByteArray, x = ⟨WN.toArray⟩ := ⟨_, rfl⟩
  rw [← hys] at HCV HBQ
  rw [← hxs] at HCW HBQ
  have hXm : (X.map byte).length = 16 := by rw [List.length_map, hXl]
  clear hE hD hE4 hM hX hWN hUk hE2 hM2 hrb hys hxs
  obtain ⟨W, hW⟩ : ∃ W, W = (w.alloc (.cells zeroOp.toArray 139)).alloc (.cells oneOp.toArray 139) := ⟨_, rfl⟩
  have kW : Blk W w.heap.size 139 zeroOp := by rw [hW]; exact (Blk.new w _ _).alloc _
  have k1W : Blk W (w.heap.size + 1) 139 oneOp := by rw [hW]; exact Blk.new2 w _ _ _
  have bW : Below w.heap.size w W := by rw [hW]; exact ((Below.refl _ w).alloc (Nat.le_refl _) _).alloc (by simp) _
  have lW := k1W.lt
  have HK : Hid (∀ {x}, Below W.heap.size W x → Blk x w.heap.size 139 zeroOp ∧ Blk x (w.heap.size + 1) 139 oneOp ∧ (x.cell? ⟨bb, bo + 1, none⟩ = some (.int .u8 (y1 : Int)) ∧ x.cell? ⟨bb, bo + 2, none⟩ = some (.int .u8 (y2 : Int))) ∧ RowAt x am master ∧ RowAt x (some ⟨bb, bo, none⟩) block ∧ RowAt x (some ⟨bb, bo + 20, none⟩) D ∧ RowAt x (some ⟨bb, bo + 4, none⟩) E4 ∧ Below w.heap.size w x) := by
    intro x hx
    have hb : Below w.heap.size w x := bW.trans (hx.mono bW.size)
    exact ⟨kW.below hx kW.lt, k1W.below hx k1W.lt, ⟨(hb.cell (p := ⟨bb, bo + 1, none⟩) lb0).trans r1, (hb.cell (p := ⟨bb, bo + 2, none⟩) lb0).trans r2⟩, rm.below hb, rb.below hb, rD.below hb, rE4.below hb, hb⟩
  have bWW : Below W.heap.size W W := Below.refl _ _
  have c0 := (bW.cell (p := ⟨bb, bo, none⟩) lb0).trans r0
  have c3 := (bW.cell (p := ⟨bb, bo + 3, none⟩) lb0).trans r3
  rw [hW] at c0 c3
  have HW := hide hW
  have hk2 : Blk ((w.alloc (.cells oneOp.toArray 139)).alloc (.cells oneOp.toArray 139)) w.heap.size 139 oneOp := (Blk.new w _ _).alloc _
  have hb2 : Below w.heap.size w ((w.alloc (.cells oneOp.toArray 139)).alloc (.cells oneOp.toArray 139)) := ((Below.refl _ w).alloc (Nat.le_refl _) _).alloc (by simp) _
  have HKB : Hid (Blk ((w.alloc (.cells oneOp.toArray 139)).alloc (.cells oneOp.toArray 139)) w.heap.size 139 oneOp ∧ Below w.heap.size w ((w.alloc (.cells oneOp.toArray 139)).alloc (.cells oneOp.toArray 139))) := ⟨hk2, hb2⟩
  clear hW r0 r1 r2 r3 rD rE4 rm rb kW k1W bW hk2 hb2
  by_cases q0 : y0 = 75
  · have q0b : ((y0 : Int) != 75) = false := by rw [bne_eq_false_iff_eq]; omega
    by_cases q3 : y3 = 16
    · have q3b : ((y3 : Int) != 16) = false := by rw [bne_eq_false_iff_eq]; omega
      rw [decide_eq_true q0, decide_eq_true q3, Bool.true_and, Bool.true_and] at HHd
      clear HKB q0 q3
      have hwy1 : IntKind.i64.wrap (y1 : Int) = (y1 : Int) := by rw [IntKind.wrap_i64]; omega
      have hwy2 : IntKind.i64.wrap (y2 : Int) = (y2 : Int) := by rw [IntKind.wrap_i64]; omega
      have hc20 : (20 : Int) ≤ (cb : Int) := by omega
      have hc36 : (36 : Int) ≤ (cb : Int) := by omega
      have hn20 : ¬ cb = 20 := by omega
      have hn4 : ¬ cb = 4 := by omega
      go_enter Tryz.func87, Tryz.ntmps87
      go_upto_region 4 with fail
      rw [← show W = _ from HW]
      clear c0 c3 HW q0b q3b
      go_cut [6] (fun p wx => ∃ G, p = .pointer (some ⟨G, 0, none⟩) ∧ W.heap.size ≤ G ∧ Blk wx G 26 [.int .i64 (y1 : Int), .int .i64 (y2 : Int), .slice none 0 0] ∧ Below W.heap.size W wx)
      case first =>
        obtain ⟨V, hV⟩ : ∃ V, V = World.drew W := ⟨_, rfl⟩
        have b_0 : Below W.heap.size W V := by rw [hV]; exact bWW.drew
        have hWV := b_0.size
        have keep : Hid (∀ {x}, Below W.heap.size W x → x.cell? ⟨bb, bo + 1, none⟩ = some (.int .u8 (y1 : Int)) ∧ x.cell? ⟨bb, bo + 2, none⟩ = some (.int .u8 (y2 : Int))) := fun h => (HK.out h).2.2.1
        refine wp_region_held_drew (S := fun x => x.cell? ⟨bb, bo + 1, none⟩ = some (.int .u8 (y1 : Int)) ∧ x.cell? ⟨bb, bo + 2, none⟩ = some (.int .u8 (y2 : Int))) (by kernel_rfl) (by rw [← hV]; exact keep.out b_0) (fun hHeld => ?_)
        rw [← hV] at hHeld ⊢
        clear hV
        refine wpAnyH_take (i := 0) (v := (.slice (some ⟨bb, bo, none⟩) 36 cb)) rfl (by kernel_rfl) (by kernel_rfl) (by kernel_rfl) (fun _ _ _ h => h) (Or.inl ⟨by rfl, ?_⟩) hHeld ?_
        · intro _ _; go_simp
        dsimp only [Act.put, List.getElem_toArray, List.getElem_cons_zero, List.getElem_cons_succ]
        simp only [List.setIfInBounds_toArray, List.set_cons_succ, List.set_cons_zero]
        refine wpAnyH_take (i := 1) (v := (.pointer (some ⟨bb, bo + 1, none⟩))) rfl (by kernel_rfl) (by kernel_rfl) (by kernel_rfl) (fun _ _ _ h => h) (Or.inl ⟨by rfl, ?_⟩) hHeld ?_
        · intro _ _; go_simp
        dsimp only [Act.put, List.getElem_toArray, List.getElem_cons_zero, List.getElem_cons_succ]
        simp only [List.setIfInBounds_toArray, List.set_cons_succ, List.set_cons_zero]
        refine wpAnyH_take (i := 2) (v := (.int .u8 (y1 : Int))) rfl (by kernel_rfl) (by kernel_rfl) (by kernel_rfl) (fun _ _ _ h => h) (Or.inl ⟨by rfl, fun w1 h => by have hc := h.1; go_simp⟩) hHeld ?_
        dsimp only [Act.put, List.getElem_toArray, List.getElem_cons_zero, List.getElem_cons_succ]
        simp only [List.setIfInBounds_toArray, List.set_cons_succ, List.set_cons_zero]
        refine wpAnyH_take (i := 3) (v := (.int .i64 (y1 : Int))) rfl (by kernel_rfl) (by kernel_rfl) (by kernel_rfl) (fun _ _ _ h => h) (Or.inl ⟨by rfl, ?_⟩) hHeld ?_
        · intro _ _; go_simp
        dsimp only [Act.put, List.getElem_toArray, List.getElem_cons_zero, List.getElem_cons_succ]
        simp only [List.setIfInBounds_toArray, List.set_cons_succ, List.set_cons_zero]
        refine wpAnyH_take (i := 4) (v := (.slice (some ⟨bb, bo, none⟩) 36 cb)) rfl (by kernel_rfl) (by kernel_rfl) (by kernel_rfl) (fun _ _ _ h => h) (Or.inl ⟨by rfl, ?_⟩) hHeld ?_
        · intro _ _; go_simp
        dsimp only [Act.put, List.getElem_toArray, List.getElem_cons_zero, List.getElem_cons_succ]
        simp only [List.setIfInBounds_toArray, List.set_cons_succ, List.set_cons_zero]
        refine wpAnyH_take (i := 5) (v := (.pointer (some ⟨bb, bo + 2, none⟩))) rfl (by kernel_rfl) (by kernel_rfl) (by kernel_rfl) (fun _ _ _ h => h) (Or.inl ⟨by rfl, ?_⟩) hHeld ?_
        · intro _ _; go_simp
        dsimp only [Act.put, List.getElem_toArray, List.getElem_cons_zero, List.getElem_cons_succ]
        simp only [List.setIfInBounds_toArray, List.set_cons_succ, List.set_cons_zero]
        refine wpAnyH_take (i := 6) (v := (.int .u8 (y2 : Int))) rfl (by kernel_rfl) (by kernel_rfl) (by kernel_rfl) (fun _ _ _ h => h) (Or.inl ⟨by rfl, fun w1 h => by have hc := h.2; go_simp⟩) hHeld ?_
        dsimp only [Act.put, List.getElem_toArray, List.getElem_cons_zero, List.getElem_cons_succ]
        simp only [List.setIfInBounds_toArray, List.set_cons_succ, List.set_cons_zero]
        refine wpAnyH_take (i := 7) (v := (.int .i64 (y2 : Int))) rfl (by kernel_rfl) (by kernel_rfl) (by kernel_rfl) (fun _ _ _ h => h) (Or.inl ⟨by rfl, ?_⟩) hHeld ?_
        · intro _ _; go_simp
        dsimp only [Act.put, List.getElem_toArray, List.getElem_cons_zero, List.getElem_cons_succ]
        simp only [List.setIfInBounds_toArray, List.set_cons_succ, List.set_cons_zero]
        refine wpAnyH_take (i := 8) (v := (.agg ([.int .i64 (y1 : Int), .int .i64 (y2 : Int), .slice none 0 0] : List Value).toArray)) rfl (by kernel_rfl) (by kernel_rfl) (by kernel_rfl) (fun _ _ _ h => h) (Or.inl ⟨by rfl, fun w1 h => by go_simp⟩) hHeld ?_
        dsimp only [Act.put, List.getElem_toArray, List.getElem_cons_zero, List.getElem_cons_succ]
        simp only [List.setIfInBounds_toArray, List.set_cons_succ, List.set_cons_zero]
        refine wpAnyH_ready (rs := [9]) (by kernel_rfl) (by simp) ?_
        refine AllReadyH.cons rfl (fun K hK => ?_) (AllReadyH.nil)
        go_simp
        obtain ⟨w_1, hw_1⟩ : ∃ x, x = World.alloc V (.cells (zeroKI).toArray 26) := ⟨_, rfl⟩
        have bel_1 : Below V.heap.size V w_1 := by rw [hw_1]; exact below_new _ _
        have G_1 : Blk w_1 V.heap.size 26 (zeroKI) := by rw [hw_1]; exact Blk.new _ _ _
        have le_G_1 := b_0.size
        have lt_G_1 := G_1.lt
        have b_1 := below_step b_0 bel_1
        rw [← hw_1]
        clear hw_1
        refine hK.out _ _ (keep.out b_1) (fun hHeld => ?_)
        clear hK K
        try dsimp only [Act.put]
        refine wpAnyH_ready (rs := [10]) (by kernel_rfl) (by simp) ?_
        refine AllReadyH.cons rfl (fun K hK => ?_) (AllReadyH.nil)
        rw [if_pos (by rfl)]
        refine wp_store_blk rfl 26 _ _ rfl V.heap.size rfl rfl G_1 (by kernel_rfl) rfl (by kernel_rfl) ?_
        have G_2 := Blk.setRow G_1 ([.int .i64 (y1 : Int), .int .i64 (y2 : Int), .slice none 0 0])
        have b_2 := below_setRow' (g := V.heap.size) b_1 le_G_1 ([.int .i64 (y1 : Int), .int .i64 (y2 : Int), .slice none 0 0]).toArray
        refine hK.out _ _ (keep.out b_2) (fun hHeld => ?_)
        clear hK K
        try dsimp only [Act.put]
        refine wpAnyH_done (by kernel_rfl) ?_ _
        go_wp2_with fail
        go_meet
        case rel => exact ⟨_, rfl, by omega, G_2, b_2⟩
      case rest =>
        obtain ⟨GK, rfl, lGK, kK, bc⟩ := hcut
        have cK0 := kK.cell 0 (by simp)
        by_cases qu : 1 ≤ y1 ∧ y1 ≤ 3
        · obtain ⟨q1, q2⟩ := qu
          rw [decide_eq_true q1, decide_eq_true q2] at HHd
          have hu0 : ¬ ((y1 : Int) < 1) := by omega
          have hu4 : ¬ ((3 : Int) < (y1 : Int)) := by omega
          go_upto_region 7 with fail
          clear cK0
          obtain ⟨V, hV⟩ : ∃ V, V = World.drew wc := ⟨_, rfl⟩
          have bV : Below W.heap.size W V := by rw [hV]; exact bc.drew
          have kKV : Blk V GK 26 [.int .i64 (y1 : Int), .int .i64 (y2 : Int), .slice none 0 0] := by rw [hV]; exact kK.drew1
          have hWV := bV.size
          have b_0 : Below V.heap.size V V := Below.refl _ _
          have rmV : Hid (∀ {x}, Below V.heap.size V x → RowAt x am master) := fun h => (HK.out bV).2.2.2.1.below h
          have rDV : Hid (∀ {x}, Below V.heap.size V x → RowAt x (some ⟨bb, bo + 20, none⟩) D) := fun h => (HK.out bV).2.2.2.2.2.1.below h
          have rEV : Hid (∀ {x}, Below V.heap.size V x → RowAt x (some ⟨bb, bo + 4, none⟩) E4) := fun h => (HK.out bV).2.2.2.2.2.2.1.below h
          have keep : Hid (∀ {P : Prop}, P → True) := fun _ => trivial
          have kc := fun (w : World) (C : Array Value) (n c : Nat) => Lib.run_convert_bytes_const (P := Tryz.prog) w 22 5 C n c Tryz.underlying22 Tryz.underlying5
          refine wp_region_held_drew (S := fun _ => True) (by kernel_rfl) trivial (fun hHeld => ?_)
          rw [← hV]
          clear hV kK bc
          refine wpAnyH_take (i := 0) (v := (.slice am 16 cm)) rfl (by kernel_rfl) (by kernel_rfl) (by kernel_rfl) (fun _ _ _ h => h) (Or.inl ⟨by rfl, ?_⟩) hHeld ?_
          · intro _ _; go_simp
          dsimp only [Act.put, List.getElem_toArray, List.getElem_cons_zero, List.getElem_cons_succ]
          simp only [List.setIfInBounds_toArray, List.set_cons_succ, List.set_cons_zero]
          refine wpAnyH_take (i := 4) (v := (.slice (some ⟨bb, bo, none⟩) 36 cb)) rfl (by kernel_rfl) (by kernel_rfl) (by kernel_rfl) (fun _ _ _ h => h) (Or.inl ⟨by rfl, ?_⟩) hHeld ?_
          · intro _ _; go_simp
          dsimp only [Act.put, List.getElem_toArray, List.getElem_cons_zero, List.getElem_cons_succ]
          simp only [List.setIfInBounds_toArray, List.set_cons_succ, List.set_cons_zero]
          refine wpAnyH_take (i := 5) (v := (.slice (some ⟨bb, bo + 20, none⟩) 16 (cb - 20))) rfl (by kernel_rfl) (by kernel_rfl) (by kernel_rfl) (fun _ _ _ h => h) (Or.inl ⟨by rfl, ?_⟩) hHeld ?_
          · intro _ _; go_simp
          dsimp only [Act.put, List.getElem_toArray, List.getElem_cons_zero, List.getElem_cons_succ]
          simp only [List.setIfInBounds_toArray, List.set_cons_succ, List.set_cons_zero]
          refine wpAnyH_take (i := 7) (v := (.slice (some ⟨bb, bo, none⟩) 36 cb)) rfl (by kernel_rfl) (by kernel_rfl) (by kernel_rfl) (fun _ _ _ h => h) (Or.inl ⟨by rfl, ?_⟩) hHeld ?_
          · intro _ _; go_simp
          dsimp only [Act.put, List.getElem_toArray, List.getElem_cons_zero, List.getElem_cons_succ]
          simp only [List.setIfInBounds_toArray, List.set_cons_succ, List.set_cons_zero]
          refine wpAnyH_take (i := 8) (v := (.slice (some ⟨bb, bo + 4, none⟩) 16 (cb - 4))) rfl (by kernel_rfl) (by kernel_rfl) (by kernel_rfl) (fun _ _ _ h => h) (Or.inl ⟨by rfl, ?_⟩) hHeld ?_
          · intro _ _; go_simp
          dsimp only [Act.put, List.getElem_toArray, List.getElem_cons_zero, List.getElem_cons_succ]
          simp only [List.setIfInBounds_toArray, List.set_cons_succ, List.set_cons_zero]
          refine wpAnyH_ready (rs := [1]) (by kernel_rfl) (by simp) ?_
          refine AllReadyH.cons rfl (fun K hK => ?_) (AllReadyH.nil)
          go_simp
          have b_1 : Below V.heap.size V (World.alloc V (.cells #[.int .u8 69] 5)) := below_new _ _
          refine hK.out _ _ (keep.out b_1) (fun hHeld => ?_)
          clear hK K
          try dsimp only [Act.put]
          refine wpAnyH_ready (rs := [2]) (by kernel_rfl) (by simp) ?_
          refine AllReadyH.cons rfl (fun K hK => ?_) (AllReadyH.nil)
          go_simp
          obtain ⟨w_2, hw_2⟩ : ∃ x, x = World.alloc V (.cells #[.int .u8 69] 5 (1, 2)) := ⟨_, rfl⟩
          have r69 : RowAt w_2 (some ⟨V.heap.size, 0, none⟩) [69] := by rw [hw_2]; exact row_marked V [69] _ _
          have b_2 : Below V.heap.size V w_2 := by rw [hw_2]; exact below_new _ _
          rw [← hw_2]
          clear hw_2
          refine hK.out _ _ (keep.out b_2) (fun hHeld => ?_)
          clear hK K
          try dsimp only [Act.put]
          refine wpAnyH_ready (rs := [3]) (by kernel_rfl) (by simp) ?_
          refine AllReadyH.cons rfl (fun K hK => ?_) (AllReadyH.nil)
          go_simp
          refine (HC1.out 1 _ _ (rmV.out b_2) r69).mono ?_
          rintro e w_3 ⟨v_3, rfl, own_3, bel_3⟩
          have b_3 := below_step b_2 bel_3
          obtain ⟨gE, cE, -, rfl, rE⟩ := own_at own_3 hEl (by omega)
          clear own_3
          go_wp2_with fail
          refine hK.out _ _ (keep.out b_3) (fun hHeld => ?_)
          clear hK K
          try dsimp only [Act.put]
          refine wpAnyH_ready (rs := [6]) (by kernel_rfl) (by simp) ?_
          refine AllReadyH.cons rfl (fun K hK => ?_) (AllReadyH.nil)
          go_simp
          refine (HD.out _ _ _ _ rE (rDV.out b_3)).mono ?_
          rintro e w_4 ⟨v_4, rfl, own_4, bel_4⟩
          have b_4 := below_step b_3 bel_4
          obtain ⟨gM, cM, -, rfl, rM⟩ := own_at own_4 hMl (by omega)
          clear own_4
          go_wp2_with fail
          refine hK.out _ _ (keep.out b_4) (fun hHeld => ?_)
          clear hK K
          try dsimp only [Act.put]
          refine wpAnyH_ready (rs := [9]) (by kernel_rfl) (by simp) ?_
          refine AllReadyH.cons rfl (fun K hK => ?_) (AllReadyH.nil)
          go_simp
          refine (HX.out _ _ _ _ rM (rEV.out b_4)).mono ?_
          rintro e w_5 ⟨rfl, x_5, bel_5⟩
          have b_5 := below_step b_4 bel_5
          have kX := x_5
          go_wp2_with fail
          refine hK.out _ _ (keep.out b_5) (fun hHeld => ?_)
          clear hK K
          try dsimp only [Act.put]
          refine wpAnyH_take (i := 10) (v := (.pointer (some ⟨GK, 2, none⟩))) rfl (by kernel_rfl) (by kernel_rfl) (by kernel_rfl) (fun _ _ _ h => h) (Or.inl ⟨by rfl, ?_⟩) hHeld ?_
          · intro _ _; go_simp
          dsimp only [Act.put, List.getElem_toArray, List.getElem_cons_zero, List.getElem_cons_succ]
          simp only [List.setIfInBounds_toArray, List.set_cons_succ, List.set_cons_zero]
          refine wpAnyH_ready (rs := [11]) (by kernel_rfl) (by simp) ?_
          refine AllReadyH.cons rfl (fun K hK => ?_) (AllReadyH.nil)
          have kz := kKV.below b_5 kKV.lt
          obtain ⟨GX, hGX⟩ : ∃ x, x = w_4.heap.size := ⟨_, rfl⟩
          have lX : V.heap.size ≤ GX := by rw [hGX]; exact b_4.size
          rw [← hGX] at kX ⊢
          have cz := kz.cell 2 (by simp)
          have fz := kz.free 2
          clear hGX
          go_simp
          refine hK.out _ _ (keep.out trivial) (fun hHeld => ?_)
          clear hK K
          try dsimp only [Act.put]
          refine wpAnyH_done (by kernel_rfl) ?_ _
          go_upto_region 8 with fail
          obtain ⟨w6, hw6⟩ : ∃ x, x = World.setCell w_5 ⟨GK, 2, none⟩ (.slice (some ⟨GX, 0, none⟩) 16 16) := ⟨_, rfl⟩
          rw [← hw6]
          have hGV := kKV.lt
          have hne : GX ≠ GK := by omega
          have kK6 : Blk w6 GK 26 [.int .i64 (y1 : Int), .int .i64 (y2 : Int), .slice (some ⟨GX, 0, none⟩) 16 16] := by rw [hw6]; exact kz.set 2 _
          have kX6 : Blk w6 GX 5 (X.map byte) := by rw [hw6]; exact kX.other _ _ hne
          have b6 : Below W.heap.size W w6 := by rw [hw6]; exact (bV.trans (b_5.mono hWV)).setCell (p := ⟨GK, 2, none⟩) lGK _
          clear hw6 kz kX b_5 b_4 b_3 b_2 b_1 b_0 bel_3 bel_4 bel_5 cz fz rE rM r69 x_5 hHeld keep rmV rDV rEV kKV bV kc
          by_cases heq : WN = block
          · have HTag : Hid (tagOK master block = true) := by show _ = _; rw [HTG.out]; exact decide_eq_true heq
            have e6 : (xs.toList == ys.toList) = true := by rw [HBQ.out]; exact decide_eq_true heq
            have e7 : (xs.toList != ys.toList) = false := by rw [bne, e6]; rfl
            clear heq
            obtain ⟨V2, hV2⟩ : ∃ V, V = World.drew w6 := ⟨_, rfl⟩
            have bV2 : Below W.heap.size W V2 := by rw [hV2]; exact b6.drew
            have kKV2 : Blk V2 GK 26 [.int .i64 (y1 : Int), .int .i64 (y2 : Int), .slice (some ⟨GX, 0, none⟩) 16 16] := by rw [hV2]; exact kK6.drew1
            have kXV2 : Blk V2 GX 5 (X.map byte) := by rw [hV2]; exact kX6.drew1
            have hWV2 := bV2.size
            have b_0 : Below V2.heap.size V2 V2 := Below.refl _ _
            have keep : Hid (∀ {x}, Below V2.heap.size V2 x → x.rangeAt GK 0 [.int .i64 (y1 : Int), .int .i64 (y2 : Int), .slice (some ⟨GX, 0, none⟩) 16 16] ∧ RowAt x (some ⟨bb, bo, none⟩) block) := fun h => ⟨blk_whole (kKV2.below h kKV2.lt), (HK.out (bV2.trans (h.mono hWV2))).2.2.2.2.1⟩
            refine wp_region_held_drew (S := fun x => x.rangeAt GK 0 [.int .i64 (y1 : Int), .int .i64 (y2 : Int), .slice (some ⟨GX, 0, none⟩) 16 16] ∧ RowAt x (some ⟨bb, bo, none⟩) block) (by kernel_rfl) (by rw [← hV2]; exact keep.out b_0) (fun hHeld => ?_)
            rw [← hV2] at hHeld ⊢
            clear hV2 kK6 kX6 b6
            refine wpAnyH_take (i := 0) (v := (.slice am 16 cm)) rfl (by kernel_rfl) (by kernel_rfl) (by kernel_rfl) (fun _ _ _ h => h) (Or.inl ⟨by rfl, ?_⟩) hHeld ?_
            · intro _ _; go_simp
            dsimp only [Act.put, List.getElem_toArray, List.getElem_cons_zero, List.getElem_cons_succ]
            simp only [List.setIfInBounds_toArray, List.set_cons_succ, List.set_cons_zero]
            refine wpAnyH_take (i := 1) (v := (.agg ([.int .i64 (y1 : Int), .int .i64 (y2 : Int), .slice (some ⟨GX, 0, none⟩) 16 16] : List Value).toArray)) rfl (by kernel_rfl) (by kernel_rfl) (by kernel_rfl) (fun _ _ _ h => h) (yieldsIf_load_mid (by rfl) 26 _ rfl GK 0 rfl [.int .i64 (y1 : Int), .int .i64 (y2 : Int), .slice (some ⟨GX, 0, none⟩) 16 16] _ (fun _ h => h.1) Tryz.underlying26 rfl (by kernel_rfl)) hHeld ?_
            dsimp only [Act.put, List.getElem_toArray, List.getElem_cons_zero, List.getElem_cons_succ]
            simp only [List.setIfInBounds_toArray, List.set_cons_succ, List.set_cons_zero]
            refine wpAnyH_take (i := 4) (v := (.slice (some ⟨bb, bo, none⟩) 36 cb)) rfl (by kernel_rfl) (by kernel_rfl) (by kernel_rfl) (fun _ _ _ h => h) (Or.inl ⟨by rfl, ?_⟩) hHeld ?_
            · intro _ _; go_simp
            dsimp only [Act.put, List.getElem_toArray, List.getElem_cons_zero, List.getElem_cons_succ]
            simp only [List.setIfInBounds_toArray, List.set_cons_succ, List.set_cons_zero]
            refine wpAnyH_take (i := 5) (v := (.string ys)) rfl (by kernel_rfl) (by kernel_rfl) (by kernel_rfl) (fun _ _ _ h => h) (Or.inl ⟨by rfl, fun w1 h => by have hc := HCV.out w1 h.2; go_simp⟩) hHeld ?_
            dsimp only [Act.put, List.getElem_toArray, List.getElem_cons_zero, List.getElem_cons_succ]
            simp only [List.setIfInBounds_toArray, List.set_cons_succ, List.set_cons_zero]
            refine wpAnyH_ready (rs := [2]) (by kernel_rfl) (by simp) ?_
            refine AllReadyH.cons rfl (fun K hK => ?_) (AllReadyH.nil)
            go_simp
            refine (HWr.out q1 q2 _ _ (HK.out (bV2.trans (b_0.mono hWV2))).2.2.2.1 (rowAt_block (kXV2.below b_0 kXV2.lt))).mono ?_
            rintro e w_1 ⟨v_1, rfl, own_1, bel_1⟩
            have b_1 := below_step b_0 bel_1
            obtain ⟨aW, cW, rfl, rW, -⟩ := own_1.shape
            rw [hWl]
            clear own_1
            have kX1 := kXV2.below b_1 kXV2.lt
            have kK1 := kKV2.below b_1 kKV2.lt
            go_wp2_with fail
            refine hK.out _ _ (keep.out b_1) (fun hHeld => ?_)
            clear hK K
            try dsimp only [Act.put]
            refine wpAnyH_ready (rs := [3]) (by kernel_rfl) (by simp) ?_
            refine AllReadyH.cons rfl (fun K hK => ?_) (AllReadyH.nil)
            have e3 := HCW.out _ cW _ rW
            go_simp
            refine hK.out _ _ (keep.out b_1) (fun hHeld => ?_)
            clear hK K
            try dsimp only [Act.put]
            refine wpAnyH_ready (rs := [6]) (by kernel_rfl) (by simp) ?_
            refine AllReadyH.cons rfl (fun K hK => ?_) (AllReadyH.nil)
            go_simp
            refine hK.out _ _ (keep.out b_1) (fun hHeld => ?_)
            clear hK K
            try dsimp only [Act.put]
            refine wpAnyH_done (by kernel_rfl) ?_ _
            obtain ⟨h1, -, -, -, -, -, -, hb0⟩ := HK.out (bV2.trans (b_1.mono hWV2))
            clear hHeld keep
            go_wp2_with (first
              | (refine load_blk rfl 26 _ rfl GK rfl kK1 Tryz.underlying26 rfl (by kernel_rfl) ?_)
              | (refine store_blk rfl 139 _ _ rfl w.heap.size rfl rfl h1 (by kernel_rfl) rfl (by kernel_rfl) ?_; intro w7 hb7 hg7 hs7))
            exact ⟨rfl, _, results_blk Tryz.results87 _ _ rfl hb7 Tryz.underlying139 rfl (by kernel_rfl), ⟨.inr (.inr ⟨GX, rfl, by omega, kX1.grown hg7 (by simp; omega), HHd.out, HTag.out⟩), hb0.grown hg7 hb0.size (by intro k hk; cases hk; exact Nat.le_refl _)⟩⟩
          · have HTag : Hid (tagOK master block = false) := by show _ = _; rw [HTG.out]; exact decide_eq_false heq
            have e6 : (xs.toList == ys.toList) = false := by rw [HBQ.out]; exact decide_eq_false heq
            have e7 : (xs.toList != ys.toList) = true := by rw [bne, e6]; rfl
            clear heq
            obtain ⟨V2, hV2⟩ : ∃ V, V = World.drew w6 := ⟨_, rfl⟩
            have bV2 : Below W.heap.size W V2 := by rw [hV2]; exact b6.drew
            have kKV2 : Blk V2 GK 26 [.int .i64 (y1 : Int), .int .i64 (y2 : Int), .slice (some ⟨GX, 0, none⟩) 16 16] := by rw [hV2]; exact kK6.drew1
            have kXV2 : Blk V2 GX 5 (X.map byte) := by rw [hV2]; exact kX6.drew1
            have hWV2 := bV2.size
            have b_0 : Below V2.heap.size V2 V2 := Below.refl _ _
            have keep : Hid (∀ {x}, Below V2.heap.size V2 x → x.rangeAt GK 0 [.int .i64 (y1 : Int), .int .i64 (y2 : Int), .slice (some ⟨GX, 0, none⟩) 16 16] ∧ RowAt x (some ⟨bb, bo, none⟩) block) := fun h => ⟨blk_whole (kKV2.below h kKV2.lt), (HK.out (bV2.trans (h.mono hWV2))).2.2.2.2.1⟩
            refine wp_region_held_drew (S := fun x => x.rangeAt GK 0 [.int .i64 (y1 : Int), .int .i64 (y2 : Int), .slice (some ⟨GX, 0, none⟩) 16 16] ∧ RowAt x (some ⟨bb, bo, none⟩) block) (by kernel_rfl) (by rw [← hV2]; exact keep.out b_0) (fun hHeld => ?_)
            rw [← hV2] at hHeld ⊢
            clear hV2 kK6 kX6 b6
            refine wpAnyH_take (i := 0) (v := (.slice am 16 cm)) rfl (by kernel_rfl) (by kernel_rfl) (by kernel_rfl) (fun _ _ _ h => h) (Or.inl ⟨by rfl, ?_⟩) hHeld ?_
            · intro _ _; go_simp
            dsimp only [Act.put, List.getElem_toArray, List.getElem_cons_zero, List.getElem_cons_succ]
            simp only [List.setIfInBounds_toArray, List.set_cons_succ, List.set_cons_zero]
            refine wpAnyH_take (i := 1) (v := (.agg ([.int .i64 (y1 : Int), .int .i64 (y2 : Int), .slice (some ⟨GX, 0, none⟩) 16 16] : List Value).toArray)) rfl (by kernel_rfl) (by kernel_rfl) (by kernel_rfl) (fun _ _ _ h => h) (yieldsIf_load_mid (by rfl) 26 _ rfl GK 0 rfl [.int .i64 (y1 : Int), .int .i64 (y2 : Int), .slice (some ⟨GX, 0, none⟩) 16 16] _ (fun _ h => h.1) Tryz.underlying26 rfl (by kernel_rfl)) hHeld ?_
            dsimp only [Act.put, List.getElem_toArray, List.getElem_cons_zero, List.getElem_cons_succ]
            simp only [List.setIfInBounds_toArray, List.set_cons_succ, List.set_cons_zero]
            refine wpAnyH_take (i := 4) (v := (.slice (some ⟨bb, bo, none⟩) 36 cb)) rfl (by kernel_rfl) (by kernel_rfl) (by kernel_rfl) (fun _ _ _ h => h) (Or.inl ⟨by rfl, ?_⟩) hHeld ?_
            · intro _ _; go_simp
            dsimp only [Act.put, List.getElem_toArray, List.getElem_cons_zero, List.getElem_cons_succ]
            simp only [List.setIfInBounds_toArray, List.set_cons_succ, List.set_cons_zero]
            refine wpAnyH_take (i := 5) (v := (.string ys)) rfl (by kernel_rfl) (by kernel_rfl) (by kernel_rfl) (fun _ _ _ h => h) (Or.inl ⟨by rfl, fun w1 h => by have hc := HCV.out w1 h.2; go_simp⟩) hHeld ?_
            dsimp only [Act.put, List.getElem_toArray, List.getElem_cons_zero, List.getElem_cons_succ]
            simp only [List.setIfInBounds_toArray, List.set_cons_succ, List.set_cons_zero]
            refine wpAnyH_ready (rs := [2]) (by kernel_rfl) (by simp) ?_
            refine AllReadyH.cons rfl (fun K hK => ?_) (AllReadyH.nil)
            go_simp
            refine (HWr.out q1 q2 _ _ (HK.out (bV2.trans (b_0.mono hWV2))).2.2.2.1 (rowAt_block (kXV2.below b_0 kXV2.lt))).mono ?_
            rintro e w_1 ⟨v_1, rfl, own_1, bel_1⟩
            have b_1 := below_step b_0 bel_1
            obtain ⟨aW, cW, rfl, rW, -⟩ := own_1.shape
            rw [hWl]
            clear own_1
            have kX1 := kXV2.below b_1 kXV2.lt
            have kK1 := kKV2.below b_1 kKV2.lt
            go_wp2_with fail
            refine hK.out _ _ (keep.out b_1) (fun hHeld => ?_)
            clear hK K
            try dsimp only [Act.put]
            refine wpAnyH_ready (rs := [3]) (by kernel_rfl) (by simp) ?_
            refine AllReadyH.cons rfl (fun K hK => ?_) (AllReadyH.nil)
            have e3 := HCW.out _ cW _ rW
            go_simp
            refine hK.out _ _ (keep.out b_1) (fun hHeld => ?_)
            clear hK K
            try dsimp only [Act.put]
            refine wpAnyH_ready (rs := [6]) (by kernel_rfl) (by simp) ?_
            refine AllReadyH.cons rfl (fun K hK => ?_) (AllReadyH.nil)
            go_simp
            refine hK.out _ _ (keep.out b_1) (fun hHeld => ?_)
            clear hK K
            try dsimp only [Act.put]
            refine wpAnyH_done (by kernel_rfl) ?_ _
            obtain ⟨h1, -, -, -, -, -, -, hb0⟩ := HK.out (bV2.trans (b_1.mono hWV2))
            clear hHeld keep
            go_wp2_with (refine store_blk rfl 139 _ _ rfl w.heap.size rfl rfl h1 (by kernel_rfl) rfl (by kernel_rfl) ?_; intro w7 hb7 hg7 hs7)
            exact ⟨rfl, _, results_blk Tryz.results87 _ _ rfl hb7 Tryz.underlying139 rfl (by kernel_rfl), ⟨.inr (.inl ⟨rfl, HHd.out, HTag.out⟩), hb0.grown hg7 hb0.size (by intro k hk; cases hk; exact Nat.le_refl _)⟩⟩
        · have hu : (decide (1 ≤ y1) && decide (y1 ≤ 3)) = false := by
            rw [← Bool.decide_and, decide_eq_false_iff_not]
            exact qu
          rw [hu] at HHd
          obtain ⟨h1, h2, -, -, -, -, -, hb0⟩ := HK.out bc
          clear hu kK bc
          by_cases q1 : (y1 : Int) < 1
          · go_wp2_with (first
              | (refine load_blk rfl 139 _ rfl (w.heap.size + 1) rfl h2 Tryz.underlying139 rfl (by kernel_rfl) ?_)
              | (refine store_blk rfl 139 _ _ rfl w.heap.size rfl rfl h1 (by kernel_rfl) rfl (by kernel_rfl) ?_; intro w7 hb7 hg7 hs7))
            exact ⟨rfl, _, results_blk Tryz.results87 _ _ rfl hb7 Tryz.underlying139 rfl (by kernel_rfl), ⟨.inl ⟨rfl, HHd.out⟩, hb0.grown hg7 hb0.size (by intro k hk; cases hk; exact Nat.le_refl _)⟩⟩
          · have q2 : (3 : Int) < (y1 : Int) := by omega
            go_wp2_with (first
              | (refine load_blk rfl 139 _ rfl (w.heap.size + 1) rfl h2 Tryz.underlying139 rfl (by kernel_rfl) ?_)
              | (refine store_blk rfl 139 _ _ rfl w.heap.size rfl rfl h1 (by kernel_rfl) rfl (by kernel_rfl) ?_; intro w7 hb7 hg7 hs7))
            exact ⟨rfl, _, results_blk Tryz.results87 _ _ rfl hb7 Tryz.underlying139 rfl (by kernel_rfl), ⟨.inl ⟨rfl, HHd.out⟩, hb0.grown hg7 hb0.size (by intro k hk; cases hk; exact Nat.le_refl _)⟩⟩
    · have q3b : ((y3 : Int) != 16) = true := by rw [bne_iff_ne]; omega
      rw [decide_eq_false q3, Bool.and_false, Bool.false_and] at HHd
      clear q0 q3 HW
      go_enter Tryz.func87, Tryz.ntmps87
      go_wp2_with fail
      exact bodyPost_ret (v := .agg oneOp.toArray) (results_blk Tryz.results87 _ _ rfl HKB.out.1 Tryz.underlying139 rfl (by kernel_rfl)) rfl ⟨.inl ⟨rfl, HHd.out⟩, HKB.out.2⟩
  · have q0b : ((y0 : Int) != 75) = true := by rw [bne_iff_ne]; omega
    rw [decide_eq_false q0, Bool.false_and, Bool.false_and] at HHd
    clear q0 HW
    go_enter Tryz.func87, Tryz.ntmps87
    go_wp2_with fail
    exact bodyPost_ret (v := .agg oneOp.toArray) (results_blk Tryz.results87 _ _ rfl HKB.out.1 Tryz.underlying139 rfl (by kernel_rfl)) rfl ⟨.inl ⟨rfl, HHd.out⟩, HKB.out.2⟩
end Go.Proofs.YtjkofmomoljelaaGreatDoor
