/-
  impl: the method encrypt of an aesCipher.
-/
import Derived.Test.YthjnalbgnjbdnaaAesNew
namespace Go.Proofs.Ythjnalbgnjbdnaa
open Go.RowKit

theorem wpList_bld2 {P : Program} {ops : Array Oper} {rest : List Oper} {op : Oper} {a : Act} {w : World} {Q : Exit → Act → World → Prop} (hgd : op.guard = none) (t : TypeId) (x y : Operand) (ho : op.op = .buildSlice t 2 #[(0, x), (1, y)]) (e N : Nat) (z : Value) (A B : List Value) (hx : a.eval x = .agg A.toArray) (hy : a.eval y = .agg B.toArray)
    (ht : P.underlying t = some (.slice e)) (hz : (P.info? e).map (fun i => (i.zero, i.size)) = some (some z, N)) (hA : A.length = N) (hB : B.length = N) (h0 : 0 < N) (hN : N ≤ 1048576)
    (h : wpList P ops Q rest (a.put op.dst (.slice (some ⟨w.heap.size, 0, none⟩) 2 2)) (w.alloc (.cells (A ++ B).toArray e))) : wpList P ops Q (op :: rest) a w :=
  wpList_plain hgd fun _ hK => wp_build2 op.dst rfl t x y ho e N z A B hx hy ht hz hA hB h0 hN (hK _ _ h)
theorem aes_range {w : World} {g t S1 S2 S3 S4 : Nat} {key : List UInt8} (hk : key.length = 16) (h : Blk w g t (aesCells ((keysUpto key 11).map byte) S1 S2 S3 S4)) (r : Nat) (hr : r < 11) : w.rangeAt g (r * 16) ((keyR key r).map byte) := by
  intro i v hv
  have hl := keyR_length key hk r
  have hi : i < 16 := by have := (List.getElem?_eq_some_iff.1 hv).1; simpa [hl] using this
  have hkl := keysUpto_length key hk 11
  rw [h.cell (r * 16 + i) (by rw [aesCells_length _ _ _ _ _ (by rw [List.length_map, hkl])]; omega), ← List.getElem?_eq_getElem, ← hv]
  unfold aesCells
  rw [List.getElem?_append_left (by rw [List.length_map, hkl]; omega), List.getElem?_map, keysUpto_get key hk 11 _ (by omega), show (r * 16 + i) / 16 = r from by omega, show (r * 16 + i) % 16 = i from by omega]
  have : i < (keyR key r).length := by omega
  simp [this]
theorem aes_func {w : World} {g t S1 S2 S3 S4 : Nat} {ks : List Value} (hk : ks.length = 176) (h : Blk w g t (aesCells ks S1 S2 S3 S4)) (j : Nat) (hj : j < 4) : w.cell? ⟨g, 176 + j, none⟩ = [fnS S1, fnS S2, fnM S3, fnM S4][j]? := by
  rw [h.cell (176 + j) (by rw [aesCells_length _ _ _ _ _ hk]; omega), ← List.getElem?_eq_getElem]
  unfold aesCells
  rw [List.getElem?_append_right (by omega), hk, show 176 + j - 176 = j from by omega]
theorem aes_funcs {w : World} {g t S1 S2 S3 S4 : Nat} {ks : List Value} (hk : ks.length = 176) (h : Blk w g t (aesCells ks S1 S2 S3 S4)) :
    w.cell? ⟨g, 176, none⟩ = some (.func (.func 124) #[] #[.pointer (some ⟨S1, 0, none⟩)]) ∧ w.cell? ⟨g, 177, none⟩ = some (.func (.func 124) #[] #[.pointer (some ⟨S2, 0, none⟩)]) ∧ w.cell? ⟨g, 178, none⟩ = some (.func (.func 125) #[] #[.pointer (some ⟨S3, 0, none⟩)]) ∧ w.cell? ⟨g, 179, none⟩ = some (.func (.func 125) #[] #[.pointer (some ⟨S4, 0, none⟩)]) :=
  ⟨aes_func hk h 0 (by omega), aes_func hk h 1 (by omega), aes_func hk h 2 (by omega), aes_func hk h 3 (by omega)⟩
theorem xor16_let (A B : List UInt8) (hA : A.length = 16) (hB : B.length = 16) : (xorL A B).length = 16 := by rw [xorL_length _ _ (by omega), hA]

set_option maxRecDepth 100000 in
set_option maxHeartbeats 4000000 in
theorem aes_encrypt (key block : List UInt8) (S1 S2 S3 S4 : Nat) (w : World) (hk : key.length = 16) (hb : block.length = 16) (h1 : Blk w S1 103 (subTab.map byte)) (h3 : Blk w S3 109 (tabCells mixT)) :
    Calls Try.prog 87 #[.agg (aesCells ((keysUpto key 11).map byte) S1 S2 S3 S4).toArray, .agg (block.map byte).toArray] w fun e w' => e = .returned (.agg ((encL (keyR key) block).map byte).toArray) ∧ Below w.heap.size w w' := by
  have hz := (zero_of_info Try.z16).1
  have hbm : (block.map byte).length = 16 := by rw [List.length_map, hb]
  have HKl := hid_of' (fun r => keyR_length key hk r)
  have hks : ((keysUpto key 11).map byte).length = 176 := by rw [List.length_map, keysUpto_length key hk]
  have hcl := aesCells_length ((keysUpto key 11).map byte) S1 S2 S3 S4 hks
  have HR := hid_of' (fun (wx : World) (h : Blk wx w.heap.size 86 (aesCells ((keysUpto key 11).map byte) S1 S2 S3 S4)) (r : Nat) (hr : r < 11) => aes_range hk h r hr)
  have HF := hid_of' (fun (wx : World) (h : Blk wx w.heap.size 86 (aesCells ((keysUpto key 11).map byte) S1 S2 S3 S4)) => aes_funcs hks h)
  obtain ⟨CC, hCC⟩ : ∃ l, l = aesCells ((keysUpto key 11).map byte) S1 S2 S3 S4 := ⟨_, rfl⟩
  rw [← hCC] at HR HF hcl ⊢
  clear hCC
  obtain ⟨W, hW⟩ : ∃ W, W = ((w.alloc (.cells CC.toArray 86)).alloc (.cells (block.map byte).toArray 57)).alloc (.cells (zerosOf 16 .u8).toArray 57) := ⟨_, rfl⟩
  have C0 : Blk W w.heap.size 86 CC := by rw [hW]; exact ((Blk.new w _ _).alloc _).alloc _
  have C1 : Blk W (w.heap.size + 1) 57 (block.map byte) := by rw [hW]; exact (Blk.new2 w _ _ _).alloc _
  have C2 : Blk W (w.heap.size + 1 + 1) 57 (zerosOf 16 .u8) := by rw [hW]; exact Blk.newAt _ _ _ _ (by simp)
  have bW : Below w.heap.size w W := by rw [hW]; exact (((Below.refl _ _).alloc (Nat.le_refl _) _).alloc (by simp) _).alloc (by simp; omega) _
  have zW : Hid (W.heap.size = w.heap.size + 1 + 1 + 1) := hid_of' (by rw [hW]; simp)
  have T1 := h1.below bW h1.lt
  have T3 := h3.below bW h3.lt
  have l1 := h1.lt
  have l3 := h3.lt
  have hK0 := HKl.out 0
  have hK0m : ((keyR key 0).map byte).length = 16 := by rw [List.length_map, hK0]
  have r0 := HR.out W C0 0 (by omega)
  have hxl := xor16_let block (keyR key 0) hb hK0
  have hxm : ((xorL block (keyR key 0)).map byte).length = 16 := by rw [List.length_map, hxl]
  have n2 : Blk (W.alloc (.cells (block.map byte ++ (keyR key 0).map byte).toArray 57)) W.heap.size 57 (block.map byte ++ (keyR key 0).map byte) := Blk.new W _ _
  go_enter Try.func87, Try.ntmps87
  go_upto_region 1 with fail
  rw [← hW]
  clear h1 h3 hW
  go_wp2_with (first
    | (refine load_blk rfl 57 _ rfl _ rfl C1 Try.underlying57 rfl (by rw [hbm]; kernel_rfl) ?_)
    | (refine wpList_load_mid rfl 57 _ rfl w.heap.size 0 rfl ((keyR key 0).map byte) _ r0 Try.underlying57 rfl (by rw [hK0m]; kernel_rfl) ?_)
    | (refine wpList_bld2 rfl 99 _ _ rfl 57 16 _ (block.map byte) ((keyR key 0).map byte) rfl rfl Try.underlying99 Try.z16 hbm hK0m (by omega) (by omega) ?_)
    | (go_at_call 68; refine (xor16_two block (keyR key 0) _ _ _ _ hb hK0 n2).mono ?_; rintro e w3 ⟨rfl, bel3⟩)
    | (refine store_blk rfl 57 _ _ rfl _ rfl rfl (Blk.new w3 _ _) (by rw [hxm]; kernel_rfl) (by rw [zerosOf_length, hxm]) (allOne_bytes _) ?_; intro w4 hb4 hg4 hs4))
  have z3 := bel3.size
  simp only [World.size_alloc] at z3
  have b3 : Below W.heap.size W w4 := ((((Below.refl _ W).alloc (Nat.le_refl _) _).trans (bel3.mono (by simp))).alloc (by omega) _).grown hg4 (by simp; omega) (by intro k hk; cases hk; omega)
  obtain ⟨St, hSt⟩ : ∃ n, n = w3.heap.size := ⟨_, rfl⟩
  rw [← hSt] at hb4 z3 ⊢
  have q0 := C0.below b3 C0.lt
  have q2 := C2.below b3 C2.lt
  have q1 := T1.below b3 T1.lt
  have q3 := T3.below b3 T3.lt
  have qb := bW.trans (b3.mono bW.size)
  have hSt3 : w.heap.size + 3 ≤ St := by have := zW.out; omega
  have ne1 : ¬ S1 = St := by have := T1.lt; omega
  have ne3 : ¬ S3 = St := by have := T3.lt; omega
  clear hg4 hs4 hSt bel3 C0 C1 C2 T1 T3 bW b3 n2 r0 z3 zW hxl hxm
  go_wp2_with fail
  go_loopw [6] (fun i wr => ∃ k : Nat, k ≤ 9 ∧ i = .int .i64 ((k + 1 : Nat) : Int) ∧ Blk wr St 57 ((encGo (keyR key) block k).map byte) ∧ Blk wr w.heap.size 86 CC ∧ Blk wr (w.heap.size + 1 + 1) 57 (zerosOf 16 .u8) ∧ Blk wr S1 103 (subTab.map byte) ∧ Blk wr S3 109 (tabCells mixT) ∧ Below w.heap.size w wr) (fun i _ => 11 - (intOf i).toNat)
  case atStart => exact ⟨0, by omega, rfl, hb4, q0, q2, q1, q3, qb⟩
  case round =>
    clear hb4 q0 q2 q1 q3 qb
    obtain ⟨k, hk9, rfl, kS, kC, kR, k1, k3, hbel⟩ := hrel
    have hPl := encGo_length (keyR key) block hb HKl.out k
    have zb := hbel.size
    by_cases hlt : k < 9
    · obtain ⟨r, hr, HRk⟩ : ∃ r : Nat, k + 1 = r ∧ Hid (r = k + 1) := ⟨_, rfl, rfl⟩
      rw [hr]
      have hrI : (r : Int) < 10 := by omega
      have hrJ : (r : Int) < 11 := by omega
      have hr11 : r < 11 := by omega
      have hKl := HKl.out r
      have HRK := hid_of' (fun (wx : World) (h : Blk wx w.heap.size 86 CC) => HR.out wx h r hr11)
      have HN : Hid (encGo (keyR key) block (k + 1) = xorL (mixCols mixT (turnL 1 (encGo (keyR key) block k))) (keyR key r)) := hid_of' (by rw [HRk.out]; rfl)
      obtain ⟨P, hP⟩ : ∃ P, P = encGo (keyR key) block k := ⟨_, rfl⟩
      obtain ⟨KR, hKR⟩ : ∃ P, P = keyR key r := ⟨_, rfl⟩
      rw [← hP] at kS hPl HN
      rw [← hKR] at hKl HRK HN
      clear hP hKR hr
      have hPm : (P.map byte).length = 16 := by rw [List.length_map, hPl]
      have hKm : (KR.map byte).length = 16 := by rw [List.length_map, hKl]
      have hMm : ((mixCols mixT (turnL 1 P)).map byte).length = 16 := by rw [List.length_map, mixCols_length]
      have hNl := xor16_let (mixCols mixT (turnL 1 P)) KR (mixCols_length _ _) hKl
      have hNm : ((xorL (mixCols mixT (turnL 1 P)) KR).map byte).length = 16 := by rw [List.length_map, hNl]
      have keep : Hid (∀ {w'}, Below wr.heap.size wr w' → w'.cell? ⟨w.heap.size, 178, none⟩ = some (.func (.func 125) #[] #[.pointer (some ⟨S3, 0, none⟩)]) ∧ w'.rangeAt w.heap.size (r * 16) (KR.map byte)) := fun h => ⟨(HF.out _ (kC.below h kC.lt)).2.2.1, HRK.out _ (kC.below h kC.lt)⟩
      go_upto_region 5 with fail
      refine wp_region_held_drew (S := fun w' => w'.cell? ⟨w.heap.size, 178, none⟩ = some (.func (.func 125) #[] #[.pointer (some ⟨S3, 0, none⟩)]) ∧ w'.rangeAt w.heap.size (r * 16) (KR.map byte)) (by kernel_rfl) (keep.out (Below.refl _ _).drew) (fun hHeld => ?_)
      refine wpAnyH_take (i := 0) (v := (.pointer (some ⟨w.heap.size, 178, none⟩))) rfl (by kernel_rfl) (by kernel_rfl) (by kernel_rfl) (fun _ _ _ h => h) (Or.inl ⟨by rfl, ?_⟩) hHeld ?_
      · intro _ _; go_simp
      try dsimp only [Act.put]
      refine wpAnyH_take (i := 1) (v := (.func (.func 125) #[] #[.pointer (some ⟨S3, 0, none⟩)])) rfl (by kernel_rfl) (by kernel_rfl) (by kernel_rfl) (fun _ _ _ h => h) (Or.inl ⟨by rfl, fun w1 h => by have hc := h.1; go_simp⟩) hHeld ?_
      try dsimp only [Act.put]
      refine wpAnyH_take (i := 5) (v := (.int .i64 r)) rfl (by kernel_rfl) (by kernel_rfl) (by kernel_rfl) (fun _ _ _ h => h) (Or.inl ⟨by rfl, ?_⟩) hHeld ?_
      · intro _ _; go_simp
      try dsimp only [Act.put]
      refine wpAnyH_take (i := 6) (v := (.pointer (some ⟨w.heap.size, 0, none⟩))) rfl (by kernel_rfl) (by kernel_rfl) (by kernel_rfl) (fun _ _ _ h => h) (Or.inl ⟨by rfl, ?_⟩) hHeld ?_
      · intro _ _; go_simp
      try dsimp only [Act.put]
      refine wpAnyH_take (i := 7) (v := (.pointer (some ⟨w.heap.size, r * 16, none⟩))) rfl (by kernel_rfl) (by kernel_rfl) (by kernel_rfl) (fun _ _ _ h => h) (Or.inl ⟨by rfl, ?_⟩) hHeld ?_
      · intro _ _; go_simp
      try dsimp only [Act.put]
      refine wpAnyH_take (i := 8) (v := .agg (KR.map byte).toArray) rfl (by kernel_rfl) (by kernel_rfl) (by kernel_rfl) (fun _ _ _ h => h) (yieldsIf_load_mid (by rfl) 57 _ rfl w.heap.size (r * 16) rfl (KR.map byte) _ (fun _ h => h.2) Try.underlying57 rfl (by rw [hKm]; kernel_rfl)) hHeld ?_
      try dsimp only [Act.put]
      refine wpAnyH_ready (rs := [2]) (by kernel_rfl) (by simp) ?_
      refine AllReadyH.cons rfl (fun K hK => ?_) (AllReadyH.nil)
      rw [if_pos (by rfl)]
      dsimp only [Act.put, List.getElem_toArray, List.getElem_cons_zero, List.getElem_cons_succ]
      simp only [List.setIfInBounds_toArray, List.set_cons_succ, List.set_cons_zero]
      have hrg_1 := blk_whole kS.drew1
      refine wp_load_to (some 19) rfl 57 _ rfl St 0 (by kernel_rfl) (P.map byte) _ hrg_1 Try.underlying57 rfl (by rw [hPm]; kernel_rfl) ?_
      refine hK.out _ _ (keep.out (Below.refl wr.heap.size wr).drew) (fun hHeld => ?_)
      clear hK K
      try dsimp only [Act.put]
      refine wpAnyH_ready (rs := [3]) (by kernel_rfl) (by simp) ?_
      refine AllReadyH.cons rfl (fun K hK => ?_) (AllReadyH.nil)
      go_simp
      refine (turnRows_any 1 _ P _ (.inl rfl) rfl hPl).mono ?_
      rintro e w_2 ⟨rfl, bel_2⟩
      have c_2 := kC.drew1.below bel_2 kC.drew1.lt
      have res_2 := kR.drew1.below bel_2 kR.drew1.lt
      have st_2 := kS.drew1.below bel_2 kS.drew1.lt
      have t1_2 := k1.drew1.below bel_2 k1.drew1.lt
      have t3_2 := k3.drew1.below bel_2 k3.drew1.lt
      have b_2 := below_step (Below.refl wr.heap.size wr).drew bel_2
      go_wp2_with fail
      refine hK.out _ _ (keep.out b_2) (fun hHeld => ?_)
      clear hK K
      try dsimp only [Act.put]
      refine wpAnyH_ready (rs := [4]) (by kernel_rfl) (by simp) ?_
      refine AllReadyH.cons rfl (fun K hK => ?_) (AllReadyH.nil)
      go_simp
      refine (mixer_any mixT (turnL 1 P) S3 _ mixT_lt (turnL_length _ _) t3_2).mono ?_
      rintro e w_3 ⟨rfl, bel_3⟩
      have c_3 := c_2.below bel_3 c_2.lt
      have res_3 := res_2.below bel_3 res_2.lt
      have st_3 := st_2.below bel_3 st_2.lt
      have t1_3 := t1_2.below bel_3 t1_2.lt
      have t3_3 := t3_2.below bel_3 t3_2.lt
      have b_3 := below_step b_2 bel_3
      go_wp2_with fail
      refine hK.out _ _ (keep.out b_3) (fun hHeld => ?_)
      clear hK K
      try dsimp only [Act.put]
      refine wpAnyH_ready (rs := [9]) (by kernel_rfl) (by simp) ?_
      refine AllReadyH.cons rfl (fun K hK => ?_) (AllReadyH.nil)
      rw [if_pos (by rfl)]
      try dsimp only [Act.put, List.getElem_toArray, List.getElem_cons_zero, List.getElem_cons_succ]
      try simp only [List.setIfInBounds_toArray, List.set_cons_succ, List.set_cons_zero]
      refine wp_build2 (some 26) rfl 99 _ _ rfl 57 16 _ ((mixCols mixT (turnL 1 P)).map byte) (KR.map byte) (by kernel_rfl) (by kernel_rfl) Try.underlying99 Try.z16 hMm hKm (by omega) (by omega) ?_
      try dsimp only [Act.put]
      obtain ⟨w_4, hw_4⟩ : ∃ x, x = World.alloc w_3 (.cells ((mixCols mixT (turnL 1 P)).map byte ++ KR.map byte).toArray 57) := ⟨_, rfl⟩
      have bel_4 : Below w_3.heap.size w_3 w_4 := by rw [hw_4]; exact below_new _ _
      have two_4 : Blk w_4 w_3.heap.size 57 ((mixCols mixT (turnL 1 P)).map byte ++ KR.map byte) := by rw [hw_4]; exact Blk.new _ _ _
      have le_two_4 := b_3.size
      have lt_two_4 := two_4.lt
      have c_4 := c_3.below bel_4 c_3.lt
      have res_4 := res_3.below bel_4 res_3.lt
      have st_4 := st_3.below bel_4 st_3.lt
      have t1_4 := t1_3.below bel_4 t1_3.lt
      have t3_4 := t3_3.below bel_4 t3_3.lt
      have b_4 := below_step b_3 bel_4
      rw [← hw_4]
      clear hw_4
      refine hK.out _ _ (keep.out b_4) (fun hHeld => ?_)
      clear hK K
      try dsimp only [Act.put]
      refine wpAnyH_ready (rs := [10]) (by kernel_rfl) (by simp) ?_
      refine AllReadyH.cons rfl (fun K hK => ?_) (AllReadyH.nil)
      go_simp
      refine (xor16_two (mixCols mixT (turnL 1 P)) KR _ _ _ _ (mixCols_length _ _) hKl two_4).mono ?_
      rintro e w_5 ⟨rfl, bel_5⟩
      have c_5 := c_4.below bel_5 c_4.lt
      have res_5 := res_4.below bel_5 res_4.lt
      have st_5 := st_4.below bel_5 st_4.lt
      have t1_5 := t1_4.below bel_5 t1_4.lt
      have t3_5 := t3_4.below bel_5 t3_4.lt
      have two_5 := two_4.below bel_5 two_4.lt
      have b_5 := below_step b_4 bel_5
      go_wp2_with fail
      refine hK.out _ _ (keep.out b_5) (fun hHeld => ?_)
      clear hK K
      try dsimp only [Act.put]
      refine wpAnyH_ready (rs := [11]) (by kernel_rfl) (by simp) ?_
      refine AllReadyH.cons rfl (fun K hK => ?_) (AllReadyH.nil)
      rw [if_pos (by rfl)]
      refine wp_store_blk (cs := (xorL (mixCols mixT (turnL 1 P)) KR).map byte) rfl 57 _ _ rfl St (by kernel_rfl) (by kernel_rfl) st_5 (by rw [hNm]; kernel_rfl) (by rw [hNm, hPm]) (allOne_bytes _) ?_
      have st_6 := Blk.setRow st_5 ((xorL (mixCols mixT (turnL 1 P)) KR).map byte)
      have c_6 := Blk.setRow_other (g' := St) (cs := ((xorL (mixCols mixT (turnL 1 P)) KR).map byte).toArray) c_5 (by omega)
      have res_6 := Blk.setRow_other (g' := St) (cs := ((xorL (mixCols mixT (turnL 1 P)) KR).map byte).toArray) res_5 (by omega)
      have t1_6 := Blk.setRow_other (g' := St) (cs := ((xorL (mixCols mixT (turnL 1 P)) KR).map byte).toArray) t1_5 (by omega)
      have t3_6 := Blk.setRow_other (g' := St) (cs := ((xorL (mixCols mixT (turnL 1 P)) KR).map byte).toArray) t3_5 (by omega)
      have bz_6 := below_setRow' (g := St) (hbel.trans (b_5.mono hbel.size)) (by omega) ((xorL (mixCols mixT (turnL 1 P)) KR).map byte).toArray
      refine hK.out _ _ ⟨(HF.out _ c_6).2.2.1, HRK.out _ c_6⟩ (fun hHeld => ?_)
      clear hK K
      try dsimp only [Act.put]
      refine wpAnyH_done (by kernel_rfl) ?_ _
      have hfin : Blk (World.setRow w_5 St ((xorL (mixCols mixT (turnL 1 P)) KR).map byte).toArray) St 57 ((encGo (keyR key) block (k + 1)).map byte) := by rw [HN.out]; exact st_6
      clear hHeld
      go_wp2
      go_roundw
      case rel => exact ⟨k + 1, by omega, by have := HRk.out; go_num, hfin, c_6, res_6, t1_6, t3_6, bz_6⟩
      case measure => have := HRk.out; simp [intOf]; omega
    · obtain rfl : k = 9 := by omega
      have hKl := HKl.out 10
      have HRK := hid_of' (fun (wx : World) (h : Blk wx w.heap.size 86 CC) => HR.out wx h 10 (by omega))
      have HN : Hid (encL (keyR key) block = xorL ((turnL 1 (encGo (keyR key) block 9)).map subB) (keyR key 10)) := hid_of' rfl
      obtain ⟨P, hP⟩ : ∃ P, P = encGo (keyR key) block 9 := ⟨_, rfl⟩
      obtain ⟨KR, hKR⟩ : ∃ P, P = keyR key 10 := ⟨_, rfl⟩
      rw [← hP] at kS hPl HN
      rw [← hKR] at hKl HRK HN
      clear hP hKR
      have hPm : (P.map byte).length = 16 := by rw [List.length_map, hPl]
      have hKm : (KR.map byte).length = 16 := by rw [List.length_map, hKl]
      have hMl : ((turnL 1 P).map subB).length = 16 := by rw [List.length_map, turnL_length]
      have hMm : (((turnL 1 P).map subB).map byte).length = 16 := by rw [List.length_map, hMl]
      have hNl := xor16_let ((turnL 1 P).map subB) KR hMl hKl
      have hNm : ((xorL ((turnL 1 P).map subB) KR).map byte).length = 16 := by rw [List.length_map, hNl]
      have keep : Hid (∀ {w'}, Below wr.heap.size wr w' → w'.cell? ⟨w.heap.size, 176, none⟩ = some (.func (.func 124) #[] #[.pointer (some ⟨S1, 0, none⟩)]) ∧ w'.rangeAt w.heap.size 160 (KR.map byte)) := fun h => ⟨(HF.out _ (kC.below h kC.lt)).1, HRK.out _ (kC.below h kC.lt)⟩
      go_upto_region 6 with fail
      refine wp_region_held_drew (S := fun w' => w'.cell? ⟨w.heap.size, 176, none⟩ = some (.func (.func 124) #[] #[.pointer (some ⟨S1, 0, none⟩)]) ∧ w'.rangeAt w.heap.size 160 (KR.map byte)) (by kernel_rfl) (keep.out (Below.refl _ _).drew) (fun hHeld => ?_)
      refine wpAnyH_take (i := 0) (v := (.pointer (some ⟨w.heap.size, 176, none⟩))) rfl (by kernel_rfl) (by kernel_rfl) (by kernel_rfl) (fun _ _ _ h => h) (Or.inl ⟨by rfl, ?_⟩) hHeld ?_
      · intro _ _; go_simp
      try dsimp only [Act.put]
      refine wpAnyH_take (i := 1) (v := (.func (.func 124) #[] #[.pointer (some ⟨S1, 0, none⟩)])) rfl (by kernel_rfl) (by kernel_rfl) (by kernel_rfl) (fun _ _ _ h => h) (Or.inl ⟨by rfl, fun w1 h => by have hc := h.1; go_simp⟩) hHeld ?_
      try dsimp only [Act.put]
      refine wpAnyH_take (i := 5) (v := (.pointer (some ⟨w.heap.size, 0, none⟩))) rfl (by kernel_rfl) (by kernel_rfl) (by kernel_rfl) (fun _ _ _ h => h) (Or.inl ⟨by rfl, ?_⟩) hHeld ?_
      · intro _ _; go_simp
      try dsimp only [Act.put]
      refine wpAnyH_take (i := 6) (v := (.pointer (some ⟨w.heap.size, 160, none⟩))) rfl (by kernel_rfl) (by kernel_rfl) (by kernel_rfl) (fun _ _ _ h => h) (Or.inl ⟨by rfl, ?_⟩) hHeld ?_
      · intro _ _; go_simp
      try dsimp only [Act.put]
      refine wpAnyH_take (i := 7) (v := .agg (KR.map byte).toArray) rfl (by kernel_rfl) (by kernel_rfl) (by kernel_rfl) (fun _ _ _ h => h) (yieldsIf_load_mid (by rfl) 57 _ rfl w.heap.size 160 rfl (KR.map byte) _ (fun _ h => h.2) Try.underlying57 rfl (by rw [hKm]; kernel_rfl)) hHeld ?_
      try dsimp only [Act.put]
      refine wpAnyH_ready (rs := [2]) (by kernel_rfl) (by simp) ?_
      refine AllReadyH.cons rfl (fun K hK => ?_) (AllReadyH.nil)
      rw [if_pos (by rfl)]
      dsimp only [Act.put, List.getElem_toArray, List.getElem_cons_zero, List.getElem_cons_succ]
      simp only [List.setIfInBounds_toArray, List.set_cons_succ, List.set_cons_zero]
      have hrg_1 := blk_whole kS.drew1
      refine wp_load_to (some 30) rfl 57 _ rfl St 0 (by kernel_rfl) (P.map byte) _ hrg_1 Try.underlying57 rfl (by rw [hPm]; kernel_rfl) ?_
      refine hK.out _ _ (keep.out (Below.refl wr.heap.size wr).drew) (fun hHeld => ?_)
      clear hK K
      try dsimp only [Act.put]
      refine wpAnyH_ready (rs := [3]) (by kernel_rfl) (by simp) ?_
      refine AllReadyH.cons rfl (fun K hK => ?_) (AllReadyH.nil)
      go_simp
      refine (turnRows_any 1 _ P _ (.inl rfl) rfl hPl).mono ?_
      rintro e w_2 ⟨rfl, bel_2⟩
      have c_2 := kC.drew1.below bel_2 kC.drew1.lt
      have res_2 := kR.drew1.below bel_2 kR.drew1.lt
      have st_2 := kS.drew1.below bel_2 kS.drew1.lt
      have t1_2 := k1.drew1.below bel_2 k1.drew1.lt
      have t3_2 := k3.drew1.below bel_2 k3.drew1.lt
      have b_2 := below_step (Below.refl wr.heap.size wr).drew bel_2
      go_wp2_with fail
      refine hK.out _ _ (keep.out b_2) (fun hHeld => ?_)
      clear hK K
      try dsimp only [Act.put]
      refine wpAnyH_ready (rs := [4]) (by kernel_rfl) (by simp) ?_
      refine AllReadyH.cons rfl (fun K hK => ?_) (AllReadyH.nil)
      go_simp
      refine (changer_any subTab (turnL 1 P) S1 _ subTab_length (turnL_length _ _) t1_2).mono ?_
      rintro e w_3 ⟨rfl, bel_3⟩
      have c_3 := c_2.below bel_3 c_2.lt
      have res_3 := res_2.below bel_3 res_2.lt
      have st_3 := st_2.below bel_3 st_2.lt
      have t1_3 := t1_2.below bel_3 t1_2.lt
      have t3_3 := t3_2.below bel_3 t3_2.lt
      have b_3 := below_step b_2 bel_3
      go_wp2_with fail
      refine hK.out _ _ (keep.out b_3) (fun hHeld => ?_)
      clear hK K
      try dsimp only [Act.put]
      refine wpAnyH_ready (rs := [8]) (by kernel_rfl) (by simp) ?_
      refine AllReadyH.cons rfl (fun K hK => ?_) (AllReadyH.nil)
      rw [if_pos (by rfl)]
      try dsimp only [Act.put, List.getElem_toArray, List.getElem_cons_zero, List.getElem_cons_succ]
      try simp only [List.setIfInBounds_toArray, List.set_cons_succ, List.set_cons_zero]
      refine wp_build2 (some 36) rfl 99 _ _ rfl 57 16 _ (((turnL 1 P).map subB).map byte) (KR.map byte) (by kernel_rfl) (by kernel_rfl) Try.underlying99 Try.z16 hMm hKm (by omega) (by omega) ?_
      try dsimp only [Act.put]
      obtain ⟨w_4, hw_4⟩ : ∃ x, x = World.alloc w_3 (.cells (((turnL 1 P).map subB).map byte ++ KR.map byte).toArray 57) := ⟨_, rfl⟩
      have bel_4 : Below w_3.heap.size w_3 w_4 := by rw [hw_4]; exact below_new _ _
      have two_4 : Blk w_4 w_3.heap.size 57 (((turnL 1 P).map subB).map byte ++ KR.map byte) := by rw [hw_4]; exact Blk.new _ _ _
      have le_two_4 := b_3.size
      have lt_two_4 := two_4.lt
      have c_4 := c_3.below bel_4 c_3.lt
      have res_4 := res_3.below bel_4 res_3.lt
      have st_4 := st_3.below bel_4 st_3.lt
      have t1_4 := t1_3.below bel_4 t1_3.lt
      have t3_4 := t3_3.below bel_4 t3_3.lt
      have b_4 := below_step b_3 bel_4
      rw [← hw_4]
      clear hw_4
      refine hK.out _ _ (keep.out b_4) (fun hHeld => ?_)
      clear hK K
      try dsimp only [Act.put]
      refine wpAnyH_ready (rs := [9]) (by kernel_rfl) (by simp) ?_
      refine AllReadyH.cons rfl (fun K hK => ?_) (AllReadyH.nil)
      go_simp
      refine (xor16_two ((turnL 1 P).map subB) KR _ _ _ _ hMl hKl two_4).mono ?_
      rintro e w_5 ⟨rfl, bel_5⟩
      have c_5 := c_4.below bel_5 c_4.lt
      have res_5 := res_4.below bel_5 res_4.lt
      have st_5 := st_4.below bel_5 st_4.lt
      have t1_5 := t1_4.below bel_5 t1_4.lt
      have t3_5 := t3_4.below bel_5 t3_4.lt
      have two_5 := two_4.below bel_5 two_4.lt
      have b_5 := below_step b_4 bel_5
      go_wp2_with fail
      refine hK.out _ _ (keep.out b_5) (fun hHeld => ?_)
      clear hK K
      try dsimp only [Act.put]
      refine wpAnyH_ready (rs := [10]) (by kernel_rfl) (by simp) ?_
      refine AllReadyH.cons rfl (fun K hK => ?_) (AllReadyH.nil)
      rw [if_pos (by rfl)]
      refine wp_store_blk (cs := (xorL ((turnL 1 P).map subB) KR).map byte) rfl 57 _ _ rfl (w.heap.size + 1 + 1) (by kernel_rfl) (by kernel_rfl) res_5 (by rw [hNm]; kernel_rfl) (by rw [hNm, zerosOf_length]) (allOne_bytes _) ?_
      have res_6 := Blk.setRow res_5 ((xorL ((turnL 1 P).map subB) KR).map byte)
      have c_6 := Blk.setRow_other (g' := (w.heap.size + 1 + 1)) (cs := ((xorL ((turnL 1 P).map subB) KR).map byte).toArray) c_5 (by omega)
      have bz_6 := below_setRow' (g := (w.heap.size + 1 + 1)) (hbel.trans (b_5.mono hbel.size)) (by omega) ((xorL ((turnL 1 P).map subB) KR).map byte).toArray
      refine hK.out _ _ ⟨(HF.out _ c_6).1, HRK.out _ c_6⟩ (fun hHeld => ?_)
      clear hK K
      try dsimp only [Act.put]
      refine wpAnyH_done (by kernel_rfl) ?_ _
      go_wp2_with fail
      exact bodyPost_ret (v := .agg ((xorL ((turnL 1 P).map subB) KR).map byte).toArray) (results_blk Try.results87 _ _ rfl res_6 Try.underlying57 rfl (by rw [hNm]; kernel_rfl)) rfl ⟨by rw [HN.out], bz_6⟩
end Go.Proofs.Ythjnalbgnjbdnaa
