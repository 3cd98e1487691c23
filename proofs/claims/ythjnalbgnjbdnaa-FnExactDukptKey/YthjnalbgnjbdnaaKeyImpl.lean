/-
  impl.DukptKey.
-/
import Derived.Test.YthjnalbgnjbdnaaKeyMath
import Derived.WalkMore
namespace Go.Proofs.Ythjnalbgnjbdnaa
open Go.RowKit

/-- The serial number's last eight bytes as a word, its counter and the rest. -/
def serW (ksn : List UInt8) : Nat := wordN (ksn.drop 2)
def keyN16 (bdk ksn : List UInt8) : List UInt8 := walkK (dinitL bdk ksn) (serW ksn / 2097152 * 2097152) (serW ksn % 2097152) 21
theorem keyN16_length (bdk ksn : List UInt8) : (keyN16 bdk ksn).length = 16 := walkK_length _ (dinitL_length _ _) _ _ _
theorem and_low21 (c : Nat) (hc : c < 18446744073709551616) : bits BinOp.and IntKind.u64 (c : Int) 2097151 = ((c % 2097152 : Nat) : Int) := by
  have h := u64_and_nat c 2097151 hc (by omega)
  rw [show (2097151 : Nat) = 2 ^ 21 - 1 from rfl, Nat.and_two_pow_sub_one_eq_mod] at h
  exact h
theorem andNot_low21 (c : Nat) (hc : c < 18446744073709551616) : bits BinOp.andNot IntKind.u64 (c : Int) 2097151 = ((c / 2097152 * 2097152 : Nat) : Int) := by
  have h := u64_andNot_nat c 2097151 hc (by omega)
  rw [show (18446744073709551615 - 2097151 : Nat) = 18446744073707454464 from rfl] at h
  rw [nat_midmask 64 21 c (by decide), Nat.mod_eq_of_lt hc] at h
  exact h

set_option maxRecDepth 100000 in
set_option maxHeartbeats 8000000 in
theorem key_ok (bdk ksn : List UInt8) (ak : Option Addr) (sb so ck cs : Nat) (w : World) (hk : bdk.length = 16) (hs : ksn.length = 10) (hck : 16 ≤ ck) (hcs : 10 ≤ cs) (rk : RowAt w ak bdk) (rs : RowAt w (some ⟨sb, so, none⟩) ksn) :
    Calls Try.prog 34 #[.slice ak 16 ck, .slice (some ⟨sb, so, none⟩) 10 cs] w fun e w' => ∃ v, e = .returned v ∧ Own w' w.heap.size v (keyN16 bdk ksn) ∧ Below w.heap.size w w' := by
  have hz16 := (zero_of_info Try.zero57).1
  have hz := (zero_of_info Try.zero50).1
  have HI : Hid (Calls Try.prog 32 #[.slice ak 16 ck, .slice (some ⟨sb, so, none⟩) 10 cs] w fun e w' => ∃ v, e = .returned v ∧ Own w' w.heap.size v (dinitL bdk ksn) ∧ Below w.heap.size w w') := by
    have := dinit_all bdk ksn ak (some ⟨sb, so, none⟩) ck cs w (by omega) (by omega) (by omega) (by omega) rk rs
    unfold dinitAll at this
    rw [if_pos ⟨hk, hs⟩, hk, hs] at this
    exact this
  have hil := dinitL_length bdk ksn
  have r8 : RowAt w (some ⟨sb, so + 2, none⟩) (ksn.drop 2) := rs.drop 2
  have h8l : (ksn.drop 2).length = 8 := by rw [List.length_drop, hs]
  have HW := hide (fun (wx : World) => wordOf_any (ksn.drop 2) wx h8l)
  have hwl : wordN (ksn.drop 2) < 18446744073709551616 := by have := wordN_lt (ksn.drop 2); rw [h8l] at this; exact this
  have HR8 := hide r8
  obtain ⟨E8, hE8⟩ : ∃ E, E = ksn.drop 2 := ⟨_, rfl⟩
  show Calls Try.prog 34 #[.slice ak 16 ck, .slice (some ⟨sb, so, none⟩) 10 cs] w fun e w' => ∃ v, e = .returned v ∧ Own w' w.heap.size v (walkK (dinitL bdk ksn) (wordN (ksn.drop 2) / 2097152 * 2097152) (wordN (ksn.drop 2) % 2097152) 21) ∧ Below w.heap.size w w'
  rw [← hE8] at HW hwl HR8 h8l ⊢
  clear hE8 r8
  obtain ⟨I0, hI0⟩ : ∃ I, I = dinitL bdk ksn := ⟨_, rfl⟩
  rw [← hI0] at HI hil ⊢
  obtain ⟨ser, hser⟩ : ∃ s, s = wordN E8 := ⟨_, rfl⟩
  rw [← hser] at HW hwl ⊢
  have ha1 := and_low21 ser hwl
  have ha2 := andNot_low21 ser hwl
  have hbase0 : ser / 2097152 * 2097152 % 2097152 = 0 := by omega
  have hcl : ser % 2097152 < 2097152 := by omega
  have hsum : ser / 2097152 * 2097152 + 2097152 ≤ 18446744073709551616 := by omega
  obtain ⟨c, hc⟩ : ∃ c, c = ser % 2097152 := ⟨_, rfl⟩
  obtain ⟨base, hbase⟩ : ∃ b, b = ser / 2097152 * 2097152 := ⟨_, rfl⟩
  rw [← hc] at ha1 hcl ⊢
  rw [← hbase] at ha2 hbase0 hsum ⊢
  clear hI0 hser hc hbase
  have hKl := walkK_length I0 hil base c
  have HKL := hide hKl
  have hIm : (I0.map byte).length = 16 := by rw [List.length_map, hil]
  have hEm : (E8.map byte).length = 8 := by rw [List.length_map, h8l]
  have har2 := fun (cp : Nat) (wx : World) => run_arrayAt (P := Try.prog) (w := wx) 50 5 8 (some ⟨sb, so + 2, none⟩) 8 cp Try.underlying50 (Nat.le_refl _)
  have hcI : (10 : Int) ≤ (cs : Int) := by omega
  have hcI2 : (2 : Int) ≤ (cs : Int) := by omega
  have hcn : ¬ cs = 2 := by omega
  have HREP := hide (fun j hj => walkR_spec base c hcl j hj)
  go_enter Try.func34, Try.ntmps34
  go_wp2_with fail
  go_step3
  go_wp2_with (first
    | (go_at_call 32; refine HI.out.mono ?_; rintro e1 w1 ⟨v1, rfl, own1, bel1⟩; obtain ⟨ao1, c1, hv1, row1, -⟩ := own1.shape; rw [hil] at hv1; subst hv1; obtain ⟨g1, o1, rfl, hr1⟩ := row1.range (by rw [hil]; omega); have har1 := (fun (wx : World) => run_arrayAt (P := Try.prog) (w := wx) 57 5 16 (some ⟨g1, o1, none⟩) 16 c1 Try.underlying57 (Nat.le_refl _)))
    | (refine wpList_load_mid rfl 57 _ rfl g1 o1 rfl (I0.map byte) _ hr1 Try.underlying57 rfl (by rw [hIm]; kernel_rfl) ?_)
    | (refine store_blk rfl 57 _ _ rfl _ rfl rfl (Blk.new w1 _ _) (by rw [hIm]; kernel_rfl) (by rw [hIm]; exact zerosOf_length _ _) (allOne_bytes _) ?_; intro w2 hb2 hg2 hs2; clear hs2; have bel2 : Below w1.heap.size w1 w2 := ((below_new w1 _).grown hg2 (by simp) (by intro k hk; cases hk; exact Nat.le_refl _)); have b2 := below_step bel1 bel2; have hre : w2.rangeAt sb (so + 2) (E8.map byte) := (by obtain ⟨b', o', e', h'⟩ := (HR8.out.below b2).range (by omega); cases e'; exact h'))
    | (refine wpList_load_mid rfl 50 _ rfl sb (so + 2) rfl (E8.map byte) _ hre Try.underlying50 rfl (by rw [hEm]; kernel_rfl) ?_)
    | (go_at_call 72; refine (HW.out _).mono ?_; rintro e3 w3 ⟨rfl, bel3⟩)
    | (go_at_call 53; refine (newRound_any _).mono ?_; rintro e4 w4 ⟨S, rfl, hS1, hS2, bel4⟩))
  go_step3
  go_wp2_with fail
  have bel23 := below_step bel2 (below_step bel3 bel4)
  have b4 := below_step bel1 bel23
  have k6 : Blk w4 w1.heap.size 57 (I0.map byte) := hb2.below (below_step bel3 bel4) hb2.lt
  obtain ⟨K6, hK6⟩ : ∃ K, K = w1.heap.size := ⟨_, rfl⟩
  have lK := k6.lt
  rw [← hK6] at k6 lK ⊢
  have hSK : K6 < S := by have := bel3.size; have := hb2.lt; omega
  have hwK : w.heap.size ≤ K6 := by have := bel1.size; omega
  clear hK6 bel23 bel2 bel3 bel4 bel1 hb2 hg2 own1 row1 hr1 har1 hre b2 HI HW HR8 rk rs har2
  have hml := serialL_length
  have HM0 := serialMask_any
  go_loopw [9, 11, 12, 13] (fun r b _ _ wr => ∃ j : Nat, j ≤ 21 ∧ b = .int .u64 (bitAt j : Nat) ∧ r = .int .u64 (walkR base c j : Nat) ∧ Blk wr K6 57 ((walkK I0 base c j).map byte) ∧ Blk wr S 93 mergedCells ∧ Below w.heap.size w wr) (fun _ b _ _ _ => (intOf b).toNat)
  case atStart => exact ⟨0, by omega, by unfold bitAt; rfl, rfl, k6, hS2, b4⟩
  case round =>
    clear k6 hS2 b4
    obtain ⟨j, hj, rfl, rfl, kk6, kS, hbel⟩ := hrel
    by_cases hlt : j < 21
    · have HBN := hide (bitAt_succ j)
      have hpow := bitAt_pow j (by omega)
      have hRj := HREP.out j (by omega)
      have hkl := HKL.out j
      have hmod : walkR base c j % 2 ^ (20 - j + 1) = 0 := by
        rw [hRj, show 21 - j = 20 - j + 1 from by omega]
        have hd : 2 ^ (20 - j + 1) ∣ base := Nat.dvd_trans (Nat.pow_dvd_pow 2 (show 20 - j + 1 ≤ 21 by omega)) (Nat.dvd_of_mod_eq_zero hbase0)
        exact Nat.mod_eq_zero_of_dvd (Nat.dvd_add hd (Nat.dvd_mul_left _ _))
      have hrlt : walkR base c j < 18446744073709551616 := by
        rw [hRj]
        have := Nat.div_mul_le_self c (2 ^ (21 - j))
        omega
      have HRS := hide (show walkR base c (j + 1) = if c / 2 ^ (20 - j) % 2 = 1 then walkR base c j + bitAt j else walkR base c j from rfl)
      have HKS := hide (show walkK I0 base c (j + 1) = if c / 2 ^ (20 - j) % 2 = 1 then stepN (walkK I0 base c j) (blockN (walkR base c (j + 1))) else walkK I0 base c j from rfl)
      have hR1 := HREP.out (j + 1) (by omega)
      have hand := and_bit c (bitAt j) (20 - j) (by omega) (by omega) hpow
      have hor := or_bit21 (walkR base c j) (bitAt j) (20 - j) hmod hrlt (by omega) hpow
      have hpos : 0 < bitAt j := by rw [hpow]; exact Nat.pow_pos (by omega)
      obtain ⟨bt, hbt⟩ : ∃ b, b = bitAt j := ⟨_, rfl⟩
      obtain ⟨r0, hr0⟩ : ∃ r, r = walkR base c j := ⟨_, rfl⟩
      obtain ⟨kk, hkk⟩ : ∃ k, k = walkK I0 base c j := ⟨_, rfl⟩
      rw [← hbt] at HBN HRS hand hor hpos ⊢
      rw [← hr0] at HRS hor ⊢
      rw [← hkk] at HKS kk6 hkl
      have hposI : (0 : Int) < (bt : Int) := by omega
      have hneI : ¬ ((bt : Int) = 0) := by omega
      by_cases hb1 : c / 2 ^ (20 - j) % 2 = 1
      · rw [if_pos hb1] at hand
        have HRN : Hid (walkR base c (j + 1) = r0 + bt) := by show _ = _; rw [HRS.out, if_pos hb1]
        have HK0 : Hid (walkK I0 base c (j + 1) = stepN kk (blockN (walkR base c (j + 1)))) := by show _ = _; rw [HKS.out, if_pos hb1]
        have hr1lt : walkR base c (j + 1) < 18446744073709551616 := by
          rw [hR1]
          have := Nat.div_mul_le_self c (2 ^ (21 - (j + 1)))
          omega
        rw [← HRN.out] at hor
        obtain ⟨r1, hr1⟩ : ∃ r, r = walkR base c (j + 1) := ⟨_, rfl⟩
        replace HRN : Hid (walkR base c (j + 1) = r1) := hr1.symm
        rw [← hr1] at hor HK0 hr1lt
        have HB := hide (fun (wx : World) => blockOf_any r1 wx hr1lt)
        have hbl := blockN_length r1
        have hXl := xorS_length kk hkl
        have HX := hide (fun (g : Nat) (wx : World) (h : Blk wx g 57 (kk.map byte ++ serialL.map byte)) => xor16_two kk serialL g 2 57 wx hkl serialL_length h)
        have HH1 := hide (fun (wx : World) (h : Blk wx S 93 mergedCells) => half_any (xorL kk serialL) (blockN r1) S wx hXl hbl h)
        have HH2 := hide (fun (wx : World) (h : Blk wx S 93 mergedCells) => half_any kk (blockN r1) S wx hkl hbl h)
        have hAl := dhalfN_length (xorL kk serialL) (blockN r1) hXl
        have hBl := dhalfN_length kk (blockN r1) hkl
        have HM := hide HM0
        replace HK0 : Hid (walkK I0 base c (j + 1) = dhalfN (xorL kk serialL) (blockN r1) ++ dhalfN kk (blockN r1)) := HK0
        obtain ⟨A, hA⟩ : ∃ A, A = dhalfN (xorL kk serialL) (blockN r1) := ⟨_, rfl⟩
        obtain ⟨B, hB⟩ : ∃ B, B = dhalfN kk (blockN r1) := ⟨_, rfl⟩
        rw [← hA] at HH1 hAl HK0
        rw [← hB] at HH2 hBl HK0
        obtain ⟨bk, hbk⟩ : ∃ b, b = blockN r1 := ⟨_, rfl⟩
        rw [← hbk] at HH1 HH2 HB
        obtain ⟨X, hX⟩ : ∃ X, X = xorL kk serialL := ⟨_, rfl⟩
        rw [← hX] at HH1 HX
        obtain ⟨mm, hmmE⟩ : ∃ m, m = serialL := ⟨_, rfl⟩
        rw [← hmmE] at HM HX hml
        unfold roundF at HH1 HH2
        have hkm : (kk.map byte).length = 16 := by rw [List.length_map, hkl]
        have hmm : (mm.map byte).length = 16 := by rw [List.length_map, hml]
        have hAm : (A.map byte).length = 8 := by rw [List.length_map, hAl]
        have hBm : (B.map byte).length = 8 := by rw [List.length_map, hBl]
        obtain ⟨AB, hAB⟩ : ∃ z, z = A ++ B := ⟨_, rfl⟩
        have hfa : [A, B].flatten = AB := by rw [hAB]; simp
        have h2l : AB.length = 16 := by rw [hAB, List.length_append, hAl, hBl]
        have hfl : [A, B].flatten.length ≤ 1048576 := by rw [hfa, h2l]; omega
        have h2m : (AB.map byte).length = 16 := by rw [List.length_map, h2l]
        have HK := hide (show (walkK I0 base c (j + 1)).map byte = AB.map byte from by rw [HK0.out, hAB])
        replace hfa := hide hfa
        clear hAB
        clear hbt hr0 hkk hr1 hA hB hbk hX hmmE HRS HKS hRj hR1 hmod hpow hb1 HM0
        go_wp2_with fail
        go_cut [12] (fun p wx => ∃ G, p = .pointer (some ⟨G, 0, none⟩) ∧ K6 < G ∧ Blk wx G 50 (A.map byte) ∧ (Blk wx K6 57 (kk.map byte) ∧ Blk wx S 93 mergedCells) ∧ Below w.heap.size w wx)
        case first =>
          obtain ⟨V, hV⟩ : ∃ V, V = World.drew wr := ⟨_, rfl⟩
          have kV : Blk V K6 57 (kk.map byte) := by rw [hV]; exact kk6.drew1
          have sV : Blk V S 93 mergedCells := by rw [hV]; exact kS.drew1
          have bV : Below w.heap.size w V := by rw [hV]; exact hbel.drew
          have hwV := bV.size
          have lV := kV.lt
          have b_0 : Below V.heap.size V V := Below.refl _ _
          have boxes : Hid (∀ {x}, Below V.heap.size V x → Blk x S 93 mergedCells) := fun h => sV.below h sV.lt
          have rest : Hid (∀ {x}, Below V.heap.size V x → Blk x K6 57 (kk.map byte) ∧ Blk x S 93 mergedCells) := fun h => ⟨kV.below h kV.lt, sV.below h sV.lt⟩
          have keep : Hid (∀ {x}, Below V.heap.size V x → x.rangeAt K6 0 (kk.map byte)) := fun h => blk_whole (kV.below h kV.lt)
          refine wp_region_held_drew (S := fun x => x.rangeAt K6 0 (kk.map byte)) (by kernel_rfl) (by rw [← hV]; exact keep.out b_0) (fun hHeld => ?_)
          rw [← hV] at hHeld ⊢
          clear hV kk6 kS hbel
          refine wpAnyH_take (i := 0) (v := (.agg (kk.map byte).toArray)) rfl (by kernel_rfl) (by kernel_rfl) (by kernel_rfl) (fun _ _ _ h => h) (yieldsIf_load_mid (by rfl) 57 _ rfl K6 0 rfl (kk.map byte) _ (fun _ h => h) Try.underlying57 rfl (by rw [hkm]; kernel_rfl)) hHeld ?_
          try dsimp only [Act.put]
          refine wpAnyH_take (i := 4) (v := (.int .u64 (r1 : Int))) rfl (by kernel_rfl) (by kernel_rfl) (by kernel_rfl) (fun _ _ _ h => h) (Or.inl ⟨by rfl, ?_⟩) hHeld ?_
          · intro _ _; go_simp
          try dsimp only [Act.put]
          refine wpAnyH_take (i := 6) (v := (.func (.func 97) #[] #[.pointer (some ⟨S, 0, none⟩)])) rfl (by kernel_rfl) (by kernel_rfl) (by kernel_rfl) (fun _ _ _ h => h) (Or.inl ⟨by rfl, ?_⟩) hHeld ?_
          · intro _ _; go_simp
          try dsimp only [Act.put]
          refine wpAnyH_ready (rs := [1, 8]) (by kernel_rfl) (by simp) ?_
          refine AllReadyH.cons rfl (fun K hK => ?_) (AllReadyH.cons rfl (fun K hK => ?_) (AllReadyH.nil))
          · go_simp
            refine (HM.out _).mono ?_
            rintro e w_1 ⟨rfl, bel_1⟩
            have b_1 := below_step b_0 bel_1
            go_wp2_with fail
            refine hK.out _ _ (keep.out b_1) (fun hHeld => ?_)
            clear hK K
            try dsimp only [Act.put]
            refine wpAnyH_ready (rs := [2, 8]) (by kernel_rfl) (by simp) ?_
            refine AllReadyH.cons rfl (fun K hK => ?_) (AllReadyH.cons rfl (fun K hK => ?_) (AllReadyH.nil))
            · rw [if_pos (by rfl)]
              refine wp_build2 (some 46) rfl 99 _ _ rfl 57 16 _ (kk.map byte) (mm.map byte) rfl rfl Try.underlying99 Try.zero57 hkm hmm (by omega) (by omega) ?_
              try dsimp only [Act.put]
              obtain ⟨w_2, hw_2⟩ : ∃ x, x = World.alloc w_1 (.cells (kk.map byte ++ mm.map byte).toArray 57) := ⟨_, rfl⟩
              have bel_2 : Below w_1.heap.size w_1 w_2 := by rw [hw_2]; exact below_new _ _
              have bs_2 : Blk w_2 w_1.heap.size 57 (kk.map byte ++ mm.map byte) := by rw [hw_2]; exact Blk.new _ _ _
              have le_bs_2 := b_1.size
              have lt_bs_2 := bs_2.lt
              have b_2 := below_step b_1 bel_2
              rw [← hw_2]
              clear hw_2
              refine hK.out _ _ (keep.out b_2) (fun hHeld => ?_)
              clear hK K
              try dsimp only [Act.put]
              refine wpAnyH_ready (rs := [3, 8]) (by kernel_rfl) (by simp) ?_
              refine AllReadyH.cons rfl (fun K hK => ?_) (AllReadyH.cons rfl (fun K hK => ?_) (AllReadyH.nil))
              · go_simp
                refine (HX.out _ _ bs_2).mono ?_
                rintro e w_3 ⟨rfl, bel_3⟩
                have bs_3 := bs_2.below bel_3 bs_2.lt
                have b_3 := below_step b_2 bel_3
                go_wp2_with fail
                refine hK.out _ _ (keep.out b_3) (fun hHeld => ?_)
                clear hK K
                try dsimp only [Act.put]
                refine wpAnyH_ready (rs := [5, 8]) (by kernel_rfl) (by simp) ?_
                refine AllReadyH.cons rfl (fun K hK => ?_) (AllReadyH.cons rfl (fun K hK => ?_) (AllReadyH.nil))
                · go_simp
                  refine (HB.out _).mono ?_
                  rintro e w_4 ⟨rfl, bel_4⟩
                  have bs_4 := bs_3.below bel_4 bs_3.lt
                  have b_4 := below_step b_3 bel_4
                  go_wp2_with fail
                  refine hK.out _ _ (keep.out b_4) (fun hHeld => ?_)
                  clear hK K
                  try dsimp only [Act.put]
                  refine wpAnyH_ready (rs := [7, 8]) (by kernel_rfl) (by simp) ?_
                  refine AllReadyH.cons rfl (fun K hK => ?_) (AllReadyH.cons rfl (fun K hK => ?_) (AllReadyH.nil))
                  · go_simp
                    refine (HH1.out _ (boxes.out b_4)).mono ?_
                    rintro e w_5 ⟨rfl, bel_5⟩
                    have bs_5 := bs_4.below bel_5 bs_4.lt
                    have b_5 := below_step b_4 bel_5
                    go_wp2_with fail
                    refine hK.out _ _ (keep.out b_5) (fun hHeld => ?_)
                    clear hK K
                    try dsimp only [Act.put]
                    refine wpAnyH_ready (rs := [8]) (by kernel_rfl) (by simp) ?_
                    refine AllReadyH.cons rfl (fun K hK => ?_) (AllReadyH.nil)
                    go_simp
                    obtain ⟨w_6, hw_6⟩ : ∃ x, x = World.alloc w_5 (.cells (zerosOf 8 .u8).toArray 50) := ⟨_, rfl⟩
                    have bel_6 : Below w_5.heap.size w_5 w_6 := by rw [hw_6]; exact below_new _ _
                    have G_6 : Blk w_6 w_5.heap.size 50 (zerosOf 8 .u8) := by rw [hw_6]; exact Blk.new _ _ _
                    have le_G_6 := b_5.size
                    have lt_G_6 := G_6.lt
                    have bs_6 := bs_5.below bel_6 bs_5.lt
                    have b_6 := below_step b_5 bel_6
                    rw [← hw_6]
                    clear hw_6
                    refine hK.out _ _ (keep.out b_6) (fun hHeld => ?_)
                    clear hK K
                    try dsimp only [Act.put]
                    refine wpAnyH_ready (rs := [9]) (by kernel_rfl) (by simp) ?_
                    refine AllReadyH.cons rfl (fun K hK => ?_) (AllReadyH.nil)
                    rw [if_pos (by rfl)]
                    refine wp_store_blk rfl 50 _ _ rfl w_5.heap.size rfl rfl G_6 (by rw [hAm]; kernel_rfl) (by rw [hAm]; exact zerosOf_length _ _) (allOne_bytes _) ?_
                    have G_7 := Blk.setRow G_6 (A.map byte)
                    have b_7 := below_setRow' (g := w_5.heap.size) b_6 le_G_6 (A.map byte).toArray
                    refine hK.out _ _ (keep.out b_7) (fun hHeld => ?_)
                    clear hK K
                    try dsimp only [Act.put]
                    refine wpAnyH_done (by kernel_rfl) ?_ _
                    go_wp2_with fail
                    go_meet
                    case rel => exact ⟨_, rfl, by omega, G_7, rest.out b_7, bV.trans (b_7.mono hwV)⟩
                  · go_simp
                    obtain ⟨w_8, hw_8⟩ : ∃ x, x = World.alloc w_4 (.cells (zerosOf 8 .u8).toArray 50) := ⟨_, rfl⟩
                    have bel_8 : Below w_4.heap.size w_4 w_8 := by rw [hw_8]; exact below_new _ _
                    have G_8 : Blk w_8 w_4.heap.size 50 (zerosOf 8 .u8) := by rw [hw_8]; exact Blk.new _ _ _
                    have le_G_8 := b_4.size
                    have lt_G_8 := G_8.lt
                    have bs_8 := bs_4.below bel_8 bs_4.lt
                    have b_8 := below_step b_4 bel_8
                    rw [← hw_8]
                    clear hw_8
                    refine hK.out _ _ (keep.out b_8) (fun hHeld => ?_)
                    clear hK K
                    try dsimp only [Act.put]
                    refine wpAnyH_ready (rs := [7]) (by kernel_rfl) (by simp) ?_
                    refine AllReadyH.cons rfl (fun K hK => ?_) (AllReadyH.nil)
                    go_simp
                    refine (HH1.out _ (boxes.out b_8)).mono ?_
                    rintro e w_9 ⟨rfl, bel_9⟩
                    have bs_9 := bs_8.below bel_9 bs_8.lt
                    have G_9 := G_8.below bel_9 G_8.lt
                    have b_9 := below_step b_8 bel_9
                    go_wp2_with fail
                    refine hK.out _ _ (keep.out b_9) (fun hHeld => ?_)
                    clear hK K
                    try dsimp only [Act.put]
                    refine wpAnyH_ready (rs := [9]) (by kernel_rfl) (by simp) ?_
                    refine AllReadyH.cons rfl (fun K hK => ?_) (AllReadyH.nil)
                    rw [if_pos (by rfl)]
                    refine wp_store_blk rfl 50 _ _ rfl w_4.heap.size rfl rfl G_9 (by rw [hAm]; kernel_rfl) (by rw [hAm]; exact zerosOf_length _ _) (allOne_bytes _) ?_
                    have G_10 := Blk.setRow G_9 (A.map byte)
                    have b_10 := below_setRow' (g := w_4.heap.size) b_9 le_G_8 (A.map byte).toArray
                    refine hK.out _ _ (keep.out b_10) (fun hHeld => ?_)
                    clear hK K
                    try dsimp only [Act.put]
                    refine wpAnyH_done (by kernel_rfl) ?_ _
                    go_wp2_with fail
                    go_meet
                    case rel => exact ⟨_, rfl, by omega, G_10, rest.out b_10, bV.trans (b_10.mono hwV)⟩
                · go_simp
                  obtain ⟨w_11, hw_11⟩ : ∃ x, x = World.alloc w_3 (.cells (zerosOf 8 .u8).toArray 50) := ⟨_, rfl⟩
                  have bel_11 : Below w_3.heap.size w_3 w_11 := by rw [hw_11]; exact below_new _ _
                  have G_11 : Blk w_11 w_3.heap.size 50 (zerosOf 8 .u8) := by rw [hw_11]; exact Blk.new _ _ _
                  have le_G_11 := b_3.size
                  have lt_G_11 := G_11.lt
                  have bs_11 := bs_3.below bel_11 bs_3.lt
                  have b_11 := below_step b_3 bel_11
                  rw [← hw_11]
                  clear hw_11
                  refine hK.out _ _ (keep.out b_11) (fun hHeld => ?_)
                  clear hK K
                  try dsimp only [Act.put]
                  refine wpAnyH_ready (rs := [5]) (by kernel_rfl) (by simp) ?_
                  refine AllReadyH.cons rfl (fun K hK => ?_) (AllReadyH.nil)
                  go_simp
                  refine (HB.out _).mono ?_
                  rintro e w_12 ⟨rfl, bel_12⟩
                  have bs_12 := bs_11.below bel_12 bs_11.lt
                  have G_12 := G_11.below bel_12 G_11.lt
                  have b_12 := below_step b_11 bel_12
                  go_wp2_with fail
                  refine hK.out _ _ (keep.out b_12) (fun hHeld => ?_)
                  clear hK K
                  try dsimp only [Act.put]
                  refine wpAnyH_ready (rs := [7]) (by kernel_rfl) (by simp) ?_
                  refine AllReadyH.cons rfl (fun K hK => ?_) (AllReadyH.nil)
                  go_simp
                  refine (HH1.out _ (boxes.out b_12)).mono ?_
                  rintro e w_13 ⟨rfl, bel_13⟩
                  have bs_13 := bs_12.below bel_13 bs_12.lt
                  have G_13 := G_12.below bel_13 G_12.lt
                  have b_13 := below_step b_12 bel_13
                  go_wp2_with fail
                  refine hK.out _ _ (keep.out b_13) (fun hHeld => ?_)
                  clear hK K
                  try dsimp only [Act.put]
                  refine wpAnyH_ready (rs := [9]) (by kernel_rfl) (by simp) ?_
                  refine AllReadyH.cons rfl (fun K hK => ?_) (AllReadyH.nil)
                  rw [if_pos (by rfl)]
                  refine wp_store_blk rfl 50 _ _ rfl w_3.heap.size rfl rfl G_13 (by rw [hAm]; kernel_rfl) (by rw [hAm]; exact zerosOf_length _ _) (allOne_bytes _) ?_
                  have G_14 := Blk.setRow G_13 (A.map byte)
                  have b_14 := below_setRow' (g := w_3.heap.size) b_13 le_G_11 (A.map byte).toArray
                  refine hK.out _ _ (keep.out b_14) (fun hHeld => ?_)
                  clear hK K
                  try dsimp only [Act.put]
                  refine wpAnyH_done (by kernel_rfl) ?_ _
                  go_wp2_with fail
                  go_meet
                  case rel => exact ⟨_, rfl, by omega, G_14, rest.out b_14, bV.trans (b_14.mono hwV)⟩
              · go_simp
                obtain ⟨w_15, hw_15⟩ : ∃ x, x = World.alloc w_2 (.cells (zerosOf 8 .u8).toArray 50) := ⟨_, rfl⟩
                have bel_15 : Below w_2.heap.size w_2 w_15 := by rw [hw_15]; exact below_new _ _
                have G_15 : Blk w_15 w_2.heap.size 50 (zerosOf 8 .u8) := by rw [hw_15]; exact Blk.new _ _ _
                have le_G_15 := b_2.size
                have lt_G_15 := G_15.lt
                have bs_15 := bs_2.below bel_15 bs_2.lt
                have b_15 := below_step b_2 bel_15
                rw [← hw_15]
                clear hw_15
                refine hK.out _ _ (keep.out b_15) (fun hHeld => ?_)
                clear hK K
                try dsimp only [Act.put]
                refine wpAnyH_ready (rs := [3]) (by kernel_rfl) (by simp) ?_
                refine AllReadyH.cons rfl (fun K hK => ?_) (AllReadyH.nil)
                go_simp
                refine (HX.out _ _ bs_15).mono ?_
                rintro e w_16 ⟨rfl, bel_16⟩
                have bs_16 := bs_15.below bel_16 bs_15.lt
                have G_16 := G_15.below bel_16 G_15.lt
                have b_16 := below_step b_15 bel_16
                go_wp2_with fail
                refine hK.out _ _ (keep.out b_16) (fun hHeld => ?_)
                clear hK K
                try dsimp only [Act.put]
                refine wpAnyH_ready (rs := [5]) (by kernel_rfl) (by simp) ?_
                refine AllReadyH.cons rfl (fun K hK => ?_) (AllReadyH.nil)
                go_simp
                refine (HB.out _).mono ?_
                rintro e w_17 ⟨rfl, bel_17⟩
                have bs_17 := bs_16.below bel_17 bs_16.lt
                have G_17 := G_16.below bel_17 G_16.lt
                have b_17 := below_step b_16 bel_17
                go_wp2_with fail
                refine hK.out _ _ (keep.out b_17) (fun hHeld => ?_)
                clear hK K
                try dsimp only [Act.put]
                refine wpAnyH_ready (rs := [7]) (by kernel_rfl) (by simp) ?_
                refine AllReadyH.cons rfl (fun K hK => ?_) (AllReadyH.nil)
                go_simp
                refine (HH1.out _ (boxes.out b_17)).mono ?_
                rintro e w_18 ⟨rfl, bel_18⟩
                have bs_18 := bs_17.below bel_18 bs_17.lt
                have G_18 := G_17.below bel_18 G_17.lt
                have b_18 := below_step b_17 bel_18
                go_wp2_with fail
                refine hK.out _ _ (keep.out b_18) (fun hHeld => ?_)
                clear hK K
                try dsimp only [Act.put]
                refine wpAnyH_ready (rs := [9]) (by kernel_rfl) (by simp) ?_
                refine AllReadyH.cons rfl (fun K hK => ?_) (AllReadyH.nil)
                rw [if_pos (by rfl)]
                refine wp_store_blk rfl 50 _ _ rfl w_2.heap.size rfl rfl G_18 (by rw [hAm]; kernel_rfl) (by rw [hAm]; exact zerosOf_length _ _) (allOne_bytes _) ?_
                have G_19 := Blk.setRow G_18 (A.map byte)
                have b_19 := below_setRow' (g := w_2.heap.size) b_18 le_G_15 (A.map byte).toArray
                refine hK.out _ _ (keep.out b_19) (fun hHeld => ?_)
                clear hK K
                try dsimp only [Act.put]
                refine wpAnyH_done (by kernel_rfl) ?_ _
                go_wp2_with fail
                go_meet
                case rel => exact ⟨_, rfl, by omega, G_19, rest.out b_19, bV.trans (b_19.mono hwV)⟩
            · go_simp
              obtain ⟨w_20, hw_20⟩ : ∃ x, x = World.alloc w_1 (.cells (zerosOf 8 .u8).toArray 50) := ⟨_, rfl⟩
              have bel_20 : Below w_1.heap.size w_1 w_20 := by rw [hw_20]; exact below_new _ _
              have G_20 : Blk w_20 w_1.heap.size 50 (zerosOf 8 .u8) := by rw [hw_20]; exact Blk.new _ _ _
              have le_G_20 := b_1.size
              have lt_G_20 := G_20.lt
              have b_20 := below_step b_1 bel_20
              rw [← hw_20]
              clear hw_20
              refine hK.out _ _ (keep.out b_20) (fun hHeld => ?_)
              clear hK K
              try dsimp only [Act.put]
              refine wpAnyH_ready (rs := [2]) (by kernel_rfl) (by simp) ?_
              refine AllReadyH.cons rfl (fun K hK => ?_) (AllReadyH.nil)
              rw [if_pos (by rfl)]
              refine wp_build2 (some 46) rfl 99 _ _ rfl 57 16 _ (kk.map byte) (mm.map byte) rfl rfl Try.underlying99 Try.zero57 hkm hmm (by omega) (by omega) ?_
              try dsimp only [Act.put]
              obtain ⟨w_21, hw_21⟩ : ∃ x, x = World.alloc w_20 (.cells (kk.map byte ++ mm.map byte).toArray 57) := ⟨_, rfl⟩
              have bel_21 : Below w_20.heap.size w_20 w_21 := by rw [hw_21]; exact below_new _ _
              have bs_21 : Blk w_21 w_20.heap.size 57 (kk.map byte ++ mm.map byte) := by rw [hw_21]; exact Blk.new _ _ _
              have le_bs_21 := b_20.size
              have lt_bs_21 := bs_21.lt
              have G_21 := G_20.below bel_21 G_20.lt
              have b_21 := below_step b_20 bel_21
              rw [← hw_21]
              clear hw_21
              refine hK.out _ _ (keep.out b_21) (fun hHeld => ?_)
              clear hK K
              try dsimp only [Act.put]
              refine wpAnyH_ready (rs := [3]) (by kernel_rfl) (by simp) ?_
              refine AllReadyH.cons rfl (fun K hK => ?_) (AllReadyH.nil)
              go_simp
              refine (HX.out _ _ bs_21).mono ?_
              rintro e w_22 ⟨rfl, bel_22⟩
              have G_22 := G_21.below bel_22 G_21.lt
              have bs_22 := bs_21.below bel_22 bs_21.lt
              have b_22 := below_step b_21 bel_22
              go_wp2_with fail
              refine hK.out _ _ (keep.out b_22) (fun hHeld => ?_)
              clear hK K
              try dsimp only [Act.put]
              refine wpAnyH_ready (rs := [5]) (by kernel_rfl) (by simp) ?_
              refine AllReadyH.cons rfl (fun K hK => ?_) (AllReadyH.nil)
              go_simp
              refine (HB.out _).mono ?_
              rintro e w_23 ⟨rfl, bel_23⟩
              have G_23 := G_22.below bel_23 G_22.lt
              have bs_23 := bs_22.below bel_23 bs_22.lt
              have b_23 := below_step b_22 bel_23
              go_wp2_with fail
              refine hK.out _ _ (keep.out b_23) (fun hHeld => ?_)
              clear hK K
              try dsimp only [Act.put]
              refine wpAnyH_ready (rs := [7]) (by kernel_rfl) (by simp) ?_
              refine AllReadyH.cons rfl (fun K hK => ?_) (AllReadyH.nil)
              go_simp
              refine (HH1.out _ (boxes.out b_23)).mono ?_
              rintro e w_24 ⟨rfl, bel_24⟩
              have G_24 := G_23.below bel_24 G_23.lt
              have bs_24 := bs_23.below bel_24 bs_23.lt
              have b_24 := below_step b_23 bel_24
              go_wp2_with fail
              refine hK.out _ _ (keep.out b_24) (fun hHeld => ?_)
              clear hK K
              try dsimp only [Act.put]
              refine wpAnyH_ready (rs := [9]) (by kernel_rfl) (by simp) ?_
              refine AllReadyH.cons rfl (fun K hK => ?_) (AllReadyH.nil)
              rw [if_pos (by rfl)]
              refine wp_store_blk rfl 50 _ _ rfl w_1.heap.size rfl rfl G_24 (by rw [hAm]; kernel_rfl) (by rw [hAm]; exact zerosOf_length _ _) (allOne_bytes _) ?_
              have G_25 := Blk.setRow G_24 (A.map byte)
              have b_25 := below_setRow' (g := w_1.heap.size) b_24 le_G_20 (A.map byte).toArray
              refine hK.out _ _ (keep.out b_25) (fun hHeld => ?_)
              clear hK K
              try dsimp only [Act.put]
              refine wpAnyH_done (by kernel_rfl) ?_ _
              go_wp2_with fail
              go_meet
              case rel => exact ⟨_, rfl, by omega, G_25, rest.out b_25, bV.trans (b_25.mono hwV)⟩
          · go_simp
            obtain ⟨w_26, hw_26⟩ : ∃ x, x = World.alloc V (.cells (zerosOf 8 .u8).toArray 50) := ⟨_, rfl⟩
            have bel_26 : Below V.heap.size V w_26 := by rw [hw_26]; exact below_new _ _
            have G_26 : Blk w_26 V.heap.size 50 (zerosOf 8 .u8) := by rw [hw_26]; exact Blk.new _ _ _
            have le_G_26 := b_0.size
            have lt_G_26 := G_26.lt
            have b_26 := below_step b_0 bel_26
            rw [← hw_26]
            clear hw_26
            refine hK.out _ _ (keep.out b_26) (fun hHeld => ?_)
            clear hK K
            try dsimp only [Act.put]
            refine wpAnyH_ready (rs := [1]) (by kernel_rfl) (by simp) ?_
            refine AllReadyH.cons rfl (fun K hK => ?_) (AllReadyH.nil)
            go_simp
            refine (HM.out _).mono ?_
            rintro e w_27 ⟨rfl, bel_27⟩
            have G_27 := G_26.below bel_27 G_26.lt
            have b_27 := below_step b_26 bel_27
            go_wp2_with fail
            refine hK.out _ _ (keep.out b_27) (fun hHeld => ?_)
            clear hK K
            try dsimp only [Act.put]
            refine wpAnyH_ready (rs := [2]) (by kernel_rfl) (by simp) ?_
            refine AllReadyH.cons rfl (fun K hK => ?_) (AllReadyH.nil)
            rw [if_pos (by rfl)]
            refine wp_build2 (some 46) rfl 99 _ _ rfl 57 16 _ (kk.map byte) (mm.map byte) rfl rfl Try.underlying99 Try.zero57 hkm hmm (by omega) (by omega) ?_
            try dsimp only [Act.put]
            obtain ⟨w_28, hw_28⟩ : ∃ x, x = World.alloc w_27 (.cells (kk.map byte ++ mm.map byte).toArray 57) := ⟨_, rfl⟩
            have bel_28 : Below w_27.heap.size w_27 w_28 := by rw [hw_28]; exact below_new _ _
            have bs_28 : Blk w_28 w_27.heap.size 57 (kk.map byte ++ mm.map byte) := by rw [hw_28]; exact Blk.new _ _ _
            have le_bs_28 := b_27.size
            have lt_bs_28 := bs_28.lt
            have G_28 := G_27.below bel_28 G_27.lt
            have b_28 := below_step b_27 bel_28
            rw [← hw_28]
            clear hw_28
            refine hK.out _ _ (keep.out b_28) (fun hHeld => ?_)
            clear hK K
            try dsimp only [Act.put]
            refine wpAnyH_ready (rs := [3]) (by kernel_rfl) (by simp) ?_
            refine AllReadyH.cons rfl (fun K hK => ?_) (AllReadyH.nil)
            go_simp
            refine (HX.out _ _ bs_28).mono ?_
            rintro e w_29 ⟨rfl, bel_29⟩
            have G_29 := G_28.below bel_29 G_28.lt
            have bs_29 := bs_28.below bel_29 bs_28.lt
            have b_29 := below_step b_28 bel_29
            go_wp2_with fail
            refine hK.out _ _ (keep.out b_29) (fun hHeld => ?_)
            clear hK K
            try dsimp only [Act.put]
            refine wpAnyH_ready (rs := [5]) (by kernel_rfl) (by simp) ?_
            refine AllReadyH.cons rfl (fun K hK => ?_) (AllReadyH.nil)
            go_simp
            refine (HB.out _).mono ?_
            rintro e w_30 ⟨rfl, bel_30⟩
            have G_30 := G_29.below bel_30 G_29.lt
            have bs_30 := bs_29.below bel_30 bs_29.lt
            have b_30 := below_step b_29 bel_30
            go_wp2_with fail
            refine hK.out _ _ (keep.out b_30) (fun hHeld => ?_)
            clear hK K
            try dsimp only [Act.put]
            refine wpAnyH_ready (rs := [7]) (by kernel_rfl) (by simp) ?_
            refine AllReadyH.cons rfl (fun K hK => ?_) (AllReadyH.nil)
            go_simp
            refine (HH1.out _ (boxes.out b_30)).mono ?_
            rintro e w_31 ⟨rfl, bel_31⟩
            have G_31 := G_30.below bel_31 G_30.lt
            have bs_31 := bs_30.below bel_31 bs_30.lt
            have b_31 := below_step b_30 bel_31
            go_wp2_with fail
            refine hK.out _ _ (keep.out b_31) (fun hHeld => ?_)
            clear hK K
            try dsimp only [Act.put]
            refine wpAnyH_ready (rs := [9]) (by kernel_rfl) (by simp) ?_
            refine AllReadyH.cons rfl (fun K hK => ?_) (AllReadyH.nil)
            rw [if_pos (by rfl)]
            refine wp_store_blk rfl 50 _ _ rfl V.heap.size rfl rfl G_31 (by rw [hAm]; kernel_rfl) (by rw [hAm]; exact zerosOf_length _ _) (allOne_bytes _) ?_
            have G_32 := Blk.setRow G_31 (A.map byte)
            have b_32 := below_setRow' (g := V.heap.size) b_31 le_G_26 (A.map byte).toArray
            refine hK.out _ _ (keep.out b_32) (fun hHeld => ?_)
            clear hK K
            try dsimp only [Act.put]
            refine wpAnyH_done (by kernel_rfl) ?_ _
            go_wp2_with fail
            go_meet
            case rel => exact ⟨_, rfl, by omega, G_32, rest.out b_32, bV.trans (b_32.mono hwV)⟩
        case rest =>
          clear kk6 kS hbel
          obtain ⟨G1, rfl, hG1, kG1, ⟨kk6, kS⟩, hbel⟩ := hcut
          go_wp2_with fail
          go_cut [13] (fun p wx => ∃ G, p = .pointer (some ⟨G, 0, none⟩) ∧ K6 < G ∧ Blk wx G 50 (B.map byte) ∧ (Blk wx G1 50 (A.map byte) ∧ Blk wx K6 57 (kk.map byte) ∧ Blk wx S 93 mergedCells) ∧ Below w.heap.size w wx)
          case first =>
            obtain ⟨V, hV⟩ : ∃ V, V = World.drew wc := ⟨_, rfl⟩
            have kV : Blk V K6 57 (kk.map byte) := by rw [hV]; exact kk6.drew1
            have gV : Blk V G1 50 (A.map byte) := by rw [hV]; exact kG1.drew1
            have sV : Blk V S 93 mergedCells := by rw [hV]; exact kS.drew1
            have bV : Below w.heap.size w V := by rw [hV]; exact hbel.drew
            have hwV := bV.size
            have lV := kV.lt
            have b_0 : Below V.heap.size V V := Below.refl _ _
            have boxes : Hid (∀ {x}, Below V.heap.size V x → Blk x S 93 mergedCells) := fun h => sV.below h sV.lt
            have rest : Hid (∀ {x}, Below V.heap.size V x → Blk x G1 50 (A.map byte) ∧ Blk x K6 57 (kk.map byte) ∧ Blk x S 93 mergedCells) := fun h => ⟨gV.below h gV.lt, kV.below h kV.lt, sV.below h sV.lt⟩
            have keep : Hid (∀ {x}, Below V.heap.size V x → x.rangeAt K6 0 (kk.map byte)) := fun h => blk_whole (kV.below h kV.lt)
            refine wp_region_held_drew (S := fun x => x.rangeAt K6 0 (kk.map byte)) (by kernel_rfl) (by rw [← hV]; exact keep.out b_0) (fun hHeld => ?_)
            rw [← hV] at hHeld ⊢
            clear hV kk6 kS hbel kG1
            refine wpAnyH_take (i := 0) (v := (.agg (kk.map byte).toArray)) rfl (by kernel_rfl) (by kernel_rfl) (by kernel_rfl) (fun _ _ _ h => h) (yieldsIf_load_mid (by rfl) 57 _ rfl K6 0 rfl (kk.map byte) _ (fun _ h => h) Try.underlying57 rfl (by rw [hkm]; kernel_rfl)) hHeld ?_
            try dsimp only [Act.put]
            refine wpAnyH_take (i := 1) (v := (.int .u64 (r1 : Int))) rfl (by kernel_rfl) (by kernel_rfl) (by kernel_rfl) (fun _ _ _ h => h) (Or.inl ⟨by rfl, ?_⟩) hHeld ?_
            · intro _ _; go_simp
            try dsimp only [Act.put]
            refine wpAnyH_take (i := 3) (v := (.func (.func 97) #[] #[.pointer (some ⟨S, 0, none⟩)])) rfl (by kernel_rfl) (by kernel_rfl) (by kernel_rfl) (fun _ _ _ h => h) (Or.inl ⟨by rfl, ?_⟩) hHeld ?_
            · intro _ _; go_simp
            try dsimp only [Act.put]
            refine wpAnyH_ready (rs := [2, 5]) (by kernel_rfl) (by simp) ?_
            refine AllReadyH.cons rfl (fun K hK => ?_) (AllReadyH.cons rfl (fun K hK => ?_) (AllReadyH.nil))
            · go_simp
              refine (HB.out _).mono ?_
              rintro e w_1 ⟨rfl, bel_1⟩
              have b_1 := below_step b_0 bel_1
              go_wp2_with fail
              refine hK.out _ _ (keep.out b_1) (fun hHeld => ?_)
              clear hK K
              try dsimp only [Act.put]
              refine wpAnyH_ready (rs := [4, 5]) (by kernel_rfl) (by simp) ?_
              refine AllReadyH.cons rfl (fun K hK => ?_) (AllReadyH.cons rfl (fun K hK => ?_) (AllReadyH.nil))
              · go_simp
                refine (HH2.out _ (boxes.out b_1)).mono ?_
                rintro e w_2 ⟨rfl, bel_2⟩
                have b_2 := below_step b_1 bel_2
                go_wp2_with fail
                refine hK.out _ _ (keep.out b_2) (fun hHeld => ?_)
                clear hK K
                try dsimp only [Act.put]
                refine wpAnyH_ready (rs := [5]) (by kernel_rfl) (by simp) ?_
                refine AllReadyH.cons rfl (fun K hK => ?_) (AllReadyH.nil)
                go_simp
                obtain ⟨w_3, hw_3⟩ : ∃ x, x = World.alloc w_2 (.cells (zerosOf 8 .u8).toArray 50) := ⟨_, rfl⟩
                have bel_3 : Below w_2.heap.size w_2 w_3 := by rw [hw_3]; exact below_new _ _
                have G_3 : Blk w_3 w_2.heap.size 50 (zerosOf 8 .u8) := by rw [hw_3]; exact Blk.new _ _ _
                have le_G_3 := b_2.size
                have lt_G_3 := G_3.lt
                have b_3 := below_step b_2 bel_3
                rw [← hw_3]
                clear hw_3
                refine hK.out _ _ (keep.out b_3) (fun hHeld => ?_)
                clear hK K
                try dsimp only [Act.put]
                refine wpAnyH_ready (rs := [6]) (by kernel_rfl) (by simp) ?_
                refine AllReadyH.cons rfl (fun K hK => ?_) (AllReadyH.nil)
                rw [if_pos (by rfl)]
                refine wp_store_blk rfl 50 _ _ rfl w_2.heap.size rfl rfl G_3 (by rw [hBm]; kernel_rfl) (by rw [hBm]; exact zerosOf_length _ _) (allOne_bytes _) ?_
                have G_4 := Blk.setRow G_3 (B.map byte)
                have b_4 := below_setRow' (g := w_2.heap.size) b_3 le_G_3 (B.map byte).toArray
                refine hK.out _ _ (keep.out b_4) (fun hHeld => ?_)
                clear hK K
                try dsimp only [Act.put]
                refine wpAnyH_done (by kernel_rfl) ?_ _
                go_wp2_with fail
                go_meet
                case rel => exact ⟨_, rfl, by omega, G_4, rest.out b_4, bV.trans (b_4.mono hwV)⟩
              · go_simp
                obtain ⟨w_5, hw_5⟩ : ∃ x, x = World.alloc w_1 (.cells (zerosOf 8 .u8).toArray 50) := ⟨_, rfl⟩
                have bel_5 : Below w_1.heap.size w_1 w_5 := by rw [hw_5]; exact below_new _ _
                have G_5 : Blk w_5 w_1.heap.size 50 (zerosOf 8 .u8) := by rw [hw_5]; exact Blk.new _ _ _
                have le_G_5 := b_1.size
                have lt_G_5 := G_5.lt
                have b_5 := below_step b_1 bel_5
                rw [← hw_5]
                clear hw_5
                refine hK.out _ _ (keep.out b_5) (fun hHeld => ?_)
                clear hK K
                try dsimp only [Act.put]
                refine wpAnyH_ready (rs := [4]) (by kernel_rfl) (by simp) ?_
                refine AllReadyH.cons rfl (fun K hK => ?_) (AllReadyH.nil)
                go_simp
                refine (HH2.out _ (boxes.out b_5)).mono ?_
                rintro e w_6 ⟨rfl, bel_6⟩
                have G_6 := G_5.below bel_6 G_5.lt
                have b_6 := below_step b_5 bel_6
                go_wp2_with fail
                refine hK.out _ _ (keep.out b_6) (fun hHeld => ?_)
                clear hK K
                try dsimp only [Act.put]
                refine wpAnyH_ready (rs := [6]) (by kernel_rfl) (by simp) ?_
                refine AllReadyH.cons rfl (fun K hK => ?_) (AllReadyH.nil)
                rw [if_pos (by rfl)]
                refine wp_store_blk rfl 50 _ _ rfl w_1.heap.size rfl rfl G_6 (by rw [hBm]; kernel_rfl) (by rw [hBm]; exact zerosOf_length _ _) (allOne_bytes _) ?_
                have G_7 := Blk.setRow G_6 (B.map byte)
                have b_7 := below_setRow' (g := w_1.heap.size) b_6 le_G_5 (B.map byte).toArray
                refine hK.out _ _ (keep.out b_7) (fun hHeld => ?_)
                clear hK K
                try dsimp only [Act.put]
                refine wpAnyH_done (by kernel_rfl) ?_ _
                go_wp2_with fail
                go_meet
                case rel => exact ⟨_, rfl, by omega, G_7, rest.out b_7, bV.trans (b_7.mono hwV)⟩
            · go_simp
              obtain ⟨w_8, hw_8⟩ : ∃ x, x = World.alloc V (.cells (zerosOf 8 .u8).toArray 50) := ⟨_, rfl⟩
              have bel_8 : Below V.heap.size V w_8 := by rw [hw_8]; exact below_new _ _
              have G_8 : Blk w_8 V.heap.size 50 (zerosOf 8 .u8) := by rw [hw_8]; exact Blk.new _ _ _
              have le_G_8 := b_0.size
              have lt_G_8 := G_8.lt
              have b_8 := below_step b_0 bel_8
              rw [← hw_8]
              clear hw_8
              refine hK.out _ _ (keep.out b_8) (fun hHeld => ?_)
              clear hK K
              try dsimp only [Act.put]
              refine wpAnyH_ready (rs := [2]) (by kernel_rfl) (by simp) ?_
              refine AllReadyH.cons rfl (fun K hK => ?_) (AllReadyH.nil)
              go_simp
              refine (HB.out _).mono ?_
              rintro e w_9 ⟨rfl, bel_9⟩
              have G_9 := G_8.below bel_9 G_8.lt
              have b_9 := below_step b_8 bel_9
              go_wp2_with fail
              refine hK.out _ _ (keep.out b_9) (fun hHeld => ?_)
              clear hK K
              try dsimp only [Act.put]
              refine wpAnyH_ready (rs := [4]) (by kernel_rfl) (by simp) ?_
              refine AllReadyH.cons rfl (fun K hK => ?_) (AllReadyH.nil)
              go_simp
              refine (HH2.out _ (boxes.out b_9)).mono ?_
              rintro e w_10 ⟨rfl, bel_10⟩
              have G_10 := G_9.below bel_10 G_9.lt
              have b_10 := below_step b_9 bel_10
              go_wp2_with fail
              refine hK.out _ _ (keep.out b_10) (fun hHeld => ?_)
              clear hK K
              try dsimp only [Act.put]
              refine wpAnyH_ready (rs := [6]) (by kernel_rfl) (by simp) ?_
              refine AllReadyH.cons rfl (fun K hK => ?_) (AllReadyH.nil)
              rw [if_pos (by rfl)]
              refine wp_store_blk rfl 50 _ _ rfl V.heap.size rfl rfl G_10 (by rw [hBm]; kernel_rfl) (by rw [hBm]; exact zerosOf_length _ _) (allOne_bytes _) ?_
              have G_11 := Blk.setRow G_10 (B.map byte)
              have b_11 := below_setRow' (g := V.heap.size) b_10 le_G_8 (B.map byte).toArray
              refine hK.out _ _ (keep.out b_11) (fun hHeld => ?_)
              clear hK K
              try dsimp only [Act.put]
              refine wpAnyH_done (by kernel_rfl) ?_ _
              go_wp2_with fail
              go_meet
              case rel => exact ⟨_, rfl, by omega, G_11, rest.out b_11, bV.trans (b_11.mono hwV)⟩
          case rest =>
            clear kk6 kS hbel kG1
            obtain ⟨G2, rfl, hG2, kG2, ⟨kG1, kk6, kS⟩, hbel⟩ := hcut
            go_wp2_with fail
            obtain ⟨V, hV⟩ : ∃ V, V = World.drew wc := ⟨_, rfl⟩
            have kV : Blk V K6 57 (kk.map byte) := by rw [hV]; exact kk6.drew1
            have gV1 : Blk V G1 50 (A.map byte) := by rw [hV]; exact kG1.drew1
            have gV2 : Blk V G2 50 (B.map byte) := by rw [hV]; exact kG2.drew1
            have sV : Blk V S 93 mergedCells := by rw [hV]; exact kS.drew1
            have bV : Below w.heap.size w V := by rw [hV]; exact hbel.drew
            have hwV := bV.size
            have b_0 : Below V.heap.size V V := Below.refl _ _
            have boxes : Hid (∀ {x}, Below V.heap.size V x → Blk x S 93 mergedCells) := fun h => sV.below h sV.lt
            have kR : Hid (∀ {x}, Below V.heap.size V x → Blk x K6 57 (kk.map byte)) := fun h => kV.below h kV.lt
            have hsrc : Hid (∀ {x}, Below V.heap.size V x → ∀ k, k < 2 → Src x ([Value.slice (some ⟨G1, 0, none⟩) 8 8, Value.slice (some ⟨G2, 0, none⟩) 8 8].getD k undef) ([A, B].getD k [])) := by
              intro x hx k hk
              match k, hk with
              | 0, _ => exact ⟨G1, 0, 8, by rw [show ([A, B].getD 0 []).length = 8 from hAl]; rfl, rowAt_block (gV1.below hx gV1.lt)⟩
              | 1, _ => exact ⟨G2, 0, 8, by rw [show ([A, B].getD 1 []).length = 8 from hBl]; rfl, rowAt_block (gV2.below hx gV2.lt)⟩
            have keep : Hid (∀ {B x}, Below B V x → True) := fun _ => trivial
            refine wp_region_held_drew (S := fun _ => True) (by kernel_rfl) trivial (fun hHeld => ?_)
            rw [← hV]
            clear hV kk6 kS hbel kG1 kG2
            refine wpAnyH_take (i := 0) (v := (Value.slice (some ⟨G1, 0, none⟩) 8 8)) rfl (by kernel_rfl) (by kernel_rfl) (by kernel_rfl) (fun _ _ _ h => h) (Or.inl ⟨by rfl, ?_⟩) hHeld ?_
            · intro _ _; go_simp
            try dsimp only [Act.put]
            refine wpAnyH_take (i := 1) (v := (Value.slice (some ⟨G2, 0, none⟩) 8 8)) rfl (by kernel_rfl) (by kernel_rfl) (by kernel_rfl) (fun _ _ _ h => h) (Or.inl ⟨by rfl, ?_⟩) hHeld ?_
            · intro _ _; go_simp
            try dsimp only [Act.put]
            refine wpAnyH_ready (rs := [2]) (by kernel_rfl) (by simp) ?_
            refine AllReadyH.cons rfl (fun K hK => ?_) (AllReadyH.nil)
            go_simp
            obtain ⟨w_1, hw_1⟩ : ∃ x, x = World.alloc V (.cells ([Value.slice (some ⟨G1, 0, none⟩) 8 8, Value.slice (some ⟨G2, 0, none⟩) 8 8]).toArray 22) := ⟨_, rfl⟩
            have bel_1 : Below V.heap.size V w_1 := by rw [hw_1]; exact below_new _ _
            have sl_1 : Blk w_1 V.heap.size 22 ([Value.slice (some ⟨G1, 0, none⟩) 8 8, Value.slice (some ⟨G2, 0, none⟩) 8 8]) := by rw [hw_1]; exact Blk.new _ _ _
            have le_sl_1 := b_0.size
            have lt_sl_1 := sl_1.lt
            have b_1 := below_step b_0 bel_1
            rw [← hw_1]
            clear hw_1
            refine hK.out _ _ (keep.out b_1) (fun hHeld => ?_)
            clear hK K
            try dsimp only [Act.put]
            refine wpAnyH_ready (rs := [3]) (by kernel_rfl) (by simp) ?_
            refine AllReadyH.cons rfl (fun K hK => ?_) (AllReadyH.nil)
            go_simp
            refine (concat_any [Value.slice (some ⟨G1, 0, none⟩) 8 8, Value.slice (some ⟨G2, 0, none⟩) 8 8] [A, B] V.heap.size 0 2 2 _ rfl rfl (by omega) hfl (blk_whole sl_1) (hsrc.out b_1)).mono ?_
            rintro e w_2 ⟨v_2, rfl, own_2, bel_2⟩
            have sl_2 := sl_1.below bel_2 sl_1.lt
            have b_2 := below_step b_1 bel_2
            rw [hfa.out] at own_2
            obtain ⟨g_2, c_2, hcap_2, hv_2, row_2⟩ := own_at own_2 h2l (by omega)
            subst hv_2
            have hrg := row_range16 row_2 h2l
            have har := fun (wx : World) => run_arrayAt (P := Try.prog) (w := wx) 57 5 16 (some ⟨g_2, 0, none⟩) 16 c_2 Try.underlying57 (Nat.le_refl _)
            go_wp2_with fail
            refine hK.out _ _ (keep.out b_2) (fun hHeld => ?_)
            clear hK K
            try dsimp only [Act.put]
            refine wpAnyH_ready (rs := [4]) (by kernel_rfl) (by simp) ?_
            refine AllReadyH.cons rfl (fun K hK => ?_) (AllReadyH.nil)
            go_simp
            refine hK.out _ _ (keep.out b_2) (fun hHeld => ?_)
            clear hK K
            try dsimp only [Act.put]
            refine wpAnyH_ready (rs := [5]) (by kernel_rfl) (by simp) ?_
            refine AllReadyH.cons rfl (fun K hK => ?_) (AllReadyH.nil)
            rw [if_pos (by rfl)]
            refine wp_load_to (some 62) rfl 57 _ rfl _ 0 rfl (AB.map byte) _ hrg Try.underlying57 rfl (by rw [h2m]; kernel_rfl) ?_
            refine hK.out _ _ (keep.out b_2) (fun hHeld => ?_)
            clear hK K
            try dsimp only [Act.put]
            refine wpAnyH_ready (rs := [6]) (by kernel_rfl) (by simp) ?_
            refine AllReadyH.cons rfl (fun K hK => ?_) (AllReadyH.nil)
            rw [if_pos (by rfl)]
            have res := kR.out b_2
            refine wp_store_blk rfl 57 _ _ rfl K6 rfl rfl res (by rw [h2m]; kernel_rfl) (by rw [h2m]; exact hkm) (allOne_bytes _) ?_
            have res2 := Blk.setRow res (AB.map byte)
            have bq : Below w.heap.size V _ := below_setRow' (g := K6) (b_2.mono hwV) (by omega) (AB.map byte).toArray
            have sq := Blk.setRow_other (g' := K6) (cs := (AB.map byte).toArray) (boxes.out b_2) (by omega)
            refine hK.out _ _ (keep.out bq) (fun hHeld => ?_)
            clear hK K
            try dsimp only [Act.put]
            refine wpAnyH_done (by kernel_rfl) ?_ _
            have b7 := bV.trans bq
            go_wp2_with fail
            go_roundw
            case rel => exact ⟨j + 1, by omega, by rw [HBN.out]; rfl, by rw [HRN.out], by rw [HK.out]; exact res2, sq, b7⟩
            case measure => simp [intOf]; omega
      · rw [if_neg hb1] at hand
        have HRN : Hid (walkR base c (j + 1) = r0) := by show _ = _; rw [HRS.out, if_neg hb1]
        have HKN : Hid (walkK I0 base c (j + 1) = kk) := by show _ = _; rw [HKS.out, if_neg hb1]
        have hand0 : bits BinOp.and IntKind.u64 (c : Int) (bt : Int) = 0 := hand
        clear hbt hr0 hkk HRS HKS hRj hR1 hmod hpow hb1 hand hor
        go_wp2
        go_roundw
        case rel => exact ⟨j + 1, by omega, by rw [HBN.out]; rfl, by rw [HRN.out], by rw [HKN.out]; exact kk6, kS, hbel⟩
        case measure => simp [intOf]; omega
    · obtain rfl : j = 21 := by omega
      have hb0 : bitAt 21 = 0 := rfl
      rw [hb0]
      have hl := HKL.out 21
      have hlm : ((walkK I0 base c 21).map byte).length = 16 := by rw [List.length_map, hl]
      go_wp2
      rw [Exit.noGoto_ret]
      go_ret
      exact ⟨_, rfl, own_of_blk kk6 hwK hl (by unfold maxLen; omega), hbel⟩
end Go.Proofs.Ythjnalbgnjbdnaa
