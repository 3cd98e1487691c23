/-
  spec.RetailMac.
-/
import Derived.Test.YthjnalbgnjbdnaaRetailSpec
namespace Go.Proofs.Ythjnalbgnjbdnaa
open Go.RowKit

set_option maxRecDepth 100000 in
set_option maxHeartbeats 4000000 in
theorem retailS_some (key data : List UInt8) (kb ko ck cd : Nat) (ad : Option Addr) (w : World) (hk : key.length = 16) (hck : 16 ≤ ck) (hn : data.length ≤ 4096) (rk : RowAt w (some ⟨kb, ko, none⟩) key) (rd : RowAt w ad data) :
    Calls Try.prog 27 #[.slice (some ⟨kb, ko, none⟩) 16 ck, .slice ad data.length cd] w fun e w' => ∃ v, e = .returned v ∧ Own w' w.heap.size v (retailN key data) ∧ Below w.heap.size w w' := by
  obtain ⟨i0, hi, hz0, hz1, hz2⟩ := info_parts Try.info5
  rw [retail_eq key data hk]
  have HB := hide (fun (wx : World) (h : RowAt wx ad data) => bytes_all data ad cd wx (by omega) h)
  have hcnt := mac_count data
  have hfl := fullL_length data
  have hml := macBlocks_le data hn
  have hmp := macBlocks_pos data
  have HFE := hide (show fullL data = data ++ zeros8 (8 * (macBlocks data).length - data.length) from rfl)
  have h1 := take8 hk
  have h2 := drop8 hk
  have HE := hide (fun (g c : Nat) (wx : World) (hr1 : RowAt wx (some ⟨kb, ko, none⟩) (key.take 8)) (hr2 : RowAt wx (some ⟨g, 0, none⟩) (desS (key.drop 8) (chS (key.take 8) (fullL data) (macBlocks data).length) true)) => des_spec (some ⟨kb, ko, none⟩) (some ⟨g, 0, none⟩) ck c (key.take 8) _ false wx h1 (desS_length _ _ _) hr1 hr2)
  have HD := hide (fun (g c : Nat) (wx : World) (hr1 : RowAt wx (some ⟨kb, ko + 8, none⟩) (key.drop 8)) (hr2 : RowAt wx (some ⟨g, 0, none⟩) (chS (key.take 8) (fullL data) (macBlocks data).length)) => des_spec (some ⟨kb, ko + 8, none⟩) (some ⟨g, 0, none⟩) (ck - 8) c (key.drop 8) _ true wx h2 (chS_length _ _ _) hr1 hr2)
  have HC := hide (fun (b cap : Nat) (hcap : 8 * (macBlocks data).length ≤ cap) (wx : World) (hr1 : RowAt wx (some ⟨kb, ko, none⟩) (key.take 8)) (hr2 : RowAt wx (some ⟨b, 0, none⟩) (fullL data)) => chain_spec (key.take 8) (fullL data) (some ⟨kb, ko, none⟩) ck b 0 cap (macBlocks data).length wx h1 hfl hml hcap hr1 hr2)
  have hAl := chS_length (key.take 8) (fullL data) (macBlocks data).length
  have hBl := desS_length (key.drop 8) (chS (key.take 8) (fullL data) (macBlocks data).length) true
  have RK := hide rk
  obtain ⟨A, hA⟩ : ∃ A, A = chS (key.take 8) (fullL data) (macBlocks data).length := ⟨_, rfl⟩
  rw [← hA] at HC HD HE hAl hBl ⊢
  obtain ⟨D, hD⟩ : ∃ D, D = desS (key.drop 8) A true := ⟨_, rfl⟩
  rw [← hD] at HD HE hBl ⊢
  obtain ⟨M, hM⟩ : ∃ M, M = desS (key.take 8) D false := ⟨_, rfl⟩
  rw [← hM] at HE ⊢
  obtain ⟨k1, hk1⟩ : ∃ k, k = key.take 8 := ⟨_, rfl⟩
  obtain ⟨k2, hk2⟩ : ∃ k, k = key.drop 8 := ⟨_, rfl⟩
  have RK1 : Hid (RowAt w (some ⟨kb, ko, none⟩) k1) := by rw [hk1]; exact rk.take 8
  have RK2 : Hid (RowAt w (some ⟨kb, ko + 8, none⟩) k2) := by rw [hk2]; exact rk.drop 8
  rw [← hk1] at HC HE
  rw [← hk2] at HD
  obtain ⟨full, hfull⟩ : ∃ f, f = fullL data := ⟨_, rfl⟩
  rw [← hfull] at HC HFE hfl
  obtain ⟨T, hT⟩ : ∃ T, T = 8 * (macBlocks data).length := ⟨_, rfl⟩
  rw [← hT] at HC HFE hfl hcnt
  have HT8 : Hid (T % 8 = 0 ∧ 0 < T) := by show _ ∧ _; omega
  have hTm : T ≤ 32768 := by omega
  have HDL := hide (show data.length = data.length from rfl)
  obtain ⟨n, hnn⟩ : ∃ n, n = data.length := ⟨_, rfl⟩
  have HNN := hide hnn
  rw [← hnn] at hn HB HFE hcnt ⊢
  have HCNT := hide hcnt
  have hnT := hcnt.1
  clear hA hD hM hk1 hk2 hfull hT hnn hcnt hmp hml HDL h1 h2 hk rk
  have hcI : (8 : Int) ≤ (ck : Int) := by omega
  have hcI2 : (16 : Int) ≤ (ck : Int) := by omega
  have hcn : ¬ ck = 8 := by omega
  have hnI : ¬ ((4096 : Int) < (n : Int)) := by omega
  go_enter Try.func27, Try.ntmps27
  go_wp2_with (first | (go_at_call 50; refine (HB.out _ rd).mono ?_; rintro e1 w1 ⟨v1, rfl, own1, bel1⟩))
  go_loopw [5] (fun v wr => ∃ j : Nat, n + j ≤ T ∧ OwnB wr w.heap.size v (data ++ zeros8 j) ∧ Below w.heap.size w wr) (fun v _ => match v with | .slice _ l _ => T - l | _ => 0)
  case atStart => exact ⟨0, hnT, by rw [show zeros8 0 = [] from rfl, List.append_nil]; exact own1, bel1⟩
  case round =>
    clear own1 bel1
    obtain ⟨j, hj, hown, hbel⟩ := hrel
    have hll : (data ++ zeros8 j).length = n + j := by rw [List.length_append, zeros8_length, HNN.out]
    obtain ⟨ao, c, hv, hrow, -, -, -⟩ := hown.own.shape
    rw [hll] at hv
    subst hv
    obtain ⟨q, hq⟩ : ∃ q, q = n + j := ⟨_, rfl⟩
    have HQ := hide hq
    rw [← hq] at hll hj hown ⊢
    clear hq
    have hsz := hbel.size
    by_cases hdone : q = T
    · have h8 := HT8.out
      have hne : ¬ ((q : Int) = 0) := by omega
      have hrm : (q : Int) % 8 = 0 := by omega
      have hne2 : ((q : Int) == 0) = false := by rw [beq_eq_false_iff_ne]; exact hne
      have hF : data ++ zeros8 j = full := by rw [HFE.out, show T - n = j from by have := HQ.out; omega]
      rw [hF] at hown
      have hown2 : OwnB wr w.heap.size (.slice ao q c) full := hown
      obtain ⟨gF, cF, hcF, hvF, rowF0⟩ := own_at hown2 (hfl.trans hdone.symm) (by omega)
      cases hvF
      have HDN := hide hdone
      have hTc : T ≤ c := by omega
      clear hF hrow hown hown2 h8 hll hdone
      go_wp2_with fail
      obtain ⟨V, hV⟩ : ∃ V, V = World.drew wr := ⟨_, rfl⟩
      have bV : Below w.heap.size w V := by rw [hV]; exact hbel.drew
      have rF : RowAt V (some ⟨gF, 0, none⟩) full := by rw [hV]; exact rowF0.drew1
      have hwV := bV.size
      replace HC := hide (HC.out gF c hTc)
      rw [← HDN.out] at HC
      obtain ⟨vF, hvF⟩ : ∃ v, v = Value.slice (some ⟨gF, 0, none⟩) q c := ⟨_, rfl⟩
      rw [← hvF] at HC ⊢
      clear hvF rowF0 hbel
      have b_0 : Below V.heap.size V V := Below.refl _ _
      have rowK1 : Hid (∀ {x}, Below V.heap.size V x → RowAt x (some ⟨kb, ko, none⟩) k1) := fun h => (RK1.out.below bV).below h
      have rowK2 : Hid (∀ {x}, Below V.heap.size V x → RowAt x (some ⟨kb, ko + 8, none⟩) k2) := fun h => (RK2.out.below bV).below h
      have rowF : Hid (∀ {x}, Below V.heap.size V x → RowAt x (some ⟨gF, 0, none⟩) full) := fun h => rF.below h
      have keep : Hid (∀ {B x}, Below B V x → True) := fun _ => trivial
      refine wp_region_held_drew (S := fun _ => True) (by kernel_rfl) trivial (fun hHeld => ?_)
      rw [← hV]
      clear hV
      refine wpAnyH_take (i := 0) (v := (.slice (some ⟨kb, ko, none⟩) 16 ck)) rfl (by kernel_rfl) (by kernel_rfl) (by kernel_rfl) (fun _ _ _ h => h) (Or.inl ⟨by rfl, ?_⟩) hHeld ?_
      · intro _ _; go_simp
      try dsimp only [Act.put]
      refine wpAnyH_take (i := 1) (v := (.slice (some ⟨kb, ko, none⟩) 8 ck)) rfl (by kernel_rfl) (by kernel_rfl) (by kernel_rfl) (fun _ _ _ h => h) (Or.inl ⟨by rfl, ?_⟩) hHeld ?_
      · intro _ _; go_simp
      try dsimp only [Act.put]
      refine wpAnyH_take (i := 2) (v := (.slice (some ⟨kb, ko, none⟩) 16 ck)) rfl (by kernel_rfl) (by kernel_rfl) (by kernel_rfl) (fun _ _ _ h => h) (Or.inl ⟨by rfl, ?_⟩) hHeld ?_
      · intro _ _; go_simp
      try dsimp only [Act.put]
      refine wpAnyH_take (i := 3) (v := (.slice (some ⟨kb, ko + 8, none⟩) 8 (ck - 8))) rfl (by kernel_rfl) (by kernel_rfl) (by kernel_rfl) (fun _ _ _ h => h) (Or.inl ⟨by rfl, ?_⟩) hHeld ?_
      · intro _ _; go_simp
      try dsimp only [Act.put]
      refine wpAnyH_take (i := 4) (v := (.slice (some ⟨kb, ko, none⟩) 16 ck)) rfl (by kernel_rfl) (by kernel_rfl) (by kernel_rfl) (fun _ _ _ h => h) (Or.inl ⟨by rfl, ?_⟩) hHeld ?_
      · intro _ _; go_simp
      try dsimp only [Act.put]
      refine wpAnyH_take (i := 5) (v := (.slice (some ⟨kb, ko, none⟩) 8 ck)) rfl (by kernel_rfl) (by kernel_rfl) (by kernel_rfl) (fun _ _ _ h => h) (Or.inl ⟨by rfl, ?_⟩) hHeld ?_
      · intro _ _; go_simp
      try dsimp only [Act.put]
      refine wpAnyH_take (i := 6) (v := vF) rfl (by kernel_rfl) (by kernel_rfl) (by kernel_rfl) (fun _ _ _ h => h) (Or.inl ⟨by rfl, ?_⟩) hHeld ?_
      · intro _ _; go_simp
      try dsimp only [Act.put]
      refine wpAnyH_ready (rs := [7]) (by kernel_rfl) (by simp) ?_
      refine AllReadyH.cons rfl (fun K hK => ?_) (AllReadyH.nil)
      go_simp
      refine (HC.out _ (rowK1.out b_0) (rowF.out b_0)).mono ?_
      rintro e w_1 ⟨v_1, rfl, own_1, bel_1⟩
      have b_1 := below_step b_0 bel_1
      obtain ⟨gA_1, cA_1, -, hv_1, rowA_1⟩ := own_at own_1 hAl (by omega)
      subst hv_1
      go_wp2_with fail
      refine hK.out _ _ (keep.out b_1) (fun hHeld => ?_)
      clear hK K
      try dsimp only [Act.put]
      refine wpAnyH_ready (rs := [8]) (by kernel_rfl) (by simp) ?_
      refine AllReadyH.cons rfl (fun K hK => ?_) (AllReadyH.nil)
      go_simp
      refine (HD.out _ _ _ (rowK2.out b_1) rowA_1).mono ?_
      rintro e w_2 ⟨v_2, rfl, own_2, bel_2⟩
      have A_2 := rowA_1.below bel_2
      have b_2 := below_step b_1 bel_2
      obtain ⟨gB_2, cB_2, -, hv_2, rowB_2⟩ := own_at own_2 hBl (by omega)
      subst hv_2
      go_wp2_with fail
      refine hK.out _ _ (keep.out b_2) (fun hHeld => ?_)
      clear hK K
      try dsimp only [Act.put]
      refine wpAnyH_ready (rs := [9]) (by kernel_rfl) (by simp) ?_
      refine AllReadyH.cons rfl (fun K hK => ?_) (AllReadyH.nil)
      go_simp
      refine (HE.out _ _ _ (rowK1.out b_2) rowB_2).mono ?_
      rintro e w_3 ⟨v_3, rfl, own_3, bel_3⟩
      have A_3 := A_2.below bel_3
      have B_3 := rowB_2.below bel_3
      have b_3 := below_step b_2 bel_3
      have bq := b_3
      go_wp2_with fail
      refine hK.out _ _ (keep.out b_3) (fun hHeld => ?_)
      clear hK K
      try dsimp only [Act.put]
      refine wpAnyH_ready (rs := [10]) (by kernel_rfl) (by simp) ?_
      refine AllReadyH.cons rfl (fun K hK => ?_) (AllReadyH.nil)
      go_simp
      refine hK.out _ _ (keep.out b_3) (fun hHeld => ?_)
      clear hK K
      try dsimp only [Act.put]
      refine wpAnyH_done (by kernel_rfl) ?_ _
      go_wp2_with fail
      go_ret
      exact ⟨_, rfl, (own_3.mono (Nat.le_trans hwV (b_2.size))).own, bV.trans (bq.mono hwV)⟩
    · have hcnt := HCNT.out
      have h8 := HT8.out
      have hq := HQ.out
      have hstep : ∀ (v1 : Value) (w1 : World), w1.ownsRow w.heap.size 5 1 v1 (q + 1) ((data ++ zeros8 j).map byte ++ [Value.int .u8 0]) → OwnB w1 w.heap.size v1 (data ++ zeros8 (j + 1)) := by
        intro v1 w1 h
        have e : data ++ zeros8 (j + 1) = (data ++ zeros8 j) ++ [0] := by unfold zeros8; rw [List.append_assoc, List.replicate_succ']
        unfold OwnB
        rw [e, List.length_append, hll, List.map_append]
        exact h
      have HST := hide hstep
      have hown' : wr.ownsRow w.heap.size 5 1 (.slice ao q c) q ((data ++ zeros8 j).map byte) := by have h := hown; unfold OwnB at h; rw [hll] at h; exact h
      clear hown hrow hstep
      by_cases hq0 : q = 0
      · have heq : ((q : Int) == 0) = true := by rw [beq_iff_eq]; omega
        clear hcnt h8 hq hq0
        go_wp2_with (at_builtin; refine wpList_append_own _ rfl _ _ 22 rfl w.heap.size 5 i0 (.int .u8 0) 1 1 Try.underlying22 hi hz0 hz1 hz2 rfl (by decide) _ _ _ rfl (hown'.alloc _) ⟨wr.heap.size, 0, none⟩ 1 1 [.int .u8 0] rfl rfl (cell_one_new _ _ _) (by intro u hu; simp at hu; subst hu; rfl) (by unfold maxLen; omega) (by omega) (by simp; omega) ?_; intro v1 w1 hown1 hgrow1 hnil1)
        have R1 := HST.out _ _ hown1
        have R2 := (hbel.alloc hsz _).grown hgrow1 (by simp; omega) (fun k hk => (hown'.lt k hk).1)
        have hv1 : ∃ ao1 c1, v1 = .slice ao1 (n + (j + 1)) c1 := by
          obtain ⟨ao1, c1, h, -⟩ := R1.own.shape
          rw [List.length_append, zeros8_length, ← HNN.out] at h
          exact ⟨ao1, c1, h⟩
        obtain ⟨ao1, c1, rfl⟩ := hv1
        clear hown1 hgrow1 hnil1 hown' hbel
        go_roundw
        case rel => exact ⟨j + 1, by have := HQ.out; omega, R1, R2⟩
        case measure => have := HQ.out; simp; omega
      · have hne : ¬ ((q : Int) = 0) := by omega
        have hrm : ((q : Int) % 8 != 0) = true := by rw [bne_iff_ne]; omega
        have hne2 : ((q : Int) == 0) = false := by rw [beq_eq_false_iff_ne]; exact hne
        clear hcnt h8 hq
        go_wp2_with (at_builtin; refine wpList_append_own _ rfl _ _ 22 rfl w.heap.size 5 i0 (.int .u8 0) 1 1 Try.underlying22 hi hz0 hz1 hz2 rfl (by decide) _ _ _ rfl (hown'.alloc _) ⟨wr.heap.size, 0, none⟩ 1 1 [.int .u8 0] rfl rfl (cell_one_new _ _ _) (by intro u hu; simp at hu; subst hu; rfl) (by unfold maxLen; omega) (by omega) (by simp; omega) ?_; intro v1 w1 hown1 hgrow1 hnil1)
        have R1 := HST.out _ _ hown1
        have R2 := (hbel.alloc hsz _).grown hgrow1 (by simp; omega) (fun k hk => (hown'.lt k hk).1)
        have hv1 : ∃ ao1 c1, v1 = .slice ao1 (n + (j + 1)) c1 := by
          obtain ⟨ao1, c1, h, -⟩ := R1.own.shape
          rw [List.length_append, zeros8_length, ← HNN.out] at h
          exact ⟨ao1, c1, h⟩
        obtain ⟨ao1, c1, rfl⟩ := hv1
        clear hown1 hgrow1 hnil1 hown' hbel
        go_roundw
        case rel => exact ⟨j + 1, by have := HQ.out; omega, R1, R2⟩
        case measure => have := HQ.out; simp; omega
end Go.Proofs.Ythjnalbgnjbdnaa
