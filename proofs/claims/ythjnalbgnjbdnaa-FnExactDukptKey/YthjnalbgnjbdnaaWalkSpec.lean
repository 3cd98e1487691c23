/-
  spec.l3Walk: one step.
-/
import Derived.Test.YthjnalbgnjbdnaaWalkMath
namespace Go.Proofs.Ythjnalbgnjbdnaa
open Go.RowKit

set_option maxRecDepth 100000 in
set_option maxHeartbeats 8000000 in
theorem walkS_step (bdk kk : List UInt8) (s0 s1 s2 s3 s4 s5 s6 s7 s8 s9 : UInt8) (hkk : kk.length = 16) (n q k : Nat) (hn : n = 2 ^ (k + 1) * q + 2 ^ k) (hk : k < 21) (hb : n < 2097152) (kb ko ck sb so cs : Nat) (w : World) (rk : RowAt w (some ⟨kb, ko, none⟩) bdk) (rs : RowAt w (some ⟨sb, so, none⟩) [s0, s1, s2, s3, s4, s5, s6, s7, s8, s9])
    (HREC : ∀ wx, RowAt wx (some ⟨kb, ko, none⟩) bdk → RowAt wx (some ⟨sb, so, none⟩) [s0, s1, s2, s3, s4, s5, s6, s7, s8, s9] → Calls Try.prog 71 #[.slice (some ⟨kb, ko, none⟩) 16 ck, .slice (some ⟨sb, so, none⟩) 10 cs, .int .i64 ((n - 2 ^ k : Nat) : Int)] wx fun e w' => ∃ v, e = .returned v ∧ Own w' wx.heap.size v kk ∧ Below wx.heap.size wx w') :
    Calls Try.prog 71 #[.slice (some ⟨kb, ko, none⟩) 16 ck, .slice (some ⟨sb, so, none⟩) 10 cs, .int .i64 (n : Int)] w fun e w' => ∃ v, e = .returned v ∧ Own w' w.heap.size v (stepN kk (rBytes s2 s3 s4 s5 s6 s7 n)) ∧ Below w.heap.size w w' := by
  obtain ⟨i0, hi, hz0, hz1, hz2⟩ := info_parts Try.info5
  have hp0 : 0 < 2 ^ k := Nat.pow_pos (by omega)
  have hple : 2 ^ k ≤ n := by omega
  have hand := and_neg n q k (by omega) hn (by omega)
  have hn0 : ¬ ((n : Int) = 0) := by omega
  have hneg : IntKind.i64.wrap (-(n : Int)) = -(n : Int) := by rw [IntKind.wrap_i64]; omega
  have hsub : IntKind.i64.wrap ((n : Int) - ((2 ^ k : Nat) : Int)) = ((n - 2 ^ k : Nat) : Int) := by rw [IntKind.wrap_i64]; omega
  obtain ⟨p, hp⟩ : ∃ p, p = 2 ^ k := ⟨_, rfl⟩
  rw [← hp] at hand hsub HREC
  obtain ⟨m, hm⟩ : ∃ m, m = n - p := ⟨_, rfl⟩
  rw [← hm] at hsub HREC
  have HR := hide HREC
  have HS := hide rs
  have HK := hide rk
  have HC := hide (fun (wx : World) (h : RowAt wx (some ⟨sb, so, none⟩) [s0, s1, s2, s3, s4, s5, s6, s7, s8, s9]) => count_any [s0, s1, s2, s3, s4, s5, s6, s7, s8, s9] (some ⟨sb, so, none⟩) cs wx rfl h)
  obtain ⟨cn, hcn⟩ : ∃ c, c = countN [s0, s1, s2, s3, s4, s5, s6, s7, s8, s9] := ⟨_, rfl⟩
  rw [← hcn] at HC
  obtain ⟨ksn, hksn⟩ : ∃ l, l = [s0, s1, s2, s3, s4, s5, s6, s7, s8, s9] := ⟨_, rfl⟩
  have HCR : Hid ((countR ksn).map byte = [byte s0, byte s1, byte s2, byte s3, byte s4, byte s5, byte s6, .int .u8 ((s7.toNat / 32 * 32 : Nat) : Int), .int .u8 0, .int .u8 0]) := by
    rw [hksn, ← byte_clr]; rfl
  rw [← hksn] at HC HR HS
  obtain ⟨rl, hrl⟩ : ∃ l, l = (countR ksn).map byte := ⟨_, rfl⟩
  rw [← hrl] at HCR HC
  clear HREC hp hm hcn hksn hrl rs rk hn hp0 hple
  have hrBl : (rBytes s2 s3 s4 s5 s6 s7 n).length = 8 := rfl
  obtain ⟨rB, hrB⟩ : ∃ r, r = rBytes s2 s3 s4 s5 s6 s7 n := ⟨_, rfl⟩
  have HRB := hide hrB
  rw [← hrB] at hrBl ⊢
  clear hrB
  have hXl := xorS_length kk hkk
  have HX : Hid (∀ (g cp : Nat) (g1 c1 : Nat) (wx : World), RowAt wx (some ⟨g1, 0, none⟩) kk → RowAt wx (some ⟨g, 0, none⟩) serialL → Calls Try.prog 48 #[.slice (some ⟨g1, 0, none⟩) 16 c1, .slice (some ⟨g, 0, none⟩) 16 cp] wx fun e w' => e = .returned (.slice (some ⟨wx.heap.size, 0, none⟩) 16 16) ∧ OwnB w' wx.heap.size (.slice (some ⟨wx.heap.size, 0, none⟩) 16 16) (xorL kk serialL) ∧ Below wx.heap.size wx w') := by
    intro g cp g1 c1 wx h1 h2
    have := xor_any (some ⟨g1, 0, none⟩) (some ⟨g, 0, none⟩) c1 cp kk serialL wx (by omega) (by rw [hkk]; rfl) h1 h2
    rw [hkk, serialL_length] at this
    exact this
  have HH1 := hide (fun (R g : Nat) (wx : World) (h1 : RowAt wx (some ⟨g, 0, none⟩) (xorL kk serialL)) (h2 : RowAt wx (some ⟨R, 2, none⟩) rB) => halfS_any (xorL kk serialL) rB g 0 16 8 (some ⟨R, 2, none⟩) wx hXl (by omega) hrBl h1 h2)
  have HH2 := hide (fun (R g1 c1 : Nat) (hc1 : 16 ≤ c1) (wx : World) (h1 : RowAt wx (some ⟨g1, 0, none⟩) kk) (h2 : RowAt wx (some ⟨R, 2, none⟩) rB) => halfS_any kk rB g1 0 c1 8 (some ⟨R, 2, none⟩) wx hkk hc1 hrBl h1 h2)
  have hAl := dhalfN_length (xorL kk serialL) rB hXl
  have hBl := dhalfN_length kk rB hkk
  show Calls Try.prog 71 #[.slice (some ⟨kb, ko, none⟩) 16 ck, .slice (some ⟨sb, so, none⟩) 10 cs, .int .i64 (n : Int)] w fun e w' => ∃ v, e = .returned v ∧ Own w' w.heap.size v (dhalfN (xorL kk serialL) rB ++ dhalfN kk rB) ∧ Below w.heap.size w w'
  obtain ⟨A, hA⟩ : ∃ A, A = dhalfN (xorL kk serialL) rB := ⟨_, rfl⟩
  obtain ⟨B, hB⟩ : ∃ B, B = dhalfN kk rB := ⟨_, rfl⟩
  rw [← hA] at HH1 hAl ⊢
  rw [← hB] at HH2 hBl ⊢
  obtain ⟨X, hX⟩ : ∃ X, X = xorL kk serialL := ⟨_, rfl⟩
  rw [← hX] at HX HH1 hXl
  clear hA hB hX
  go_enter Try.func71, Try.ntmps71
  go_wp2_with (first
    | (go_at_call 71; refine (HR.out _ HK.out HS.out).mono ?_; rintro e1 w1 ⟨v1, rfl, own1, bel1⟩; obtain ⟨g1, c1, hc1, hv1, row1⟩ := own1.at hkk (by omega); subst hv1)
    | (go_at_call 66; refine (HC.out _ (HS.out.below bel1)).mono ?_; rintro e2 w2 ⟨rfl, kR, bel2⟩; have kR' := kR; rw [HCR.out] at kR'; have d7 : w2.cell? ⟨w1.heap.size, 7, none⟩ = some (.int .u8 ((s7.toNat / 32 * 32 : Nat) : Int)) := (kR'.cell 7 (by simp)); have d8 : w2.cell? ⟨w1.heap.size, 8, none⟩ = some (.int .u8 0) := (kR'.cell 8 (by simp)); have d9 : w2.cell? ⟨w1.heap.size, 9, none⟩ = some (.int .u8 0) := (kR'.cell 9 (by simp)); have f7 := kR.free 7; have f8 := kR.free 8; have f9 := kR.free 9))
  have e7 : Value.int IntKind.u8 (bits BinOp.or IntKind.u8 ((s7.toNat : Int) / 32 * 32) ((n : Int) / 65536)) = byte (UInt8.ofNat (s7.toNat / 32 * 32 + n / 65536)) := by
    have h := or_seven s7.toNat (n / 65536) s7.toNat_lt (by omega)
    have h7 := s7.toNat_lt
    unfold byte
    rw [UInt8.toNat_ofNat', show (s7.toNat : Int) / 32 * 32 = ((s7.toNat / 32 * 32 : Nat) : Int) from by omega, show (n : Int) / 65536 = ((n / 65536 : Nat) : Int) from by omega, h]
    congr 2
    omega
  have e8 : Value.int IntKind.u8 ((n : Int) / 256 % 256) = byte (UInt8.ofNat (n / 256)) := by unfold byte; rw [UInt8.toNat_ofNat']; congr 1
  have e9 : Value.int IntKind.u8 ((n : Int) % 256) = byte (UInt8.ofNat n) := by unfold byte; rw [UInt8.toNat_ofNat']; congr 1
  rw [e7, e8, e9]
  have kW := ((kR'.set 7 (byte (UInt8.ofNat (s7.toNat / 32 * 32 + n / 65536)))).set 8 (byte (UInt8.ofNat (n / 256)))).set 9 (byte (UInt8.ofNat n))
  have hls : ((([byte s0, byte s1, byte s2, byte s3, byte s4, byte s5, byte s6, Value.int .u8 ((s7.toNat / 32 * 32 : Nat) : Int), Value.int .u8 0, Value.int .u8 0].set 7 (byte (UInt8.ofNat (s7.toNat / 32 * 32 + n / 65536)))).set 8 (byte (UInt8.ofNat (n / 256)))).set 9 (byte (UInt8.ofNat n))) = ([s0, s1] ++ rBytes s2 s3 s4 s5 s6 s7 n).map byte := rfl
  rw [hls] at kW
  have be := (((below_step bel1 bel2).setCell (p := ⟨w1.heap.size, 7, none⟩) bel1.size (byte (UInt8.ofNat (s7.toNat / 32 * 32 + n / 65536)))).setCell (p := ⟨w1.heap.size, 8, none⟩) bel1.size (byte (UInt8.ofNat (n / 256)))).setCell (p := ⟨w1.heap.size, 9, none⟩) bel1.size (byte (UInt8.ofNat n))
  have be1 := ((bel2.setCell (p := ⟨w1.heap.size, 7, none⟩) (Nat.le_refl _) (byte (UInt8.ofNat (s7.toNat / 32 * 32 + n / 65536)))).setCell (p := ⟨w1.heap.size, 8, none⟩) (Nat.le_refl _) (byte (UInt8.ofNat (n / 256)))).setCell (p := ⟨w1.heap.size, 9, none⟩) (Nat.le_refl _) (byte (UInt8.ofNat n))
  have rowKW := row1.below be1
  obtain ⟨W, hW⟩ : ∃ W, W = ((w2.setCell ⟨w1.heap.size, 7, none⟩ (byte (UInt8.ofNat (s7.toNat / 32 * 32 + n / 65536)))).setCell ⟨w1.heap.size, 8, none⟩ (byte (UInt8.ofNat (n / 256)))).setCell ⟨w1.heap.size, 9, none⟩ (byte (UInt8.ofNat n)) := ⟨_, rfl⟩
  rw [← hW] at kW be rowKW ⊢
  have kW2 : Blk W w1.heap.size 5 (([s0, s1] ++ rB).map byte) := by rw [HRB.out]; exact kW
  obtain ⟨R, hR⟩ : ∃ R, R = w1.heap.size := ⟨_, rfl⟩
  rw [← hR] at kW2 ⊢
  obtain ⟨V, hV⟩ : ∃ V, V = W.drew := ⟨_, rfl⟩
  have kV : Blk V R 5 (([s0, s1] ++ rB).map byte) := by rw [hV]; exact kW2.drew1
  have rowKV : RowAt V (some ⟨g1, 0, none⟩) kk := by rw [hV]; exact rowKW.drew1
  have bV : Below w.heap.size w V := by rw [hV]; exact be.drew
  have hwV := bV.size
  replace HX := hide (fun g cp => HX.out g cp g1 c1)
  replace HH1 := hide (HH1.out R)
  replace HH2 := hide (HH2.out R g1 c1 hc1)
  clear hR hW kW kW2 be be1 rowKW hls e7 e8 e9 d7 d8 d9 f7 f8 f9 kR kR' bel1 bel2 own1 row1 HC HR HS HK HCR HRB hand hneg hsub
  have b_0 : Below V.heap.size V V := Below.refl _ _
  have rowK : Hid (∀ {x}, Below V.heap.size V x → RowAt x (some ⟨g1, 0, none⟩) kk) := fun h => rowKV.below h
  have rowR : Hid (∀ {x}, Below V.heap.size V x → RowAt x (some ⟨R, 2, none⟩) rB) := fun {x} h => by
    have hr : RowAt x (some ⟨R, 0, none⟩) ([s0, s1] ++ rB) := rowAt_block (kV.below h kV.lt)
    exact hr.drop 2
  have keep : Hid (∀ {B x}, Below B V x → True) := fun _ => trivial
  refine wp_region_held_drew (S := fun _ => True) (by kernel_rfl) trivial (fun hHeld => ?_)
  rw [← hV]
  clear hV
  refine wpAnyH_take (i := 0) (v := (.slice (some ⟨g1, 0, none⟩) 16 c1)) rfl (by kernel_rfl) (by kernel_rfl) (by kernel_rfl) (fun _ _ _ h => h) (Or.inl ⟨by rfl, ?_⟩) hHeld ?_
  · intro _ _; go_simp
  try dsimp only [Act.put]
  refine wpAnyH_take (i := 3) (v := (.slice (some ⟨R, 0, none⟩) 10 10)) rfl (by kernel_rfl) (by kernel_rfl) (by kernel_rfl) (fun _ _ _ h => h) (Or.inl ⟨by rfl, ?_⟩) hHeld ?_
  · intro _ _; go_simp
  try dsimp only [Act.put]
  refine wpAnyH_take (i := 4) (v := (.slice (some ⟨R, 2, none⟩) 8 8)) rfl (by kernel_rfl) (by kernel_rfl) (by kernel_rfl) (fun _ _ _ h => h) (Or.inl ⟨by rfl, ?_⟩) hHeld ?_
  · intro _ _; go_simp
  try dsimp only [Act.put]
  refine wpAnyH_take (i := 6) (v := (.slice (some ⟨g1, 0, none⟩) 16 c1)) rfl (by kernel_rfl) (by kernel_rfl) (by kernel_rfl) (fun _ _ _ h => h) (Or.inl ⟨by rfl, ?_⟩) hHeld ?_
  · intro _ _; go_simp
  try dsimp only [Act.put]
  refine wpAnyH_take (i := 7) (v := (.slice (some ⟨R, 0, none⟩) 10 10)) rfl (by kernel_rfl) (by kernel_rfl) (by kernel_rfl) (fun _ _ _ h => h) (Or.inl ⟨by rfl, ?_⟩) hHeld ?_
  · intro _ _; go_simp
  try dsimp only [Act.put]
  refine wpAnyH_take (i := 8) (v := (.slice (some ⟨R, 2, none⟩) 8 8)) rfl (by kernel_rfl) (by kernel_rfl) (by kernel_rfl) (fun _ _ _ h => h) (Or.inl ⟨by rfl, ?_⟩) hHeld ?_
  · intro _ _; go_simp
  try dsimp only [Act.put]
  refine wpAnyH_ready (rs := [1]) (by kernel_rfl) (by simp) ?_
  refine AllReadyH.cons rfl (fun K hK => ?_) (AllReadyH.nil)
  go_simp
  refine (c0_any _).mono ?_
  rintro e w_1 ⟨v_1, rfl, own_1, bel_1⟩
  have b_1 := below_step b_0 bel_1
  obtain ⟨gc, cc, -, hvc, rowc_1⟩ := own_at own_1 serialL_length (by omega)
  subst hvc
  go_wp2_with fail
  refine hK.out _ _ (keep.out b_1) (fun hHeld => ?_)
  clear hK K
  try dsimp only [Act.put]
  refine wpAnyH_ready (rs := [2]) (by kernel_rfl) (by simp) ?_
  refine AllReadyH.cons rfl (fun K hK => ?_) (AllReadyH.nil)
  go_simp
  refine (HX.out gc cc _ (rowK.out b_1) rowc_1).mono ?_
  rintro e w_2 ⟨rfl, own_2, bel_2⟩
  have c0_2 := rowc_1.below bel_2
  have b_2 := below_step b_1 bel_2
  have rowx_2 : RowAt w_2 (some ⟨w_1.heap.size, 0, none⟩) X := (by obtain ⟨g', c', -, hv', row'⟩ := own_at own_2 hXl (by omega); cases hv'; exact row')
  go_wp2_with fail
  refine hK.out _ _ (keep.out b_2) (fun hHeld => ?_)
  clear hK K
  try dsimp only [Act.put]
  refine wpAnyH_ready (rs := [5]) (by kernel_rfl) (by simp) ?_
  refine AllReadyH.cons rfl (fun K hK => ?_) (AllReadyH.nil)
  go_simp
  refine (HH1.out _ _ rowx_2 (rowR.out b_2)).mono ?_
  rintro e w_3 ⟨v_3, rfl, own_3, bel_3⟩
  have c0_3 := c0_2.below bel_3
  have x_3 := rowx_2.below bel_3
  have b_3 := below_step b_2 bel_3
  go_wp2_with fail
  refine hK.out _ _ (keep.out b_3) (fun hHeld => ?_)
  clear hK K
  try dsimp only [Act.put]
  refine wpAnyH_ready (rs := [9]) (by kernel_rfl) (by simp) ?_
  refine AllReadyH.cons rfl (fun K hK => ?_) (AllReadyH.nil)
  go_simp
  refine (HH2.out _ (rowK.out b_3) (rowR.out b_3)).mono ?_
  rintro e w_4 ⟨v_4, rfl, own_4, bel_4⟩
  have c0_4 := c0_3.below bel_4
  have x_4 := x_3.below bel_4
  have A_4 := own_3.below bel_4
  have b_4 := below_step b_3 bel_4
  obtain ⟨gb, cb, hcb, hvb, rowb⟩ := own_at own_4 hBl (by omega)
  subst hvb
  go_wp2_with fail
  refine hK.out _ _ (keep.out b_4) (fun hHeld => ?_)
  clear hK K
  try dsimp only [Act.put]
  refine wpAnyH_ready (rs := [10]) (by kernel_rfl) (by simp) ?_
  refine AllReadyH.cons rfl (fun K hK => ?_) (AllReadyH.nil)
  rw [if_pos (by rfl)]
  have oA := A_4.mono (Nat.le_trans hwV b_2.size)
  refine wp_append_to (some 58) rfl _ _ 22 rfl w.heap.size 5 i0 (.int .u8 0) 1 1 Try.underlying22 hi hz0 hz1 hz2 rfl (by decide) _ 8 (A.map byte) rfl (by have h := oA; unfold OwnB at h; rw [hAl] at h; exact h) ⟨gb, 0, none⟩ 8 cb (B.map byte) rfl (by rw [List.length_map, hBl]) (row_news rowb) (all_one B) (by unfold maxLen; omega) (by omega) (Nat.le_trans hwV b_4.size) ?_
  rintro v_5 w_5 own_5 gr_5 -
  have bq : Below w.heap.size V w_5 := (b_4.mono hwV).grown gr_5 (Nat.le_trans hwV b_4.size) (fun j hj => (oA.lt j hj).1)
  refine hK.out _ _ (keep.out bq) (fun hHeld => ?_)
  clear hK K
  try dsimp only [Act.put]
  refine wpAnyH_ready (rs := [11]) (by kernel_rfl) (by simp) ?_
  refine AllReadyH.cons rfl (fun K hK => ?_) (AllReadyH.nil)
  go_simp
  refine hK.out _ _ (keep.out bq) (fun hHeld => ?_)
  clear hK K
  try dsimp only [Act.put]
  refine wpAnyH_done (by kernel_rfl) ?_ _
  go_wp2_with fail
  go_ret
  refine ⟨_, rfl, ?_, bV.trans bq⟩
  have h := own_5
  refine ⟨5, ?_⟩
  rw [List.map_append, List.length_append, hAl, hBl]
  exact h
end Go.Proofs.Ythjnalbgnjbdnaa
