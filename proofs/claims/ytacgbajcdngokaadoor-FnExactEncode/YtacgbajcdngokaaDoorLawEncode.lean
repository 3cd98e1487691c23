/-
  laws.FnExactEncode.
-/
import Derived.Test.YtacgbajcdngokaaDoorIsoEncI
import Derived.Test.YtacgbajcdngokaaDoorIsoTo
namespace Go.Proofs.YtacgbajcdngokaaDoor
open Go.RowKit

theorem encL_le (s : ByteArray) (L : List (Int × List UInt8)) : (encL s L).length ≤ 4096 := by
  unfold encL
  by_cases h : okE s L = true
  · rw [if_pos h]
    unfold okE at h
    rw [Bool.and_eq_true, Bool.and_eq_true, Bool.and_eq_true, decide_eq_true_eq, decide_eq_true_eq] at h
    obtain ⟨⟨h4, -⟩, -, hok⟩ := h
    have h14 := okL_len hok
    have hr := restE_small L L.length (fun j hj => by
      unfold okL at hok
      rw [List.all_eq_true] at hok
      exact hok j (List.mem_range.2 hj))
    have hu : (unbitsL (bitsE L L.length)).length ≤ 16 := by
      rw [unbits_length, bitsE_length]
      unfold nbE
      split <;> omega
    have h5 : s.data.toList.length = 4 := by rw [Array.length_toList]; exact h4
    rw [List.length_append, List.length_append, h5]
    have := Nat.mul_le_mul_right 203 h14
    omega
  · rw [if_neg h]; simp
theorem Own.keeps {w w' : World} {hi lo : Nat} {v : Value} {l : List UInt8} (h : Own w lo v l) (k : Keeps hi w w') (hl : hi ≤ lo) : Own w' lo v l := by
  obtain ⟨t, h1, h2⟩ := h
  refine ⟨t, h1, ?_⟩
  rcases h2 with h2 | ⟨g, cap, cur, hv, hb, hh, hrest⟩
  · exact .inl h2
  · exact .inr ⟨g, cap, cur, hv, hb, (k g (by omega) (lt_of_block hh)).trans hh, hrest⟩
theorem Z.Fs.fr {w : World} {lo : Nat} {v : Value} {L : List (Int × List UInt8)} {vs : List Value} (h : Z.Fs w lo v L vs) : Fr w v L := by
  refine ⟨h.shape, fun i hi => ?_⟩
  obtain ⟨g, c, ai, ci, hv, c1, c2, r, -⟩ := h.at hi
  exact ⟨g, 0, c, ai, ci, hv, by rw [Nat.zero_add]; exact c1, by rw [Nat.zero_add]; exact c2, r⟩
set_option maxRecDepth 100000 in
set_option maxHeartbeats 4000000 in
theorem lawEncode (s : ByteArray) (L : List (Int × List UInt8)) (v : Value) (w : World) (F : Fr w v L) (hz : s.size ≤ maxLen) (hn : L.length ≤ maxLen) (hs : ∀ p ∈ L, p.2.length ≤ maxLen) (hT : ∀ w', Below w.heap.size w w' → Lib.TabIs Tryd.prog w' "internal/strconv.uint64pow10" .u64 Lib.pow10Tab) :
    Calls Tryd.prog 3 #[.agg #[.string s, v]] w fun e w' => e = .returned (.bool true) ∧ Below w.heap.size w w' := by
  obtain ⟨x1, c1, rfl⟩ := F.sh
  have HSM := hideT (fun (wx : World) (h : Fr wx (.slice x1 L.length c1) L) => szMsg_any s L _ wx h hz hn hs)
  have HTM0 := hideT (fun (wx : World) (h : Fr wx (.slice x1 L.length c1) L) => toMsg_any s L _ wx h)
  have HES0 := hideT (fun hsz hL (g : Nat) (wx : World) (h : Fr wx (.slice (some ⟨g, 0, none⟩) L.length L.length) L) => encodeS_any s L hz hsz hL _ wx h)
  have HEI0 := hideT (fun hsz hL (g : Nat) (wx : World) (h : Fr wx (.slice (some ⟨g, 0, none⟩) L.length L.length) L) (hw : Below w.heap.size w wx) => encodeI_any s L hsz hL _ wx h (fun w' hb => hT w' (hw.trans (hb.mono hw.size))))
  have HEM0 := hideT (fun hsz hL (g1 g2 : Nat) (lo1 lo2 : Nat) (vs1 vs2 : List Value) (wx : World) (F1 : Z.Fs wx lo1 (.slice (some ⟨g1, 0, none⟩) L.length L.length) L vs1) (F2 : Z.Fs wx lo2 (.slice (some ⟨g2, 0, none⟩) L.length L.length) L vs2) => Z.eqMsg_any s L hsz hL _ _ lo1 lo2 vs1 vs2 wx F1 F2)
  have HMM0 := hideT (fun hsz hL hM (g lo : Nat) (vs : List Value) (wx : World) (F : Z.Fs wx lo (.slice (some ⟨g, 0, none⟩) L.length L.length) L vs) (hlo : lo ≤ wx.heap.size) (hi : Nat) (U : Under (.slice (some ⟨g, 0, none⟩) L.length L.length) vs L.length hi) => Z.markMsg_any s L hsz hL 1 hM _ lo vs wx F hlo hi U)
  have HEL := encL_le s L
  have HTOT := hideT (fun (h : (s.size : Int) + (L.length : Int) + (totL L : Nat) ≤ 1048576) => (⟨fun p hp => by have := totL_mem L p hp; omega, by omega, by rw [markN_tot]; omega⟩ : (∀ p ∈ L, p.2.length ≤ 1048576) ∧ L.length ≤ 1048576 ∧ Z.markN L 1 ≤ 4194304))
  obtain ⟨mk, hmk⟩ : ∃ q, q = Z.markN L 1 := ⟨_, rfl⟩
  obtain ⟨E, hE⟩ : ∃ q, q = encL s L := ⟨_, rfl⟩
  rw [← hmk] at HMM0 HTOT
  rw [← hE] at HES0 HEI0 HEL
  have HEB := hideT (fun (a1 a2 : Option Addr) (q1 q2 : Nat) (wx : World) (h1 : RowAt wx a1 E) (h2 : RowAt wx a2 E) => eqByteS_any a1 a2 q1 q2 E wx (by omega) h1 h2)
  have HMB := hideT (fun (lo : Nat) (a : Option Addr) (q : Nat) (wx : World) (h : Own wx lo (.slice a E.length q) E) => markByteS_any lo a q E 1 wx (by omega) (by omega) h)
  have HHB := hideT (fun (a : Option Addr) (q : Nat) (wx : World) (h : RowAt wx a (marks 1 E.length)) => heldByteS_any a q E.length 1 wx (by omega) (by omega) h)
  have HML : Hid ((marks 1 E.length).length = E.length) := marks_length 1 E.length
  obtain ⟨ne, hne⟩ : ∃ q, q = E.length := ⟨_, rfl⟩
  obtain ⟨n, hnn⟩ : ∃ q, q = L.length := ⟨_, rfl⟩
  rw [← hnn] at F HSM HTM0 HES0 HEI0 HEM0 HMM0 HTOT ⊢
  rw [← hne] at HES0 HEB HMB HHB HML
  obtain ⟨mb, hmb⟩ : ∃ q, q = 1 + ne := ⟨_, rfl⟩
  rw [← hmb] at HMB HHB
  have hmb0 : ¬ (mb : Int) < 0 := by omega
  have hmk0 : ¬ (mk : Int) < 0 := by omega
  have HNE := hideT hne
  have HNN := hideT hnn
  have HF := hideT F
  obtain ⟨W, hW⟩ : ∃ y, y = w.alloc (Obj.cells #[.string s, .slice x1 n c1] 24) := ⟨_, rfl⟩
  obtain ⟨g0, hg0⟩ : ∃ q, q = w.heap.size := ⟨_, rfl⟩
  have k0 : Blk W g0 24 [.string s, .slice x1 n c1] := by rw [hW, hg0]; exact Blk.new _ _ _
  have bW : Below w.heap.size w W := by rw [hW]; exact below_newT _ _
  have HW := hideT hW
  have HG0 := hideT hg0
  clear hmk hE hne hnn hmb hW hg0 F hz hn hs hT HEL
  go_enter Tryd.func3, Tryd.ntmps3
  go_upto_region 2 with fail
  rw [← show W = _ from HW, ← show g0 = _ from HG0]
  clear HW HG0
  go_wp2_with (refine load_blk rfl 24 _ rfl g0 rfl k0 Tryd.underlying24 rfl (by kernel_rfl) ?_)
  refine (HSM.out _ (HF.out.below bW)).mono ?_
  rintro e w1 ⟨r, rfl, hr1, hr2, hr3, b1⟩
  have bz1 := bW.trans (b1.mono bW.size)
  have k1 := k0.below b1 k0.lt
  clear k0 b1 bW HSM
  by_cases hneg : r < 0
  · clear hr3
    go_wp2_with fail
    go_ret
    exact ⟨rfl, bz1⟩
  obtain ⟨hsz, hL, hM⟩ := HTOT.out (hr3 (by omega))
  have HTM := hideT (fun (wx : World) (h : Fr wx (.slice x1 n c1) L) => HTM0.out wx h hL hsz)
  have HES := hideT (HES0.out hsz hL)
  have HEI := hideT (HEI0.out hsz hL)
  have HEM := hideT (HEM0.out hsz hL)
  have HMM := hideT (HMM0.out hsz hL hM)
  clear HTM0 HES0 HEI0 HEM0 HMM0 hsz hL hM HTOT hr3
  go_upto_region 5 with fail
  clear hr1 hr2 hneg
  go_wp2_with (refine load_blk rfl 24 _ rfl g0 rfl k1 Tryd.underlying24 rfl (by kernel_rfl) ?_)
  refine (HTM.out _ (HF.out.below bz1)).mono ?_
  rintro e w2 ⟨gA, rfl, ⟨vsA, FA⟩, b2⟩
  have k2 := k1.below b2 k1.lt
  have bz2 := bz1.trans (b2.mono bz1.size)
  have HFA := hideT FA.fr
  clear FA k1 b2 bz1
  go_wp2_with fail
  refine (HES.out _ _ HFA.out).mono ?_
  rintro e w3 ⟨ao, co, rfl, rS3, b3⟩
  have k3 := k2.below b3 k2.lt
  have bz3 := bz2.trans (b3.mono bz2.size)
  clear k2 b3 bz2 HES HFA
  go_upto_region 6 with fail
  go_wp2_with (refine load_blk rfl 24 _ rfl g0 rfl k3 Tryd.underlying24 rfl (by kernel_rfl) ?_)
  refine (HTM.out _ (HF.out.below bz3)).mono ?_
  rintro e w4 ⟨gX, rfl, ⟨vsX, FX⟩, b4⟩
  obtain ⟨X4, hX4⟩ : ∃ y, y = w4.alloc (Obj.cells #[.string s, .slice (some ⟨gX, 0, none⟩) n n] 30) := ⟨_, rfl⟩
  obtain ⟨gM, hgM⟩ : ∃ q, q = w4.heap.size := ⟨_, rfl⟩
  have U4 := FX.under
  rw [← HNN.out, ← hgM] at U4
  have kX4 : Blk X4 gM 30 [.string s, .slice (some ⟨gX, 0, none⟩) n n] := by rw [hX4, hgM]; exact Blk.new _ _ _
  have bX4 : Below w4.heap.size w4 X4 := by rw [hX4]; exact below_newT _ _
  have FX4 := FX.below bX4
  have b3x := b4.trans (bX4.mono b4.size)
  have hlM : w3.heap.size ≤ gM := by rw [hgM]; exact b4.size
  have HU4 := hideT U4
  have HX4 := hideT hX4
  have HGM := hideT hgM
  clear hX4 hgM FX b4 bX4 U4
  go_upto_region 7 with fail
  rw [← show X4 = _ from HX4, ← show gM = _ from HGM]
  clear HX4 HGM
  have HFX := hideT FX4.fr
  go_wp2_with (refine load_blk rfl 30 _ rfl gM rfl kX4 Tryd.underlying30 rfl (by kernel_rfl) ?_)
  refine (HEI.out _ _ HFX.out (bz3.trans (b3x.mono bz3.size))).mono ?_
  rintro e w5 ⟨v5, rfl, own5, b5⟩
  obtain ⟨a5, q5, rfl, r5, -⟩ := own5.shape
  rw [← HNE.out] at own5 ⊢
  have hgMX : gM < X4.heap.size := kX4.lt
  obtain ⟨lo5, hlo5⟩ : ∃ q, q = X4.heap.size := ⟨_, rfl⟩
  rw [← hlo5] at own5 hgMX
  have kX5 := kX4.below b5 kX4.lt
  have FX5 := FX4.below b5
  have b35 := b3x.trans (b5.mono b3x.size)
  have rS5 := rS3.below b35
  clear hlo5 kX4 FX4 HFX b5 b3x
  go_wp2_with fail
  refine (HEB.out _ _ _ _ _ r5 rS5).mono ?_
  rintro e w6 ⟨rfl, m6, hw6⟩
  have b6 : Below w5.heap.size w5 w6 := by rw [hw6]; exact below_drewN _ _
  have kX6 := kX5.below b6 kX5.lt
  have FX6 := FX5.below b6
  have own6 := own5.below b6
  have b36 := b35.trans (b6.mono b35.size)
  clear hw6 b6 kX5 FX5 own5 b35 rS5 r5
  go_upto_region 10 with fail
  obtain ⟨V, hV⟩ : ∃ V, V = World.drew w6 := ⟨_, rfl⟩
  have b_0 : Below V.heap.size V V := Below.refl _ _
  have bV : Below w6.heap.size w6 V := by rw [hV]; exact (Below.refl _ _).drew
  have b3V := b36.trans (bV.mono b36.size)
  have belV := bz3.trans (b3V.mono bz3.size)
  have kXV := kX6.below bV kX6.lt
  have k0V := k3.below b3V k3.lt
  have FXV := FX6.below bV
  have ownV := own6.below bV
  have keep : Hid (∀ {y}, Below V.heap.size V y → Blk y gM 30 [.string s, .slice (some ⟨gX, 0, none⟩) n n] ∧ Blk y g0 24 [.string s, .slice x1 n c1]) := fun h => ⟨kXV.below h kXV.lt, k0V.below h k0V.lt⟩
  refine wp_region_held_drew (S := fun y => Blk y gM 30 [.string s, .slice (some ⟨gX, 0, none⟩) n n] ∧ Blk y g0 24 [.string s, .slice x1 n c1]) (by kernel_rfl) (by rw [← hV]; exact ⟨kXV, k0V⟩) (fun hHeld => ?_)
  rw [← hV] at hHeld ⊢
  clear hV bV kX6 FX6 own6 b36
  refine wpAnyH_take (i := 0) (v := (.agg #[.string s, .slice (some ⟨gX, 0, none⟩) n n])) rfl (by kernel_rfl) (by kernel_rfl) (by kernel_rfl) (fun _ _ _ h => h) (Or.inl ⟨by rfl, fun w1 h => by have hc0 := h.1.cell 0 (by simp); have hc1 := h.1.cell 1 (by simp); go_simp⟩) hHeld ?_
  dsimp only [Act.put, List.getElem_toArray, List.getElem_cons_zero, List.getElem_cons_succ]
  simp only [List.setIfInBounds_toArray, List.set_cons_succ, List.set_cons_zero]
  refine wpAnyH_take (i := 1) (v := (.agg #[.string s, .slice x1 n c1])) rfl (by kernel_rfl) (by kernel_rfl) (by kernel_rfl) (fun _ _ _ h => h) (Or.inl ⟨by rfl, fun w1 h => by have hc0 := h.2.cell 0 (by simp); have hc1 := h.2.cell 1 (by simp); go_simp⟩) hHeld ?_
  dsimp only [Act.put, List.getElem_toArray, List.getElem_cons_zero, List.getElem_cons_succ]
  simp only [List.setIfInBounds_toArray, List.set_cons_succ, List.set_cons_zero]
  refine wpAnyH_ready (rs := [2]) (by kernel_rfl) (by simp) ?_
  refine AllReadyH.cons rfl (fun K hK => ?_) (AllReadyH.nil)
  go_simp
  refine (HTM.out _ (HF.out.below belV)).mono ?_
  rintro e w_1 ⟨gC, rfl, ⟨vsC, FC⟩, b_1⟩
  go_wp2_with fail
  refine hK.out _ _ (keep.out b_1) (fun hHeld => ?_)
  clear hK K
  try dsimp only [Act.put]
  refine wpAnyH_ready (rs := [3]) (by kernel_rfl) (by simp) ?_
  refine AllReadyH.cons rfl (fun K hK => ?_) (AllReadyH.nil)
  go_simp
  refine (HEM.out _ _ _ _ _ _ _ (FXV.below b_1) FC).mono ?_
  rintro e w_2 ⟨rfl, c_2⟩
  have b_2 := b_1.trans (c_2.mono b_1.size)
  go_wp2_with fail
  refine hK.out _ _ (keep.out b_2) (fun hHeld => ?_)
  clear hK K
  try dsimp only [Act.put]
  refine wpAnyH_take (i := 4) (v := (.bool false)) rfl (by kernel_rfl) (by kernel_rfl) (by kernel_rfl) (fun _ _ _ h => h) (Or.inl ⟨by rfl, ?_⟩) hHeld ?_
  · intro _ _; go_simp
  dsimp only [Act.put, List.getElem_toArray, List.getElem_cons_zero, List.getElem_cons_succ]
  simp only [List.setIfInBounds_toArray, List.set_cons_succ, List.set_cons_zero]
  refine wpAnyH_done (by kernel_rfl) ?_ _
  have bV8 := b_2
  clear hHeld
  have kX8 := kXV.below bV8 kXV.lt
  have FX8 := FXV.below bV8
  have own8 := ownV.below bV8
  have b38 := b3V.trans (bV8.mono b3V.size)
  have hl8 := b38.size
  clear kXV FXV ownV b3V bV8 belV k0V keep b_0
  go_wp2_with (refine load_blk rfl 30 _ rfl gM rfl kX8 Tryd.underlying30 rfl (by kernel_rfl) ?_)
  refine (HMM.out _ _ _ _ FX8 hl8 gM HU4.out).mono ?_
  rintro e w9 ⟨rfl, -, b9, kp9⟩
  have own9 := own8.keeps kp9 (by omega)
  have b39 : Below w3.heap.size w3 w9 := b38.trans b9
  obtain ⟨a9, q9, e9, r9, -⟩ := own9.shape
  simp only [Value.slice.injEq] at e9
  obtain ⟨rfl, -, rfl⟩ := e9
  have rS9 := rS3.below b39
  clear own8 kX8 FX8 b38 b9 kp9 hl8
  go_wp2_with fail
  refine (HEB.out _ _ _ _ _ r9 rS9).mono ?_
  rintro e w10 ⟨rfl, m10, hw10⟩
  have b10 : Below w9.heap.size w9 w10 := by rw [hw10]; exact below_drewN _ _
  have own10 := own9.below b10
  have b310 := b39.trans (b10.mono b39.size)
  clear hw10 b10 own9 b39 r9 rS9
  go_wp2_with fail
  refine (HMB.out _ _ _ _ own10).mono ?_
  rintro e w11 ⟨rfl, own11, g11⟩
  have b311 := b310.grown g11 b310.size (fun j hj => by have := (own_lt own10 j hj).1; omega)
  obtain ⟨a11, q11, e11, r11, -⟩ := own11.shape
  simp only [Value.slice.injEq] at e11
  obtain ⟨rfl, -, rfl⟩ := e11
  clear own10 g11 b310
  go_wp2_with fail
  refine (HHB.out _ _ _ r11).mono ?_
  rintro e w12 ⟨rfl, hw12⟩
  have hw12b := hw12.symm
  subst hw12b
  clear hw12
  have k12 := k3.below b311 k3.lt
  have bz12 := bz3.trans (b311.mono bz3.size)
  go_upto_region 24 with fail
  go_wp2_with (refine load_blk rfl 24 _ rfl g0 rfl k12 Tryd.underlying24 rfl (by kernel_rfl) ?_)
  refine (HTM.out _ (HF.out.below bz12)).mono ?_
  rintro e w13 ⟨gD, rfl, ⟨vsD, FD⟩, b13⟩
  have HFD := hideT FD.fr
  have bz13 := bz12.trans (b13.mono bz12.size)
  clear FD
  go_wp2_with fail
  refine (HEI.out _ _ HFD.out bz13).mono ?_
  rintro e w14 ⟨v14, rfl, own14, b14⟩
  obtain ⟨a14, q14, rfl, r14, -⟩ := own14.shape
  rw [← HNE.out] at own14 ⊢
  have b1114 := b13.trans (b14.mono b13.size)
  have rH14 := r11.below b1114
  have rS14 := rS3.below (b311.trans (b1114.mono b311.size))
  have bz14 := bz13.trans (b14.mono bz13.size)
  clear own14 b1114 r11 own11 b13 b14 bz12 bz13 HFD k12
  go_wp2_with fail
  refine (HEB.out _ _ _ _ _ r14 rS14).mono ?_
  rintro e w15 ⟨rfl, m15, hw15⟩
  have b15 : Below w14.heap.size w14 w15 := by rw [hw15]; exact below_drewN _ _
  have rH15 := rH14.below b15
  have bz15 := bz14.trans (b15.mono bz14.size)
  clear hw15 b15 rH14 rS14 r14 bz14
  go_wp2_with fail
  refine (HHB.out _ _ _ rH15).mono ?_
  rintro e w16 ⟨rfl, hw16⟩
  have hw16b := hw16.symm
  subst hw16b
  clear hw16
  go_wp2_with fail
  go_ret
  exact ⟨rfl, bz15⟩
end Go.Proofs.YtacgbajcdngokaaDoor
