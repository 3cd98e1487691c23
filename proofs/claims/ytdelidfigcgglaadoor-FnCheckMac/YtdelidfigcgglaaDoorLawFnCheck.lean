/-
  laws.FnCheckMac: the walk.
-/
import Derived.Test.YtdelidfigcgglaaDoorFnWrapMath
import Derived.Test.YtdelidfigcgglaaDoorMacI
import Derived.Test.YtdelidfigcgglaaDoorLawFnWrap
import Derived.Test.YtdelidfigcgglaaDoorGrA
namespace Go.Proofs.YtdelidfigcgglaaDoor
open Go.RowKit

theorem row_newsR {w : World} {g : Nat} {l : List UInt8} (h : RowAt w (some ⟨g, 0, none⟩) l) : ∀ j u, (l.map byte)[j]? = some u → w.cell? ((⟨g, 0, none⟩ : Addr).add j) = some u := row_news h
theorem empty_ownR (w : World) : (w.alloc (.cells #[] 5)).ownsRow w.heap.size 5 1 (.slice (some ⟨w.heap.size, 0, none⟩) 0 0) 0 [] := ⟨rfl, .inr ⟨w.heap.size, 0, #[], rfl, Nat.le_refl _, Blk.new w 5 #[], Nat.le_refl _, by unfold maxLen; omega, rfl, rfl⟩⟩
theorem all_oneR (l : List UInt8) : ∀ u ∈ l.map byte, u.oneCell' = true := by
  intro u hu
  obtain ⟨x, -, rfl⟩ := List.mem_map.1 hu
  rfl
theorem app_shape {w : World} {B : Nat} {v : Value} {R : List UInt8} (h : w.ownsRow B 5 1 v (0 + 8) ([] ++ R.map byte)) (hl : R.length = 8) : ∃ g c cs, v = .slice (some ⟨g, 0, none⟩) 8 c ∧ B ≤ g ∧ 8 ≤ c ∧ Blk w g 5 cs ∧ cs.take R.length = R.map byte := by
  rcases h.2 with ⟨-, hn⟩ | ⟨g, cap, cur, hv, hb, hh, hn, hm, hs, ht⟩
  · omega
  · exact ⟨g, cap, cur.toList, hv, hb, by omega, hh, by rw [hl]; simpa using ht⟩
theorem mac_wrapped (M Ky D : List UInt8) (gen : Nat) (hm : M.length = 16) (hk : Ky.length = 16) (hg : gen ≤ 255) (hd : D.length ≤ 4096) : macC M (wrapN M Ky 2 gen) D = 0 ∧ macL M (wrapN M Ky 2 gen) D = retailL Ky D := by
  obtain ⟨h1, h2, h3, h4, h5⟩ := wrap_open M Ky 2 gen hm hk (by omega) (by omega) hg
  have hv := open_vals h1 h2
  have ho : okM M (wrapN M Ky 2 gen) = true := by
    unfold okM okO
    rw [h1, h2, hv.2.1, h3]
    rfl
  unfold macC macL
  rw [ho, h5]
  simp [hd]

set_option maxRecDepth 100000 in
set_option maxHeartbeats 8000000 in
theorem lawFnCheck (ao : Option Addr) (cap : Nat) (code : List UInt8) (x0 x1 : Addr) (w : World) (hn : code.length ≤ 1048576) (hs : Sents w x0 x1) (hr : RowAt w ao code) :
    Calls Tryd.prog 5 #[.slice ao code.length cap] w fun e w' => e = .returned (.bool true) ∧ Below w.heap.size w w' := by
  obtain ⟨i0, hi0, hz0, hz1, hz2⟩ := info_parts Tryd.info5
  have HC1 := hide (fun (wx : World) (h : RowAt wx ao code) => cutLaw_any code 3 16 ao cap wx hn (by omega) (by omega) h)
  have HC2 := hide (fun (wx : World) (h : RowAt wx ao code) => cutLaw_any code 0 16 ao cap wx hn (by omega) (by omega) h)
  have HP0 := hide (fun (wx : World) (h : RowAt wx ao code) => pickLaw_any code 0 ao cap wx hn (by omega) h)
  have HP1 := hide (fun (wx : World) (h : RowAt wx ao code) => pickLaw_any code 1 ao cap wx hn (by omega) h)
  have HP2 := hide (fun (wx : World) (h : RowAt wx ao code) => pickLaw_any code 2 ao cap wx hn (by omega) h)
  have l0 := pickN_lt code 0
  have l1 := pickN_lt code 1
  have l2 := pickN_lt code 2
  obtain ⟨gen, hp0⟩ : ∃ p, p = pickN code 0 := ⟨_, rfl⟩
  obtain ⟨p1, hp1⟩ : ∃ p, p = pickN code 1 := ⟨_, rfl⟩
  obtain ⟨p2, hp2⟩ : ∃ p, p = pickN code 2 := ⟨_, rfl⟩
  rw [← hp0] at HP0 l0
  rw [← hp1] at HP1 l1
  rw [← hp2] at HP2 l2
  obtain ⟨n, hnn⟩ : ∃ n, n = p1 % 64 := ⟨_, rfl⟩
  have hn64 : n < 64 := by omega
  have hq1 : (p1 : Int) % 64 = (n : Int) := by omega
  have HC3 := hide (fun (wx : World) (h : RowAt wx ao code) => cutLaw_any code 8 n ao cap wx hn (by omega) (by omega) h)
  have hml := cutL_length code 3 16
  have hkl := cutL_length code 0 16
  have hdl := cutL_length code 8 n
  obtain ⟨M, hM⟩ : ∃ k, k = cutL code 3 16 := ⟨_, rfl⟩
  obtain ⟨Ky, hKy⟩ : ∃ k, k = cutL code 0 16 := ⟨_, rfl⟩
  obtain ⟨D, hD⟩ : ∃ k, k = cutL code 8 n := ⟨_, rfl⟩
  rw [← hM] at HC1 hml
  rw [← hKy] at HC2 hkl
  rw [← hD] at HC3 hdl
  have hgl : gen ≤ 255 := by omega
  have hD4 : D.length ≤ 4096 := by omega
  have hWl := wrapN_length M Ky 2 gen hml
  have HWi := hide (fun (gm gy : Nat) (wx : World) (h1 : wx.rangeAt gm 0 (M.map byte)) (h2 : wx.rangeAt gy 0 (Ky.map byte)) => wrap_some M Ky 2 gen gm 0 16 gy 0 16 wx hml hkl (by omega) (by omega) hgl h1 h2)
  have hmw := mac_wrapped M Ky D gen hml hkl hgl hD4
  obtain ⟨B, hB⟩ : ∃ B, B = wrapN M Ky 2 gen := ⟨_, rfl⟩
  rw [← hB] at HWi hWl hmw
  have hRl : (retailL Ky D).length = 8 := by unfold retailL; rw [if_pos ⟨hkl, hD4⟩]; exact retailN_length _ _
  have HMk := hide (fun (am ab ad : Option Addr) (cm cb cd : Nat) (wx : World) (h1 : B.length ≤ cb) (h2 : D.length ≤ cd) (hs : Sents wx x0 x1) (r1 : RowAt wx am M) (r2 : RowAt wx ab B) (r3 : RowAt wx ad D) => makeMac_any M B D am ab ad cm cb cd x0 x1 wx h1 h2 (by omega) hs r1 r2 r3)
  have HCk := hide (fun (mac : List UInt8) (am ab ad at_ : Option Addr) (cm cb cd ct : Nat) (wx : World) (h1 : B.length ≤ cb) (h2 : D.length ≤ cd) (hs : Sents wx x0 x1) (r1 : RowAt wx am M) (r2 : RowAt wx ab B) (r3 : RowAt wx ad D) (r4 : RowAt wx at_ mac) => checkMac_any M B D mac am ab ad at_ cm cb cd ct x0 x1 wx h1 h2 (by omega) hs r1 r2 r3 r4)
  have HRS := hide (fun (gk gd : Nat) {wx : World} (h2 : RowAt wx (some ⟨gd, 0, none⟩) D) (h1 : RowAt wx (some ⟨gk, 0, none⟩) Ky) => retailS_all Ky D (some ⟨gk, 0, none⟩) (some ⟨gd, 0, none⟩) 16 n wx (by omega) (by omega) (by omega) (by omega) h1 h2)
  rw [hmw.1, hmw.2, hml, hWl, hdl] at HMk
  have HCC : Hid (∀ mac, chkC M B D mac = if retailL Ky D = mac then 0 else 6) := by
    show ∀ mac, chkC M B D mac = if retailL Ky D = mac then 0 else 6
    intro mac
    unfold chkC
    rw [hmw.1, hmw.2]
    by_cases h : retailL Ky D = mac <;> simp [h]
  rw [hml, hWl, hdl] at HCk
  rw [hkl, hdl] at HRS
  obtain ⟨R, hR⟩ : ∃ R, R = retailL Ky D := ⟨_, rfl⟩
  rw [← hR] at HMk HRS hRl HCC
  have HSR := hide (fun (a1 a2 : Option Addr) (c1 c2 : Nat) (wx : World) (h1 : RowAt wx a1 R) (h2 : RowAt wx a2 R) => same_any R a1 a2 8 c1 c2 wx hRl (by omega) h1 h2)
  have hn' : ¬ ((1048576 : Int) < (code.length : Int)) := by omega
  clear hp0 hp1 hp2 hM hKy hD hnn hB hmw hR
  go_enter Tryd.func5, Tryd.ntmps5
  go_wp2_with fail
  refine (HC1.out w hr).mono ?_
  rintro e w1 ⟨rfl, ownM, bel1⟩
  obtain ⟨_, _, hvM, rM1, -⟩ := ownM.own.shape
  rw [hml] at hvM
  cases hvM
  have hr1 := hr.below bel1
  have hs1 := hs.below bel1
  clear ownM
  go_wp2_with fail
  refine (HP0.out w1 hr1).mono ?_
  rintro e w1' ⟨rfl, hw⟩
  subst w1'
  go_wp2_with fail
  refine (HC2.out w1 hr1).mono ?_
  rintro e w2 ⟨rfl, ownK, bel2⟩
  obtain ⟨_, _, hvK, rK2, -⟩ := ownK.own.shape
  rw [hkl] at hvK
  cases hvK
  have rM2 := rM1.below bel2
  have hr2 := hr1.below bel2
  have hs2 := hs1.below bel2
  have b2 : Below w.heap.size w w2 := bel1.trans (bel2.mono bel1.size)
  obtain ⟨_, _, eM, rgM⟩ := rM2.range (by omega)
  cases eM
  obtain ⟨_, _, eK, rgK⟩ := rK2.range (by omega)
  cases eK
  clear ownK bel1 bel2 rM1 hr1 hs1 hs hr HC1 HP0
  go_wp2_with fail
  refine (HWi.out _ _ w2 rgM rgK).mono ?_
  rintro e w4 ⟨v4, rfl, own4, bel4⟩
  obtain ⟨gB, cB, hcB, rfl, rgB, lgB, hgB⟩ := own4.at' hWl (by omega)
  have rB4 : RowAt w4 (some ⟨gB, 0, none⟩) B := row_of rgB
  have rM4 := rM2.below bel4
  have hr4 := hr2.below bel4
  have hs4 := hs2.below bel4
  have b4 := b2.trans (bel4.mono b2.size)
  clear rgM rgK rgB own4 rM2 rK2 hr2 hs2 b2 hgB lgB bel4 HWi
  go_wp2_with fail
  refine (HP1.out w4 hr4).mono ?_
  rintro e w4' ⟨rfl, hw⟩
  subst w4'
  go_wp2_with fail
  refine (HC3.out w4 hr4).mono ?_
  rintro e w5 ⟨rfl, ownD, bel5⟩
  obtain ⟨_, _, hvD, rD5, -⟩ := ownD.own.shape
  rw [hdl] at hvD
  cases hvD
  obtain ⟨gD, hgD⟩ : ∃ x, x = w4.heap.size := ⟨_, rfl⟩
  rw [← hgD] at rD5 ⊢
  have rB5 := rB4.below bel5
  have rM5 := rM4.below bel5
  have hr5 := hr4.below bel5
  have hs5 := hs4.below bel5
  have b5 := b4.trans (bel5.mono b4.size)
  clear ownD hgD rB4 rM4 hr4 hs4 b4 bel5 HC3 HP1
  go_wp2_with fail
  refine (HMk.out _ _ _ _ _ _ w5 hcB (Nat.le_refl _) hs5 rM5 rB5 rD5).mono ?_
  rintro e w6 ⟨v6, rfl, own6, bel6⟩
  obtain ⟨gR, cR, hcR, rfl, row6⟩ := own_at6 own6 hRl (by omega)
  have rB6 := rB5.below bel6
  have rM6 := rM5.below bel6
  have rD6 := rD5.below bel6
  have hr6 := hr5.below bel6
  have hs6 := hs5.below bel6
  have b6 := b5.trans (bel6.mono b5.size)
  obtain ⟨W6, hW6⟩ : ∃ x, x = w6.alloc (.cells #[.int .i64 0, .slice (some ⟨gR, 0, none⟩) 8 cR] 37) := ⟨_, rfl⟩
  have kO : Blk W6 w6.heap.size 37 [.int .i64 0, .slice (some ⟨gR, 0, none⟩) 8 cR] := by rw [hW6]; exact Blk.new _ _ _
  have bn : Below w6.heap.size w6 W6 := by rw [hW6]; exact below_new _ _
  have rB7 := rB6.below bn
  have rM7 := rM6.below bn
  have rD7 := rD6.below bn
  have hr7 := hr6.below bn
  have hs7 := hs6.below bn
  have b7 := b6.trans (bn.mono b6.size)
  have rR7 := row6.below bn
  have HCk0 := hide (HCk.out R)
  rw [HCC.out R, if_pos rfl, hRl] at HCk0
  clear rB5 rM5 rD5 hr5 hs5 b5 rB6 rM6 rD6 hr6 hs6 b6 bel6 own6 row6 bn HMk
  go_upto_region 7 with fail
  rw [← hW6]
  obtain ⟨gO, hgO⟩ : ∃ x, x = w6.heap.size := ⟨_, rfl⟩
  rw [← hgO] at kO ⊢
  clear hW6 hgO
  have d0 := kO.cell 0 (by simp)
  have d1 := kO.cell 1 (by simp)
  go_wp2_with fail
  refine (HCk0.out _ _ _ _ _ _ _ _ W6 hcB (Nat.le_refl _) hs7 rM7 rB7 rD7 rR7).mono ?_
  rintro e w8 ⟨rfl, bel8⟩
  have rR8 := rR7.below bel8
  have rB8 := rB7.below bel8
  have rM8 := rM7.below bel8
  have rD8 := rD7.below bel8
  have hr8 := hr7.below bel8
  have hs8 := hs7.below bel8
  have k8 := kO.below bel8 kO.lt
  have b8 := b7.trans (bel8.mono b7.size)
  clear d0 d1 rR7 rB7 rM7 rD7 hr7 hs7 kO b7 bel8 HCk0
  go_upto_region 9 with fail
  obtain ⟨V, hV⟩ : ∃ V, V = World.drew w8 := ⟨_, rfl⟩
  have rRV : RowAt V (some ⟨gR, 0, none⟩) R := by rw [hV]; exact rR8.drew1
  have rBV : RowAt V (some ⟨gB, 0, none⟩) B := by rw [hV]; exact rB8.drew1
  have rMV : RowAt V (some ⟨w.heap.size, 0, none⟩) M := by rw [hV]; exact rM8.drew1
  have rDV : RowAt V (some ⟨gD, 0, none⟩) D := by rw [hV]; exact rD8.drew1
  have hrV : RowAt V ao code := by rw [hV]; exact hr8.drew1
  have sV : Sents V x0 x1 := by rw [hV]; exact ⟨hs8.g0, hs8.g1, hs8.ne, hs8.b0, hs8.b1⟩
  have kOV : Blk V gO 37 [.int .i64 0, .slice (some ⟨gR, 0, none⟩) 8 cR] := by rw [hV]; exact k8.drew1
  have bV : Below w.heap.size w V := by rw [hV]; exact b8.drew
  have b_0 : Below V.heap.size V V := Below.refl _ _
  have keep : Hid (∀ {z}, Below V.heap.size V z → z.cell? ⟨gO, 1, none⟩ = some (.slice (some ⟨gR, 0, none⟩) 8 cR)) := fun h => (kOV.below h kOV.lt).cell 1 (by simp)
  refine wp_region_held_drew (S := fun z => z.cell? ⟨gO, 1, none⟩ = some (.slice (some ⟨gR, 0, none⟩) 8 cR)) (by kernel_rfl) (by rw [← hV]; exact keep.out b_0) (fun hHeld => ?_)
  rw [← hV] at hHeld ⊢
  clear hV rR8 rB8 rM8 rD8 hr8 hs8 k8 b8
  refine wpAnyH_take (i := 0) (v := (.pointer (some ⟨gO, 1, none⟩))) rfl (by kernel_rfl) (by kernel_rfl) (by kernel_rfl) (fun _ _ _ h => h) (Or.inl ⟨by rfl, ?_⟩) hHeld ?_
  · intro _ _; go_simp
  dsimp only [Act.put, List.getElem_toArray, List.getElem_cons_zero, List.getElem_cons_succ]
  simp only [List.setIfInBounds_toArray, List.set_cons_succ, List.set_cons_zero]
  refine wpAnyH_take (i := 1) (v := (.slice (some ⟨gR, 0, none⟩) 8 cR)) rfl (by kernel_rfl) (by kernel_rfl) (by kernel_rfl) (fun _ _ _ h => h) (Or.inl ⟨by rfl, fun w1 h => by have hc := h; go_simp⟩) hHeld ?_
  dsimp only [Act.put, List.getElem_toArray, List.getElem_cons_zero, List.getElem_cons_succ]
  simp only [List.setIfInBounds_toArray, List.set_cons_succ, List.set_cons_zero]
  refine wpAnyH_take (i := 2) (v := (.slice ao code.length cap)) rfl (by kernel_rfl) (by kernel_rfl) (by kernel_rfl) (fun _ _ _ h => h) (Or.inl ⟨by rfl, ?_⟩) hHeld ?_
  · intro _ _; go_simp
  dsimp only [Act.put, List.getElem_toArray, List.getElem_cons_zero, List.getElem_cons_succ]
  simp only [List.setIfInBounds_toArray, List.set_cons_succ, List.set_cons_zero]
  refine wpAnyH_take (i := 4) (v := (.slice (some ⟨gD, 0, none⟩) n n)) rfl (by kernel_rfl) (by kernel_rfl) (by kernel_rfl) (fun _ _ _ h => h) (Or.inl ⟨by rfl, ?_⟩) hHeld ?_
  · intro _ _; go_simp
  dsimp only [Act.put, List.getElem_toArray, List.getElem_cons_zero, List.getElem_cons_succ]
  simp only [List.setIfInBounds_toArray, List.set_cons_succ, List.set_cons_zero]
  refine wpAnyH_ready (rs := [3]) (by kernel_rfl) (by simp) ?_
  refine AllReadyH.cons rfl (fun K hK => ?_) (AllReadyH.nil)
  go_simp
  refine (HC2.out V hrV).mono ?_
  rintro e w_1 ⟨rfl, own_1, bel_1⟩
  have b_1 := below_step b_0 bel_1
  obtain ⟨_, _, hvK, rK2, -⟩ := own_1.own.shape
  rw [hkl] at hvK
  cases hvK
  clear own_1
  go_wp2_with fail
  refine hK.out _ _ (keep.out b_1) (fun hHeld => ?_)
  clear hK K
  try dsimp only [Act.put]
  refine wpAnyH_ready (rs := [5]) (by kernel_rfl) (by simp) ?_
  refine AllReadyH.cons rfl (fun K hK => ?_) (AllReadyH.nil)
  go_simp
  refine (HRS.out _ _ (rDV.below b_1) rK2).mono ?_
  rintro e w_2 ⟨v_2, rfl, own_2, bel_2⟩
  have b_2 := below_step b_1 bel_2
  obtain ⟨a5, c5, rfl, row5, -⟩ := own_2.shape
  rw [hRl]
  clear own_2
  go_wp2_with fail
  refine hK.out _ _ (keep.out b_2) (fun hHeld => ?_)
  clear hK K
  try dsimp only [Act.put]
  refine wpAnyH_ready (rs := [6]) (by kernel_rfl) (by simp) ?_
  refine AllReadyH.cons rfl (fun K hK => ?_) (AllReadyH.nil)
  go_simp
  refine (HSR.out _ _ _ _ _ (rRV.below b_2) row5).mono ?_
  rintro e w_3 ⟨rfl, hw_3⟩
  subst w_3
  go_wp2_with fail
  refine hK.out _ _ (keep.out b_2) (fun hHeld => ?_)
  clear hK K
  try dsimp only [Act.put]
  refine wpAnyH_ready (rs := [7]) (by kernel_rfl) (by simp) ?_
  refine AllReadyH.cons rfl (fun K hK => ?_) (AllReadyH.nil)
  go_simp
  refine hK.out _ _ (keep.out b_2) (fun hHeld => ?_)
  clear hK K
  try dsimp only [Act.put]
  refine wpAnyH_done (by kernel_rfl) ?_ _
  have rR3 := rRV.below b_2
  have rB3 := rBV.below b_2
  have rM3 := rMV.below b_2
  have rD3 := rDV.below b_2
  have hr3 := hrV.below b_2
  have s3 := sV.below b_2
  have k3 := kOV.below b_2 kOV.lt
  have b3 := bV.trans (b_2.mono bV.size)
  clear rRV rBV rMV rDV hrV sV kOV bV b_1 b_2 bel_1 bel_2 row5 hHeld keep rK2 HC2 HRS HSR
  go_wp2_with fail
  obtain ⟨wL, hwL⟩ : ∃ x, x = w_2 := ⟨_, rfl⟩
  rw [← hwL] at rR3 rB3 rM3 rD3 hr3 s3 k3 b3 ⊢
  clear hwL
  go_loopw [7] (fun i wr => ∃ k : Nat, k ≤ 72 ∧ i = .int .i64 (k : Int) ∧ Below wL.heap.size wL wr) (fun i _ => 80 - (intOf i).toNat)
  case atStart => exact ⟨0, by omega, rfl, Below.refl _ _⟩
  case round =>
    obtain ⟨k, hk, rfl, hbx⟩ := hrel
    by_cases hk64 : k < 64
    · have hkI : (k : Int) < 64 := by omega
      have rR4 := rR3.below hbx
      have rB4 := rB3.below hbx
      have rM4 := rM3.below hbx
      have rD4 := rD3.below hbx
      have hr4 := hr3.below hbx
      have s4 := s3.below hbx
      have k4 := k3.below hbx k3.lt
      have b4 := b3.trans (hbx.mono b3.size)
      have c1 := k4.cell 1 (by simp)
      have hsz := hbx.size
      have c1' : (wr.alloc (.cells #[] 5)).cell? ⟨gO, 1, none⟩ = some (.slice (some ⟨gR, 0, none⟩) 8 cR) := (k4.alloc _).cell 1 (by simp)
      have hnw := row_newsR (rR4.below (below_new wr (.cells #[] 5)))
      obtain ⟨j, hj⟩ : ∃ j, j = k / 8 := ⟨_, rfl⟩
      obtain ⟨r, hr⟩ : ∃ r, r = k % 8 := ⟨_, rfl⟩
      have hj8 : j < 8 := by omega
      have hj8I : (j : Int) < 8 := by omega
      have hr8 : r < 8 := by omega
      have hqd : (k : Int) / 8 = (j : Int) := by omega
      have hqt : (k : Int).tdiv 8 = (j : Int) := by rw [Int.tdiv_eq_ediv_of_nonneg (Int.natCast_nonneg _)]; exact hqd
      have hqm : (k : Int) % 8 = (r : Int) := by omega
      have hqmt : (k : Int).tmod 8 = (r : Int) := by rw [Int.tmod_eq_emod_of_nonneg (Int.natCast_nonneg _)]; exact hqm
      have hwj : IntKind.i64.wrap (j : Int) = (j : Int) := by rw [IntKind.wrap_i64]; omega
      have hwr : IntKind.u64.wrap (r : Int) = (r : Int) := by rw [IntKind.wrap_u64]; omega
      obtain ⟨x, hx⟩ : ∃ x, x = (R.getD j 0).toNat := ⟨_, rfl⟩
      have hx8 : x < 256 := by rw [hx]; exact UInt8.toNat_lt _
      obtain ⟨t, ht⟩ : ∃ t, t = 2 ^ r := ⟨_, rfl⟩
      have ht8 : t < 256 := by rw [ht]; exact Nat.lt_of_lt_of_le (Nat.pow_lt_pow_right (by omega) hr8) (Nat.le_refl _)
      have ht0 : t ≠ 0 := by rw [ht]; exact Nat.ne_of_gt (Nat.pow_pos (by omega))
      have hsh : IntKind.u8.wrap (2 ^ r) = (t : Int) := by rw [IntKind.wrap_u8, show (2 : Int) ^ r = (t : Int) from by rw [ht]; simp]; omega
      obtain ⟨y, hy⟩ : ∃ y, y = x ^^^ t := ⟨_, rfl⟩
      have hy8 : y < 256 := by rw [hy]; exact Nat.xor_lt_two_pow (n := 8) hx8 ht8
      have hyx : y ≠ x := by rw [hy]; intro h; exact ht0 (by have h2 := congrArg (x ^^^ ·) h; simpa [← Nat.xor_assoc] using h2)
      have hxr : bits BinOp.xor IntKind.u8 (x : Int) (t : Int) = (y : Int) := by rw [hy]; exact u8_xor_nat x t hx8 ht8
      obtain ⟨R2, hR2⟩ : ∃ l, l = R.set j (UInt8.ofNat y) := ⟨_, rfl⟩
      have hR2l : R2.length = 8 := by rw [hR2, List.length_set, hRl]
      have hne : ¬ R = R2 := by
        intro h
        have h1 : R2.getD j 0 = UInt8.ofNat y := by rw [hR2]; simp [show j < R.length from by omega]
        rw [← h] at h1
        have h2 : x = y := by rw [hx, h1, UInt8.toNat_ofNat']; omega
        exact hyx h2.symm
      have HCk6 := hide (HCk.out R2)
      rw [HCC.out R2, if_neg hne, hR2l] at HCk6
      have HX : Hid (∀ (w5 : World) (g : Nat) (cs : List Value), Blk w5 g 5 cs → cs.take R.length = R.map byte → w5.cell? ⟨g, j, none⟩ = some (.int .u8 (x : Int)) ∧ RowAt (w5.setCell ⟨g, j, none⟩ (.int .u8 (y : Int))) (some ⟨g, 0, none⟩) R2) := by
        show ∀ (w5 : World) (g : Nat) (cs : List Value), Blk w5 g 5 cs → cs.take R.length = R.map byte → w5.cell? ⟨g, j, none⟩ = some (.int .u8 (x : Int)) ∧ RowAt (w5.setCell ⟨g, j, none⟩ (.int .u8 (y : Int))) (some ⟨g, 0, none⟩) R2
        intro w5 g cs hk hcs
        have hrow := row_of_take hk hcs
        obtain ⟨_, _, e, hc⟩ := hrow.at (k := j) (by omega)
        cases e
        refine ⟨?_, row_of_take (hk.set j _) ?_⟩
        · have h := hc j (by omega)
          rw [Nat.zero_add] at h
          rw [h, hx]
        · rw [List.take_set, hR2l, ← hRl, hcs, hR2, List.map_set]
          congr 1
          simp only [byte, UInt8.toNat_ofNat']
          rw [Nat.mod_eq_of_lt (by omega)]
      clear hj hr hx ht ht0 hy hyx hR2 hne
      go_wp2_with (at_builtin; refine wpList_append_own _ rfl _ _ 22 rfl wr.heap.size 5 i0 (.int .u8 0) 1 1 Tryd.underlying22 hi0 hz0 hz1 hz2 rfl (by decide) _ _ _ rfl (empty_ownR wr) ⟨gR, 0, none⟩ 8 cR (R.map byte) rfl (by rw [List.length_map, hRl]) hnw (all_oneR _) (by unfold maxLen; omega) (by omega) (by simp) ?_; intro v5 w5 own5 grow5 nil5; obtain ⟨gX, cX, cs, rfl, lX, hcX, kX, hcs⟩ := app_shape own5 hRl; obtain ⟨cX1, rX2⟩ := HX.out w5 gX cs kX hcs; have fX := kX.free j; have HrX := hide rX2; clear rX2 own5 nil5 hcs)
      replace grow5 : World.grownBy _ w5 (some wr.heap.size) := grow5
      have b5 : Below wr.heap.size wr w5 := (below_new wr (.cells #[] 5)).grown grow5 (by simp) (by intro q hq; injection hq with hq; omega)
      have b6 : Below wr.heap.size wr (w5.setCell ⟨gX, j, none⟩ (.int .u8 (y : Int))) := b5.setCell (p := ⟨gX, j, none⟩) lX _
      refine (HCk6.out _ _ _ _ _ _ _ _ _ hcB (Nat.le_refl _) (s4.below b6) (rM4.below b6) (rB4.below b6) (rD4.below b6) HrX.out).mono ?_
      rintro e w7 ⟨rfl, bel7⟩
      have b7 : Below wr.heap.size wr w7 := b6.trans (bel7.mono b6.size)
      have hr7 := hr4.below b7
      have b8 : Below wL.heap.size wL w7 := hbx.trans (b7.mono hbx.size)
      obtain ⟨d9, hd9⟩ : ∃ d, d = p2 % 9 := ⟨_, rfl⟩
      have h9 : d9 < 9 := by omega
      have hq9 : (p2 : Int) % 9 = (d9 : Int) := by omega
      obtain ⟨d, hd⟩ : ∃ d, d = 1 + d9 := ⟨_, rfl⟩
      have hdl : 1 ≤ d ∧ d ≤ 9 := by omega
      have hwd : IntKind.i64.wrap (1 + (d9 : Int)) = (d : Int) := by rw [IntKind.wrap_i64]; omega
      obtain ⟨k2, hk2⟩ : ∃ q, q = k + d := ⟨_, rfl⟩
      have hwk : IntKind.i64.wrap ((k : Int) + (d : Int)) = (k2 : Int) := by rw [IntKind.wrap_i64]; omega
      have hk3 : k < k2 ∧ k2 ≤ 72 := by omega
      clear b5 b6 b7 bel7 grow5 rR4 rB4 rM4 rD4 s4 k4 b4 c1 c1' hnw HrX cX1 fX kX HCk6 HX hd9 hd hk2
      go_wp2_with fail
      refine (HP2.out w7 hr7).mono ?_
      rintro e w7' ⟨rfl, hw⟩
      subst w7'
      go_wp2_with fail
      go_roundw
      case rel => exact ⟨k2, hk3.2, by go_num, b8⟩
      case measure => simp [intOf]; omega
    · have hkI : ¬ ((k : Int) < 64) := by omega
      have bE := b3.trans (hbx.mono b3.size)
      go_wp2_with fail
      go_ret
      exact ⟨rfl, bE⟩
end Go.Proofs.YtdelidfigcgglaaDoor
