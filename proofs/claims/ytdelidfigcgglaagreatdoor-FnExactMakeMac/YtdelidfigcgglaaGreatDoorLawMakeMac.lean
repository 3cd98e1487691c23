/-
  laws.FnExactMakeMac: the walk out of the contracts.
-/
import Derived.Test.YtdelidfigcgglaaGreatDoorMacI
import Derived.Test.YtdelidfigcgglaaGreatDoorGrA
namespace Go.Proofs.YtdelidfigcgglaaGreatDoor
open Go.RowKit

set_option maxHeartbeats 1000000 in
theorem eqMacOut_any (C : Int) (L : List UInt8) (a1 a2 : Option Addr) (c1 c2 : Nat) (w : World) (hn : L.length ≤ 1048576) (r1 : RowAt w a1 L) (r2 : RowAt w a2 L) :
    Calls Tryz.prog 7 #[.agg #[.int .i64 C, .slice a1 L.length c1], .agg #[.int .i64 C, .slice a2 L.length c2]] w fun e w' => e = .returned (.bool true) ∧ Below w.heap.size w w' := by
  obtain ⟨n, hnl⟩ : ∃ n, n = L.length := ⟨_, rfl⟩
  have hE := fun (wx : World) (h1 : RowAt wx a1 L) (h2 : RowAt wx a2 L) => eqByteS_any a1 a2 c1 c2 L wx hn h1 h2
  rw [← hnl] at hE ⊢
  have HE := hide hE
  clear hE
  obtain ⟨wb, hwb⟩ : ∃ x, x = (w.alloc (.cells #[.int .i64 C, .slice a1 n c1] 24)).alloc (.cells #[.int .i64 C, .slice a2 n c2] 24) := ⟨_, rfl⟩
  have b1 : Below w.heap.size w wb := by rw [hwb]; exact ((Below.refl _ w).alloc (Nat.le_refl _) _).alloc (by simp) _
  have q1 := r1.below b1
  have q2 := r2.below b1
  clear hnl
  go_enter Tryz.func7, Tryz.ntmps7
  go_wp2_with fail
  rw [← hwb]
  refine (HE.out wb q1 q2).mono ?_
  rintro e w2 ⟨rfl, m2, rfl⟩
  clear hwb
  go_wp2_with fail
  go_ret
  exact ⟨rfl, below_drewN b1 m2⟩
set_option maxHeartbeats 1000000 in
theorem markMacOut_any (C : Int) (L : List UInt8) (base : Nat) (a1 : Option Addr) (c1 : Nat) (w : World) (hn : L.length ≤ 8) (ho : Own w base (.slice a1 L.length c1) L) :
    Calls Tryz.prog 10 #[.agg #[.int .i64 C, .slice a1 L.length c1], .int .i64 1] w fun e w' => e = .returned (.int .i64 ((1 + L.length : Nat) : Int)) ∧ Own w' base (.slice a1 L.length c1) (marks 1 L.length) ∧ ∃ x, Below w.heap.size w x ∧ x.grownBy w' (Value.slice a1 L.length c1).ownBlock := by
  have hM := fun (wx : World) (h : Own wx base (.slice a1 L.length c1) L) => markByteS_any base a1 c1 L 1 wx (by omega) (by omega) h
  have ho1 := ho.below (below_new w (.cells #[.int .i64 C, .slice a1 L.length c1] 24))
  obtain ⟨n, hnl⟩ : ∃ n, n = L.length := ⟨_, rfl⟩
  rw [← hnl] at hM ho1 hn ⊢
  have HM := hide hM
  clear hM hnl ho
  go_enter Tryz.func10, Tryz.ntmps10
  go_wp2_with fail
  refine (HM.out _ ho1).mono ?_
  rintro e w2 ⟨rfl, own2, gr2⟩
  have HO := hide own2
  have HG := hide gr2
  clear own2 gr2
  go_wp2_with fail
  go_ret
  exact ⟨rfl, HO.out, _, below_new _ _, HG.out⟩
set_option maxHeartbeats 1000000 in
theorem heldMacOut_any (C : Int) (n : Nat) (a1 : Option Addr) (c1 : Nat) (w : World) (hn : n ≤ 8) (hr : RowAt w a1 (marks 1 n)) :
    Calls Tryz.prog 11 #[.agg #[.int .i64 C, .slice a1 n c1], .int .i64 1] w fun e w' => e = .returned (.int .i64 ((1 + n : Nat) : Int)) ∧ Below w.heap.size w w' := by
  have hH := fun (wx : World) (h : RowAt wx a1 (marks 1 n)) => heldByteS_any a1 c1 n 1 wx (by omega) (by omega) h
  have HH := hide hH
  have hr1 := hr.below (below_new w (.cells #[.int .i64 C, .slice a1 n c1] 24))
  have hneg : ¬ (((1 + n : Nat) : Int) < 0) := by omega
  clear hH hr
  go_enter Tryz.func11, Tryz.ntmps11
  go_wp2_with fail
  refine (HH.out _ hr1).mono ?_
  rintro e w2 ⟨rfl, rfl⟩
  go_wp2_with fail
  go_ret
  exact ⟨rfl, below_new _ _⟩

set_option maxRecDepth 100000 in
set_option maxHeartbeats 4000000 in
theorem lawMakeMac_main (master key data : List UInt8) (amaster akey adata : Option Addr) (cmaster ckey cdata : Nat) (x0 x1 : Addr) (w : World) (hnmaster : master.length ≤ 1048576) (hnkey : key.length ≤ 1048576) (hndata : data.length ≤ 1048576) (hs : Sents w x0 x1) (rmaster : RowAt w amaster master) (rkey : RowAt w akey key) (rdata : RowAt w adata data) :
    Calls Tryz.prog 3 #[.slice amaster master.length cmaster, .slice akey key.length ckey, .slice adata data.length cdata] w fun e w' => e = .returned (.bool true) ∧ Below w.heap.size w w' := by
  have HS := hide (fun (a1 a2 a3 : Option Addr) (c1 c2 c3 : Nat) (wx : World) (h2 : key.length ≤ c2) (h3 : data.length ≤ c3) (r1 : RowAt wx a1 master) (r2 : RowAt wx a2 key) (r3 : RowAt wx a3 data) => makeMacS_any master key data a1 a2 a3 c1 c2 c3 wx hnmaster h2 h3 hndata r1 r2 r3)
  have HI := hide (fun (a1 a2 a3 : Option Addr) (c1 c2 c3 : Nat) (wx : World) (h2 : key.length ≤ c2) (h3 : data.length ≤ c3) (hs : Sents wx x0 x1) (r1 : RowAt wx a1 master) (r2 : RowAt wx a2 key) (r3 : RowAt wx a3 data) => makeMac_any master key data a1 a2 a3 c1 c2 c3 x0 x1 wx h2 h3 hndata hs r1 r2 r3)
  have hL := macL_le master key data
  have snlt := hs.lt
  obtain ⟨C, hC⟩ : ∃ C, C = macC master key data := ⟨_, rfl⟩
  obtain ⟨L, hLe⟩ : ∃ C, C = macL master key data := ⟨_, rfl⟩
  rw [← hC, ← hLe] at HS HI
  rw [← hLe] at hL
  clear hC hLe
  have HTmaster := hide (fun (wx : World) (h : RowAt wx amaster master) => toByteS_any amaster cmaster master wx hnmaster h)
  have HRmaster := hide rmaster
  have hn'master : ¬ ((1048576 : Int) < (master.length : Int)) := by omega
  have HTkey := hide (fun (wx : World) (h : RowAt wx akey key) => toByteS_any akey ckey key wx hnkey h)
  have HRkey := hide rkey
  have hn'key : ¬ ((1048576 : Int) < (key.length : Int)) := by omega
  have HTdata := hide (fun (wx : World) (h : RowAt wx adata data) => toByteS_any adata cdata data wx hndata h)
  have HRdata := hide rdata
  have hn'data : ¬ ((1048576 : Int) < (data.length : Int)) := by omega
  clear rmaster rkey rdata
  go_enter Tryz.func3, Tryz.ntmps3
  have bz : Below w.heap.size w w := Below.refl _ _
  go_wp2_with fail
  refine (HTmaster.out w (HRmaster.out.below bz)).mono ?_
  rintro e v1 ⟨rfl, own1, bel1⟩
  obtain ⟨_, _, hv1, row1, gx1, -⟩ := own1.shape
  cases hv1
  have bz_1 := bz.trans (bel1.mono bz.size)
  have sn_1 := hs.below bel1
  clear bz hs bel1
  clear own1 gx1
  go_wp2_with fail
  refine (HTkey.out v1 (HRkey.out.below bz_1)).mono ?_
  rintro e v2 ⟨rfl, own2, bel2⟩
  obtain ⟨_, _, hv2, row2, gx2, -⟩ := own2.shape
  cases hv2
  have bz_2 := bz_1.trans (bel2.mono bz_1.size)
  have sn_2 := sn_1.below bel2
  have qmaster_2 := row1.below bel2
  clear bz_1 sn_1 row1 bel2
  clear own2 gx2
  go_wp2_with fail
  refine (HTdata.out v2 (HRdata.out.below bz_2)).mono ?_
  rintro e v3 ⟨rfl, own3, bel3⟩
  obtain ⟨_, _, hv3, row3, gx3, -⟩ := own3.shape
  cases hv3
  have bz_3 := bz_2.trans (bel3.mono bz_2.size)
  have sn_3 := sn_2.below bel3
  have qmaster_3 := qmaster_2.below bel3
  have qkey_3 := row2.below bel3
  clear bz_2 sn_2 qmaster_2 row2 bel3
  clear own3 gx3
  go_wp2_with fail
  refine (HS.out (some ⟨w.heap.size, 0, none⟩) (some ⟨v1.heap.size, 0, none⟩) (some ⟨v2.heap.size, 0, none⟩) _ _ _ v3 (Nat.le_refl _) (Nat.le_refl _) qmaster_3 qkey_3 row3).mono ?_
  rintro e w2 ⟨vS, rfl, ownS, bel2⟩
  obtain ⟨aS, cS, rfl, rowS, gS, -, -⟩ := ownS.shape
  clear qmaster_3
  clear qkey_3
  clear row3
  have bz_4 := bz_3.trans (bel2.mono bz_3.size)
  have sn_4 := sn_3.below bel2
  clear bz_3 sn_3 bel2
  obtain ⟨l, hl⟩ : ∃ l, l = L.length := ⟨_, rfl⟩
  have Hl := hide hl
  rw [← hl] at hL ownS ⊢
  have lS : ∀ a, aS = some a → a.block < w2.heap.size := by intro a h; obtain ⟨g, rfl, -, h2⟩ := gS a h; exact h2
  obtain ⟨wA, hwA⟩ : ∃ x, x = w2.alloc (.cells #[.int .i64 C, .slice aS l cS] 24) := ⟨_, rfl⟩
  have b2A : Below w2.heap.size w2 wA := by rw [hwA]; exact below_new _ _
  have kW : Blk wA w2.heap.size 24 [.int .i64 C, .slice aS l cS] := by rw [hwA]; exact Blk.new w2 _ _
  have rSA := rowS.below b2A
  have hS2 := bz_4.size
  have bz_5 := bz_4.trans (b2A.mono bz_4.size)
  have sn_5 := sn_4.below b2A
  clear bz_4 sn_4 b2A
  obtain ⟨W, hW⟩ : ∃ W, W = w2.heap.size := ⟨_, rfl⟩
  have HWA : Hid (W < wA.heap.size ∧ w.heap.size ≤ W) := by rw [hW]; exact ⟨kW.lt, hS2⟩
  have LS : Hid (∀ a, aS = some a → a.block < W) := by rw [hW]; exact lS
  clear ownS rowS gS hl lS hS2
  go_wp2_with fail
  rw [← hwA]
  rw [← hW] at kW ⊢
  clear hwA hW
  refine (HTmaster.out wA (HRmaster.out.below bz_5)).mono ?_
  rintro e v4 ⟨rfl, own4, bel4⟩
  obtain ⟨_, _, hv4, row4, gx4, -⟩ := own4.shape
  cases hv4
  have bz_6 := bz_5.trans (bel4.mono bz_5.size)
  have sn_6 := sn_5.below bel4
  have kW_6 := kW.below bel4 kW.lt
  have rS_6 := rSA.below bel4
  clear bz_5 sn_5 kW rSA bel4
  obtain ⟨X0, hX0⟩ : ∃ X, X = wA.heap.size := ⟨_, rfl⟩
  have HX0 : Hid (W < X0 ∧ X0 < v4.heap.size ∧ w.heap.size ≤ W) := by rw [hX0]; obtain ⟨g, hg, -, h⟩ := gx4 _ rfl; cases hg; exact ⟨HWA.out.1, h, HWA.out.2⟩
  rw [← hX0] at own4 row4 ⊢
  clear hX0 gx4
  go_wp2_with fail
  refine (HTkey.out v4 (HRkey.out.below bz_6)).mono ?_
  rintro e v5 ⟨rfl, own5, bel5⟩
  obtain ⟨_, _, hv5, row5, gx5, -⟩ := own5.shape
  cases hv5
  have bz_7 := bz_6.trans (bel5.mono bz_6.size)
  have sn_7 := sn_6.below bel5
  have kW_7 := kW_6.below bel5 kW_6.lt
  have rS_7 := rS_6.below bel5
  have x0_7 := own4.below bel5
  have q0_7 := row4.below bel5
  clear bz_6 sn_6 kW_6 rS_6 own4 row4 bel5
  obtain ⟨X1, hX1⟩ : ∃ X, X = v4.heap.size := ⟨_, rfl⟩
  have HX1 : Hid (X0 < X1 ∧ X1 < v5.heap.size) := by rw [hX1]; obtain ⟨g, hg, -, h⟩ := gx5 _ rfl; cases hg; exact ⟨HX0.out.2.1, h⟩
  rw [← hX1] at own5 row5 ⊢
  clear hX1 gx5
  go_wp2_with fail
  refine (HTdata.out v5 (HRdata.out.below bz_7)).mono ?_
  rintro e v6 ⟨rfl, own6, bel6⟩
  obtain ⟨_, _, hv6, row6, gx6, -⟩ := own6.shape
  cases hv6
  have bz_8 := bz_7.trans (bel6.mono bz_7.size)
  have sn_8 := sn_7.below bel6
  have kW_8 := kW_7.below bel6 kW_7.lt
  have rS_8 := rS_7.below bel6
  have x0_8 := x0_7.below bel6
  have q0_8 := q0_7.below bel6
  have x1_8 := own5.below bel6
  have q1_8 := row5.below bel6
  clear bz_7 sn_7 kW_7 rS_7 x0_7 q0_7 own5 row5 bel6
  obtain ⟨X2, hX2⟩ : ∃ X, X = v5.heap.size := ⟨_, rfl⟩
  have HX2 : Hid (X1 < X2 ∧ X2 < v6.heap.size) := by rw [hX2]; obtain ⟨g, hg, -, h⟩ := gx6 _ rfl; cases hg; exact ⟨HX1.out.2, h⟩
  rw [← hX2] at own6 row6 ⊢
  clear hX2 gx6
  clear HWA
  go_wp2_with fail
  refine (HI.out (some ⟨X0, 0, none⟩) (some ⟨X1, 0, none⟩) (some ⟨X2, 0, none⟩) _ _ _ v6 (Nat.le_refl _) (Nat.le_refl _) sn_8 q0_8 q1_8 row6).mono ?_
  rintro e w4 ⟨vI, rfl, ownI, bel4⟩
  obtain ⟨aI, cI, rfl, rowI, gI, -, -⟩ := ownI.shape
  rw [← Hl.out] at ownI ⊢
  clear q0_8
  clear q1_8
  clear row6
  have hs34 := bel4.size
  have bz_9 := bz_8.trans (bel4.mono bz_8.size)
  have sn_9 := sn_8.below bel4
  have kW_9 := kW_8.below bel4 kW_8.lt
  have rS_9 := rS_8.below bel4
  have x0_9 := x0_8.below bel4
  have x1_9 := x1_8.below bel4
  have x2_9 := own6.below bel4
  clear bz_8 sn_8 kW_8 rS_8 x0_8 x1_8 own6 bel4
  obtain ⟨wB, hwB⟩ : ∃ x, x = w4.alloc (.cells #[.int .i64 C, .slice aI l cI] 24) := ⟨_, rfl⟩
  have b4B : Below w4.heap.size w4 wB := by rw [hwB]; exact below_new _ _
  have rIB := rowI.below b4B
  have oIB := ownI.below b4B
  have kGB : Blk wB w4.heap.size 24 [.int .i64 C, .slice aI l cI] := by rw [hwB]; exact Blk.new w4 _ _
  have bz_10 := bz_9.trans (b4B.mono bz_9.size)
  have sn_10 := sn_9.below b4B
  have kW_10 := kW_9.below b4B kW_9.lt
  have rS_10 := rS_9.below b4B
  have x0_10 := x0_9.below b4B
  have x1_10 := x1_9.below b4B
  have x2_10 := x2_9.below b4B
  clear bz_9 sn_9 kW_9 rS_9 x0_9 x1_9 x2_9 b4B
  obtain ⟨G, hG⟩ : ∃ G, G = w4.heap.size := ⟨_, rfl⟩
  rw [← hG] at kGB
  have LI : Hid (∀ a, aI = some a → ∃ g, a = ⟨g, 0, none⟩ ∧ X2 < g ∧ g < G) := by
    show ∀ a, aI = some a → ∃ g, a = ⟨g, 0, none⟩ ∧ X2 < g ∧ g < G
    intro a ha
    obtain ⟨g, h1, h2, h3⟩ := gI a ha
    have h4 := HX2.out.2
    exact ⟨g, h1, by omega, by omega⟩
  have HG : Hid (X2 < G) := by
    show X2 < G
    have h4 := HX2.out.2
    omega
  have LT : Hid (w.heap.size ≤ W ∧ W < X0 ∧ X0 < X1 ∧ X1 < X2 ∧ X2 < G) := ⟨HX0.out.2.2, HX0.out.1, HX1.out.1, HX2.out.1, HG.out⟩
  clear ownI rowI gI hs34 HG HX0 HX1 HX2
  go_upto_region 12 with fail
  rw [← hwB, ← hG]
  clear hwB hG
  have HEQ := hide (fun (a2 : Option Addr) (c2 : Nat) (wx : World) (h1 : RowAt wx a2 L) (h2 : RowAt wx aS L) => eqMacOut_any C L a2 aS c2 cS wx (by rw [← Hl.out]; omega) h1 h2)
  have HMK := hide (fun (B : Nat) (wx : World) (h : Own wx B (.slice aI l cI) L) => markMacOut_any C L B aI cI wx (by rw [← Hl.out]; exact hL) (by rw [← Hl.out]; exact h))
  have HHD := hide (fun (wx : World) (h : RowAt wx aI (marks 1 l)) => heldMacOut_any C l aI cI wx hL h)
  rw [← Hl.out] at HEQ HMK
  have p0 := kGB.cell 0 (by simp)
  have p1 := kGB.cell 1 (by simp)
  have z0 := kW_10.cell 0 (by simp)
  have z1 := kW_10.cell 1 (by simp)
  go_wp2_with fail
  refine (HEQ.out _ _ wB rIB rS_10).mono ?_
  rintro e w5 ⟨rfl, bew5⟩
  clear p0 p1
  clear z0 z1
  have bz_11 := bz_10.trans (bew5.mono bz_10.size)
  have sn_11 := sn_10.below bew5
  have kW_11 := kW_10.below bew5 kW_10.lt
  have rS_11 := rS_10.below bew5
  have x0_11 := x0_10.below bew5
  have x1_11 := x1_10.below bew5
  have x2_11 := x2_10.below bew5
  have rI_11 := rIB.below bew5
  have oI_11 := oIB.below bew5
  have kG_11 := kGB.below bew5 kGB.lt
  clear bz_10 sn_10 kW_10 rS_10 x0_10 x1_10 x2_10 rIB oIB kGB bew5
  go_wp2_with fail
  refine (HTmaster.out w5 (HRmaster.out.below bz_11)).mono ?_
  rintro e v7 ⟨rfl, own7, bel7⟩
  obtain ⟨_, _, hv7, row7, gx7, -⟩ := own7.shape
  cases hv7
  have bz_12 := bz_11.trans (bel7.mono bz_11.size)
  have sn_12 := sn_11.below bel7
  have kW_12 := kW_11.below bel7 kW_11.lt
  have rS_12 := rS_11.below bel7
  have x0_12 := x0_11.below bel7
  have x1_12 := x1_11.below bel7
  have x2_12 := x2_11.below bel7
  have rI_12 := rI_11.below bel7
  have oI_12 := oI_11.below bel7
  have kG_12 := kG_11.below bel7 kG_11.lt
  clear bz_11 sn_11 kW_11 rS_11 x0_11 x1_11 x2_11 rI_11 oI_11 kG_11 bel7
  clear own7 gx7
  obtain ⟨_, _, hvX, rX, -⟩ := x0_12.shape
  cases hvX
  go_wp2_with fail
  refine (eqByteS_any _ _ _ _ master v7 hnmaster rX row7).mono ?_
  rintro e v7d ⟨rfl, m7, rfl⟩
  clear rX row7
  have bz_13 := below_drewN bz_12 m7
  have sn_13 : Sents (v7.drewN m7) _ _ := ⟨sn_12.g0, sn_12.g1, sn_12.ne, sn_12.b0, sn_12.b1⟩
  have kW_13 : Blk (v7.drewN m7) _ _ _ := kW_12
  have rS_13 : RowAt (v7.drewN m7) _ _ := rS_12
  have x0_13 := x0_12.drew m7
  have x1_13 := x1_12.drew m7
  have x2_13 := x2_12.drew m7
  have rI_13 : RowAt (v7.drewN m7) _ _ := rI_12
  have oI_13 := oI_12.drew m7
  have kG_13 : Blk (v7.drewN m7) _ _ _ := kG_12
  clear bz_12 sn_12 kW_12 rS_12 x0_12 x1_12 x2_12 rI_12 oI_12 kG_12
  go_wp2_with fail
  refine (HTkey.out (v7.drewN m7) (HRkey.out.below bz_13)).mono ?_
  rintro e v8 ⟨rfl, own8, bel8⟩
  obtain ⟨_, _, hv8, row8, gx8, -⟩ := own8.shape
  cases hv8
  have bz_14 := bz_13.trans (bel8.mono bz_13.size)
  have sn_14 := sn_13.below bel8
  have kW_14 := kW_13.below bel8 kW_13.lt
  have rS_14 := rS_13.below bel8
  have x0_14 := x0_13.below bel8
  have x1_14 := x1_13.below bel8
  have x2_14 := x2_13.below bel8
  have rI_14 := rI_13.below bel8
  have oI_14 := oI_13.below bel8
  have kG_14 := kG_13.below bel8 kG_13.lt
  clear bz_13 sn_13 kW_13 rS_13 x0_13 x1_13 x2_13 rI_13 oI_13 kG_13 bel8
  clear own8 gx8
  obtain ⟨_, _, hvX, rX, -⟩ := x1_14.shape
  cases hvX
  go_wp2_with fail
  refine (eqByteS_any _ _ _ _ key v8 hnkey rX row8).mono ?_
  rintro e v8d ⟨rfl, m8, rfl⟩
  clear rX row8
  have bz_15 := below_drewN bz_14 m8
  have sn_15 : Sents (v8.drewN m8) _ _ := ⟨sn_14.g0, sn_14.g1, sn_14.ne, sn_14.b0, sn_14.b1⟩
  have kW_15 : Blk (v8.drewN m8) _ _ _ := kW_14
  have rS_15 : RowAt (v8.drewN m8) _ _ := rS_14
  have x0_15 := x0_14.drew m8
  have x1_15 := x1_14.drew m8
  have x2_15 := x2_14.drew m8
  have rI_15 : RowAt (v8.drewN m8) _ _ := rI_14
  have oI_15 := oI_14.drew m8
  have kG_15 : Blk (v8.drewN m8) _ _ _ := kG_14
  clear bz_14 sn_14 kW_14 rS_14 x0_14 x1_14 x2_14 rI_14 oI_14 kG_14
  go_wp2_with fail
  refine (HTdata.out (v8.drewN m8) (HRdata.out.below bz_15)).mono ?_
  rintro e v9 ⟨rfl, own9, bel9⟩
  obtain ⟨_, _, hv9, row9, gx9, -⟩ := own9.shape
  cases hv9
  have bz_16 := bz_15.trans (bel9.mono bz_15.size)
  have sn_16 := sn_15.below bel9
  have kW_16 := kW_15.below bel9 kW_15.lt
  have rS_16 := rS_15.below bel9
  have x0_16 := x0_15.below bel9
  have x1_16 := x1_15.below bel9
  have x2_16 := x2_15.below bel9
  have rI_16 := rI_15.below bel9
  have oI_16 := oI_15.below bel9
  have kG_16 := kG_15.below bel9 kG_15.lt
  clear bz_15 sn_15 kW_15 rS_15 x0_15 x1_15 x2_15 rI_15 oI_15 kG_15 bel9
  clear own9 gx9
  obtain ⟨_, _, hvX, rX, -⟩ := x2_16.shape
  cases hvX
  go_wp2_with fail
  refine (eqByteS_any _ _ _ _ data v9 hndata rX row9).mono ?_
  rintro e v9d ⟨rfl, m9, rfl⟩
  clear rX row9
  have bz_17 := below_drewN bz_16 m9
  have sn_17 : Sents (v9.drewN m9) _ _ := ⟨sn_16.g0, sn_16.g1, sn_16.ne, sn_16.b0, sn_16.b1⟩
  have kW_17 : Blk (v9.drewN m9) _ _ _ := kW_16
  have rS_17 : RowAt (v9.drewN m9) _ _ := rS_16
  have x0_17 := x0_16.drew m9
  have x1_17 := x1_16.drew m9
  have x2_17 := x2_16.drew m9
  have rI_17 : RowAt (v9.drewN m9) _ _ := rI_16
  have oI_17 := oI_16.drew m9
  have kG_17 : Blk (v9.drewN m9) _ _ _ := kG_16
  clear bz_16 sn_16 kW_16 rS_16 x0_16 x1_16 x2_16 rI_16 oI_16 kG_16
  clear rI_17
  go_wp2_with fail
  refine (markByteS_any _ _ _ master 1 (v9.drewN m9) hnmaster (by omega) x0_17).mono ?_
  rintro e u0 ⟨rfl, ownm0, gr0⟩
  have hlt0 := LT.out
  have bz_18 : Below w.heap.size w u0 := bz_17.grown gr0 bz_17.size (by intro k hk; simp only [Value.ownBlock, Option.some.injEq] at hk; omega)
  have sn_18 : Sents u0 _ _ := Sents.grown (w := (v9.drewN m9)) sn_17 gr0 (by intro k hk; simp only [Value.ownBlock, Option.some.injEq] at hk; omega) snlt
  have kW_18 := Blk.grown (w := (v9.drewN m9)) kW_17 gr0 (by simp only [Value.ownBlock, ne_eq, Option.some.injEq]; omega)
  have rS_18 := RowAt.grown (w := (v9.drewN m9)) rS_17 gr0 (by intro a ha hc; have h1 := LS.out a ha; simp only [Value.ownBlock, Option.some.injEq] at hc; omega)
  have x1_18 := Own.grown (w := (v9.drewN m9)) x1_17 gr0 (by right; simp only [Value.ownBlock, ne_eq, Option.some.injEq]; omega)
  have x2_18 := Own.grown (w := (v9.drewN m9)) x2_17 gr0 (by right; simp only [Value.ownBlock, ne_eq, Option.some.injEq]; omega)
  have oI_18 := Own.grown (w := (v9.drewN m9)) oI_17 gr0 (by cases haI : aI with | none => exact .inl rfl | some a => obtain ⟨g, rfl, h, -⟩ := LI.out a haI; right; simp only [Value.ownBlock, ne_eq, Option.some.injEq]; omega)
  have kG_18 := Blk.grown (w := (v9.drewN m9)) kG_17 gr0 (by simp only [Value.ownBlock, ne_eq, Option.some.injEq]; omega)
  clear bz_17 sn_17 kW_17 rS_17 x0_17 x1_17 x2_17 oI_17 kG_17 ownm0 gr0 hlt0
  go_wp2_with fail
  refine (markByteS_any _ _ _ key (1 + master.length) u0 hnkey (by omega) x1_18).mono ?_
  rintro e u1 ⟨rfl, ownm1, gr1⟩
  have hlt1 := LT.out
  have bz_19 : Below w.heap.size w u1 := bz_18.grown gr1 bz_18.size (by intro k hk; simp only [Value.ownBlock, Option.some.injEq] at hk; omega)
  have sn_19 : Sents u1 _ _ := Sents.grown (w := u0) sn_18 gr1 (by intro k hk; simp only [Value.ownBlock, Option.some.injEq] at hk; omega) snlt
  have kW_19 := Blk.grown (w := u0) kW_18 gr1 (by simp only [Value.ownBlock, ne_eq, Option.some.injEq]; omega)
  have rS_19 := RowAt.grown (w := u0) rS_18 gr1 (by intro a ha hc; have h1 := LS.out a ha; simp only [Value.ownBlock, Option.some.injEq] at hc; omega)
  have x2_19 := Own.grown (w := u0) x2_18 gr1 (by right; simp only [Value.ownBlock, ne_eq, Option.some.injEq]; omega)
  have oI_19 := Own.grown (w := u0) oI_18 gr1 (by cases haI : aI with | none => exact .inl rfl | some a => obtain ⟨g, rfl, h, -⟩ := LI.out a haI; right; simp only [Value.ownBlock, ne_eq, Option.some.injEq]; omega)
  have kG_19 := Blk.grown (w := u0) kG_18 gr1 (by simp only [Value.ownBlock, ne_eq, Option.some.injEq]; omega)
  clear bz_18 sn_18 kW_18 rS_18 x1_18 x2_18 oI_18 kG_18 ownm1 gr1 hlt1
  go_wp2_with fail
  refine (markByteS_any _ _ _ data (1 + master.length + key.length) u1 hndata (by omega) x2_19).mono ?_
  rintro e u2 ⟨rfl, ownm2, gr2⟩
  have hlt2 := LT.out
  have bz_20 : Below w.heap.size w u2 := bz_19.grown gr2 bz_19.size (by intro k hk; simp only [Value.ownBlock, Option.some.injEq] at hk; omega)
  have sn_20 : Sents u2 _ _ := Sents.grown (w := u1) sn_19 gr2 (by intro k hk; simp only [Value.ownBlock, Option.some.injEq] at hk; omega) snlt
  have kW_20 := Blk.grown (w := u1) kW_19 gr2 (by simp only [Value.ownBlock, ne_eq, Option.some.injEq]; omega)
  have rS_20 := RowAt.grown (w := u1) rS_19 gr2 (by intro a ha hc; have h1 := LS.out a ha; simp only [Value.ownBlock, Option.some.injEq] at hc; omega)
  have oI_20 := Own.grown (w := u1) oI_19 gr2 (by cases haI : aI with | none => exact .inl rfl | some a => obtain ⟨g, rfl, h, -⟩ := LI.out a haI; right; simp only [Value.ownBlock, ne_eq, Option.some.injEq]; omega)
  have kG_20 := Blk.grown (w := u1) kG_19 gr2 (by simp only [Value.ownBlock, ne_eq, Option.some.injEq]; omega)
  clear bz_19 sn_19 kW_19 rS_19 x2_19 oI_19 kG_19 ownm2 gr2 hlt2
  have hk8 : ¬ (((1 + master.length + key.length + data.length : Nat) : Int) < 0) := by omega
  have rI8 := own_rowA oI_20
  have p0 := kG_20.cell 0 (by simp)
  have p1 := kG_20.cell 1 (by simp)
  have z0 := kW_20.cell 0 (by simp)
  have z1 := kW_20.cell 1 (by simp)
  go_wp2_with fail
  refine (HEQ.out _ _ u2 rI8 rS_20).mono ?_
  rintro e w9 ⟨rfl, bew9⟩
  clear p0 p1
  clear z0 z1
  have bz_21 := bz_20.trans (bew9.mono bz_20.size)
  have sn_21 := sn_20.below bew9
  have kW_21 := kW_20.below bew9 kW_20.lt
  have rS_21 := rS_20.below bew9
  have oI_21 := oI_20.below bew9
  have kG_21 := kG_20.below bew9 kG_20.lt
  have rI_21 := rI8.below bew9
  clear bz_20 sn_20 kW_20 rS_20 oI_20 kG_20 rI8 bew9
  clear rI_21
  have p0 := kG_21.cell 0 (by simp)
  have p1 := kG_21.cell 1 (by simp)
  go_wp2_with fail
  refine (HMK.out _ w9 oI_21).mono ?_
  rintro e w10 ⟨rfl, own10, gr10⟩
  clear p0 p1
  have hlt9 := LT.out
  have bI9 : ∀ k, (Value.slice aI l cI).ownBlock = some k → X2 < k ∧ k < G := by
    intro k hk
    cases haI : aI with
    | none => rw [haI] at hk; cases hk
    | some a =>
      obtain ⟨g, rfl, h1, h2⟩ := LI.out a haI
      rw [haI] at hk
      simp only [Value.ownBlock, Option.some.injEq] at hk
      omega
  obtain ⟨w9b, bb9, gr9⟩ := gr10
  have bz_22 : Below w.heap.size w w10 := (bz_21.trans (bb9.mono bz_21.size)).grown gr9 (by have := bz_21.size; have := bb9.size; omega) (by intro k hk; have h2 := (bI9 _ hk).1; omega)
  have sn_22 : Sents w10 _ _ := Sents.grown (sn_21.below bb9) gr9 (by intro k hk; have h2 := (bI9 _ hk).1; omega) snlt
  have kW_22 := (kW_21.below bb9 kW_21.lt).grown gr9 (by intro hc; have h2 := bI9 _ hc.symm; omega)
  have rS_22 := (rS_21.below bb9).grown gr9 (by intro a ha hc; have h1 := LS.out a ha; have h2 := (bI9 _ hc).1; omega)
  have kG_22 := (kG_21.below bb9 kG_21.lt).grown gr9 (by intro hc; have h2 := bI9 _ hc.symm; omega)
  have rI10 := own_rowA own10
  clear bz_21 sn_21 kW_21 rS_21 oI_21 kG_21 own10 gr9 bb9 bI9 hlt9
  have hml : ¬ (((1 + l : Nat) : Int) < 0) := by omega
  have p0 := kG_22.cell 0 (by simp)
  have p1 := kG_22.cell 1 (by simp)
  go_wp2_with fail
  refine (HHD.out w10 rI10).mono ?_
  rintro e w11 ⟨rfl, bew11⟩
  clear p0 p1
  have bz_23 := bz_22.trans (bew11.mono bz_22.size)
  have sn_23 := sn_22.below bew11
  have kW_23 := kW_22.below bew11 kW_22.lt
  have rS_23 := rS_22.below bew11
  have kG_23 := kG_22.below bew11 kG_22.lt
  have rI_23 := rI10.below bew11
  clear bz_22 sn_22 kW_22 rS_22 kG_22 rI10 bew11
  go_wp2_with fail
  refine (HTmaster.out w11 (HRmaster.out.below bz_23)).mono ?_
  rintro e v10 ⟨rfl, own10, bel10⟩
  obtain ⟨_, _, hv10, row10, gx10, -⟩ := own10.shape
  cases hv10
  have bz_24 := bz_23.trans (bel10.mono bz_23.size)
  have sn_24 := sn_23.below bel10
  have kW_24 := kW_23.below bel10 kW_23.lt
  have rS_24 := rS_23.below bel10
  have kG_24 := kG_23.below bel10 kG_23.lt
  have rI_24 := rI_23.below bel10
  clear bz_23 sn_23 kW_23 rS_23 kG_23 rI_23 bel10
  clear own10 gx10
  go_wp2_with fail
  refine (HTkey.out v10 (HRkey.out.below bz_24)).mono ?_
  rintro e v11 ⟨rfl, own11, bel11⟩
  obtain ⟨_, _, hv11, row11, gx11, -⟩ := own11.shape
  cases hv11
  have bz_25 := bz_24.trans (bel11.mono bz_24.size)
  have sn_25 := sn_24.below bel11
  have kW_25 := kW_24.below bel11 kW_24.lt
  have rS_25 := rS_24.below bel11
  have kG_25 := kG_24.below bel11 kG_24.lt
  have rI_25 := rI_24.below bel11
  have qmaster_25 := row10.below bel11
  clear bz_24 sn_24 kW_24 rS_24 kG_24 rI_24 row10 bel11
  clear own11 gx11
  go_wp2_with fail
  refine (HTdata.out v11 (HRdata.out.below bz_25)).mono ?_
  rintro e v12 ⟨rfl, own12, bel12⟩
  obtain ⟨_, _, hv12, row12, gx12, -⟩ := own12.shape
  cases hv12
  have bz_26 := bz_25.trans (bel12.mono bz_25.size)
  have sn_26 := sn_25.below bel12
  have kW_26 := kW_25.below bel12 kW_25.lt
  have rS_26 := rS_25.below bel12
  have kG_26 := kG_25.below bel12 kG_25.lt
  have rI_26 := rI_25.below bel12
  have qmaster_26 := qmaster_25.below bel12
  have qkey_26 := row11.below bel12
  clear bz_25 sn_25 kW_25 rS_25 kG_25 rI_25 qmaster_25 row11 bel12
  clear own12 gx12
  go_wp2_with fail
  refine (HI.out (some ⟨w11.heap.size, 0, none⟩) (some ⟨v10.heap.size, 0, none⟩) (some ⟨v11.heap.size, 0, none⟩) _ _ _ v12 (Nat.le_refl _) (Nat.le_refl _) sn_26 qmaster_26 qkey_26 row12).mono ?_
  rintro e w13 ⟨vH, rfl, ownH, bel13⟩
  obtain ⟨aH, cH, rfl, rowH, -, -, -⟩ := ownH.shape
  rw [← Hl.out]
  clear qmaster_26
  clear qkey_26
  clear row12
  have bz_27 := bz_26.trans (bel13.mono bz_26.size)
  have sn_27 := sn_26.below bel13
  have kW_27 := kW_26.below bel13 kW_26.lt
  have rS_27 := rS_26.below bel13
  have kG_27 := kG_26.below bel13 kG_26.lt
  have rI_27 := rI_26.below bel13
  clear bz_26 sn_26 kW_26 rS_26 kG_26 rI_26 bel13
  obtain ⟨wC, hwC⟩ : ∃ x, x = w13.alloc (.cells #[.int .i64 C, .slice aH l cH] 24) := ⟨_, rfl⟩
  have bC : Below w13.heap.size w13 wC := by rw [hwC]; exact below_new _ _
  have rHC := rowH.below bC
  have kHC : Blk wC w13.heap.size 24 [.int .i64 C, .slice aH l cH] := by rw [hwC]; exact Blk.new w13 _ _
  have bz_28 := bz_27.trans (bC.mono bz_27.size)
  have sn_28 := sn_27.below bC
  have kW_28 := kW_27.below bC kW_27.lt
  have rS_28 := rS_27.below bC
  have kG_28 := kG_27.below bC kG_27.lt
  have rI_28 := rI_27.below bC
  clear bz_27 sn_27 kW_27 rS_27 kG_27 rI_27 bC
  obtain ⟨H, hH⟩ : ∃ H, H = w13.heap.size := ⟨_, rfl⟩
  rw [← hH] at kHC
  clear ownH rowH
  go_upto_region 35 with fail
  rw [← hwC, ← hH]
  clear hwC hH
  have p0 := kHC.cell 0 (by simp)
  have p1 := kHC.cell 1 (by simp)
  have z0 := kW_28.cell 0 (by simp)
  have z1 := kW_28.cell 1 (by simp)
  go_wp2_with fail
  refine (HEQ.out _ _ wC rHC rS_28).mono ?_
  rintro e w14 ⟨rfl, bew14⟩
  clear p0 p1
  clear z0 z1
  have bz_29 := bz_28.trans (bew14.mono bz_28.size)
  have sn_29 := sn_28.below bew14
  have kW_29 := kW_28.below bew14 kW_28.lt
  have rS_29 := rS_28.below bew14
  have kG_29 := kG_28.below bew14 kG_28.lt
  have rI_29 := rI_28.below bew14
  have kH_29 := kHC.below bew14 kHC.lt
  have rH_29 := rHC.below bew14
  clear bz_28 sn_28 kW_28 rS_28 kG_28 rI_28 kHC rHC bew14
  have p0 := kG_29.cell 0 (by simp)
  have p1 := kG_29.cell 1 (by simp)
  go_wp2_with fail
  refine (HHD.out w14 rI_29).mono ?_
  rintro e w15 ⟨rfl, bew15⟩
  clear p0 p1
  have bz_30 := bz_29.trans (bew15.mono bz_29.size)
  have sn_30 := sn_29.below bew15
  have kW_30 := kW_29.below bew15 kW_29.lt
  have rS_30 := rS_29.below bew15
  have kG_30 := kG_29.below bew15 kG_29.lt
  have rI_30 := rI_29.below bew15
  have kH_30 := kH_29.below bew15 kH_29.lt
  have rH_30 := rH_29.below bew15
  clear bz_29 sn_29 kW_29 rS_29 kG_29 rI_29 kH_29 rH_29 bew15
  go_wp2_with fail
  go_ret
  exact ⟨rfl, bz_30⟩
set_option maxHeartbeats 1000000 in
theorem lawMakeMac (master key data : List UInt8) (amaster akey adata : Option Addr) (cmaster ckey cdata : Nat) (x0 x1 : Addr) (w : World) (h1 : master.length ≤ maxLen) (h2 : key.length ≤ maxLen) (h3 : data.length ≤ maxLen) (hs : Sents w x0 x1) (rmaster : RowAt w amaster master) (rkey : RowAt w akey key) (rdata : RowAt w adata data) :
    Calls Tryz.prog 3 #[.slice amaster master.length cmaster, .slice akey key.length ckey, .slice adata data.length cdata] w fun e w' => e = .returned (.bool true) ∧ Below w.heap.size w w' := by
  unfold maxLen at h1 h2 h3
  by_cases q1 : master.length ≤ 1048576
  · by_cases q2 : key.length ≤ 1048576
    · by_cases q3 : data.length ≤ 1048576
      · exact lawMakeMac_main master key data amaster akey adata cmaster ckey cdata x0 x1 w q1 q2 q3 hs rmaster rkey rdata
      · clear hs rmaster rkey rdata
        go_enter Tryz.func3, Tryz.ntmps3
        go_wp2_with fail
        go_ret
        exact ⟨rfl, Below.refl _ _⟩
    · clear hs rmaster rkey rdata
      go_enter Tryz.func3, Tryz.ntmps3
      go_wp2_with fail
      go_ret
      exact ⟨rfl, Below.refl _ _⟩
  · clear hs rmaster rkey rdata
    go_enter Tryz.func3, Tryz.ntmps3
    go_wp2_with fail
    go_ret
    exact ⟨rfl, Below.refl _ _⟩
end Go.Proofs.YtdelidfigcgglaaGreatDoor
