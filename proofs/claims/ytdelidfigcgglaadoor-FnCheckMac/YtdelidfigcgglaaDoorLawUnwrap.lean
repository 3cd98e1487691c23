/-
  laws.FnExactUnwrap: the walk out of the contracts.
-/
import Derived.Test.YtdelidfigcgglaaDoorUnwrapS
import Derived.Test.YtdelidfigcgglaaDoorGrA
namespace Go.Proofs.YtdelidfigcgglaaDoor
open Go.RowKit

theorem Sents.grown {w w' : World} {x0 x1 : Addr} {row : Option Nat} (h : Sents w x0 x1) (hg : w.grownBy w' row) {B : Nat} (hr : ∀ k, row = some k → B ≤ k) (hB : 0 < B ∧ 1 < B ∧ x0.block < B ∧ x1.block < B) : Sents w' x0 x1 := by
  obtain ⟨g0, g1, ne, ⟨c0, t0, b0⟩, ⟨c1, t1, b1⟩⟩ := h
  have ne' : ∀ k, k < B → some k ≠ row := by intro k hk e; have := hr k e.symm; omega
  exact ⟨hg.cell g0 (ne' 0 hB.1), hg.cell g1 (ne' 1 hB.2.1), ne, ⟨c0, t0, by rw [hg.block _ (lt_of_block b0) (ne' _ hB.2.2.1)]; exact b0⟩, ⟨c1, t1, by rw [hg.block _ (lt_of_block b1) (ne' _ hB.2.2.2)]; exact b1⟩⟩
theorem Sents.lt {w : World} {x0 x1 : Addr} (h : Sents w x0 x1) : 0 < w.heap.size ∧ 1 < w.heap.size ∧ x0.block < w.heap.size ∧ x1.block < w.heap.size := by
  obtain ⟨g0, g1, ne, ⟨c0, t0, b0⟩, ⟨c1, t1, b1⟩⟩ := h
  exact ⟨World.block_lt_of_cell? w _ g0, World.block_lt_of_cell? w _ g1, lt_of_block b0, lt_of_block b1⟩
theorem own_rowA {w : World} {base n c : Nat} {a : Option Addr} {l : List UInt8} (h : Own w base (.slice a n c) l) : RowAt w a l := by
  obtain ⟨ao, cap, hv, row, -⟩ := h.shape
  simp only [Value.slice.injEq] at hv
  obtain ⟨rfl, -, -⟩ := hv
  exact row
/-- spec.Unwrap. -/
theorem unwrapS_any (master block : List UInt8) (am ab : Option Addr) (cm cb : Nat) (w : World) (hn : master.length ≤ 1048576) (hcb : block.length ≤ cb) (rm : RowAt w am master) (rb : RowAt w ab block) :
    Calls Tryd.prog 13 #[.slice am master.length cm, .slice ab block.length cb] w fun e w' => ∃ v, e = .returned (.agg #[.int .i64 (opCode master block), .int .i64 (opU master block), .int .i64 (opG master block), v]) ∧ Own w' w.heap.size v (opKey master block) ∧ Below w.heap.size w w' := by
  by_cases hl : master.length = 16 ∧ block.length = 36
  · obtain ⟨h1, h2⟩ := hl
    obtain ⟨bb, bo, rfl, -⟩ := rb.range (by omega)
    have hc : 36 ≤ cb := by omega
    rw [h1, h2]
    refine (unwrapS_main master block am cm bb bo cb w h1 h2 hc rm rb).mono ?_
    have hf : formOK master block = headOK block := by unfold formOK; rw [decide_eq_true h1, decide_eq_true h2]; rfl
    rintro e w' ⟨⟨rfl, hh⟩ | ⟨rfl, hh, ht⟩ | ⟨g, rfl, hg, hk, hh, ht⟩, bel⟩
    · refine ⟨.slice none 0 0, ?_, ?_, bel⟩
      · unfold opCode opU opG okO
        rw [hf, hh]
        rfl
      · unfold opKey okO
        rw [hf, hh]
        exact own_nil _ _
    · refine ⟨.slice none 0 0, ?_, ?_, bel⟩
      · unfold opCode opU opG okO
        rw [hf, hh, ht]
        rfl
      · unfold opKey okO
        rw [hf, hh, ht]
        exact own_nil _ _
    · refine ⟨.slice (some ⟨g, 0, none⟩) 16 16, ?_, ?_, bel⟩
      · unfold opCode opU opG okO
        rw [hf, hh, ht]
        rfl
      · unfold opKey okO
        rw [hf, hh, ht]
        exact own_of_blk hk (Nat.le_of_lt hg) (unkeyN_length _ _ h1 h2) (by unfold maxLen; omega)
  · have hf : formOK master block = false := by
      cases hq : formOK master block with
      | false => rfl
      | true => exact absurd ⟨(formOK_parts hq).1, (formOK_parts hq).2.1⟩ hl
    refine (unwrapS_len _ _ am ab cm cb w hn hl).mono ?_
    rintro e w' ⟨rfl, bel⟩
    refine ⟨.slice none 0 0, ?_, ?_, bel⟩
    · unfold opCode opU opG okO
      rw [hf]
      rfl
    · unfold opKey okO
      rw [hf]
      exact own_nil _ _

set_option maxHeartbeats 1000000 in
theorem eqKeyInfo_any (U G : Int) (L : List UInt8) (a1 a2 : Option Addr) (c1 c2 : Nat) (w : World) (hn : L.length ≤ 1048576) (r1 : RowAt w a1 L) (r2 : RowAt w a2 L) :
    Calls Tryd.prog 36 #[.agg #[.int .i64 U, .int .i64 G, .slice a1 L.length c1], .agg #[.int .i64 U, .int .i64 G, .slice a2 L.length c2]] w fun e w' => e = .returned (.bool true) ∧ Below w.heap.size w w' := by
  obtain ⟨n, hnl⟩ : ∃ n, n = L.length := ⟨_, rfl⟩
  have hE := fun (wx : World) (h1 : RowAt wx a1 L) (h2 : RowAt wx a2 L) => eqByteS_any a1 a2 c1 c2 L wx hn h1 h2
  rw [← hnl] at hE ⊢
  have HE := hide hE
  clear hE
  obtain ⟨wb, hwb⟩ : ∃ x, x = (w.alloc (.cells #[.int .i64 U, .int .i64 G, .slice a1 n c1] 26)).alloc (.cells #[.int .i64 U, .int .i64 G, .slice a2 n c2] 26) := ⟨_, rfl⟩
  have b1 : Below w.heap.size w wb := by rw [hwb]; exact ((Below.refl _ w).alloc (Nat.le_refl _) _).alloc (by simp) _
  have q1 := r1.below b1
  have q2 := r2.below b1
  clear hnl
  go_enter Tryd.func36, Tryd.ntmps36
  go_wp2_with fail
  rw [← hwb]
  refine (HE.out wb q1 q2).mono ?_
  rintro e w2 ⟨rfl, m2, rfl⟩
  clear hwb
  go_wp2_with fail
  go_ret
  exact ⟨rfl, below_drewN b1 m2⟩
set_option maxHeartbeats 1000000 in
theorem eqOpened_any (C U G : Int) (L : List UInt8) (a1 a2 : Option Addr) (c1 c2 : Nat) (w : World) (hn : L.length ≤ 1048576) (r1 : RowAt w a1 L) (r2 : RowAt w a2 L) :
    Calls Tryd.prog 15 #[.agg #[.int .i64 C, .int .i64 U, .int .i64 G, .slice a1 L.length c1], .agg #[.int .i64 C, .int .i64 U, .int .i64 G, .slice a2 L.length c2]] w fun e w' => e = .returned (.bool true) ∧ Below w.heap.size w w' := by
  obtain ⟨n, hnl⟩ : ∃ n, n = L.length := ⟨_, rfl⟩
  have hE := fun (wx : World) (h1 : RowAt wx a1 L) (h2 : RowAt wx a2 L) => eqKeyInfo_any U G L a1 a2 c1 c2 wx hn h1 h2
  rw [← hnl] at hE ⊢
  have HE := hide hE
  clear hE
  obtain ⟨wb, hwb⟩ : ∃ x, x = (w.alloc (.cells #[.int .i64 C, .int .i64 U, .int .i64 G, .slice a1 n c1] 30)).alloc (.cells #[.int .i64 C, .int .i64 U, .int .i64 G, .slice a2 n c2] 30) := ⟨_, rfl⟩
  have b1 : Below w.heap.size w wb := by rw [hwb]; exact ((Below.refl _ w).alloc (Nat.le_refl _) _).alloc (by simp) _
  have q1 := r1.below b1
  have q2 := r2.below b1
  clear hnl
  go_enter Tryd.func15, Tryd.ntmps15
  go_wp2_with fail
  rw [← hwb]
  refine (HE.out wb q1 q2).mono ?_
  rintro e w2 ⟨rfl, bel2⟩
  clear hwb
  go_wp2_with fail
  go_ret
  exact ⟨rfl, b1.trans (bel2.mono b1.size)⟩
set_option maxHeartbeats 1000000 in
theorem markKeyInfo_any (U G : Int) (L : List UInt8) (base : Nat) (a1 : Option Addr) (c1 : Nat) (w : World) (hn : L.length ≤ 16) (ho : Own w base (.slice a1 L.length c1) L) :
    Calls Tryd.prog 37 #[.agg #[.int .i64 U, .int .i64 G, .slice a1 L.length c1], .int .i64 1] w fun e w' => e = .returned (.int .i64 ((1 + L.length : Nat) : Int)) ∧ Own w' base (.slice a1 L.length c1) (marks 1 L.length) ∧ ∃ x, Below w.heap.size w x ∧ x.grownBy w' (Value.slice a1 L.length c1).ownBlock := by
  have hM := fun (wx : World) (h : Own wx base (.slice a1 L.length c1) L) => markByteS_any base a1 c1 L 1 wx (by omega) (by omega) h
  have ho1 := ho.below (below_new w (.cells #[.int .i64 U, .int .i64 G, .slice a1 L.length c1] 26))
  obtain ⟨n, hnl⟩ : ∃ n, n = L.length := ⟨_, rfl⟩
  rw [← hnl] at hM ho1 hn ⊢
  have HM := hide hM
  clear hM hnl ho
  go_enter Tryd.func37, Tryd.ntmps37
  go_wp2_with fail
  refine (HM.out _ ho1).mono ?_
  rintro e w2 ⟨rfl, own2, gr2⟩
  have HO := hide own2
  have HG := hide gr2
  clear own2 gr2
  go_wp2_with fail
  go_ret
  exact ⟨rfl, HO.out, _, below_new _ _, HG.out⟩
set_option maxHeartbeats 1000000 in
theorem markOpened_any (C U G : Int) (L : List UInt8) (base : Nat) (a1 : Option Addr) (c1 : Nat) (w : World) (hn : L.length ≤ 16) (ho : Own w base (.slice a1 L.length c1) L) :
    Calls Tryd.prog 18 #[.agg #[.int .i64 C, .int .i64 U, .int .i64 G, .slice a1 L.length c1], .int .i64 1] w fun e w' => e = .returned (.int .i64 ((1 + L.length : Nat) : Int)) ∧ Own w' base (.slice a1 L.length c1) (marks 1 L.length) ∧ ∃ x, Below w.heap.size w x ∧ x.grownBy w' (Value.slice a1 L.length c1).ownBlock := by
  have hM := fun (wx : World) (h : Own wx base (.slice a1 L.length c1) L) => markKeyInfo_any U G L base a1 c1 wx hn h
  have ho1 := ho.below (below_new w (.cells #[.int .i64 C, .int .i64 U, .int .i64 G, .slice a1 L.length c1] 30))
  obtain ⟨n, hnl⟩ : ∃ n, n = L.length := ⟨_, rfl⟩
  rw [← hnl] at hM ho1 hn ⊢
  have HM := hide hM
  clear hM hnl ho
  obtain ⟨wb, hwb⟩ : ∃ x, x = w.alloc (.cells #[.int .i64 C, .int .i64 U, .int .i64 G, .slice a1 n c1] 30) := ⟨_, rfl⟩
  have b1 : Below w.heap.size w wb := by rw [hwb]; exact below_new _ _
  rw [← hwb] at ho1
  go_enter Tryd.func18, Tryd.ntmps18
  go_wp2_with fail
  rw [← hwb]
  refine (HM.out _ ho1).mono ?_
  rintro e w2 ⟨rfl, own2, x, bx, gr2⟩
  have HO := hide own2
  have HG := hide gr2
  clear own2 gr2 hwb
  go_wp2_with fail
  go_ret
  exact ⟨rfl, HO.out, x, b1.trans (bx.mono b1.size), HG.out⟩
set_option maxHeartbeats 1000000 in
theorem heldKeyInfo_any (U G : Int) (n : Nat) (a1 : Option Addr) (c1 : Nat) (w : World) (hn : n ≤ 16) (hr : RowAt w a1 (marks 1 n)) :
    Calls Tryd.prog 38 #[.agg #[.int .i64 U, .int .i64 G, .slice a1 n c1], .int .i64 1] w fun e w' => e = .returned (.int .i64 ((1 + n : Nat) : Int)) ∧ Below w.heap.size w w' := by
  have hH := fun (wx : World) (h : RowAt wx a1 (marks 1 n)) => heldByteS_any a1 c1 n 1 wx (by omega) (by omega) h
  have HH := hide hH
  have hr1 := hr.below (below_new w (.cells #[.int .i64 U, .int .i64 G, .slice a1 n c1] 26))
  have hneg : ¬ (((1 + n : Nat) : Int) < 0) := by omega
  clear hH hr
  go_enter Tryd.func38, Tryd.ntmps38
  go_wp2_with fail
  refine (HH.out _ hr1).mono ?_
  rintro e w2 ⟨rfl, rfl⟩
  go_wp2_with fail
  go_ret
  exact ⟨rfl, below_new _ _⟩
set_option maxHeartbeats 1000000 in
theorem heldOpened_any (C U G : Int) (n : Nat) (a1 : Option Addr) (c1 : Nat) (w : World) (hn : n ≤ 16) (hr : RowAt w a1 (marks 1 n)) :
    Calls Tryd.prog 19 #[.agg #[.int .i64 C, .int .i64 U, .int .i64 G, .slice a1 n c1], .int .i64 1] w fun e w' => e = .returned (.int .i64 ((1 + n : Nat) : Int)) ∧ Below w.heap.size w w' := by
  have HH := hide (fun (wx : World) (h : RowAt wx a1 (marks 1 n)) => heldKeyInfo_any U G n a1 c1 wx hn h)
  obtain ⟨wb, hwb⟩ : ∃ x, x = w.alloc (.cells #[.int .i64 C, .int .i64 U, .int .i64 G, .slice a1 n c1] 30) := ⟨_, rfl⟩
  have b1 : Below w.heap.size w wb := by rw [hwb]; exact below_new _ _
  have hr1 := hr.below b1
  have hneg : ¬ (((1 + n : Nat) : Int) < 0) := by omega
  clear hr
  go_enter Tryd.func19, Tryd.ntmps19
  go_wp2_with fail
  rw [← hwb]
  refine (HH.out _ hr1).mono ?_
  rintro e w2 ⟨rfl, bel2⟩
  clear hwb
  go_wp2_with fail
  go_ret
  exact ⟨rfl, b1.trans (bel2.mono b1.size)⟩

set_option maxRecDepth 100000 in
set_option maxHeartbeats 4000000 in
theorem lawUnwrap_main (master block : List UInt8) (amaster ablock : Option Addr) (cmaster cblock : Nat) (x0 x1 : Addr) (w : World) (hnmaster : master.length ≤ 1048576) (hnblock : block.length ≤ 1048576) (hs : Sents w x0 x1) (rmaster : RowAt w amaster master) (rblock : RowAt w ablock block) :
    Calls Tryd.prog 4 #[.slice amaster master.length cmaster, .slice ablock block.length cblock] w fun e w' => e = .returned (.bool true) ∧ Below w.heap.size w w' := by
  have HS := hide (fun (a1 a2 : Option Addr) (c1 c2 : Nat) (wx : World) (h0 : block.length ≤ c2) (h1 : RowAt wx a1 master) (h2 : RowAt wx a2 block) => unwrapS_any master block a1 a2 c1 c2 wx hnmaster h0 h1 h2)
  have HI := hide (fun (a1 a2 : Option Addr) (c1 c2 : Nat) (wx : World) (h0 : block.length ≤ c2) (hs : Sents wx x0 x1) (h1 : RowAt wx a1 master) (h2 : RowAt wx a2 block) => unwrap_any master block a1 a2 c1 c2 x0 x1 wx h0 hs h1 h2)
  have hL := opKey_le master block
  have snlt := hs.lt
  obtain ⟨C, hC⟩ : ∃ C, C = opCode master block := ⟨_, rfl⟩
  obtain ⟨U, hU⟩ : ∃ C, C = opU master block := ⟨_, rfl⟩
  obtain ⟨Gn, hGn⟩ : ∃ C, C = opG master block := ⟨_, rfl⟩
  obtain ⟨L, hLe⟩ : ∃ C, C = opKey master block := ⟨_, rfl⟩
  rw [← hC, ← hU, ← hGn, ← hLe] at HS HI
  rw [← hLe] at hL
  clear hC hU hGn hLe
  have HTmaster := hide (fun (wx : World) (h : RowAt wx amaster master) => toByteS_any amaster cmaster master wx hnmaster h)
  have HRmaster := hide rmaster
  have hn'master : ¬ ((1048576 : Int) < (master.length : Int)) := by omega
  have HTblock := hide (fun (wx : World) (h : RowAt wx ablock block) => toByteS_any ablock cblock block wx hnblock h)
  have HRblock := hide rblock
  have hn'block : ¬ ((1048576 : Int) < (block.length : Int)) := by omega
  clear rmaster rblock
  go_enter Tryd.func4, Tryd.ntmps4
  have bz : Below w.heap.size w w := Below.refl _ _
  go_wp2_with fail
  refine (HTmaster.out w (HRmaster.out.below bz)).mono ?_
  rintro e v1 ⟨rfl, own1, bel1⟩
  obtain ⟨_, _, hv1, row1, gx1, -⟩ := own1.shape
  cases hv1
  have bz_1 := bz.trans (bel1.mono bz.size)
  have sn_1 := hs.below bel1
  clear bz hs bel1
  clear own1 gx1
  go_wp2_with fail
  refine (HTblock.out v1 (HRblock.out.below bz_1)).mono ?_
  rintro e v2 ⟨rfl, own2, bel2⟩
  obtain ⟨_, _, hv2, row2, gx2, -⟩ := own2.shape
  cases hv2
  have bz_2 := bz_1.trans (bel2.mono bz_1.size)
  have sn_2 := sn_1.below bel2
  have qmaster_2 := row1.below bel2
  clear bz_1 sn_1 row1 bel2
  clear own2 gx2
  go_wp2_with fail
  refine (HS.out (some ⟨w.heap.size, 0, none⟩) (some ⟨v1.heap.size, 0, none⟩) _ _ v2 (Nat.le_refl _) qmaster_2 row2).mono ?_
  rintro e w2 ⟨vS, rfl, ownS, bel2⟩
  obtain ⟨aS, cS, rfl, rowS, gS, -, -⟩ := ownS.shape
  clear qmaster_2
  clear row2
  have bz_3 := bz_2.trans (bel2.mono bz_2.size)
  have sn_3 := sn_2.below bel2
  clear bz_2 sn_2 bel2
  obtain ⟨l, hl⟩ : ∃ l, l = L.length := ⟨_, rfl⟩
  have Hl := hide hl
  rw [← hl] at hL ownS ⊢
  have lS : ∀ a, aS = some a → a.block < w2.heap.size := by intro a h; obtain ⟨g, rfl, -, h2⟩ := gS a h; exact h2
  obtain ⟨wA, hwA⟩ : ∃ x, x = w2.alloc (.cells #[.int .i64 C, .int .i64 U, .int .i64 Gn, .slice aS l cS] 30) := ⟨_, rfl⟩
  have b2A : Below w2.heap.size w2 wA := by rw [hwA]; exact below_new _ _
  have kW : Blk wA w2.heap.size 30 [.int .i64 C, .int .i64 U, .int .i64 Gn, .slice aS l cS] := by rw [hwA]; exact Blk.new w2 _ _
  have rSA := rowS.below b2A
  have hS2 := bz_3.size
  have bz_4 := bz_3.trans (b2A.mono bz_3.size)
  have sn_4 := sn_3.below b2A
  clear bz_3 sn_3 b2A
  obtain ⟨W, hW⟩ : ∃ W, W = w2.heap.size := ⟨_, rfl⟩
  have HWA : Hid (W < wA.heap.size ∧ w.heap.size ≤ W) := by rw [hW]; exact ⟨kW.lt, hS2⟩
  have LS : Hid (∀ a, aS = some a → a.block < W) := by rw [hW]; exact lS
  clear ownS rowS gS hl lS hS2
  go_wp2_with fail
  rw [← hwA]
  rw [← hW] at kW ⊢
  clear hwA hW
  refine (HTmaster.out wA (HRmaster.out.below bz_4)).mono ?_
  rintro e v3 ⟨rfl, own3, bel3⟩
  obtain ⟨_, _, hv3, row3, gx3, -⟩ := own3.shape
  cases hv3
  have bz_5 := bz_4.trans (bel3.mono bz_4.size)
  have sn_5 := sn_4.below bel3
  have kW_5 := kW.below bel3 kW.lt
  have rS_5 := rSA.below bel3
  clear bz_4 sn_4 kW rSA bel3
  obtain ⟨X0, hX0⟩ : ∃ X, X = wA.heap.size := ⟨_, rfl⟩
  have HX0 : Hid (W < X0 ∧ X0 < v3.heap.size ∧ w.heap.size ≤ W) := by rw [hX0]; obtain ⟨g, hg, -, h⟩ := gx3 _ rfl; cases hg; exact ⟨HWA.out.1, h, HWA.out.2⟩
  rw [← hX0] at own3 row3 ⊢
  clear hX0 gx3
  go_wp2_with fail
  refine (HTblock.out v3 (HRblock.out.below bz_5)).mono ?_
  rintro e v4 ⟨rfl, own4, bel4⟩
  obtain ⟨_, _, hv4, row4, gx4, -⟩ := own4.shape
  cases hv4
  have bz_6 := bz_5.trans (bel4.mono bz_5.size)
  have sn_6 := sn_5.below bel4
  have kW_6 := kW_5.below bel4 kW_5.lt
  have rS_6 := rS_5.below bel4
  have x0_6 := own3.below bel4
  have q0_6 := row3.below bel4
  clear bz_5 sn_5 kW_5 rS_5 own3 row3 bel4
  obtain ⟨X1, hX1⟩ : ∃ X, X = v3.heap.size := ⟨_, rfl⟩
  have HX1 : Hid (X0 < X1 ∧ X1 < v4.heap.size) := by rw [hX1]; obtain ⟨g, hg, -, h⟩ := gx4 _ rfl; cases hg; exact ⟨HX0.out.2.1, h⟩
  rw [← hX1] at own4 row4 ⊢
  clear hX1 gx4
  clear HWA
  go_wp2_with fail
  refine (HI.out (some ⟨X0, 0, none⟩) (some ⟨X1, 0, none⟩) _ _ v4 (Nat.le_refl _) sn_6 q0_6 row4).mono ?_
  rintro e w4 ⟨vI, rfl, ownI, bel4⟩
  obtain ⟨aI, cI, rfl, rowI, gI, -, -⟩ := ownI.shape
  rw [← Hl.out] at ownI ⊢
  clear q0_6
  clear row4
  have hs34 := bel4.size
  have bz_7 := bz_6.trans (bel4.mono bz_6.size)
  have sn_7 := sn_6.below bel4
  have kW_7 := kW_6.below bel4 kW_6.lt
  have rS_7 := rS_6.below bel4
  have x0_7 := x0_6.below bel4
  have x1_7 := own4.below bel4
  clear bz_6 sn_6 kW_6 rS_6 x0_6 own4 bel4
  obtain ⟨wB, hwB⟩ : ∃ x, x = w4.alloc (.cells #[.int .i64 C, .int .i64 U, .int .i64 Gn, .slice aI l cI] 30) := ⟨_, rfl⟩
  have b4B : Below w4.heap.size w4 wB := by rw [hwB]; exact below_new _ _
  have rIB := rowI.below b4B
  have oIB := ownI.below b4B
  have kGB : Blk wB w4.heap.size 30 [.int .i64 C, .int .i64 U, .int .i64 Gn, .slice aI l cI] := by rw [hwB]; exact Blk.new w4 _ _
  have bz_8 := bz_7.trans (b4B.mono bz_7.size)
  have sn_8 := sn_7.below b4B
  have kW_8 := kW_7.below b4B kW_7.lt
  have rS_8 := rS_7.below b4B
  have x0_8 := x0_7.below b4B
  have x1_8 := x1_7.below b4B
  clear bz_7 sn_7 kW_7 rS_7 x0_7 x1_7 b4B
  obtain ⟨G, hG⟩ : ∃ G, G = w4.heap.size := ⟨_, rfl⟩
  rw [← hG] at kGB
  have LI : Hid (∀ a, aI = some a → ∃ g, a = ⟨g, 0, none⟩ ∧ X1 < g ∧ g < G) := by
    show ∀ a, aI = some a → ∃ g, a = ⟨g, 0, none⟩ ∧ X1 < g ∧ g < G
    intro a ha
    obtain ⟨g, h1, h2, h3⟩ := gI a ha
    have h4 := HX1.out.2
    exact ⟨g, h1, by omega, by omega⟩
  have HG : Hid (X1 < G) := by
    show X1 < G
    have h4 := HX1.out.2
    omega
  have LT : Hid (w.heap.size ≤ W ∧ W < X0 ∧ X0 < X1 ∧ X1 < G) := ⟨HX0.out.2.2, HX0.out.1, HX1.out.1, HG.out⟩
  clear ownI rowI gI hs34 HG HX0 HX1
  go_upto_region 9 with fail
  rw [← hwB, ← hG]
  clear hwB hG
  have HEQ := hide (fun (a2 : Option Addr) (c2 : Nat) (wx : World) (h1 : RowAt wx a2 L) (h2 : RowAt wx aS L) => eqOpened_any C U Gn L a2 aS c2 cS wx (by rw [← Hl.out]; omega) h1 h2)
  have HMK := hide (fun (B : Nat) (wx : World) (h : Own wx B (.slice aI l cI) L) => markOpened_any C U Gn L B aI cI wx (by rw [← Hl.out]; exact hL) (by rw [← Hl.out]; exact h))
  have HHD := hide (fun (wx : World) (h : RowAt wx aI (marks 1 l)) => heldOpened_any C U Gn l aI cI wx hL h)
  rw [← Hl.out] at HEQ HMK
  have p0 := kGB.cell 0 (by simp)
  have p1 := kGB.cell 1 (by simp)
  have p2 := kGB.cell 2 (by simp)
  have p3 := kGB.cell 3 (by simp)
  have z0 := kW_8.cell 0 (by simp)
  have z1 := kW_8.cell 1 (by simp)
  have z2 := kW_8.cell 2 (by simp)
  have z3 := kW_8.cell 3 (by simp)
  go_wp2_with fail
  refine (HEQ.out _ _ wB rIB rS_8).mono ?_
  rintro e w5 ⟨rfl, bew5⟩
  clear p0 p1 p2 p3
  clear z0 z1 z2 z3
  have bz_9 := bz_8.trans (bew5.mono bz_8.size)
  have sn_9 := sn_8.below bew5
  have kW_9 := kW_8.below bew5 kW_8.lt
  have rS_9 := rS_8.below bew5
  have x0_9 := x0_8.below bew5
  have x1_9 := x1_8.below bew5
  have rI_9 := rIB.below bew5
  have oI_9 := oIB.below bew5
  have kG_9 := kGB.below bew5 kGB.lt
  clear bz_8 sn_8 kW_8 rS_8 x0_8 x1_8 rIB oIB kGB bew5
  go_wp2_with fail
  refine (HTmaster.out w5 (HRmaster.out.below bz_9)).mono ?_
  rintro e v5 ⟨rfl, own5, bel5⟩
  obtain ⟨_, _, hv5, row5, gx5, -⟩ := own5.shape
  cases hv5
  have bz_10 := bz_9.trans (bel5.mono bz_9.size)
  have sn_10 := sn_9.below bel5
  have kW_10 := kW_9.below bel5 kW_9.lt
  have rS_10 := rS_9.below bel5
  have x0_10 := x0_9.below bel5
  have x1_10 := x1_9.below bel5
  have rI_10 := rI_9.below bel5
  have oI_10 := oI_9.below bel5
  have kG_10 := kG_9.below bel5 kG_9.lt
  clear bz_9 sn_9 kW_9 rS_9 x0_9 x1_9 rI_9 oI_9 kG_9 bel5
  clear own5 gx5
  obtain ⟨_, _, hvX, rX, -⟩ := x0_10.shape
  cases hvX
  go_wp2_with fail
  refine (eqByteS_any _ _ _ _ master v5 hnmaster rX row5).mono ?_
  rintro e v5d ⟨rfl, m5, rfl⟩
  clear rX row5
  have bz_11 := below_drewN bz_10 m5
  have sn_11 : Sents (v5.drewN m5) _ _ := ⟨sn_10.g0, sn_10.g1, sn_10.ne, sn_10.b0, sn_10.b1⟩
  have kW_11 : Blk (v5.drewN m5) _ _ _ := kW_10
  have rS_11 : RowAt (v5.drewN m5) _ _ := rS_10
  have x0_11 := x0_10.drew m5
  have x1_11 := x1_10.drew m5
  have rI_11 : RowAt (v5.drewN m5) _ _ := rI_10
  have oI_11 := oI_10.drew m5
  have kG_11 : Blk (v5.drewN m5) _ _ _ := kG_10
  clear bz_10 sn_10 kW_10 rS_10 x0_10 x1_10 rI_10 oI_10 kG_10
  go_wp2_with fail
  refine (HTblock.out (v5.drewN m5) (HRblock.out.below bz_11)).mono ?_
  rintro e v6 ⟨rfl, own6, bel6⟩
  obtain ⟨_, _, hv6, row6, gx6, -⟩ := own6.shape
  cases hv6
  have bz_12 := bz_11.trans (bel6.mono bz_11.size)
  have sn_12 := sn_11.below bel6
  have kW_12 := kW_11.below bel6 kW_11.lt
  have rS_12 := rS_11.below bel6
  have x0_12 := x0_11.below bel6
  have x1_12 := x1_11.below bel6
  have rI_12 := rI_11.below bel6
  have oI_12 := oI_11.below bel6
  have kG_12 := kG_11.below bel6 kG_11.lt
  clear bz_11 sn_11 kW_11 rS_11 x0_11 x1_11 rI_11 oI_11 kG_11 bel6
  clear own6 gx6
  obtain ⟨_, _, hvX, rX, -⟩ := x1_12.shape
  cases hvX
  go_wp2_with fail
  refine (eqByteS_any _ _ _ _ block v6 hnblock rX row6).mono ?_
  rintro e v6d ⟨rfl, m6, rfl⟩
  clear rX row6
  have bz_13 := below_drewN bz_12 m6
  have sn_13 : Sents (v6.drewN m6) _ _ := ⟨sn_12.g0, sn_12.g1, sn_12.ne, sn_12.b0, sn_12.b1⟩
  have kW_13 : Blk (v6.drewN m6) _ _ _ := kW_12
  have rS_13 : RowAt (v6.drewN m6) _ _ := rS_12
  have x0_13 := x0_12.drew m6
  have x1_13 := x1_12.drew m6
  have rI_13 : RowAt (v6.drewN m6) _ _ := rI_12
  have oI_13 := oI_12.drew m6
  have kG_13 : Blk (v6.drewN m6) _ _ _ := kG_12
  clear bz_12 sn_12 kW_12 rS_12 x0_12 x1_12 rI_12 oI_12 kG_12
  clear rI_13
  go_wp2_with fail
  refine (markByteS_any _ _ _ master 1 (v6.drewN m6) hnmaster (by omega) x0_13).mono ?_
  rintro e u0 ⟨rfl, ownm0, gr0⟩
  have hlt0 := LT.out
  have bz_14 : Below w.heap.size w u0 := bz_13.grown gr0 bz_13.size (by intro k hk; simp only [Value.ownBlock, Option.some.injEq] at hk; omega)
  have sn_14 : Sents u0 _ _ := Sents.grown (w := (v6.drewN m6)) sn_13 gr0 (by intro k hk; simp only [Value.ownBlock, Option.some.injEq] at hk; omega) snlt
  have kW_14 := Blk.grown (w := (v6.drewN m6)) kW_13 gr0 (by simp only [Value.ownBlock, ne_eq, Option.some.injEq]; omega)
  have rS_14 := RowAt.grown (w := (v6.drewN m6)) rS_13 gr0 (by intro a ha hc; have h1 := LS.out a ha; simp only [Value.ownBlock, Option.some.injEq] at hc; omega)
  have x1_14 := Own.grown (w := (v6.drewN m6)) x1_13 gr0 (by right; simp only [Value.ownBlock, ne_eq, Option.some.injEq]; omega)
  have oI_14 := Own.grown (w := (v6.drewN m6)) oI_13 gr0 (by cases haI : aI with | none => exact .inl rfl | some a => obtain ⟨g, rfl, h, -⟩ := LI.out a haI; right; simp only [Value.ownBlock, ne_eq, Option.some.injEq]; omega)
  have kG_14 := Blk.grown (w := (v6.drewN m6)) kG_13 gr0 (by simp only [Value.ownBlock, ne_eq, Option.some.injEq]; omega)
  clear bz_13 sn_13 kW_13 rS_13 x0_13 x1_13 oI_13 kG_13 ownm0 gr0 hlt0
  go_wp2_with fail
  refine (markByteS_any _ _ _ block (1 + master.length) u0 hnblock (by omega) x1_14).mono ?_
  rintro e u1 ⟨rfl, ownm1, gr1⟩
  have hlt1 := LT.out
  have bz_15 : Below w.heap.size w u1 := bz_14.grown gr1 bz_14.size (by intro k hk; simp only [Value.ownBlock, Option.some.injEq] at hk; omega)
  have sn_15 : Sents u1 _ _ := Sents.grown (w := u0) sn_14 gr1 (by intro k hk; simp only [Value.ownBlock, Option.some.injEq] at hk; omega) snlt
  have kW_15 := Blk.grown (w := u0) kW_14 gr1 (by simp only [Value.ownBlock, ne_eq, Option.some.injEq]; omega)
  have rS_15 := RowAt.grown (w := u0) rS_14 gr1 (by intro a ha hc; have h1 := LS.out a ha; simp only [Value.ownBlock, Option.some.injEq] at hc; omega)
  have oI_15 := Own.grown (w := u0) oI_14 gr1 (by cases haI : aI with | none => exact .inl rfl | some a => obtain ⟨g, rfl, h, -⟩ := LI.out a haI; right; simp only [Value.ownBlock, ne_eq, Option.some.injEq]; omega)
  have kG_15 := Blk.grown (w := u0) kG_14 gr1 (by simp only [Value.ownBlock, ne_eq, Option.some.injEq]; omega)
  clear bz_14 sn_14 kW_14 rS_14 x1_14 oI_14 kG_14 ownm1 gr1 hlt1
  have hk8 : ¬ (((1 + master.length + block.length : Nat) : Int) < 0) := by omega
  have rI8 := own_rowA oI_15
  have p0 := kG_15.cell 0 (by simp)
  have p1 := kG_15.cell 1 (by simp)
  have p2 := kG_15.cell 2 (by simp)
  have p3 := kG_15.cell 3 (by simp)
  have z0 := kW_15.cell 0 (by simp)
  have z1 := kW_15.cell 1 (by simp)
  have z2 := kW_15.cell 2 (by simp)
  have z3 := kW_15.cell 3 (by simp)
  go_wp2_with fail
  refine (HEQ.out _ _ u1 rI8 rS_15).mono ?_
  rintro e w9 ⟨rfl, bew9⟩
  clear p0 p1 p2 p3
  clear z0 z1 z2 z3
  have bz_16 := bz_15.trans (bew9.mono bz_15.size)
  have sn_16 := sn_15.below bew9
  have kW_16 := kW_15.below bew9 kW_15.lt
  have rS_16 := rS_15.below bew9
  have oI_16 := oI_15.below bew9
  have kG_16 := kG_15.below bew9 kG_15.lt
  have rI_16 := rI8.below bew9
  clear bz_15 sn_15 kW_15 rS_15 oI_15 kG_15 rI8 bew9
  clear rI_16
  have p0 := kG_16.cell 0 (by simp)
  have p1 := kG_16.cell 1 (by simp)
  have p2 := kG_16.cell 2 (by simp)
  have p3 := kG_16.cell 3 (by simp)
  go_wp2_with fail
  refine (HMK.out _ w9 oI_16).mono ?_
  rintro e w10 ⟨rfl, own10, gr10⟩
  clear p0 p1 p2 p3
  have hlt9 := LT.out
  have bI9 : ∀ k, (Value.slice aI l cI).ownBlock = some k → X1 < k ∧ k < G := by
    intro k hk
    cases haI : aI with
    | none => rw [haI] at hk; cases hk
    | some a =>
      obtain ⟨g, rfl, h1, h2⟩ := LI.out a haI
      rw [haI] at hk
      simp only [Value.ownBlock, Option.some.injEq] at hk
      omega
  obtain ⟨w9b, bb9, gr9⟩ := gr10
  have bz_17 : Below w.heap.size w w10 := (bz_16.trans (bb9.mono bz_16.size)).grown gr9 (by have := bz_16.size; have := bb9.size; omega) (by intro k hk; have h2 := (bI9 _ hk).1; omega)
  have sn_17 : Sents w10 _ _ := Sents.grown (sn_16.below bb9) gr9 (by intro k hk; have h2 := (bI9 _ hk).1; omega) snlt
  have kW_17 := (kW_16.below bb9 kW_16.lt).grown gr9 (by intro hc; have h2 := bI9 _ hc.symm; omega)
  have rS_17 := (rS_16.below bb9).grown gr9 (by intro a ha hc; have h1 := LS.out a ha; have h2 := (bI9 _ hc).1; omega)
  have kG_17 := (kG_16.below bb9 kG_16.lt).grown gr9 (by intro hc; have h2 := bI9 _ hc.symm; omega)
  have rI10 := own_rowA own10
  clear bz_16 sn_16 kW_16 rS_16 oI_16 kG_16 own10 gr9 bb9 bI9 hlt9
  have hml : ¬ (((1 + l : Nat) : Int) < 0) := by omega
  have p0 := kG_17.cell 0 (by simp)
  have p1 := kG_17.cell 1 (by simp)
  have p2 := kG_17.cell 2 (by simp)
  have p3 := kG_17.cell 3 (by simp)
  go_wp2_with fail
  refine (HHD.out w10 rI10).mono ?_
  rintro e w11 ⟨rfl, bew11⟩
  clear p0 p1 p2 p3
  have bz_18 := bz_17.trans (bew11.mono bz_17.size)
  have sn_18 := sn_17.below bew11
  have kW_18 := kW_17.below bew11 kW_17.lt
  have rS_18 := rS_17.below bew11
  have kG_18 := kG_17.below bew11 kG_17.lt
  have rI_18 := rI10.below bew11
  clear bz_17 sn_17 kW_17 rS_17 kG_17 rI10 bew11
  go_wp2_with fail
  refine (HTmaster.out w11 (HRmaster.out.below bz_18)).mono ?_
  rintro e v7 ⟨rfl, own7, bel7⟩
  obtain ⟨_, _, hv7, row7, gx7, -⟩ := own7.shape
  cases hv7
  have bz_19 := bz_18.trans (bel7.mono bz_18.size)
  have sn_19 := sn_18.below bel7
  have kW_19 := kW_18.below bel7 kW_18.lt
  have rS_19 := rS_18.below bel7
  have kG_19 := kG_18.below bel7 kG_18.lt
  have rI_19 := rI_18.below bel7
  clear bz_18 sn_18 kW_18 rS_18 kG_18 rI_18 bel7
  clear own7 gx7
  go_wp2_with fail
  refine (HTblock.out v7 (HRblock.out.below bz_19)).mono ?_
  rintro e v8 ⟨rfl, own8, bel8⟩
  obtain ⟨_, _, hv8, row8, gx8, -⟩ := own8.shape
  cases hv8
  have bz_20 := bz_19.trans (bel8.mono bz_19.size)
  have sn_20 := sn_19.below bel8
  have kW_20 := kW_19.below bel8 kW_19.lt
  have rS_20 := rS_19.below bel8
  have kG_20 := kG_19.below bel8 kG_19.lt
  have rI_20 := rI_19.below bel8
  have qmaster_20 := row7.below bel8
  clear bz_19 sn_19 kW_19 rS_19 kG_19 rI_19 row7 bel8
  clear own8 gx8
  go_wp2_with fail
  refine (HI.out (some ⟨w11.heap.size, 0, none⟩) (some ⟨v7.heap.size, 0, none⟩) _ _ v8 (Nat.le_refl _) sn_20 qmaster_20 row8).mono ?_
  rintro e w13 ⟨vH, rfl, ownH, bel13⟩
  obtain ⟨aH, cH, rfl, rowH, -, -, -⟩ := ownH.shape
  rw [← Hl.out]
  clear qmaster_20
  clear row8
  have bz_21 := bz_20.trans (bel13.mono bz_20.size)
  have sn_21 := sn_20.below bel13
  have kW_21 := kW_20.below bel13 kW_20.lt
  have rS_21 := rS_20.below bel13
  have kG_21 := kG_20.below bel13 kG_20.lt
  have rI_21 := rI_20.below bel13
  clear bz_20 sn_20 kW_20 rS_20 kG_20 rI_20 bel13
  obtain ⟨wC, hwC⟩ : ∃ x, x = w13.alloc (.cells #[.int .i64 C, .int .i64 U, .int .i64 Gn, .slice aH l cH] 30) := ⟨_, rfl⟩
  have bC : Below w13.heap.size w13 wC := by rw [hwC]; exact below_new _ _
  have rHC := rowH.below bC
  have kHC : Blk wC w13.heap.size 30 [.int .i64 C, .int .i64 U, .int .i64 Gn, .slice aH l cH] := by rw [hwC]; exact Blk.new w13 _ _
  have bz_22 := bz_21.trans (bC.mono bz_21.size)
  have sn_22 := sn_21.below bC
  have kW_22 := kW_21.below bC kW_21.lt
  have rS_22 := rS_21.below bC
  have kG_22 := kG_21.below bC kG_21.lt
  have rI_22 := rI_21.below bC
  clear bz_21 sn_21 kW_21 rS_21 kG_21 rI_21 bC
  obtain ⟨H, hH⟩ : ∃ H, H = w13.heap.size := ⟨_, rfl⟩
  rw [← hH] at kHC
  clear ownH rowH
  go_upto_region 29 with fail
  rw [← hwC, ← hH]
  clear hwC hH
  have p0 := kHC.cell 0 (by simp)
  have p1 := kHC.cell 1 (by simp)
  have p2 := kHC.cell 2 (by simp)
  have p3 := kHC.cell 3 (by simp)
  have z0 := kW_22.cell 0 (by simp)
  have z1 := kW_22.cell 1 (by simp)
  have z2 := kW_22.cell 2 (by simp)
  have z3 := kW_22.cell 3 (by simp)
  go_wp2_with fail
  refine (HEQ.out _ _ wC rHC rS_22).mono ?_
  rintro e w14 ⟨rfl, bew14⟩
  clear p0 p1 p2 p3
  clear z0 z1 z2 z3
  have bz_23 := bz_22.trans (bew14.mono bz_22.size)
  have sn_23 := sn_22.below bew14
  have kW_23 := kW_22.below bew14 kW_22.lt
  have rS_23 := rS_22.below bew14
  have kG_23 := kG_22.below bew14 kG_22.lt
  have rI_23 := rI_22.below bew14
  have kH_23 := kHC.below bew14 kHC.lt
  have rH_23 := rHC.below bew14
  clear bz_22 sn_22 kW_22 rS_22 kG_22 rI_22 kHC rHC bew14
  have p0 := kG_23.cell 0 (by simp)
  have p1 := kG_23.cell 1 (by simp)
  have p2 := kG_23.cell 2 (by simp)
  have p3 := kG_23.cell 3 (by simp)
  go_wp2_with fail
  refine (HHD.out w14 rI_23).mono ?_
  rintro e w15 ⟨rfl, bew15⟩
  clear p0 p1 p2 p3
  have bz_24 := bz_23.trans (bew15.mono bz_23.size)
  have sn_24 := sn_23.below bew15
  have kW_24 := kW_23.below bew15 kW_23.lt
  have rS_24 := rS_23.below bew15
  have kG_24 := kG_23.below bew15 kG_23.lt
  have rI_24 := rI_23.below bew15
  have kH_24 := kH_23.below bew15 kH_23.lt
  have rH_24 := rH_23.below bew15
  clear bz_23 sn_23 kW_23 rS_23 kG_23 rI_23 kH_23 rH_23 bew15
  go_wp2_with fail
  go_ret
  exact ⟨rfl, bz_24⟩
set_option maxHeartbeats 1000000 in
theorem lawUnwrap (master block : List UInt8) (amaster ablock : Option Addr) (cmaster cblock : Nat) (x0 x1 : Addr) (w : World) (hm : master.length ≤ maxLen) (hb : block.length ≤ maxLen) (hs : Sents w x0 x1) (rmaster : RowAt w amaster master) (rblock : RowAt w ablock block) :
    Calls Tryd.prog 4 #[.slice amaster master.length cmaster, .slice ablock block.length cblock] w fun e w' => e = .returned (.bool true) ∧ Below w.heap.size w w' := by
  unfold maxLen at hm hb
  by_cases h1 : master.length ≤ 1048576
  · by_cases h2 : block.length ≤ 1048576
    · exact lawUnwrap_main master block amaster ablock cmaster cblock x0 x1 w h1 h2 hs rmaster rblock
    · clear rmaster rblock hs
      go_enter Tryd.func4, Tryd.ntmps4
      go_wp2_with fail
      go_ret
      exact ⟨rfl, Below.refl _ _⟩
  · clear rmaster rblock hs
    go_enter Tryd.func4, Tryd.ntmps4
    go_wp2_with fail
    go_ret
    exact ⟨rfl, Below.refl _ _⟩
end Go.Proofs.YtdelidfigcgglaaDoor
