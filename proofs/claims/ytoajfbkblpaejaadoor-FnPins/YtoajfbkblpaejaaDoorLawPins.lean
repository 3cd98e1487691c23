/-
  laws.FnPins: the walk out of the contracts.
-/
import Derived.Test.YtoajfbkblpaejaaDoorDrawOrd
namespace Go.Proofs.YtoajfbkblpaejaaDoor
open Go.RowKit

theorem own_rowP {w : World} {base n c : Nat} {a : Option Addr} {l : List UInt8} (h : Own w base (.slice a n c) l) : RowAt w a l := by
  obtain ⟨ao, cap, hv, row, -⟩ := h.shape
  simp only [Value.slice.injEq] at hv
  rw [hv.1]
  exact row
theorem readV_yes (f : Nat) (block : List UInt8) (pan pin : ByteArray) (h : readOK (f : Int) block pan = true) (hp : textOf (pinD (readD block pan)) = pin) : readV (readOK (f : Int) block pan) (readD block pan) = .agg #[.int .i64 0, .string pin] := by
  unfold readV
  rw [h, hp]
  rfl
theorem readV_not (f : Nat) (block : List UInt8) (pan : ByteArray) (h : readOK (f : Int) block pan = false) : readV (readOK (f : Int) block pan) (readD block pan) = .agg #[.int .i64 1, .string emptyS] := by
  unfold readV
  rw [h]
  rfl

set_option maxRecDepth 100000 in
set_option maxHeartbeats 4000000 in
theorem lawPins_main (ao : Option Addr) (cap : Nat) (code : List UInt8) (u : Nat) (pv : Value) (w : World) (hn : code.length ≤ 1048576) (hg : w.cell? ⟨0, 0, none⟩ = some (.iface u pv)) (hr : RowAt w ao code) :
    Calls Tryd.prog 3 #[.slice ao code.length cap] w fun e w' => e = .returned (.bool true) ∧ Below w.heap.size w w' := by
  have hz := (zero_of_info Tryd.zeroO8).1
  have hg0 := World.block_lt_of_cell? w _ hg
  have HB : Hid (∀ {x}, Below w.heap.size w x → RowAt x ao code ∧ x.cell? ⟨0, 0, none⟩ = some (.iface u pv)) := fun h => ⟨hr.below h, (h.cell (p := ⟨0, 0, none⟩) hg0).trans hg⟩
  have HD := hide (fun (wx : World) (h : RowAt wx ao code) => drawOrder_any ao cap code wx hn h)
  have HCU := hide (fun (n : Nat) (h0 : n ≤ 1024) (wx : World) (h : RowAt wx ao code) => cutLaw_any code 5 n ao cap wx hn (by omega) h0 h)
  have b0 : Below w.heap.size w w := Below.refl _ _
  have hnI : ¬ ((1048576 : Int) < (code.length : Int)) := by omega
  obtain ⟨nc, hnc⟩ : ∃ n, n = code.length := ⟨_, rfl⟩
  rw [← hnc] at HD HCU hnI ⊢
  clear hnc hr hg
  go_enter Tryd.func3, Tryd.ntmps3
  go_wp2_with fail
  refine (HD.out w (HB.out b0).1).mono ?_
  rintro e w1 ⟨gm, v, pin, rfl, -, -, dr, bel1⟩
  obtain ⟨fk, tk, ks, d1, dr1, use, gf, gt, ff1, tf1, pan1, ak1, p1, q1, q2, p3, q3, p5, q5, p7, q7, rfl, -, -, -, -, -, ⟨pl4, pl12, pdg⟩, -, -, -, -, -, -, -, -⟩ := dr.ex
  have bz1 := b0.trans (bel1.mono b0.size)
  obtain ⟨nks1, hnks1⟩ : ∃ n, n = ks.length := ⟨_, rfl⟩
  rw [← hnks1]
  obtain ⟨W1, hW1⟩ : ∃ x, x = w1.alloc (.cells #[.slice (some ⟨p1, 0, none⟩) 36 q1, .int .i64 (ff1 : Int), .slice ak1 nks1 q2, .slice (some ⟨p3, 0, none⟩) 36 q3, .int .i64 (tf1 : Int), .slice (some ⟨p5, 0, none⟩) 8 q5, .string pan1, .slice (some ⟨p7, 0, none⟩) 10 q7] 24) := ⟨_, rfl⟩
  have bW1 : Below w.heap.size w W1 := by rw [hW1]; exact bz1.alloc bz1.size _
  clear hnks1 bel1 bz1 b0 dr
  go_wp2_with fail
  rw [← hW1]
  clear hW1
  refine (HD.out W1 (HB.out bW1).1).mono ?_
  rintro e w2 ⟨gm2, v2, pin2, rfl, -, -, dr2, bel2⟩
  obtain ⟨fk2, tk2, ks2, d2, dr3, use2, gf2, gt2, ff, tf, pan, ak, g1, c1, ck, g3, c3, g5, c5, g7, c7, rfl, -, -, -, -, -, -, ⟨ql13, ql19, qdg⟩, -, -, -, -, -, -, -⟩ := dr2.ex
  have bz2 := bW1.trans (bel2.mono bW1.size)
  obtain ⟨nks, hnks⟩ : ∃ n, n = ks2.length := ⟨_, rfl⟩
  rw [← hnks]
  obtain ⟨W2, hW2⟩ : ∃ x, x = w2.alloc (.cells ([.slice (some ⟨g1, 0, none⟩) 36 c1, .int .i64 (ff : Int), .slice ak nks ck, .slice (some ⟨g3, 0, none⟩) 36 c3, .int .i64 (tf : Int), .slice (some ⟨g5, 0, none⟩) 8 c5, .string pan, .slice (some ⟨g7, 0, none⟩) 10 c7] : List Value).toArray 24) := ⟨_, rfl⟩
  have kO : Blk W2 w2.heap.size 24 [.slice (some ⟨g1, 0, none⟩) 36 c1, .int .i64 (ff : Int), .slice ak nks ck, .slice (some ⟨g3, 0, none⟩) 36 c3, .int .i64 (tf : Int), .slice (some ⟨g5, 0, none⟩) 8 c5, .string pan, .slice (some ⟨g7, 0, none⟩) 10 c7] := by rw [hW2]; exact Blk.new _ _ _
  have bW2 : Below w.heap.size w W2 := by rw [hW2]; exact bz2.alloc bz2.size _
  obtain ⟨GO, hGO⟩ : ∃ x, x = w2.heap.size := ⟨_, rfl⟩
  rw [← hGO] at kO
  have HGO := hide hGO
  clear hnks bel2 bz2 bW1 dr2 hGO
  obtain ⟨m, n, hm, hmn⟩ : ∃ m n : Nat, n = 14 - pin.size ∧ n = m + 1 := ⟨13 - pin.size, 14 - pin.size, rfl, by omega⟩
  have hmI : (14 : Int) - (pin.size : Int) = (n : Int) := by omega
  have hm1 : n ≤ 1024 := by omega
  have hm2 : m < 14 - pin.size := by omega
  have h1n : (1 : Int) ≤ (n : Int) := by omega
  have hn1 : ¬ n = 1 := by omega
  have hmsub : n - 1 = m := by omega
  have hmsI : (n : Int) - 1 = (m : Int) := by omega
  obtain ⟨F, hF⟩ : ∃ F, F = cutL code 5 n := ⟨_, rfl⟩
  have hFl : F.length = n := by rw [hF]; exact cutL_length _ _ _
  have gp0 : goodPin ((0 : Nat) : Int) pin pan = true := goodPin_of (.inl rfl) pl4 pl12 pdg ql13 ql19 qdg
  have gp3 : goodPin ((3 : Nat) : Int) pin pan = true := goodPin_of (.inr rfl) pl4 pl12 pdg ql13 ql19 qdg
  have hpm : pin.size ≤ maxLen := by unfold maxLen; omega
  have hqm : pan.size ≤ maxLen := by unfold maxLen; omega
  have RA := read_made 0 pin pan [] gp0 (by intro h; omega)
  have RB := read_made 3 pin pan F gp3 (by intro _; omega)
  have hAl : (mkL ((0 : Nat) : Int) pin pan []).length = 8 := mkL_ok _ _ _ _ (by unfold mkC; rw [if_pos gp0, if_neg (by rintro ⟨h, -⟩; omega)])
  have hmc3 : mkC ((3 : Nat) : Int) pin pan F.length = 0 := mkC_ok gp3 (by omega)
  have hBl : (mkL ((3 : Nat) : Int) pin pan F).length = 8 := mkL_ok _ _ _ _ hmc3
  have hc0 : mkC ((0 : Nat) : Int) pin pan ([] : List UInt8).length = 0 := by unfold mkC; rw [if_pos gp0, if_neg (by rintro ⟨h, -⟩; omega)]
  have hu0 : mkU ((0 : Nat) : Int) pin pan ([] : List UInt8).length = 0 := by unfold mkU; rw [if_pos gp0, if_neg (by rintro ⟨h, -⟩; omega)]
  have hu3 : mkU ((3 : Nat) : Int) pin pan F.length = (n : Int) := by unfold mkU; rw [if_pos gp3, if_pos ⟨rfl, by omega⟩, ← hm]
  have hcs : mkC ((3 : Nat) : Int) pin pan (F.drop 1).length = 2 := by unfold mkC; rw [if_pos gp3, if_pos ⟨rfl, by rw [List.length_drop, hFl]; omega⟩]
  have hFd : (F.drop 1).length = m := by rw [List.length_drop, hFl]; omega
  have HM0 := hide (fun (wx : World) => (make_any ((0 : Nat) : Int) pin pan [] hpm hqm (by simp)).1 none 0 wx (Nat.le_refl _) (.inl rfl))
  have HM3 := hide (fun (a : Option Addr) (c : Nat) (h0 : F.length ≤ c) (wx : World) (h1 : RowAt wx a F) => (make_any ((3 : Nat) : Int) pin pan F hpm hqm (by omega)).1 a c wx h0 h1)
  have HMs := hide (fun (a : Option Addr) (c : Nat) (h0 : (F.drop 1).length ≤ c) (wx : World) (h1 : RowAt wx a (F.drop 1)) => (make_any ((3 : Nat) : Int) pin pan (F.drop 1) hpm hqm (by omega)).1 a c wx h0 h1)
  rw [hc0, hu0] at HM0
  rw [hmc3, hu3, hFl] at HM3
  rw [hcs, hFd] at HMs
  obtain ⟨us, hus⟩ : ∃ x, x = mkU ((3 : Nat) : Int) pin pan m := ⟨_, rfl⟩
  rw [← hus] at HMs
  obtain ⟨A, hA⟩ : ∃ A, A = mkL ((0 : Nat) : Int) pin pan [] := ⟨_, rfl⟩
  obtain ⟨B, hB⟩ : ∃ A, A = mkL ((3 : Nat) : Int) pin pan F := ⟨_, rfl⟩
  obtain ⟨E, hE⟩ : ∃ A, A = mkL ((3 : Nat) : Int) pin pan (F.drop 1) := ⟨_, rfl⟩
  rw [← hA] at HM0 RA hAl
  rw [← hB] at HM3 RB hBl
  rw [← hE] at HMs
  have HR : Hid (∀ (f : Nat) (l : List UInt8) (a : Option Addr) (c : Nat) (wx : World), l.length = 8 → Below w.heap.size w wx → RowAt wx a l → Calls Tryd.prog 7 #[.int .i64 (f : Int), .slice a 8 c, .string pan] wx fun e w' => e = .returned (readV (readOK (f : Int) l pan) (readD l pan)) ∧ Below wx.heap.size wx w') := by
    intro f l a c wx hl hb h
    have q := readI_all (f : Int) l pan a c u pv wx hqm (by omega) (HB.out hb).2 h
    rw [hl] at q
    exact q
  have HA0 : Hid (readV (readOK ((0 : Nat) : Int) A pan) (readD A pan) = .agg #[.int .i64 0, .string pin]) := readV_yes 0 A pan pin RA.1 RA.2.1
  have HB3 : Hid (readV (readOK ((3 : Nat) : Int) B pan) (readD B pan) = .agg #[.int .i64 0, .string pin]) := readV_yes 3 B pan pin RB.1 RB.2.1
  have HA3 : Hid (readV (readOK ((3 : Nat) : Int) A pan) (readD A pan) = .agg #[.int .i64 1, .string emptyS]) := readV_not 3 A pan (RA.2.2 3 (by omega))
  have HB0 : Hid (readV (readOK ((0 : Nat) : Int) B pan) (readD B pan) = .agg #[.int .i64 1, .string emptyS]) := readV_not 0 B pan (RB.2.2 0 (by omega))
  have HAl := hide hAl
  have HBl := hide hBl
  have HF := hide hF
  have HFl := hide hFl
  have HFd := hide hFd
  clear hA hB hE hus RA RB gp0 gp3 hAl hBl hmc3 hc0 hu0 hu3 hcs hF hFl hFd hm hm2 hpm hqm hmn
  change Hid (∀ wx : World, Calls Tryd.prog 6 #[.int .i64 0, .string pin, .string pan, .slice none 0 0] wx fun e w' => ∃ v, e = .returned (.agg #[.int .i64 0, v, .int .i64 0]) ∧ Own w' wx.heap.size v A ∧ Below wx.heap.size wx w') at HM0
  change Hid (∀ (a : Option Addr) (c : Nat), n ≤ c → ∀ wx : World, RowAt wx a F → Calls Tryd.prog 6 #[.int .i64 3, .string pin, .string pan, .slice a n c] wx fun e w' => ∃ v, e = .returned (.agg #[.int .i64 0, v, .int .i64 (n : Int)]) ∧ Own w' wx.heap.size v B ∧ Below wx.heap.size wx w') at HM3
  change Hid (∀ (a : Option Addr) (c : Nat), m ≤ c → ∀ wx : World, RowAt wx a (F.drop 1) → Calls Tryd.prog 6 #[.int .i64 3, .string pin, .string pan, .slice a m c] wx fun e w' => ∃ v, e = .returned (.agg #[.int .i64 2, v, .int .i64 us]) ∧ Own w' wx.heap.size v E ∧ Below wx.heap.size wx w') at HMs
  go_wp2_with fail
  rw [← hW2]
  clear hW2
  refine (HCU.out n hm1 W2 (HB.out bW2).1).mono ?_
  rintro e w3 ⟨rfl, own3, bel3⟩
  have rF : RowAt w3 (some ⟨W2.heap.size, 0, none⟩) F := by rw [HF.out]; exact own_rowP own3.own
  obtain ⟨gF, hgF⟩ : ∃ x, x = W2.heap.size := ⟨_, rfl⟩
  rw [← hgF] at rF ⊢
  have kO3 := kO.below bel3 kO.lt
  have bz3 := bW2.trans (bel3.mono bW2.size)
  rw [← show GO = _ from HGO]
  clear own3 bel3 hgF kO bW2 HGO
  have o6 := kO3.cell 6 (by simp)
  go_wp2_with fail
  refine (HM0.out w3).mono ?_
  rintro e w4 ⟨v4, rfl, own4, bel4⟩
  obtain ⟨gA, cA, hcA, rfl, rowA, loA, -⟩ := own4.at' HAl.out (by omega)
  have rA := row_of rowA
  obtain ⟨W4, hW4⟩ : ∃ x, x = w4.alloc (.cells #[.int .i64 0, .slice (some ⟨gA, 0, none⟩) 8 cA, .int .i64 0] 29) := ⟨_, rfl⟩
  have kA : Blk W4 w4.heap.size 29 [.int .i64 0, .slice (some ⟨gA, 0, none⟩) 8 cA, .int .i64 0] := by rw [hW4]; exact Blk.new _ _ _
  have b44 : Below w4.heap.size w4 W4 := by rw [hW4]; exact below_new _ _
  have b34 : Below w3.heap.size w3 W4 := bel4.trans (b44.mono bel4.size)
  have kO4 := kO3.below b34 kO3.lt
  have rF4 := rF.below b34
  have rA4 := rA.below b44
  have bz4 := bz3.trans (b34.mono bz3.size)
  obtain ⟨GA, hGA⟩ : ∃ x, x = w4.heap.size := ⟨_, rfl⟩
  rw [← hGA] at kA
  have HGA := hide hGA
  have HW4 := hide hW4
  clear own4 rowA rA bel4 b44 b34 kO3 rF bz3 hGA hW4 o6
  go_upto_region 7 with fail
  rw [← show W4 = _ from HW4, ← show GA = _ from HGA]
  clear HW4 HGA
  have o6 := kO4.cell 6 (by simp)
  go_wp2_with fail
  refine (HM3.out _ _ (Nat.le_refl _) W4 rF4).mono ?_
  rintro e w5 ⟨v5, rfl, own5, bel5⟩
  obtain ⟨gB, cB, hcB, rfl, rowB, loB, -⟩ := own5.at' HBl.out (by omega)
  have rB := row_of rowB
  obtain ⟨W5, hW5⟩ : ∃ x, x = w5.alloc (.cells #[.int .i64 0, .slice (some ⟨gB, 0, none⟩) 8 cB, .int .i64 (n : Int)] 29) := ⟨_, rfl⟩
  have kB : Blk W5 w5.heap.size 29 [.int .i64 0, .slice (some ⟨gB, 0, none⟩) 8 cB, .int .i64 (n : Int)] := by rw [hW5]; exact Blk.new _ _ _
  have b55 : Below w5.heap.size w5 W5 := by rw [hW5]; exact below_new _ _
  have b45 : Below W4.heap.size W4 W5 := bel5.trans (b55.mono bel5.size)
  have kO5 := kO4.below b45 kO4.lt
  have kA5 := kA.below b45 kA.lt
  have rF5 := rF4.below b45
  have rA5 := rA4.below b45
  have rB5 := rB.below b55
  have bz5 := bz4.trans (b45.mono bz4.size)
  obtain ⟨GB, hGB⟩ : ∃ x, x = w5.heap.size := ⟨_, rfl⟩
  rw [← hGB] at kB
  have HGB := hide hGB
  have HW5 := hide hW5
  clear own5 rowB rB bel5 b55 b45 kO4 kA rF4 rA4 bz4 hGB hW5 o6
  go_upto_region 8 with fail
  rw [← show W5 = _ from HW5, ← show GB = _ from HGB]
  clear HW5 HGB
  have a0 := kA5.cell 0 (by simp)
  have a2 := kA5.cell 2 (by simp)
  have c0 := kB.cell 0 (by simp)
  have c2 := kB.cell 2 (by simp)
  go_upto_region 10 with fail
  clear a0 a2 c0 c2
  obtain ⟨V, hV⟩ : ∃ V, V = World.drew W5 := ⟨_, rfl⟩
  have bV : Below W5.heap.size W5 V := by rw [hV]; exact (Below.refl _ _).drew
  have kOV := kO5.below bV kO5.lt
  have kAV := kA5.below bV kA5.lt
  have kBV := kB.below bV kB.lt
  have rFV := rF5.below bV
  have rAV := rA5.below bV
  have rBV := rB5.below bV
  have bzV := bz5.trans (bV.mono bz5.size)
  have rFd : RowAt V (some ⟨gF, 1, none⟩) (F.drop 1) := by
    have h := RowAt.drop rFV 1
    simpa using h
  have keep : Hid (∀ {x}, Below V.heap.size V x → x.cell? ⟨GO, 6, none⟩ = some (.string pan)) := fun h => (kOV.below h kOV.lt).cell 6 (by simp)
  have b_0 : Below V.heap.size V V := Below.refl _ _
  refine wp_region_held_drew (S := fun x => x.cell? ⟨GO, 6, none⟩ = some (.string pan)) (by kernel_rfl) (by rw [← hV]; exact keep.out b_0) (fun hHeld => ?_)
  rw [← hV] at hHeld ⊢
  clear hV bV kO5 kA5 kB rF5 rA5 rB5 bz5
  refine wpAnyH_take (i := 0) (v := (.string pin)) rfl (by kernel_rfl) (by kernel_rfl) (by kernel_rfl) (fun _ _ _ h => h) (Or.inl ⟨by rfl, ?_⟩) hHeld ?_
  · intro _ _; go_simp
  dsimp only [Act.put, List.getElem_toArray, List.getElem_cons_zero, List.getElem_cons_succ]
  simp only [List.setIfInBounds_toArray, List.set_cons_succ, List.set_cons_zero]
  refine wpAnyH_take (i := 1) (v := (.pointer (some ⟨GO, 6, none⟩))) rfl (by kernel_rfl) (by kernel_rfl) (by kernel_rfl) (fun _ _ _ h => h) (Or.inl ⟨by rfl, ?_⟩) hHeld ?_
  · intro _ _; go_simp
  dsimp only [Act.put, List.getElem_toArray, List.getElem_cons_zero, List.getElem_cons_succ]
  simp only [List.setIfInBounds_toArray, List.set_cons_succ, List.set_cons_zero]
  refine wpAnyH_take (i := 2) (v := (.string pan)) rfl (by kernel_rfl) (by kernel_rfl) (by kernel_rfl) (fun _ _ _ h => h) (Or.inl ⟨by rfl, fun w1 h => by have hc := h; go_simp⟩) hHeld ?_
  dsimp only [Act.put, List.getElem_toArray, List.getElem_cons_zero, List.getElem_cons_succ]
  simp only [List.setIfInBounds_toArray, List.set_cons_succ, List.set_cons_zero]
  refine wpAnyH_take (i := 3) (v := (.slice (some ⟨gF, 0, none⟩) n n)) rfl (by kernel_rfl) (by kernel_rfl) (by kernel_rfl) (fun _ _ _ h => h) (Or.inl ⟨by rfl, ?_⟩) hHeld ?_
  · intro _ _; go_simp
  dsimp only [Act.put, List.getElem_toArray, List.getElem_cons_zero, List.getElem_cons_succ]
  simp only [List.setIfInBounds_toArray, List.set_cons_succ, List.set_cons_zero]
  refine wpAnyH_take (i := 4) (v := (.slice (some ⟨gF, 1, none⟩) m m)) rfl (by kernel_rfl) (by kernel_rfl) (by kernel_rfl) (fun _ _ _ h => h) (Or.inl ⟨by rfl, ?_⟩) hHeld ?_
  · intro _ _; go_simp
  dsimp only [Act.put, List.getElem_toArray, List.getElem_cons_zero, List.getElem_cons_succ]
  simp only [List.setIfInBounds_toArray, List.set_cons_succ, List.set_cons_zero]
  refine wpAnyH_ready (rs := [5]) (by kernel_rfl) (by simp) ?_
  refine AllReadyH.cons rfl (fun KQ hK => ?_) AllReadyH.nil
  go_simp
  refine (HMs.out _ _ (Nat.le_refl _) V rFd).mono ?_
  rintro e w6 ⟨v6, rfl, own6, bel6⟩
  obtain ⟨a6, c6, rfl, -, -, -, -⟩ := own6.shape
  have hfd := fun (wx : World) => (show (Instr.field 29 (.agg #[.int .i64 2, .slice a6 E.length c6, .int .i64 us]) 0).run Tryd.prog wx = .ok (.int .i64 2) wx by kernel_rfl)
  go_wp2_with fail
  refine hK.out _ _ (keep.out bel6) (fun hHeld => ?_)
  clear hK KQ
  try dsimp only [Act.put]
  refine wpAnyH_take (i := 6) (v := (.int .i64 2)) rfl (by kernel_rfl) (by kernel_rfl) (by kernel_rfl) (fun _ _ _ h => h) (Or.inl ⟨by rfl, ?_⟩) hHeld ?_
  · intro _ _; go_simp
  dsimp only [Act.put, List.getElem_toArray, List.getElem_cons_zero, List.getElem_cons_succ]
  simp only [List.setIfInBounds_toArray, List.set_cons_succ, List.set_cons_zero]
  refine wpAnyH_take (i := 7) (v := (.bool false)) rfl (by kernel_rfl) (by kernel_rfl) (by kernel_rfl) (fun _ _ _ h => h) (Or.inl ⟨by rfl, ?_⟩) hHeld ?_
  · intro _ _; go_simp
  dsimp only [Act.put, List.getElem_toArray, List.getElem_cons_zero, List.getElem_cons_succ]
  simp only [List.setIfInBounds_toArray, List.set_cons_succ, List.set_cons_zero]
  refine wpAnyH_done (by kernel_rfl) ?_ _
  clear hHeld keep hfd own6
  have kO6 := kOV.below bel6 kOV.lt
  have kA6 := kAV.below bel6 kAV.lt
  have kB6 := kBV.below bel6 kBV.lt
  have rA6 := rAV.below bel6
  have rB6 := rBV.below bel6
  have bz6 := bzV.trans (bel6.mono bzV.size)
  clear bel6 kOV kAV kBV rFV rAV rBV rFd bzV b_0
  have o6 := kO6.cell 6 (by simp)
  have a1 := kA6.cell 1 (by simp)
  go_wp2_with fail
  refine (HR.out 0 A _ _ w6 HAl.out bz6 rA6).mono ?_
  rintro e w7 ⟨rfl, bel7⟩
  rw [HA0.out]
  have kO7 := kO6.below bel7 kO6.lt
  have kA7 := kA6.below bel7 kA6.lt
  have kB7 := kB6.below bel7 kB6.lt
  have rA7 := rA6.below bel7
  have rB7 := rB6.below bel7
  have bz7 := bz6.trans (bel7.mono bz6.size)
  clear bel7 kO6 kA6 kB6 rA6 rB6 bz6 o6 a1
  obtain ⟨W7, hW7⟩ : ∃ x, x = w7.alloc (.cells #[.int .i64 0, .string pin] 32) := ⟨_, rfl⟩
  have kX : Blk W7 w7.heap.size 32 [.int .i64 0, .string pin] := by rw [hW7]; exact Blk.new _ _ _
  have b77 : Below w7.heap.size w7 W7 := by rw [hW7]; exact below_new _ _
  have kO8 := kO7.below b77 kO7.lt
  have kA8 := kA7.below b77 kA7.lt
  have kB8 := kB7.below b77 kB7.lt
  have rA8 := rA7.below b77
  have rB8 := rB7.below b77
  have bz8 := bz7.trans (b77.mono bz7.size)
  obtain ⟨GX, hGX⟩ : ∃ x, x = w7.heap.size := ⟨_, rfl⟩
  rw [← hGX] at kX
  have HW7 := hide hW7
  have HGX := hide hGX
  clear b77 kO7 kA7 kB7 rA7 rB7 bz7 hW7 hGX
  go_upto_region 13 with fail
  rw [← show W7 = _ from HW7, ← show GX = _ from HGX]
  clear HW7 HGX
  have o6 := kO8.cell 6 (by simp)
  have b1 := kB8.cell 1 (by simp)
  go_wp2_with fail
  refine (HR.out 3 B _ _ W7 HBl.out bz8 rB8).mono ?_
  rintro e w9 ⟨rfl, bel9⟩
  rw [HB3.out]
  obtain ⟨W9, hW9⟩ : ∃ x, x = w9.alloc (.cells #[.int .i64 0, .string pin] 32) := ⟨_, rfl⟩
  have kY : Blk W9 w9.heap.size 32 [.int .i64 0, .string pin] := by rw [hW9]; exact Blk.new _ _ _
  have b99 : Below w9.heap.size w9 W9 := by rw [hW9]; exact below_new _ _
  have b89 : Below W7.heap.size W7 W9 := bel9.trans (b99.mono bel9.size)
  have kO9 := kO8.below b89 kO8.lt
  have kA9 := kA8.below b89 kA8.lt
  have kB9 := kB8.below b89 kB8.lt
  have kX9 := kX.below b89 kX.lt
  have rA9 := rA8.below b89
  have rB9 := rB8.below b89
  have bz9 := bz8.trans (b89.mono bz8.size)
  obtain ⟨GY, hGY⟩ : ∃ x, x = w9.heap.size := ⟨_, rfl⟩
  rw [← hGY] at kY
  have HW9 := hide hW9
  have HGY := hide hGY
  clear bel9 b99 b89 kO8 kA8 kB8 kX rA8 rB8 bz8 hW9 hGY o6 b1
  go_upto_region 14 with fail
  rw [← show W9 = _ from HW9, ← show GY = _ from HGY]
  clear HW9 HGY
  have o6 := kO9.cell 6 (by simp)
  have a1 := kA9.cell 1 (by simp)
  have x0 := kX9.cell 0 (by simp)
  have x1 := kX9.cell 1 (by simp)
  have y0 := kY.cell 0 (by simp)
  have y1 := kY.cell 1 (by simp)
  have hpp : (pin == pin) = true := by rw [beq_bytes]; exact decide_eq_true rfl
  have hf1 := fun (wx : World) => (show (Instr.field 32 (.agg #[.int .i64 1, .string emptyS]) 0).run Tryd.prog wx = .ok (.int .i64 1) wx by kernel_rfl)
  go_wp2_with fail
  refine (HR.out 3 A _ _ W9 HAl.out bz9 rA9).mono ?_
  rintro e w10 ⟨rfl, bel10⟩
  rw [HA3.out]
  have kO10 := kO9.below bel10 kO9.lt
  have kB10 := kB9.below bel10 kB9.lt
  have rB10 := rB9.below bel10
  have bz10 := bz9.trans (bel10.mono bz9.size)
  clear bel10 kO9 kA9 kB9 kX9 kY rA9 rB9 bz9 o6 a1 x0 x1 y0 y1
  have o6 := kO10.cell 6 (by simp)
  have b1 := kB10.cell 1 (by simp)
  go_wp2_with fail
  refine (HR.out 0 B _ _ w10 HBl.out bz10 rB10).mono ?_
  rintro e w11 ⟨rfl, bel11⟩
  rw [HB0.out]
  have bz11 := bz10.trans (bel11.mono bz10.size)
  clear bel11 kO10 kB10 rB10 bz10 o6 b1
  go_wp2_with fail
  go_ret
  exact ⟨rfl, bz11⟩

set_option maxHeartbeats 1000000 in
theorem lawPins (ao : Option Addr) (cap : Nat) (code : List UInt8) (u : Nat) (pv : Value) (w : World) (_hn : code.length ≤ maxLen) (hg : w.cell? ⟨0, 0, none⟩ = some (.iface u pv)) (hr : RowAt w ao code) :
    Calls Tryd.prog 3 #[.slice ao code.length cap] w fun e w' => e = .returned (.bool true) ∧ Below w.heap.size w w' := by
  by_cases h : code.length ≤ 1048576
  · exact lawPins_main ao cap code u pv w h hg hr
  · have hnI : (1048576 : Int) < (code.length : Int) := by omega
    clear hg hr
    go_enter Tryd.func3, Tryd.ntmps3
    go_wp2_with fail
    go_ret
    exact ⟨rfl, Below.refl _ _⟩
end Go.Proofs.YtoajfbkblpaejaaDoor

