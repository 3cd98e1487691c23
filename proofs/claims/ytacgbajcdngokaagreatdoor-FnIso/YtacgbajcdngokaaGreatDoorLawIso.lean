/-
  laws.FnIso.
-/
import Derived.Test.YtacgbajcdngokaaGreatDoorIsoDrawX
import Derived.Test.YtacgbajcdngokaaGreatDoorIsoSame
namespace Go.Proofs.YtacgbajcdngokaaGreatDoor
open Go.RowKit

/-- A row of fields of Decode's as Encode takes it. -/
theorem Fs.frI {w : World} {lo : Nat} {v : Value} {L : List (Nat × List UInt8)} (h : FsX w lo v L) : Fr w v (L.map (fun (p : Nat × List UInt8) => ((p.1 : Int), p.2))) := by
  obtain ⟨vs, h⟩ := h
  obtain ⟨a, c, rfl⟩ := h.shape
  refine ⟨⟨a, c, by rw [List.length_map]⟩, fun i hi => ?_⟩
  rw [List.length_map] at hi ⊢
  obtain ⟨g, c', ai, ci, e, p1, p2, r, -⟩ := h.at (i := i) hi
  have hg : (L.map (fun (p : Nat × List UInt8) => ((p.1 : Int), p.2))).getD i (0, []) = (((L.getD i (0, [])).1 : Int), (L.getD i (0, [])).2) := by
    rw [List.getD_eq_getElem?_getD, List.getElem?_map, List.getElem?_eq_getElem hi, List.getD_eq_getElem?_getD, List.getElem?_eq_getElem hi]
    rfl
  rw [hg]
  exact ⟨g, 0, c', ai, ci, e, by rw [Nat.zero_add]; exact p1, by rw [Nat.zero_add]; exact p2, r⟩
theorem own_room {w : World} {base n c : Nat} {a : Option Addr} {l : List UInt8} (h : Own w base (.slice a n c) l) : l.length ≤ c := by
  obtain ⟨t, h⟩ := h
  rcases h.2 with ⟨hv, hn⟩ | ⟨g, cap, cur, hv, -, -, hn, -⟩
  · omega
  · simp only [Value.slice.injEq] at hv; omega
theorem fldD_le (no : Nat) (rest : List UInt8) : (fldD no rest).length ≤ rest.length := by
  unfold fldD fD
  split
  · rw [List.length_take, List.length_drop]; omega
  · simp
theorem dL_ok (data : List UInt8) : (∀ p ∈ dL data, p.2.length ≤ 4096) ∧ (dL data).length ≤ 200 := by
  by_cases h : dC data = 0
  · have h4 : data.length ≤ 4096 := by
      by_cases hb : 4096 < data.length
      · exfalso; revert h; unfold dC; rw [if_pos hb]; omega
      · omega
    have e : dL data = decF data (mapN data) (mapE data) (mapN data).length := by unfold dL; rw [if_pos h]
    rw [e]
    refine ⟨fun p hp => ?_, ?_⟩
    · unfold decF at hp
      rw [List.mem_map] at hp
      obtain ⟨j, -, rfl⟩ := hp
      refine Nat.le_trans (fldD_le _ _) ?_
      rw [List.length_drop]
      omega
    · rw [decF_length]
      unfold mapN
      split
      · unfold nosOf
        refine Nat.le_trans (nosTo_length _ _) ?_
        unfold mapEnd
        split <;> omega
      · simp
  · have e : dL data = [] := by unfold dL; rw [if_neg h]
    rw [e]
    exact ⟨fun p hp => absurd hp (by simp), by simp⟩
set_option maxRecDepth 100000 in
set_option maxHeartbeats 8000000 in
theorem lawIso_main (ao : Option Addr) (cap : Nat) (code : List UInt8) (w : World) (hn : code.length ≤ 1048576) (hr : RowAt w ao code) (hT : ∀ w', Below w.heap.size w w' → Lib.TabIs Tryz.prog w' "internal/strconv.uint64pow10" .u64 Lib.pow10Tab) :
    Calls Tryz.prog 3 #[.slice ao code.length cap] w fun e w' => e = .returned (.bool true) ∧ Below w.heap.size w w' := by
  have HTT : Hid (∀ wx, Below w.heap.size w wx → ∀ w', Below wx.heap.size wx w' → Lib.TabIs Tryz.prog w' "internal/strconv.uint64pow10" .u64 Lib.pow10Tab) := fun wx hb w' hb2 => hT w' (hb.trans (hb2.mono hb.size))
  have HDM := hideT (fun (wx : World) (hb : Below w.heap.size w wx) => drawMsg_any code ao cap wx hn (hr.below hb))
  have HDD := hideT (fun (wx : World) (hb : Below w.heap.size w wx) => drawDecode_any code ao cap wx hn (hr.below hb))
  obtain ⟨-, -, hg3⟩ := msgF_good code 0 14 (Nat.le_refl _)
  have hmb := msg_back code 0
  have hfl := msgF_len code 0 14
  obtain ⟨S, hS⟩ : ∃ q, q = msgS code 0 := ⟨_, rfl⟩
  obtain ⟨LF, hLF⟩ : ∃ q, q = msgF code 0 14 := ⟨_, rfl⟩
  rw [← hS, ← hLF] at hmb
  rw [← hS, ← hLF] at HDM
  rw [← hLF] at hg3 hfl
  obtain ⟨E, hE⟩ : ∃ q, q = encL S LF := ⟨_, rfl⟩
  rw [← hE] at hmb
  obtain ⟨eC, eM, eL, eN1, eN2⟩ := hmb
  have HEI := hideT (fun (v : Value) (wx : World) (F : Fr wx v LF) (hb : Below w.heap.size w wx) => encodeI_any S LF (fun p hp => Nat.le_trans (hg3 p hp) (by decide)) (by omega) v wx F (HTT.out wx hb))
  rw [← hE] at HEI
  have HDE := hideT (fun (a : Option Addr) (c : Nat) (wx : World) (hc : E.length ≤ c) (h : RowAt wx a E) => decode_any E a c wx (by omega) hc h)
  rw [eC, eM, show ((0 : Nat) : Int) = 0 from rfl] at HDE
  have hz := (zero_of_info Tryz.zeroDc).1
  have HSM := hideT (fun (v1 v2 : Value) (wx : World) (F1 : Fr wx v1 LF) (F2 : Fr wx v2 LF) => sameMsg_any S LF (by omega) v1 v2 wx F1 F2)
  have hxl := ddL_len code
  have hdb := dec_back (ddL code)
  have hmac := mac_at (ddL code)
  obtain ⟨X, hX⟩ : ∃ q, q = ddL code := ⟨_, rfl⟩
  rw [← hX] at hxl HDD hdb hmac
  have HXI := hideT (fun (a : Option Addr) (c : Nat) (wx : World) (hc : X.length ≤ c) (h : RowAt wx a X) => decode_any X a c wx (by omega) hc h)
  have HXS := hideT (fun (a : Option Addr) (c : Nat) (wx : World) (hc : X.length ≤ c) (h : RowAt wx a X) => decodeS_any X a c wx (by omega) hc h)
  have HLI : Hid (dLI E = LF) := eL
  obtain ⟨hdl1, hdl2⟩ := dL_ok X
  have HEX := hideT (fun (v : Value) (wx : World) (F : Fr wx v (dLI X)) (hb : Below w.heap.size w wx) => encodeI_any (dM X) (dLI X) (fun p hp => by
    unfold dLI at hp
    rw [List.mem_map] at hp
    obtain ⟨q, hq, rfl⟩ := hp
    exact Nat.le_trans (hdl1 q hq) (by decide)) (by unfold dLI; rw [List.length_map]; omega) v wx F (HTT.out wx hb))
  have HSR := hideT (fun (a1 a2 : Option Addr) (c1 c2 : Nat) (wx : World) (r1 : RowAt wx a1 X) (r2 : RowAt wx a2 X) => same_row X a1 a2 X.length c1 c2 wx rfl r1 r2)
  obtain ⟨CX, hCX⟩ : ∃ q : Int, q = (dC X : Nat) := ⟨_, rfl⟩
  obtain ⟨PX, hPX⟩ : ∃ q : Int, q = (dP X : Nat) := ⟨_, rfl⟩
  obtain ⟨MX, hMX⟩ : ∃ q, q = dM X := ⟨_, rfl⟩
  obtain ⟨AX, hAX⟩ : ∃ q : Int, q = (dA X : Nat) := ⟨_, rfl⟩
  rw [← hCX, ← hPX, ← hMX, ← hAX] at HXI HXS
  rw [← hMX] at HEX
  have HCX := hideT hCX
  have HMX := hideT hMX
  have HAX := hideT hAX
  obtain ⟨N, hN⟩ : ∃ q, q = E.length := ⟨_, rfl⟩
  have HNE := hideT hN
  rw [← hN] at eN1 eN2 HDE
  obtain ⟨n, hnl⟩ : ∃ q, q = code.length := ⟨_, rfl⟩
  rw [← hnl] at hn HDM HDD ⊢
  obtain ⟨NX, hNX⟩ : ∃ q, q = X.length := ⟨_, rfl⟩
  have HNX := hideT hNX
  rw [← hNX] at hxl HDD HXI HXS HSR
  have HDB := hideT hdb
  have HMC := hideT hmac
  have hnI : ¬ (1048576 : Int) < (n : Int) := by omega
  have hN12 : ¬ (N : Int) < 12 := by omega
  clear hCX hPX hMX hAX hdl1 hdl2 hnl hN hS hLF hE hg3 hfl eC eM eL hr hT hX hNX hdb hmac
  go_enter Tryz.func3, Tryz.ntmps3
  go_upto_region 3 with fail
  go_wp2_with fail
  refine (HDM.out w (Below.refl _ _)).mono ?_
  rintro e w1 ⟨⟨v1, rfl, F1⟩, b1⟩
  obtain ⟨av1, cv1, rfl⟩ := F1.sh
  obtain ⟨lF, hlF⟩ : ∃ q, q = LF.length := ⟨_, rfl⟩
  rw [← hlF] at F1 ⊢
  obtain ⟨X1, hX1⟩ : ∃ x, x = w1.alloc (Obj.cells #[.string S, .slice av1 lF cv1] 25) := ⟨_, rfl⟩
  obtain ⟨gM, hgM⟩ : ∃ g, g = w1.heap.size := ⟨_, rfl⟩
  have kM : Blk X1 gM 25 [.string S, .slice av1 lF cv1] := by rw [hX1, hgM]; exact Blk.new _ _ _
  have bX1 : Below w1.heap.size w1 X1 := by rw [hX1]; exact below_newT _ _
  have FX1 := hideT (F1.below bX1)
  have bz1 := hideT (b1.trans (bX1.mono b1.size))
  have HX1 := hideT hX1
  have HGM := hideT hgM
  clear hX1 hgM F1 b1 bX1 hlF
  go_upto_region 4 with fail
  rw [← show X1 = _ from HX1, ← show gM = _ from HGM]
  clear HX1 HGM
  go_wp2_with (refine load_blk rfl 25 (.tmp 3) rfl gM rfl kM Tryz.underlying25 rfl (by kernel_rfl) ?_)
  refine (HEI.out _ _ FX1.out bz1.out).mono ?_
  rintro e w2 ⟨v2, rfl, own2, b2⟩
  obtain ⟨aE, cE, rfl, rE, -⟩ := own2.shape
  have hEc2 : N ≤ cE := by rw [HNE.out]; exact own_room own2
  rw [← HNE.out]
  have HRE := hideT rE
  have bz2 := hideT (bz1.out.trans (b2.mono bz1.out.size))
  clear own2 rE b2 FX1 bz1 kM
  go_wp2_with fail
  refine (HDE.out _ _ _ hEc2 HRE.out).mono ?_
  rintro e w3 ⟨v3, rfl, F3, b3⟩
  have FI3 : Fr w3 v3 LF := by have h := Fs.frI F3; rw [show (dL E).map (fun (p : Nat × List UInt8) => ((p.1 : Int), p.2)) = LF from HLI.out] at h; exact h
  obtain ⟨aD, cD, e3⟩ := FI3.sh
  obtain ⟨lD, hlD⟩ : ∃ q, q = LF.length := ⟨_, rfl⟩
  rw [← hlD] at e3
  subst e3
  obtain ⟨PE, hPE⟩ : ∃ q : Int, q = (dP E : Nat) := ⟨_, rfl⟩
  obtain ⟨AE, hAE⟩ : ∃ q : Int, q = (dA E : Nat) := ⟨_, rfl⟩
  rw [← hPE, ← hAE]
  obtain ⟨X3, hX3⟩ : ∃ x, x = w3.alloc (Obj.cells #[.int .i64 0, .int .i64 PE, .string S, .slice aD lD cD, .int .i64 AE] 29) := ⟨_, rfl⟩
  obtain ⟨gD, hgD⟩ : ∃ g, g = w3.heap.size := ⟨_, rfl⟩
  have kD : Blk X3 gD 29 [.int .i64 0, .int .i64 PE, .string S, .slice aD lD cD, .int .i64 AE] := by rw [hX3, hgD]; exact Blk.new _ _ _
  have bX3 : Below w3.heap.size w3 X3 := by rw [hX3]; exact below_newT _ _
  have FX3 := hideT (FI3.below bX3)
  have bz3 := hideT ((bz2.out.trans (b3.mono bz2.out.size)).trans (bX3.mono (bz2.out.trans (b3.mono bz2.out.size)).size))
  have HX3 := hideT hX3
  have HGD := hideT hgD
  clear hX3 hgD F3 FI3 b3 bX3 hlD hPE hAE HRE bz2
  go_upto_region 6 with fail
  rw [← show X3 = _ from HX3, ← show gD = _ from HGD]
  clear HX3 HGD
  obtain ⟨V, hV⟩ : ∃ V, V = World.drew X3 := ⟨_, rfl⟩
  have b_0 : Below X3.heap.size X3 V := by rw [hV]; exact (Below.refl _ _).drew
  have p0 := kD.cell 0 (by simp)
  have p2 := kD.cell 2 (by simp)
  have p3 := kD.cell 3 (by simp)
  have lD0 := kD.lt
  have FDV := hideT (FX3.out.below b_0)
  have BV : Hid (Below w.heap.size w V) := bz3.out.trans (b_0.mono bz3.out.size)
  have keep : Hid (∀ {x}, Below X3.heap.size X3 x → x.cell? ⟨gD, 0, none⟩ = some (.int .i64 0) ∧ x.cell? ⟨gD, 2, none⟩ = some (.string S) ∧ x.cell? ⟨gD, 3, none⟩ = some (.slice aD lD cD)) := fun h => ⟨(h.cell (p := ⟨gD, 0, none⟩) lD0).trans p0, (h.cell (p := ⟨gD, 2, none⟩) lD0).trans p2, (h.cell (p := ⟨gD, 3, none⟩) lD0).trans p3⟩
  refine wp_region_held_drew (S := fun x => x.cell? ⟨gD, 0, none⟩ = some (.int .i64 0) ∧ x.cell? ⟨gD, 2, none⟩ = some (.string S) ∧ x.cell? ⟨gD, 3, none⟩ = some (.slice aD lD cD)) (by kernel_rfl) (by rw [← hV]; exact keep.out b_0) (fun hHeld => ?_)
  rw [← hV] at hHeld ⊢
  clear hV p0 p2 p3 kD
  refine wpAnyH_take (i := 0) (v := (.slice aE N cE)) rfl (by kernel_rfl) (by kernel_rfl) (by kernel_rfl) (fun _ _ _ h => h) (Or.inl ⟨by rfl, ?_⟩) hHeld ?_
  · intro _ _; go_simp
  dsimp only [Act.put, List.getElem_toArray, List.getElem_cons_zero, List.getElem_cons_succ]
  simp only [List.setIfInBounds_toArray, List.set_cons_succ, List.set_cons_zero]
  refine wpAnyH_take (i := 1) (v := (.int .i64 (N : Int))) rfl (by kernel_rfl) (by kernel_rfl) (by kernel_rfl) (fun _ _ _ h => h) (Or.inl ⟨by rfl, ?_⟩) hHeld ?_
  · intro _ _; go_simp
  dsimp only [Act.put, List.getElem_toArray, List.getElem_cons_zero, List.getElem_cons_succ]
  simp only [List.setIfInBounds_toArray, List.set_cons_succ, List.set_cons_zero]
  refine wpAnyH_take (i := 2) (v := (.bool false)) rfl (by kernel_rfl) (by kernel_rfl) (by kernel_rfl) (fun _ _ _ h => h) (Or.inl ⟨by rfl, ?_⟩) hHeld ?_
  · intro _ _; go_simp
  dsimp only [Act.put, List.getElem_toArray, List.getElem_cons_zero, List.getElem_cons_succ]
  simp only [List.setIfInBounds_toArray, List.set_cons_succ, List.set_cons_zero]
  refine wpAnyH_take (i := 3) (v := (.bool false)) rfl (by kernel_rfl) (by kernel_rfl) (by kernel_rfl) (fun _ _ _ h => h) (Or.inl ⟨by rfl, ?_⟩) hHeld ?_
  · intro _ _; go_simp
  dsimp only [Act.put, List.getElem_toArray, List.getElem_cons_zero, List.getElem_cons_succ]
  simp only [List.setIfInBounds_toArray, List.set_cons_succ, List.set_cons_zero]
  refine wpAnyH_take (i := 4) (v := (.pointer (some ⟨gD, 0, none⟩))) rfl (by kernel_rfl) (by kernel_rfl) (by kernel_rfl) (fun _ _ _ h => h) (Or.inl ⟨by rfl, ?_⟩) hHeld ?_
  · intro _ _; go_simp
  dsimp only [Act.put, List.getElem_toArray, List.getElem_cons_zero, List.getElem_cons_succ]
  simp only [List.setIfInBounds_toArray, List.set_cons_succ, List.set_cons_zero]
  refine wpAnyH_take (i := 5) (v := (.int .i64 0)) rfl (by kernel_rfl) (by kernel_rfl) (by kernel_rfl) (fun _ _ _ h => h) (Or.inl ⟨by rfl, fun w1 h => by have hc0 := h.1; go_simp⟩) hHeld ?_
  dsimp only [Act.put, List.getElem_toArray, List.getElem_cons_zero, List.getElem_cons_succ]
  simp only [List.setIfInBounds_toArray, List.set_cons_succ, List.set_cons_zero]
  refine wpAnyH_take (i := 6) (v := (.bool false)) rfl (by kernel_rfl) (by kernel_rfl) (by kernel_rfl) (fun _ _ _ h => h) (Or.inl ⟨by rfl, ?_⟩) hHeld ?_
  · intro _ _; go_simp
  dsimp only [Act.put, List.getElem_toArray, List.getElem_cons_zero, List.getElem_cons_succ]
  simp only [List.setIfInBounds_toArray, List.set_cons_succ, List.set_cons_zero]
  refine wpAnyH_take (i := 7) (v := (.bool false)) rfl (by kernel_rfl) (by kernel_rfl) (by kernel_rfl) (fun _ _ _ h => h) (Or.inl ⟨by rfl, ?_⟩) hHeld ?_
  · intro _ _; go_simp
  dsimp only [Act.put, List.getElem_toArray, List.getElem_cons_zero, List.getElem_cons_succ]
  simp only [List.setIfInBounds_toArray, List.set_cons_succ, List.set_cons_zero]
  refine wpAnyH_take (i := 8) (v := (.bool false)) rfl (by kernel_rfl) (by kernel_rfl) (by kernel_rfl) (fun _ _ _ h => h) (Or.inl ⟨by rfl, ?_⟩) hHeld ?_
  · intro _ _; go_simp
  dsimp only [Act.put, List.getElem_toArray, List.getElem_cons_zero, List.getElem_cons_succ]
  simp only [List.setIfInBounds_toArray, List.set_cons_succ, List.set_cons_zero]
  refine wpAnyH_take (i := 9) (v := (.pointer (some ⟨gD, 2, none⟩))) rfl (by kernel_rfl) (by kernel_rfl) (by kernel_rfl) (fun _ _ _ h => h) (Or.inl ⟨by rfl, ?_⟩) hHeld ?_
  · intro _ _; go_simp
  dsimp only [Act.put, List.getElem_toArray, List.getElem_cons_zero, List.getElem_cons_succ]
  simp only [List.setIfInBounds_toArray, List.set_cons_succ, List.set_cons_zero]
  refine wpAnyH_take (i := 10) (v := (.agg #[.string S, .slice aD lD cD])) rfl (by kernel_rfl) (by kernel_rfl) (by kernel_rfl) (fun _ _ _ h => h) (Or.inl ⟨by rfl, fun w1 h => by have hc0 := h.2.1; have hc1 := h.2.2; go_simp⟩) hHeld ?_
  dsimp only [Act.put, List.getElem_toArray, List.getElem_cons_zero, List.getElem_cons_succ]
  simp only [List.setIfInBounds_toArray, List.set_cons_succ, List.set_cons_zero]
  refine wpAnyH_take (i := 11) (v := (.slice ao n cap)) rfl (by kernel_rfl) (by kernel_rfl) (by kernel_rfl) (fun _ _ _ h => h) (Or.inl ⟨by rfl, ?_⟩) hHeld ?_
  · intro _ _; go_simp
  dsimp only [Act.put, List.getElem_toArray, List.getElem_cons_zero, List.getElem_cons_succ]
  simp only [List.setIfInBounds_toArray, List.set_cons_succ, List.set_cons_zero]
  refine wpAnyH_ready (rs := [12]) (by kernel_rfl) (by simp) ?_
  refine AllReadyH.cons rfl (fun K hK => ?_) (AllReadyH.nil)
  go_simp
  refine (HDM.out _ BV.out).mono ?_
  rintro e w_1 ⟨⟨v_1, rfl, F_1⟩, b_1⟩
  have FD_1 := FDV.out.below b_1
  have bb_1 := below_step b_0 b_1
  obtain ⟨ap, cp, rfl⟩ := F_1.sh
  go_wp2_with fail
  refine hK.out _ _ (keep.out bb_1) (fun hHeld => ?_)
  clear hK K
  try dsimp only [Act.put]
  refine wpAnyH_ready (rs := [13]) (by kernel_rfl) (by simp) ?_
  refine AllReadyH.cons rfl (fun K hK => ?_) (AllReadyH.nil)
  go_simp
  refine (HSM.out _ _ _ FD_1 F_1).mono ?_
  rintro e w_2 ⟨rfl, b_2⟩
  have bb_2 := below_step bb_1 b_2
  go_wp2_with fail
  refine hK.out _ _ (keep.out bb_2) (fun hHeld => ?_)
  clear hK K
  try dsimp only [Act.put]
  refine wpAnyH_take (i := 14) (v := (.bool false)) rfl (by kernel_rfl) (by kernel_rfl) (by kernel_rfl) (fun _ _ _ h => h) (Or.inl ⟨by rfl, ?_⟩) hHeld ?_
  · intro _ _; go_simp
  dsimp only [Act.put, List.getElem_toArray, List.getElem_cons_zero, List.getElem_cons_succ]
  simp only [List.setIfInBounds_toArray, List.set_cons_succ, List.set_cons_zero]
  refine wpAnyH_take (i := 15) (v := (.bool false)) rfl (by kernel_rfl) (by kernel_rfl) (by kernel_rfl) (fun _ _ _ h => h) (Or.inl ⟨by rfl, ?_⟩) hHeld ?_
  · intro _ _; go_simp
  dsimp only [Act.put, List.getElem_toArray, List.getElem_cons_zero, List.getElem_cons_succ]
  simp only [List.setIfInBounds_toArray, List.set_cons_succ, List.set_cons_zero]
  refine wpAnyH_done (by kernel_rfl) ?_ _
  clear hHeld
  have b6 := bz3.out.trans (bb_2.mono bz3.out.size)
  have B6 := hideT b6
  obtain ⟨W6, hW6⟩ : ∃ q : World, q = w_2 := ⟨_, rfl⟩
  rw [← hW6] at B6 ⊢
  clear hW6 b6 keep BV FDV b_0 FX3 bz3
  go_wp2_with fail
  refine (HDD.out _ B6.out).mono ?_
  rintro e w7 ⟨a7, c7, rfl, r7, hc7, b7⟩
  have B7 := hideT (B6.out.trans (b7.mono B6.out.size))
  have HR7 := hideT r7
  clear r7 b7 B6
  go_wp2_with fail
  refine (HXS.out _ _ _ hc7 HR7.out).mono ?_
  rintro e w8 ⟨v8, rfl, F8, b8⟩
  obtain ⟨a8, c8, e8⟩ := (Fs.frI F8).sh
  obtain ⟨l8, hl8⟩ : ∃ q, q = (List.map (fun (p : Nat × List UInt8) => ((p.1 : Int), p.2)) (dL X)).length := ⟨_, rfl⟩
  rw [← hl8] at e8
  subst e8
  obtain ⟨X8, hX8⟩ : ∃ x, x = w8.alloc (Obj.cells #[.int .i64 CX, .int .i64 PX, .string MX, .slice a8 l8 c8, .int .i64 AX] 29) := ⟨_, rfl⟩
  obtain ⟨gW, hgW⟩ : ∃ g, g = w8.heap.size := ⟨_, rfl⟩
  have kW : Blk X8 gW 29 [.int .i64 CX, .int .i64 PX, .string MX, .slice a8 l8 c8, .int .i64 AX] := by rw [hX8, hgW]; exact Blk.new _ _ _
  have bX8 : Below w8.heap.size w8 X8 := by rw [hX8]; exact below_newT _ _
  have b78 := b8.trans (bX8.mono b8.size)
  have HR8 := hideT (HR7.out.below b78)
  have B8 := hideT (B7.out.trans (b78.mono B7.out.size))
  have HX8 := hideT hX8
  have HGW := hideT hgW
  clear hX8 hgW F8 b8 bX8 b78 hl8 HR7 B7
  go_upto_region 10 with fail
  rw [← show X8 = _ from HX8, ← show gW = _ from HGW]
  clear HX8 HGW
  go_wp2_with fail
  refine (HDD.out _ B8.out).mono ?_
  rintro e w9 ⟨a9, c9, rfl, r9, hc9, b9⟩
  have B9 := hideT (B8.out.trans (b9.mono B8.out.size))
  have HR9 := hideT r9
  have HR79 := hideT (HR8.out.below b9)
  have kW9 := kW.below b9 kW.lt
  clear r9 b9 B8 HR8 kW
  go_wp2_with fail
  refine (HXI.out _ _ _ hc9 HR9.out).mono ?_
  rintro e w10 ⟨v10, rfl, F10, b10⟩
  have FI10 := Fs.frI F10
  obtain ⟨aG, cG, eG⟩ := FI10.sh
  obtain ⟨lG, hlG⟩ : ∃ q, q = (List.map (fun (p : Nat × List UInt8) => ((p.1 : Int), p.2)) (dL X)).length := ⟨_, rfl⟩
  rw [← hlG] at eG
  subst eG
  have FH10 : Hid (Fr w10 (.slice aG lG cG) (dLI X)) := FI10
  have HLG : Hid (lG = (dLI X).length) := hlG
  obtain ⟨X10, hX10⟩ : ∃ x, x = w10.alloc (Obj.cells #[.int .i64 CX, .int .i64 PX, .string MX, .slice aG lG cG, .int .i64 AX] 29) := ⟨_, rfl⟩
  obtain ⟨gG, hgG⟩ : ∃ g, g = w10.heap.size := ⟨_, rfl⟩
  have kG : Blk X10 gG 29 [.int .i64 CX, .int .i64 PX, .string MX, .slice aG lG cG, .int .i64 AX] := by rw [hX10, hgG]; exact Blk.new _ _ _
  have bX10 : Below w10.heap.size w10 X10 := by rw [hX10]; exact below_newT _ _
  have b910 := b10.trans (bX10.mono b10.size)
  have kWX := kW9.below b910 kW9.lt
  have HRX := hideT (HR79.out.below b910)
  have B10 := hideT (B9.out.trans (b910.mono B9.out.size))
  have FX10 := hideT (FH10.out.below bX10)
  have q0 := kG.cell 0 (by simp)
  have q1 := kG.cell 1 (by simp)
  have q2 := kG.cell 2 (by simp)
  have q3 := kG.cell 3 (by simp)
  have q4 := kG.cell 4 (by simp)
  have s0 := kWX.cell 0 (by simp)
  have s1 := kWX.cell 1 (by simp)
  have HX10 := hideT hX10
  have HGG := hideT hgG
  have hCC : (CX != CX) = false := by simp
  have hPP : (PX != PX) = false := by simp
  clear hX10 hgG F10 FI10 b10 bX10 b910 hlG HR79 B9 kW9 kWX FH10 HR9 kG
  go_upto_region 11 with fail
  rw [← show X10 = _ from HX10, ← show gG = _ from HGG]
  clear HX10 HGG
  by_cases h0 : dC X = 0
  · have hC0 : CX = 0 := by rw [HCX.out, h0]; rfl
    obtain ⟨-, -, hENC⟩ := HDB.out h0
    rw [← HMX.out] at hENC
    rw [hENC] at HEX
    have hm := HMC.out h0
    subst hC0
    go_upto_region 15 with fail
    have hAA : AX = 0 ∨ AX = (NX : Int) - 8 := by
      rw [HAX.out, HNX.out]
      rcases hm with h | h <;> omega
    have lG := World.block_lt_of_cell? X10 _ q4
    have Q4 := hideT q4
    clear HMX HAX HCX hm h0 hENC q0 q1 s0 s1 q4
    go_wp2_with fail
    refine (HEX.out _ _ FX10.out B10.out).mono ?_
    rintro e w11 ⟨v11, rfl, own11, b11⟩
    obtain ⟨aR, cR, rfl, rR, -⟩ := own11.shape
    rw [← HNX.out]
    have q4 := (b11.cell (p := ⟨gG, 4, none⟩) lG).trans Q4.out
    have HR11 := hideT rR
    have HX11 := hideT (HRX.out.below b11)
    have B11 := hideT (B10.out.trans (b11.mono B10.out.size))
    clear own11 rR b11 q2 q3 Q4
    go_wp2_with fail
    refine (HSR.out _ _ _ _ _ HR11.out HX11.out).mono ?_
    rintro e w12 ⟨rfl, hw12⟩
    subst hw12
    by_cases hA0 : AX = 0
    · subst hA0
      go_wp2_with fail
      go_ret
      exact ⟨rfl, B11.out⟩
    · have hA8 : AX = (NX : Int) - 8 := hAA.resolve_left hA0
      have hA8' : IntKind.i64.wrap ((NX : Int) - 8) = AX := by rw [IntKind.wrap_i64, hA8]; omega
      have HA8 := hideT hA8
      clear hA8 hAA
      go_wp2_with fail
      go_ret
      exact ⟨rfl, B11.out⟩
  · have hC0 : ¬ CX = 0 := by rw [HCX.out]; omega
    have hlG0 : lG = 0 := by rw [HLG.out]; unfold dLI dL; rw [if_neg h0]; rfl
    subst hlG0
    have B10' := B10.out
    clear HRX FX10 B10 HMX HAX HCX
    go_wp2_with fail
    go_ret
    exact ⟨rfl, B10'⟩
theorem lawIso (ao : Option Addr) (cap : Nat) (bs : List UInt8) (w : World) (_hn : bs.length ≤ maxLen) (hr : RowAt w ao bs) (hT : ∀ w', Below w.heap.size w w' → Lib.TabIs Tryz.prog w' "internal/strconv.uint64pow10" .u64 Lib.pow10Tab) :
    Calls Tryz.prog 3 #[.slice ao bs.length cap] w fun e w' => e = .returned (.bool true) ∧ Below w.heap.size w w' := by
  by_cases h : bs.length ≤ 1048576
  · exact lawIso_main ao cap bs w h hr hT
  · have hnI : (1048576 : Int) < (bs.length : Int) := by omega
    clear hr hT
    go_enter Tryz.func3, Tryz.ntmps3
    go_wp2_with fail
    go_ret
    exact ⟨rfl, Below.refl _ _⟩
end Go.Proofs.YtacgbajcdngokaaGreatDoor
