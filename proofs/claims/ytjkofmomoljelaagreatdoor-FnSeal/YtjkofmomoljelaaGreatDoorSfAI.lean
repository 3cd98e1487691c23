import Derived.Test.YtjkofmomoljelaaGreatDoorSfAA
import Derived.Test.YtjkofmomoljelaaGreatDoorSfT
namespace Go.Proofs.YtjkofmomoljelaaGreatDoor
open Go.RowKit
theorem dC_zero {data : List UInt8} (h : dC data = 0) : data.length ≤ 4096 ∧ tyC data = 0 ∧ mapC data = 0 ∧ (∀ j, j < (mapN data).length → fc data (mapN data) (mapE data) j = 0) := by
  unfold dC at h
  by_cases h1 : 4096 < data.length
  · rw [if_pos h1] at h; omega
  rw [if_neg h1] at h
  by_cases h2 : tyC data ≠ 0
  · rw [if_pos h2] at h; exact absurd h h2
  rw [if_neg h2] at h
  by_cases h3 : mapC data ≠ 0
  · rw [if_pos h3] at h; exact absurd h h3
  rw [if_neg h3] at h
  refine ⟨by omega, by omega, by omega, fun j hj => ?_⟩
  by_cases h4 : fc data (mapN data) (mapE data) j = 0
  · exact h4
  · exfalso
    cases hb : bad data (mapN data) (mapE data) with
    | none =>
      unfold bad at hb
      rw [List.find?_eq_none] at hb
      have := hb j (List.mem_range.2 hj)
      simp at this
      exact h4 this
    | some i =>
      rw [hb] at h
      unfold bad at hb
      have := List.find?_some hb
      simp at this
      exact this h
theorem mapE_le {data : List UInt8} (hm0 : mapC data = 0) : mapE data ≤ data.length := by
  have hme : ¬ data.length < mapEnd data := by
    intro h
    revert hm0
    unfold mapC
    rw [if_pos h]
    omega
  unfold mapE
  rw [if_pos hm0]
  omega
theorem decAt_le {data : List UInt8} {nos : List Nat} {a0 : Nat} (h0 : a0 ≤ data.length) (hf : ∀ j, j < nos.length → fc data nos a0 j = 0) : ∀ i, i ≤ nos.length → decAt data nos a0 i ≤ data.length
  | 0, _ => h0
  | i + 1, hi => by
    have h1 := decAt_le h0 hf i (by omega)
    have h2 := fldE_le (nos.getD i 0) (data.drop (decAt data nos a0 i)) (hf i (by omega))
    rw [List.length_drop] at h2
    show decAt data nos a0 i + fldE _ _ ≤ _
    omega
theorem dA_le {data : List UInt8} (h : dC data = 0) : dA data ≤ data.length := by
  obtain ⟨-, -, hm, hf⟩ := dC_zero h
  unfold dA
  rw [if_pos h]
  cases hk : (mapN data).length with
  | zero => exact Nat.zero_le _
  | succ k =>
    show macP _ _ ≤ _
    have h1 := decAt_le (mapE_le hm) hf k (by omega)
    unfold macP
    split <;> omega
def opB (master key data : List UInt8) : Bool := decide (dC data = 0) && (decide (dA data ≠ 0) && decide (chkC master key (data.take (dA data)) (data.drop (dA data)) = 0))
set_option maxRecDepth 100000 in
set_option maxHeartbeats 4000000 in
theorem opens_any (master key data : List UInt8) (am ak ad : Option Addr) (cm ck cd : Nat) (x0 x1 : Addr) (w : World) (hs : Sents w x0 x1) (hck : key.length ≤ ck) (hcd : data.length ≤ cd) (hn : data.length ≤ 1048576) (rm : RowAt w am master) (rk : RowAt w ak key) (rd : RowAt w ad data) :
    Calls Tryz.prog 10 #[.slice am master.length cm, .slice ak key.length ck, .slice ad data.length cd] w fun e w' => e = .returned (.bool (opB master key data)) ∧ Below w.heap.size w w' := by
  have HD := hideT (decode_any data ad cd w hn hcd rd)
  have HAL := hideT (fun h => dA_le (data := data) h)
  have HOP : Hid (opB master key data = (decide (dC data = 0) && (decide (dA data ≠ 0) && decide (chkC master key (data.take (dA data)) (data.drop (dA data)) = 0)))) := rfl
  have HCH := hideT (fun (a4 a5 : Option Addr) (c4 c5 : Nat) (wx : World) h2 h3 (hb : Below w.heap.size w wx) r3 r4 => checkMac_any master key (data.take (dA data)) (data.drop (dA data)) am ak a4 a5 cm ck c4 c5 x0 x1 wx hck h2 h3 (hs.below hb) (rm.below hb) (rk.below hb) r3 r4)
  obtain ⟨A, hA⟩ : ∃ q, q = dA data := ⟨_, rfl⟩
  obtain ⟨Cn, hC⟩ : ∃ q, q = dC data := ⟨_, rfl⟩
  obtain ⟨P, hP⟩ : ∃ q : Int, q = (dP data : Nat) := ⟨_, rfl⟩
  obtain ⟨M, hM⟩ : ∃ q, q = dM data := ⟨_, rfl⟩
  rw [← hA, ← hC, ← hP, ← hM] at HD
  rw [← hA, ← hC] at HOP HAL
  rw [← hA] at HCH
  obtain ⟨n1, hn1⟩ : ∃ n, n = master.length := ⟨_, rfl⟩
  obtain ⟨n2, hn2⟩ : ∃ n, n = key.length := ⟨_, rfl⟩
  obtain ⟨n3, hn3⟩ : ∃ n, n = data.length := ⟨_, rfl⟩
  have HN3 := hideT hn3
  have HRD := hideT rd
  rw [← hn1, ← hn2, ← hn3]
  rw [← hn1, ← hn2] at HCH
  rw [← hn3] at HD HAL hcd hn
  clear hA hC hP hM hn1 hn2 hn3 rm rk hck hs rd
  go_enter Tryz.func10, Tryz.ntmps10
  go_wp2_with fail
  refine HD.out.mono ?_
  rintro e w1 ⟨v, rfl, ⟨vs, FX⟩, b1⟩
  obtain ⟨av, cv, rfl⟩ := FX.shape
  obtain ⟨nv, hnv⟩ : ∃ q, q = (dL data).length := ⟨_, rfl⟩
  rw [← hnv]
  obtain ⟨X1, hX1⟩ : ∃ y, y = w1.alloc (Obj.cells #[.int .i64 (Cn : Int), .int .i64 P, .string M, .slice av nv cv, .int .i64 (A : Int)] 34) := ⟨_, rfl⟩
  obtain ⟨gR, hgR⟩ : ∃ q, q = w1.heap.size := ⟨_, rfl⟩
  have kR : Blk X1 gR 34 [.int .i64 (Cn : Int), .int .i64 P, .string M, .slice av nv cv, .int .i64 (A : Int)] := by rw [hX1, hgR]; exact Blk.new _ _ _
  have bX : Below w.heap.size w X1 := by rw [hX1]; exact b1.trans ((below_newT _ _).mono b1.size)
  have HX1 := hideT hX1
  have HGR := hideT hgR
  clear hX1 hgR b1 FX hnv HD
  go_upto_region 2 with fail
  rw [← show X1 = _ from HX1, ← show gR = _ from HGR]
  clear HX1 HGR
  have d0 := kR.cell 0 (by simp)
  have d4 := kR.cell 4 (by simp)
  by_cases hC0 : Cn = 0
  · subst hC0
    rw [decide_eq_true rfl, Bool.true_and] at HOP
    by_cases hA0 : A = 0
    · subst hA0
      rw [decide_eq_false (by omega), Bool.false_and] at HOP
      clear HCH HAL
      go_wp2_with fail
      go_ret
      exact ⟨by rw [HOP.out]; rfl, bX⟩
    · rw [decide_eq_true hA0, Bool.true_and] at HOP
      have hAn := HAL.out rfl
      have hAI : ¬ (A : Int) = 0 := by omega
      have hAb : ((A : Int) == 0) = false := by rw [beq_eq_false_iff_ne]; exact hAI
      obtain ⟨b, o, rfl, -⟩ := HRD.out.at (k := 0) (by rw [← HN3.out]; omega)
      obtain ⟨oA, hoA⟩ : ∃ oA, (cd = A ∧ oA = o) ∨ (¬ cd = A ∧ oA = o + A) := by
        by_cases h : cd = A
        · exact ⟨o, .inl ⟨h, rfl⟩⟩
        · exact ⟨o + A, .inr ⟨h, rfl⟩⟩
      have HOA := hideT hoA
      have hlt : (data.take A).length = A := by rw [List.length_take, ← HN3.out]; omega
      have hld : (data.drop A).length = n3 - A := by rw [List.length_drop, ← HN3.out]
      have HCM : Hid (∀ wx, Below w.heap.size w wx → Calls Tryz.prog 36 #[.slice am n1 cm, .slice ak n2 ck, .slice (some ⟨b, o, none⟩) A cd, .slice (some ⟨b, oA, none⟩) (n3 - A) (cd - A)] wx fun e w' => e = .returned (.int .i64 (chkC master key (data.take A) (data.drop A))) ∧ Below wx.heap.size wx w') := by
        intro wx hb
        have r := HRD.out.below hb
        have h := HCH.out (some ⟨b, o, none⟩) (some ⟨b, oA, none⟩) cd (cd - A) wx (by rw [hlt]; omega) (by rw [hlt]; omega) hb (RowAt.take r A) (by
          rcases hoA with ⟨h1, rfl⟩ | ⟨-, rfl⟩
          · exact .inl (List.length_eq_zero_iff.1 (by omega))
          · exact RowAt.drop r A)
        rw [hlt, hld] at h
        exact h
      obtain ⟨K, hK⟩ : ∃ q, q = chkC master key (data.take A) (data.drop A) := ⟨_, rfl⟩
      rw [← hK] at HCM HOP
      have hAc : (A : Int) ≤ (cd : Int) := by omega
      have hAn2 : (A : Int) ≤ (n3 : Int) := by omega
      have hn3c : (n3 : Int) ≤ (cd : Int) := by omega
      clear hK hoA hlt hld HCH HAL
      by_cases hK0 : K = 0
      · subst hK0
        rw [decide_eq_true rfl] at HOP
        go_upto_region 4 with fail
        clear d0 d4
        obtain ⟨V, hV⟩ : ∃ V, V = World.drew X1 := ⟨_, rfl⟩
        have b_0 : Below V.heap.size V V := Below.refl _ _
        have bV : Below X1.heap.size X1 V := by rw [hV]; exact (Below.refl _ _).drew
        have belV := bX.trans (bV.mono bX.size)
        have kV := kR.below bV kR.lt
        have keep : Hid (∀ {y}, Below V.heap.size V y → Blk y gR 34 [.int .i64 0, .int .i64 P, .string M, .slice av nv cv, .int .i64 (A : Int)]) := fun h => kV.below h kV.lt
        refine wp_region_held_drew (S := fun y => Blk y gR 34 [.int .i64 0, .int .i64 P, .string M, .slice av nv cv, .int .i64 (A : Int)]) (by kernel_rfl) (by rw [← hV]; exact kV) (fun hHeld => ?_)
        rw [← hV] at hHeld ⊢
        clear hV bV kR bX
        refine wpAnyH_take (i := 0) (v := (.slice am n1 cm)) rfl (by kernel_rfl) (by kernel_rfl) (by kernel_rfl) (fun _ _ _ h => h) (Or.inl ⟨by rfl, ?_⟩) hHeld ?_
        · intro _ _; go_simp
        dsimp only [Act.put, List.getElem_toArray, List.getElem_cons_zero, List.getElem_cons_succ]
        simp only [List.setIfInBounds_toArray, List.set_cons_succ, List.set_cons_zero]
        refine wpAnyH_take (i := 1) (v := (.slice ak n2 ck)) rfl (by kernel_rfl) (by kernel_rfl) (by kernel_rfl) (fun _ _ _ h => h) (Or.inl ⟨by rfl, ?_⟩) hHeld ?_
        · intro _ _; go_simp
        dsimp only [Act.put, List.getElem_toArray, List.getElem_cons_zero, List.getElem_cons_succ]
        simp only [List.setIfInBounds_toArray, List.set_cons_succ, List.set_cons_zero]
        refine wpAnyH_take (i := 2) (v := (.slice (some ⟨b, o, none⟩) n3 cd)) rfl (by kernel_rfl) (by kernel_rfl) (by kernel_rfl) (fun _ _ _ h => h) (Or.inl ⟨by rfl, ?_⟩) hHeld ?_
        · intro _ _; go_simp
        dsimp only [Act.put, List.getElem_toArray, List.getElem_cons_zero, List.getElem_cons_succ]
        simp only [List.setIfInBounds_toArray, List.set_cons_succ, List.set_cons_zero]
        refine wpAnyH_take (i := 3) (v := (.pointer (some ⟨gR, 4, none⟩))) rfl (by kernel_rfl) (by kernel_rfl) (by kernel_rfl) (fun _ _ _ h => h) (Or.inl ⟨by rfl, ?_⟩) hHeld ?_
        · intro _ _; go_simp
        dsimp only [Act.put, List.getElem_toArray, List.getElem_cons_zero, List.getElem_cons_succ]
        simp only [List.setIfInBounds_toArray, List.set_cons_succ, List.set_cons_zero]
        refine wpAnyH_take (i := 4) (v := (.int .i64 (A : Int))) rfl (by kernel_rfl) (by kernel_rfl) (by kernel_rfl) (fun _ _ _ h => h) (Or.inl ⟨by rfl, fun w1 h => by have hc : w1.cell? ⟨gR, 4, none⟩ = some (.int .i64 (A : Int)) := h.cell 4 (by simp); go_simp⟩) hHeld ?_
        dsimp only [Act.put, List.getElem_toArray, List.getElem_cons_zero, List.getElem_cons_succ]
        simp only [List.setIfInBounds_toArray, List.set_cons_succ, List.set_cons_zero]
        refine wpAnyH_take (i := 5) (v := (.slice (some ⟨b, o, none⟩) A cd)) rfl (by kernel_rfl) (by kernel_rfl) (by kernel_rfl) (fun _ _ _ h => h) (Or.inl ⟨by rfl, ?_⟩) hHeld ?_
        · intro _ _; go_simp
        dsimp only [Act.put, List.getElem_toArray, List.getElem_cons_zero, List.getElem_cons_succ]
        simp only [List.setIfInBounds_toArray, List.set_cons_succ, List.set_cons_zero]
        refine wpAnyH_take (i := 6) (v := (.slice (some ⟨b, o, none⟩) n3 cd)) rfl (by kernel_rfl) (by kernel_rfl) (by kernel_rfl) (fun _ _ _ h => h) (Or.inl ⟨by rfl, ?_⟩) hHeld ?_
        · intro _ _; go_simp
        dsimp only [Act.put, List.getElem_toArray, List.getElem_cons_zero, List.getElem_cons_succ]
        simp only [List.setIfInBounds_toArray, List.set_cons_succ, List.set_cons_zero]
        refine wpAnyH_take (i := 7) (v := (.pointer (some ⟨gR, 4, none⟩))) rfl (by kernel_rfl) (by kernel_rfl) (by kernel_rfl) (fun _ _ _ h => h) (Or.inl ⟨by rfl, ?_⟩) hHeld ?_
        · intro _ _; go_simp
        dsimp only [Act.put, List.getElem_toArray, List.getElem_cons_zero, List.getElem_cons_succ]
        simp only [List.setIfInBounds_toArray, List.set_cons_succ, List.set_cons_zero]
        refine wpAnyH_take (i := 8) (v := (.int .i64 (A : Int))) rfl (by kernel_rfl) (by kernel_rfl) (by kernel_rfl) (fun _ _ _ h => h) (Or.inl ⟨by rfl, fun w1 h => by have hc : w1.cell? ⟨gR, 4, none⟩ = some (.int .i64 (A : Int)) := h.cell 4 (by simp); go_simp⟩) hHeld ?_
        dsimp only [Act.put, List.getElem_toArray, List.getElem_cons_zero, List.getElem_cons_succ]
        simp only [List.setIfInBounds_toArray, List.set_cons_succ, List.set_cons_zero]
        refine wpAnyH_take (i := 9) (v := (.slice (some ⟨b, oA, none⟩) (n3 - A) (cd - A))) rfl (by kernel_rfl) (by kernel_rfl) (by kernel_rfl) (fun _ _ _ h => h) (Or.inl ⟨by rfl, fun w1 _ => by rcases HOA.out with ⟨hx, hy⟩ | ⟨hx, hy⟩ <;> (rw [hy]; go_simp)⟩) hHeld ?_
        dsimp only [Act.put, List.getElem_toArray, List.getElem_cons_zero, List.getElem_cons_succ]
        simp only [List.setIfInBounds_toArray, List.set_cons_succ, List.set_cons_zero]
        refine wpAnyH_ready (rs := [10]) (by kernel_rfl) (by simp) ?_
        refine AllReadyH.cons rfl (fun K hK => ?_) (AllReadyH.nil)
        go_simp
        refine (HCM.out _ belV).mono ?_
        rintro e w_1 ⟨rfl, b_1⟩
        go_wp2_with fail
        refine hK.out _ _ (keep.out b_1) (fun hHeld => ?_)
        clear hK K
        try dsimp only [Act.put]
        refine wpAnyH_take (i := 11) (v := (.bool true)) rfl (by kernel_rfl) (by kernel_rfl) (by kernel_rfl) (fun _ _ _ h => h) (Or.inl ⟨by rfl, ?_⟩) hHeld ?_
        · intro _ _; go_simp
        dsimp only [Act.put, List.getElem_toArray, List.getElem_cons_zero, List.getElem_cons_succ]
        simp only [List.setIfInBounds_toArray, List.set_cons_succ, List.set_cons_zero]
        refine wpAnyH_ready (rs := [12]) (by kernel_rfl) (by simp) ?_
        refine AllReadyH.cons rfl (fun K hK => ?_) (AllReadyH.nil)
        go_simp
        refine hK.out _ _ (keep.out b_1) (fun hHeld => ?_)
        clear hK K
        try dsimp only [Act.put]
        refine wpAnyH_done (by kernel_rfl) ?_ _
        have bZ := b_1
        clear hHeld
        go_wp2_with fail
        go_ret
        exact ⟨by rw [HOP.out]; rfl, belV.trans (bZ.mono belV.size)⟩
      · rw [decide_eq_false hK0] at HOP
        have hKb : (K == 0) = false := by rw [beq_eq_false_iff_ne]; exact hK0
        go_upto_region 4 with fail
        clear d0 d4
        obtain ⟨V, hV⟩ : ∃ V, V = World.drew X1 := ⟨_, rfl⟩
        have b_0 : Below V.heap.size V V := Below.refl _ _
        have bV : Below X1.heap.size X1 V := by rw [hV]; exact (Below.refl _ _).drew
        have belV := bX.trans (bV.mono bX.size)
        have kV := kR.below bV kR.lt
        have keep : Hid (∀ {y}, Below V.heap.size V y → Blk y gR 34 [.int .i64 0, .int .i64 P, .string M, .slice av nv cv, .int .i64 (A : Int)]) := fun h => kV.below h kV.lt
        refine wp_region_held_drew (S := fun y => Blk y gR 34 [.int .i64 0, .int .i64 P, .string M, .slice av nv cv, .int .i64 (A : Int)]) (by kernel_rfl) (by rw [← hV]; exact kV) (fun hHeld => ?_)
        rw [← hV] at hHeld ⊢
        clear hV bV kR bX
        refine wpAnyH_take (i := 0) (v := (.slice am n1 cm)) rfl (by kernel_rfl) (by kernel_rfl) (by kernel_rfl) (fun _ _ _ h => h) (Or.inl ⟨by rfl, ?_⟩) hHeld ?_
        · intro _ _; go_simp
        dsimp only [Act.put, List.getElem_toArray, List.getElem_cons_zero, List.getElem_cons_succ]
        simp only [List.setIfInBounds_toArray, List.set_cons_succ, List.set_cons_zero]
        refine wpAnyH_take (i := 1) (v := (.slice ak n2 ck)) rfl (by kernel_rfl) (by kernel_rfl) (by kernel_rfl) (fun _ _ _ h => h) (Or.inl ⟨by rfl, ?_⟩) hHeld ?_
        · intro _ _; go_simp
        dsimp only [Act.put, List.getElem_toArray, List.getElem_cons_zero, List.getElem_cons_succ]
        simp only [List.setIfInBounds_toArray, List.set_cons_succ, List.set_cons_zero]
        refine wpAnyH_take (i := 2) (v := (.slice (some ⟨b, o, none⟩) n3 cd)) rfl (by kernel_rfl) (by kernel_rfl) (by kernel_rfl) (fun _ _ _ h => h) (Or.inl ⟨by rfl, ?_⟩) hHeld ?_
        · intro _ _; go_simp
        dsimp only [Act.put, List.getElem_toArray, List.getElem_cons_zero, List.getElem_cons_succ]
        simp only [List.setIfInBounds_toArray, List.set_cons_succ, List.set_cons_zero]
        refine wpAnyH_take (i := 3) (v := (.pointer (some ⟨gR, 4, none⟩))) rfl (by kernel_rfl) (by kernel_rfl) (by kernel_rfl) (fun _ _ _ h => h) (Or.inl ⟨by rfl, ?_⟩) hHeld ?_
        · intro _ _; go_simp
        dsimp only [Act.put, List.getElem_toArray, List.getElem_cons_zero, List.getElem_cons_succ]
        simp only [List.setIfInBounds_toArray, List.set_cons_succ, List.set_cons_zero]
        refine wpAnyH_take (i := 4) (v := (.int .i64 (A : Int))) rfl (by kernel_rfl) (by kernel_rfl) (by kernel_rfl) (fun _ _ _ h => h) (Or.inl ⟨by rfl, fun w1 h => by have hc : w1.cell? ⟨gR, 4, none⟩ = some (.int .i64 (A : Int)) := h.cell 4 (by simp); go_simp⟩) hHeld ?_
        dsimp only [Act.put, List.getElem_toArray, List.getElem_cons_zero, List.getElem_cons_succ]
        simp only [List.setIfInBounds_toArray, List.set_cons_succ, List.set_cons_zero]
        refine wpAnyH_take (i := 5) (v := (.slice (some ⟨b, o, none⟩) A cd)) rfl (by kernel_rfl) (by kernel_rfl) (by kernel_rfl) (fun _ _ _ h => h) (Or.inl ⟨by rfl, ?_⟩) hHeld ?_
        · intro _ _; go_simp
        dsimp only [Act.put, List.getElem_toArray, List.getElem_cons_zero, List.getElem_cons_succ]
        simp only [List.setIfInBounds_toArray, List.set_cons_succ, List.set_cons_zero]
        refine wpAnyH_take (i := 6) (v := (.slice (some ⟨b, o, none⟩) n3 cd)) rfl (by kernel_rfl) (by kernel_rfl) (by kernel_rfl) (fun _ _ _ h => h) (Or.inl ⟨by rfl, ?_⟩) hHeld ?_
        · intro _ _; go_simp
        dsimp only [Act.put, List.getElem_toArray, List.getElem_cons_zero, List.getElem_cons_succ]
        simp only [List.setIfInBounds_toArray, List.set_cons_succ, List.set_cons_zero]
        refine wpAnyH_take (i := 7) (v := (.pointer (some ⟨gR, 4, none⟩))) rfl (by kernel_rfl) (by kernel_rfl) (by kernel_rfl) (fun _ _ _ h => h) (Or.inl ⟨by rfl, ?_⟩) hHeld ?_
        · intro _ _; go_simp
        dsimp only [Act.put, List.getElem_toArray, List.getElem_cons_zero, List.getElem_cons_succ]
        simp only [List.setIfInBounds_toArray, List.set_cons_succ, List.set_cons_zero]
        refine wpAnyH_take (i := 8) (v := (.int .i64 (A : Int))) rfl (by kernel_rfl) (by kernel_rfl) (by kernel_rfl) (fun _ _ _ h => h) (Or.inl ⟨by rfl, fun w1 h => by have hc : w1.cell? ⟨gR, 4, none⟩ = some (.int .i64 (A : Int)) := h.cell 4 (by simp); go_simp⟩) hHeld ?_
        dsimp only [Act.put, List.getElem_toArray, List.getElem_cons_zero, List.getElem_cons_succ]
        simp only [List.setIfInBounds_toArray, List.set_cons_succ, List.set_cons_zero]
        refine wpAnyH_take (i := 9) (v := (.slice (some ⟨b, oA, none⟩) (n3 - A) (cd - A))) rfl (by kernel_rfl) (by kernel_rfl) (by kernel_rfl) (fun _ _ _ h => h) (Or.inl ⟨by rfl, fun w1 _ => by rcases HOA.out with ⟨hx, hy⟩ | ⟨hx, hy⟩ <;> (rw [hy]; go_simp)⟩) hHeld ?_
        dsimp only [Act.put, List.getElem_toArray, List.getElem_cons_zero, List.getElem_cons_succ]
        simp only [List.setIfInBounds_toArray, List.set_cons_succ, List.set_cons_zero]
        refine wpAnyH_ready (rs := [10]) (by kernel_rfl) (by simp) ?_
        refine AllReadyH.cons rfl (fun K hK => ?_) (AllReadyH.nil)
        go_simp
        refine (HCM.out _ belV).mono ?_
        rintro e w_1 ⟨rfl, b_1⟩
        go_wp2_with fail
        refine hK.out _ _ (keep.out b_1) (fun hHeld => ?_)
        clear hK K
        try dsimp only [Act.put]
        refine wpAnyH_take (i := 11) (v := (.bool false)) rfl (by kernel_rfl) (by kernel_rfl) (by kernel_rfl) (fun _ _ _ h => h) (Or.inl ⟨by rfl, ?_⟩) hHeld ?_
        · intro _ _; go_simp
        dsimp only [Act.put, List.getElem_toArray, List.getElem_cons_zero, List.getElem_cons_succ]
        simp only [List.setIfInBounds_toArray, List.set_cons_succ, List.set_cons_zero]
        refine wpAnyH_ready (rs := [12]) (by kernel_rfl) (by simp) ?_
        refine AllReadyH.cons rfl (fun K hK => ?_) (AllReadyH.nil)
        go_simp
        refine hK.out _ _ (keep.out b_1) (fun hHeld => ?_)
        clear hK K
        try dsimp only [Act.put]
        refine wpAnyH_done (by kernel_rfl) ?_ _
        have bZ := b_1
        clear hHeld
        go_wp2_with fail
        go_ret
        exact ⟨by rw [HOP.out]; rfl, belV.trans (bZ.mono belV.size)⟩
  · rw [decide_eq_false hC0, Bool.false_and] at HOP
    have hCb : ((Cn : Int) == 0) = false := by rw [beq_eq_false_iff_ne]; omega
    have hCI : ¬ (Cn : Int) = 0 := by omega
    clear HCH HAL
    go_wp2_with fail
    go_ret
    exact ⟨by rw [HOP.out]; rfl, bX⟩
end Go.Proofs.YtjkofmomoljelaaGreatDoor
