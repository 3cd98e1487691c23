/-
  spec.Decode.
-/
import Derived.Test.YtacgbajcdngokaaGreatDoorIsoMapS
namespace Go.Proofs.YtacgbajcdngokaaGreatDoor
open Go.RowKit

theorem Fs.keep {w w' : World} {lo g : Nat} {v : Value} {L : List (Nat × List UInt8)} {vs : List Value} (h : Fs w lo v L vs) (hg : w.grownBy w' (some g)) (hgl : g < lo) : Fs w' lo v L vs := by
  refine ⟨h.len, World.ownsRow.kept h.row hg ?_, fun i hi => (h.own i hi).grown hg ?_, h.sep, h.ap⟩
  · cases hb : v.ownBlock with
    | none => exact .inl rfl
    | some k => exact .inr (fun e => by cases e; have := (h.row.lt _ hb).1; omega)
  · cases hb : (vs.getD i undef).ownBlock with
    | none => exact .inl rfl
    | some k => exact .inr (fun e => by cases e; have := (own_lt (h.own i hi) _ hb).1; omega)
theorem Fs.snoc2 {w2 w5 : World} {lo m : Nat} {v v5 x : Value} {L : List (Nat × List UInt8)} {vs : List Value} {p : Nat × List UInt8} (h : Fs w2 lo v L vs) (hi0 : ∀ i, i < L.length → ∀ g, (vs.getD i undef).ownBlock = some g → g < m) (hv : ∀ g, v.ownBlock = some g → g < m)
    (own2 : Own w2 m x p.2) (hlo : lo ≤ m) (hmw : m ≤ w2.heap.size) (hgrow : w2.grownBy w5 v.ownBlock) (row5 : w5.ownsRow lo 44 2 v5 (L.length + 1) (fldCells L vs ++ [.int .i64 (p.1 : Int), x]))
    (hat : v5.ownBlock = v.ownBlock ∨ ∃ g, v5.ownBlock = some g ∧ w2.heap.size ≤ g) : Fs w5 lo v5 (L ++ [p]) (vs ++ [x]) := by
  have hx := own_lt own2
  have hlen := h.len
  refine ⟨by simp [hlen], ?_, ?_, ?_, ?_⟩
  · rw [List.length_append, fldCells_snoc _ _ hlen]; exact row5
  · intro i hi
    rw [List.length_append] at hi
    by_cases hc : i < L.length
    · rw [getD_left _ _ _ _ hc, getD_left _ _ _ _ (by omega)]
      refine (h.own i hc).grown hgrow ?_
      cases hb : (vs.getD i undef).ownBlock with
      | none => exact .inl rfl
      | some g => exact .inr (fun e => h.ap i hc g hb e.symm)
    · have hiL : i = L.length := by simp at hi; omega
      rw [getD_last _ _ _ _ hiL, getD_last _ _ _ _ (by omega)]
      refine (own2.monoI (by omega)).grown hgrow ?_
      cases hb : x.ownBlock with
      | none => exact .inl rfl
      | some g => exact .inr (fun e => by have := hv g e.symm; have := (hx g hb).1; omega)
  · intro i j hij hj g hg
    rw [List.length_append] at hj
    by_cases hc : j < L.length
    · rw [getD_left _ _ _ _ (by omega)] at hg
      rw [getD_left _ _ _ _ (by omega)]
      exact h.sep i j hij hc g hg
    · have hjL : j = L.length := by simp at hj; omega
      rw [getD_left _ _ _ _ (by omega)] at hg
      rw [getD_last _ _ _ _ (by omega)]
      intro e
      have := hi0 i (by omega) g hg
      have := (hx g e).1
      omega
  · intro i hi g hg
    rw [List.length_append] at hi
    by_cases hc : i < L.length
    · rw [getD_left _ _ _ _ (by omega)] at hg
      rcases hat with e | ⟨g', e, hg'⟩
      · rw [e]; exact h.ap i hc g hg
      · rw [e]; intro e2; cases e2
        have := hi0 i hc g hg
        omega
    · have hiL : i = L.length := by simp at hi; omega
      rw [getD_last _ _ _ _ (by omega)] at hg
      have h1 := hx g hg
      rcases hat with e | ⟨g', e, hg'⟩
      · rw [e]; intro e2; have := hv g e2; omega
      · rw [e]; intro e2; cases e2; omega
theorem Tryz.zeroP6 : (Tryz.prog.info? 65).map (fun i => (i.zero, i.size)) = some (some (.agg #[.slice none 0 0, .int .i64 0]), 2) := by kernel_rfl
set_option maxRecDepth 100000 in
set_option maxHeartbeats 4000000 in
theorem decodeS_any (data : List UInt8) (ao : Option Addr) (cap : Nat) (w : World) (hn : data.length ≤ 1048576) (hcap : data.length ≤ cap) (hr : RowAt w ao data) :
    Calls Tryz.prog 9 #[.slice ao data.length cap] w fun e w' => ∃ v, e = .returned (.agg #[.int .i64 (dC data : Nat), .int .i64 (dP data : Nat), .string (dM data), v, .int .i64 (dA data : Nat)]) ∧ FsX w' w.heap.size v (dL data) ∧ Below w.heap.size w w' := by
  have hz := (zero_of_info Tryz.zeroDc).1
  obtain ⟨i0, hi, hz0, hz1, hz2⟩ := info_parts Tryz.infoFd
  obtain ⟨N, hN⟩ : ∃ N, N = data.length := ⟨_, rfl⟩
  obtain ⟨W, hW⟩ : ∃ x, x = w.alloc (.cells zeroDc.toArray 29) := ⟨_, rfl⟩
  have kR : Blk W w.heap.size 29 zeroDc := by rw [hW]; exact Blk.new _ _ _
  have bW : Below w.heap.size w W := by rw [hW]; exact (Below.refl _ _).alloc (Nat.le_refl _) _
  have hWs : W.heap.size = w.heap.size + 1 := by rw [hW]; simp
  have HW := hideT hW
  clear hW
  have HEND : Hid (∀ (wx w7 : World) (c p : Nat), dC data = c → c ≠ 0 → dP data = p → Below w.heap.size w wx → wx.grownBy w7 (some w.heap.size) → w7.heap.size = wx.heap.size → ∃ v, Ending.returned (.agg #[.int .i64 (c : Int), .int .i64 (p : Int), .string ByteArray.empty, .slice none 0 0, .int .i64 0]) = .returned (.agg #[.int .i64 (dC data : Nat), .int .i64 (dP data : Nat), .string (dM data), v, .int .i64 (dA data : Nat)]) ∧ FsX w7 w.heap.size v (dL data) ∧ Below w.heap.size w w7) := by
    intro wx w7 c p h1 h2 h3 h4 h5 h6
    obtain ⟨e1, e2, e3⟩ := bad_end (by rw [h1]; exact h2)
    refine ⟨.slice none 0 0, ?_, ?_, h4.grown h5 h4.size (fun k hk => by cases hk; omega)⟩
    · rw [h1, h3, e1, e3]; rfl
    · rw [e2]; exact ⟨[], Fs.nil _ _⟩
  have HFL := hideT (fun (c p : Int) (wx : World) => fault_any c p wx)
  by_cases hbig : 4096 < N
  · have e1 : dC data = 5 := by unfold dC; rw [if_pos (by omega)]
    have e2 : dP data = 4096 := by unfold dP; rw [if_pos (by omega)]
    have hI : (4096 : Int) < (N : Int) := by omega
    rw [← hN]
    clear hr hN
    go_enter Tryz.func9, Tryz.ntmps9
    go_upto_region 1 with fail
    rw [← show W = _ from HW]
    clear HW
    go_wp2_with fail
    refine (HFL.out _ _ _).mono ?_
    rintro e w2 ⟨rfl, b2⟩
    have kR2 := kR.below b2 kR.lt
    go_wp2_with (refine store_blk rfl 29 _ _ rfl w.heap.size rfl rfl kR2 (by kernel_rfl) rfl (by kernel_rfl) ?_; intro w7 hb7 hg7 hs7)
    exact bodyPost_ret (v := .agg [.int .i64 5, .int .i64 4096, .string ByteArray.empty, .slice none 0 0, .int .i64 0].toArray) (results_blk Tryz.results9 _ _ rfl hb7 Tryz.underlying29 rfl (by kernel_rfl)) rfl (HEND.out w2 w7 5 4096 e1 (by decide) e2 (bW.trans (b2.mono bW.size)) hg7 hs7)
  have hI : ¬ (4096 : Int) < (N : Int) := by omega
  have hN4 : N ≤ 4096 := by omega
  have rW := hr.below bW
  obtain ⟨X, hX⟩ : ∃ x, x = W.alloc (.cells #[.slice ao N cap, .int .i64 0] 65) := ⟨_, rfl⟩
  obtain ⟨gP, hgP⟩ : ∃ g, g = W.heap.size := ⟨_, rfl⟩
  have kP : Blk X gP 65 [.slice ao N cap, .int .i64 ((0 : Nat) : Int)] := by rw [hX, hgP]; exact Blk.new _ _ _
  have bWX : Below W.heap.size W X := by rw [hX]; exact below_newT _ _
  have kRX := kR.below bWX kR.lt
  have rX := rW.below bWX
  have bX := bW.trans (bWX.mono bW.size)
  have HX := hideT hX
  have HGP := hideT hgP
  have hgw : w.heap.size < gP := by omega
  have hgX := kP.lt
  clear hWs
  by_cases h4 : N < 4
  · have ety : tyC data = 1 := by unfold tyC; rw [if_pos (by omega)]
    have e1 : dC data = 1 := by unfold dC; rw [if_neg (by omega), ety, if_pos (by decide)]
    have e2 : dP data = 0 := by unfold dP; rw [if_neg (by omega), ety, if_pos (by decide)]
    have HT := hideT (take_no N 0 4 gP cap _ X (by omega) (by omega) (by omega) kP)
    rw [← hN]
    clear hr hN hX hgP kR
    go_enter Tryz.func9, Tryz.ntmps9
    go_upto_region 1 with fail
    rw [← show W = _ from HW]
    clear HW
    go_upto_region 4 with fail
    rw [← show X = _ from HX, ← show gP = _ from HGP]
    go_wp2_with fail
    refine HT.out.mono ?_
    rintro e w1 ⟨rfl, hw1⟩
    have b1 : Below X.heap.size X w1 := by rw [hw1]; exact (Below.refl _ _).drew
    clear hw1
    go_wp2_with fail
    refine (HFL.out _ _ _).mono ?_
    rintro e w2 ⟨rfl, b2⟩
    have b12 := b1.trans (b2.mono b1.size)
    have kR2 := kRX.below b12 kRX.lt
    go_wp2_with (refine store_blk rfl 29 _ _ rfl w.heap.size rfl rfl kR2 (by kernel_rfl) rfl (by kernel_rfl) ?_; intro w7 hb7 hg7 hs7)
    exact bodyPost_ret (v := .agg [.int .i64 1, .int .i64 0, .string ByteArray.empty, .slice none 0 0, .int .i64 0].toArray) (results_blk Tryz.results9 _ _ rfl hb7 Tryz.underlying29 rfl (by kernel_rfl)) rfl (HEND.out w2 w7 1 0 e1 (by decide) e2 (bX.trans (b12.mono bX.size)) hg7 hs7)
  obtain ⟨b, o, rfl, hcr⟩ := hr.at (k := 0) (by omega)
  have hbw : b < w.heap.size := RowAt.lt hcr (k := 0) (by omega)
  have hbP : b ≠ gP := by omega
  have hNc : N ≤ cap := by omega
  have HT := hideT (take_go N 0 4 gP b o o cap X hN4 (by omega) hNc (.inr ⟨by omega, rfl⟩) kP)
  have hl4 : (data.take 4).length = 4 := by rw [List.length_take]; omega
  have HCV := hideT (fun (wx : World) (h : RowAt wx (some ⟨b, o, none⟩) data) => conv_any (data.take 4) (some ⟨b, o, none⟩) 4 cap wx hl4 (RowAt.take h 4))
  have hs4 : (⟨(data.take 4).toArray⟩ : ByteArray).size = 4 := by rw [show (⟨(data.take 4).toArray⟩ : ByteArray).size = (data.take 4).length from by simp [ByteArray.size]]; exact hl4
  have HDG := hideT (fun (wx : World) => l4Digits_any ⟨(data.take 4).toArray⟩ 4 4 wx (by rw [hs4]; unfold maxLen; omega) (by omega) (by omega))
  rw [hs4, digs_of] at HDG
  obtain ⟨S4, hS4⟩ : ∃ s : ByteArray, s = ⟨(data.take 4).toArray⟩ := ⟨_, rfl⟩
  have HS4 := hideT hS4
  rw [← hS4] at HDG HCV
  have hc0 : cap - 0 = cap := Nat.sub_zero _
  rw [hc0, show 0 + 4 = 4 from rfl] at HT
  have ety : tyC data = if (data.take 4).all dig = true then 0 else 2 := by unfold tyC; rw [if_neg (by omega)]
  obtain ⟨dg, hdg⟩ : ∃ q, q = (data.take 4).all dig := ⟨_, rfl⟩
  rw [← hdg] at HDG ety
  clear hS4 hs4 hl4 hc0 hdg hX hgP kR hcr
  cases dg
  · have e1 : dC data = 2 := by unfold dC; rw [if_neg (by omega), ety, if_pos (by decide)]; rfl
    have e2 : dP data = 0 := by unfold dP; rw [if_neg (by omega), ety, if_pos (by decide)]
    rw [← hN]
    clear hr hN
    go_enter Tryz.func9, Tryz.ntmps9
    go_upto_region 1 with fail
    rw [← show W = _ from HW]
    clear HW
    go_upto_region 4 with fail
    rw [← show X = _ from HX, ← show gP = _ from HGP]
    go_wp2_with fail
    refine HT.out.mono ?_
    rintro e w1 ⟨rfl, kP1, g1⟩
    have hcv := HCV.out w1 (RowAt.grown rX g1 (by intro x hx e; cases hx; cases e; exact hbP rfl))
    have kR1 := kRX.grown g1 (by intro e; cases e; omega)
    have b1 := bX.grown g1 bX.size (fun k hk => by cases hk; omega)
    go_wp2_with fail
    refine (HDG.out _).mono ?_
    rintro e w3 ⟨rfl, hw3⟩
    have hw4 := hw3.symm
    subst hw4
    go_wp2_with fail
    refine (HFL.out _ _ _).mono ?_
    rintro e w2 ⟨rfl, b2⟩
    have kR2 := kR1.below b2 kR1.lt
    go_wp2_with (refine store_blk rfl 29 _ _ rfl w.heap.size rfl rfl kR2 (by kernel_rfl) rfl (by kernel_rfl) ?_; intro w7 hb7 hg7 hs7)
    exact bodyPost_ret (v := .agg [.int .i64 2, .int .i64 0, .string ByteArray.empty, .slice none 0 0, .int .i64 0].toArray) (results_blk Tryz.results9 _ _ rfl hb7 Tryz.underlying29 rfl (by kernel_rfl)) rfl (HEND.out w2 w7 2 0 e1 (by decide) e2 (b1.trans (b2.mono b1.size)) hg7 hs7)
  have hty0 : tyC data = 0 := ety
  have HMP := hideT (fun (wx : World) (h1 : Blk wx gP 65 [.slice (some ⟨b, o, none⟩) N cap, .int .i64 ((4 : Nat) : Int)]) (h2 : RowAt wx (some ⟨b, o, none⟩) data) => l6Map_any data gP b o cap N wx hN hN4 hNc (by omega) hbP h1 h2)
  clear ety
  by_cases hmc : mapC data ≠ 0
  · have e1 : dC data = mapC data := by unfold dC; rw [if_neg (by omega), if_neg (by omega), if_pos hmc]
    have e2 : dP data = 4 := by unfold dP; rw [if_neg (by omega), if_neg (by omega), if_pos hmc]
    obtain ⟨c, hc⟩ : ∃ c, c = mapC data := ⟨_, rfl⟩
    rw [← hc] at HMP hmc e1
    have hcI : ¬ (c : Int) = 0 := by omega
    rw [← hN]
    clear hr hN hc
    go_enter Tryz.func9, Tryz.ntmps9
    go_upto_region 1 with fail
    rw [← show W = _ from HW]
    clear HW
    go_upto_region 4 with fail
    rw [← show X = _ from HX, ← show gP = _ from HGP]
    go_wp2_with fail
    refine HT.out.mono ?_
    rintro e w1 ⟨rfl, kP1, g1⟩
    have rD1 := RowAt.grown rX g1 (by intro x hx e; cases hx; cases e; exact hbP rfl)
    have hcv := HCV.out w1 rD1
    have kR1 := kRX.grown g1 (by intro e; cases e; omega)
    have b1 := bX.grown g1 bX.size (fun k hk => by cases hk; omega)
    go_wp2_with fail
    refine (HDG.out _).mono ?_
    rintro e w3 ⟨rfl, hw3⟩
    have hw4 := hw3.symm
    subst hw4
    go_wp2_with fail
    refine (HMP.out _ kP1 rD1).mono ?_
    rintro e w5 ⟨v5, rfl, -, -, g5⟩
    have kR5 := kR1.grown g5 (by intro e; cases e; omega)
    have b5 := b1.grown g5 b1.size (fun k hk => by cases hk; omega)
    go_wp2_with fail
    refine (HFL.out _ _ _).mono ?_
    rintro e w2 ⟨rfl, b2⟩
    have kR2 := kR5.below b2 kR5.lt
    go_wp2_with (refine store_blk rfl 29 _ _ rfl w.heap.size rfl rfl kR2 (by kernel_rfl) rfl (by kernel_rfl) ?_; intro w7 hb7 hg7 hs7)
    exact bodyPost_ret (v := .agg [.int .i64 (c : Int), .int .i64 4, .string ByteArray.empty, .slice none 0 0, .int .i64 0].toArray) (results_blk Tryz.results9 _ _ rfl hb7 Tryz.underlying29 rfl (by kernel_rfl)) rfl (HEND.out w2 w7 c 4 e1 hmc e2 (b5.trans (b2.mono b5.size)) hg7 hs7)
  have hm0 : mapC data = 0 := by omega
  rw [hm0] at HMP
  obtain ⟨nos, hnos⟩ : ∃ l, l = mapN data := ⟨_, rfl⟩
  obtain ⟨E, hE⟩ : ∃ e, e = mapE data := ⟨_, rfl⟩
  have hnt : ∀ i, i < nos.length → nos.getD i 0 ∈ tabNos := by
    intro i hi
    have hin : inTab (nosOf data) = true := by
      cases h : inTab (nosOf data) with
      | true => rfl
      | false =>
        exfalso
        revert hm0
        unfold mapC
        rw [if_pos h]
        split <;> omega
    have e : nos = nosOf data := by rw [hnos]; unfold mapN; rw [if_pos hm0]
    rw [List.getD_eq_getElem?_getD, List.getElem?_eq_getElem hi]
    unfold inTab at hin
    rw [List.all_eq_true] at hin
    have := hin nos[i] (by rw [← e]; exact List.getElem_mem hi)
    simpa using this
  have hEN : E ≤ N := by
    have hme : ¬ data.length < mapEnd data := by
      intro h
      revert hm0
      unfold mapC
      rw [if_pos h]
      omega
    rw [hE]
    unfold mapE
    rw [if_pos hm0]
    omega
  have HRES : Hid ((∀ i, i < nos.length → (∀ j, j < i → fc data nos E j = 0) → fc data nos E i ≠ 0 → dC data = fc data nos E i ∧ dP data = decAt data nos E i) ∧ ((∀ j, j < nos.length → fc data nos E j = 0) → (decAt data nos E nos.length < N → dC data = 5 ∧ dP data = decAt data nos E nos.length) ∧ (¬ decAt data nos E nos.length < N → dC data = 0 ∧ dP data = 0 ∧ dM data = ⟨(data.take 4).toArray⟩ ∧ dL data = decF data nos E nos.length ∧ dA data = macL data nos E nos.length))) := by
    have eC : dC data = match bad data nos E with | some i => fc data nos E i | none => if decAt data nos E nos.length < N then 5 else 0 := by
      rw [hnos, hE, hN]; unfold dC; rw [if_neg (by omega), if_neg (by omega), if_neg (by omega)]; rfl
    have eP : dP data = match bad data nos E with | some i => decAt data nos E i | none => if decAt data nos E nos.length < N then decAt data nos E nos.length else 0 := by
      rw [hnos, hE, hN]; unfold dP; rw [if_neg (by omega), if_neg (by omega), if_neg (by omega)]; rfl
    refine ⟨fun i hi h1 h2 => ?_, fun h1 => ⟨fun h2 => ?_, fun h2 => ?_⟩⟩
    · rw [eC, eP, bad_some data nos E i hi h1 h2]; exact ⟨rfl, rfl⟩
    · rw [eC, eP, bad_none data nos E h1]; simp only; rw [if_pos h2, if_pos h2]; exact ⟨rfl, rfl⟩
    · have e0 : dC data = 0 := by rw [eC, bad_none data nos E h1]; simp only; rw [if_neg h2]
      refine ⟨e0, ?_, ?_, ?_, ?_⟩
      · rw [eP, bad_none data nos E h1]; simp only; rw [if_neg h2]
      · unfold dM; rw [if_pos e0]
      · unfold dL; rw [if_pos e0, hnos, hE]
      · unfold dA; rw [if_pos e0, hnos, hE]
  rw [← hnos, ← hE] at HMP
  rw [← hN]
  rw [← show S4 = _ from HS4] at HRES
  have HNO := hideT hnt
  have HN := hideT hN
  have hE2 : E ≤ 20 := by rw [hE]; unfold mapE mapEnd; split <;> (try split) <;> omega
  have hnl : nos.length ≤ 129 := by
    have h1 : nos = nosOf data := by rw [hnos]; unfold mapN; rw [if_pos hm0]
    rw [h1]
    unfold nosOf
    refine Nat.le_trans (nosTo_length _ _) ?_
    unfold mapEnd
    split <;> omega
  clear hnos hE hN hnt hm0 hty0 hr hmc
  go_enter Tryz.func9, Tryz.ntmps9
  go_upto_region 1 with fail
  rw [← show W = _ from HW]
  clear HW
  go_upto_region 4 with fail
  rw [← show X = _ from HX, ← show gP = _ from HGP]
  go_wp2_with fail
  refine HT.out.mono ?_
  rintro e w1 ⟨rfl, kP1, g1⟩
  have rD1 := RowAt.grown rX g1 (by intro x hx e; cases hx; cases e; exact hbP rfl)
  have hcv := HCV.out w1 rD1
  have kR1 := kRX.grown g1 (by intro e; cases e; omega)
  have b1 := bX.grown g1 bX.size (fun k hk => by cases hk; omega)
  go_wp2_with fail
  refine (HDG.out _).mono ?_
  rintro e w3 ⟨rfl, hw3⟩
  have hw4 := hw3.symm
  subst hw4
  go_wp2_with fail
  refine (HMP.out _ kP1 rD1).mono ?_
  rintro e w5 ⟨v5, rfl, own5, pa5, g5⟩
  have kP5 := pa5 rfl
  have hcv5 := HCV.out w5 (RowAt.grown rD1 g5 (by intro x hx e; cases hx; cases e; exact hbP rfl))
  have rD5 := RowAt.grown rD1 g5 (by intro x hx e; cases hx; cases e; exact hbP rfl)
  have kR5 := kR1.grown g5 (by intro e; cases e; omega)
  have b5 := b1.grown g5 b1.size (fun k hk => by cases hk; omega)
  clear rD1 kR1 b1 kP1 hcv rX kRX bX bWX rW HT HCV HDG HMP HX HGP pa5 kP
  have hgP5 := kP5.lt
  have hg15 := g1.size
  go_upto_region 13 with fail
  obtain ⟨X8, hX8⟩ : ∃ x, x = w5.alloc (Obj.cells #[.int .i64 0, .int .i64 0, .string S4, .slice none 0 0, .int .i64 0] 29) := ⟨_, rfl⟩
  rw [← hX8]
  obtain ⟨gO, hgO⟩ : ∃ g, g = w5.heap.size := ⟨_, rfl⟩
  rw [← hgO]
  have kO : Blk X8 gO 29 [.int .i64 0, .int .i64 0, .string S4, .slice none 0 0, .int .i64 0] := by rw [hX8, hgO]; exact Blk.new _ _ _
  have b58 : Below w5.heap.size w5 X8 := by rw [hX8]; exact below_newT _ _
  have kP8 := kP5.below b58 kP5.lt
  have g58 := grown_of_below b58 (some gP)
  obtain ⟨n, hn0⟩ : ∃ n, n = nos.length := ⟨_, rfl⟩
  have hn4 : n ≤ 129 := by omega
  have hgRv : ∃ rcap ra, v5 = .slice ra n rcap := by
    rcases own5.2 with ⟨hv, hz⟩ | ⟨g, c, cur, hv, -⟩
    · exact ⟨0, none, by rw [hv, hn0, hz]⟩
    · exact ⟨c, _, by rw [hv, hn0]⟩
  have hlt5 := own5.lt
  have hg1X : gP < w1.heap.size := Nat.lt_of_lt_of_le hgX hg15
  have HRC : Hid (∀ {x : World}, w5.grownBy x (some gP) → ∀ i, i < n → ∃ gR cR, v5 = .slice (some ⟨gR, 0, none⟩) n cR ∧ x.cell? ⟨gR, i, none⟩ = some (.int .i64 (nos.getD i 0 : Nat))) := by
    intro x hx i hin
    have ox := World.ownsRow.kept own5 hx (by
      cases hb : v5.ownBlock with
      | none => exact .inl rfl
      | some g => exact .inr (fun e => by cases e; have := (hlt5 _ hb).1; omega))
    rcases own5.2 with ⟨hv, hz⟩ | ⟨g, c, cur, hv, -⟩
    · omega
    · rw [hv] at ox
      have c1 := ox.cellAt i (by omega)
      have hil : i < nos.length := by omega
      rw [List.getElem?_map, List.getElem?_eq_getElem hil] at c1
      refine ⟨g, c, by rw [hv, hn0], ?_⟩
      rw [c1, List.getD_eq_getElem?_getD, List.getElem?_eq_getElem hil]
      rfl
  obtain ⟨rcap, ra, hv5⟩ := hgRv
  subst hv5
  have hgO1 : gP < gO := by omega
  have HGO := hideT hgO
  have HNL := hideT hn0
  have HGW : Hid (∀ {x : World}, w5.grownBy x (some gP) → Blk x w.heap.size 29 zeroDc ∧ RowAt x (some ⟨b, o, none⟩) data ∧ Below w.heap.size w x) := fun h => ⟨kR5.grown h (by intro e; cases e; omega), RowAt.grown rD5 h (by intro x hx e; cases hx; cases e; exact hbP rfl), b5.grown h b5.size (fun k hk => by cases hk; omega)⟩
  clear hX8 hgO own5 hn0 hcv5 hlt5 kP5 kR5 rD5 b58
  go_wp2_with fail
  go_loopw [49] (fun i wr => ∃ (k : Nat) (v : Value) (vs : List Value), k ≤ n ∧ i = .int .i64 (k : Int) ∧ Hid (∀ j, j < k → fc data nos E j = 0) ∧ decAt data nos E k ≤ N ∧ Blk wr gP 65 [.slice (some ⟨b, o, none⟩) N cap, .int .i64 (decAt data nos E k : Nat)] ∧ Blk wr gO 29 [.int .i64 0, .int .i64 0, .string S4, v, .int .i64 ((if k = n then macL data nos E k else 0 : Nat) : Int)] ∧ Fs wr (gO + 1) v (decF data nos E k) vs ∧ w5.grownBy wr (some gP)) (fun i _ => n - (intOf i).toNat)
  case atStart => exact ⟨0, _, [], Nat.zero_le _, rfl, fun j h => absurd h (Nat.not_lt_zero j), hEN, kP8, by rw [show (if 0 = n then macL data nos E 0 else 0) = 0 from by split <;> rfl]; exact kO, Fs.nil _ _, g58⟩
  case round =>
    obtain ⟨k, v, vs, hk, rfl, HOK, haN, kPr, kOr, FS, gr⟩ := hrel
    by_cases hlt : k < n
    · have hltI : (k : Int) < (n : Int) := by omega
      obtain ⟨gR, cR, e3, c1⟩ := HRC.out gr k hlt
      simp only [Value.slice.injEq] at e3
      obtain ⟨rfl, -, rfl⟩ := e3
      have hin := HNO.out k (by have := HNL.out; omega)
      rw [if_neg (by omega)] at kOr
      have HDE : Hid (decAt data nos E (k + 1) = decAt data nos E k + fldE (nos.getD k 0) (data.drop (decAt data nos E k)) ∧ macL data nos E (k + 1) = macP (nos.getD k 0) (decAt data nos E k) ∧ decF data nos E (k + 1) = decF data nos E k ++ [(nos.getD k 0, fldD (nos.getD k 0) (data.drop (decAt data nos E k)))] ∧ fc data nos E k = fldC (nos.getD k 0) (data.drop (decAt data nos E k))) := ⟨rfl, rfl, decF_succ _ _ _ _, rfl⟩
      obtain ⟨a, ha⟩ : ∃ a, a = decAt data nos E k := ⟨_, rfl⟩
      obtain ⟨no, hno⟩ : ∃ m, m = nos.getD k 0 := ⟨_, rfl⟩
      rw [← ha] at haN HDE kPr
      rw [← hno] at c1 hin HDE
      have hrl : (data.drop a).length = N - a := by have := HN.out; rw [List.length_drop]; omega
      have hfle := fldE_le no (data.drop a)
      obtain ⟨kRr, rDr, bxr⟩ := HGW.out gr
      have HRF := hideT (fieldS_no no hin data a gP b o cap N wr HN.out hN4 hNc haN hbP kPr rDr)
      obtain ⟨fe, hfe⟩ : ∃ m, m = fldE no (data.drop a) := ⟨_, rfl⟩
      obtain ⟨fv, hfv⟩ : ∃ m, m = fldC no (data.drop a) := ⟨_, rfl⟩
      obtain ⟨HD, hHD⟩ : ∃ m, m = fldD no (data.drop a) := ⟨_, rfl⟩
      rw [← hfe, ← hfv, ← hHD] at HRF
      rw [← hfe, ← hfv, ← hHD] at HDE
      rw [← hfe, ← hfv, hrl] at hfle
      have HAE := hideT ha
      clear hfe hfv hHD hno ha hin
      have p1 := kPr.cell 1 (by simp)
      go_wp2_with fail
      refine HRF.out.mono ?_
      rintro e w8 ⟨v8, rfl, own8, pa8, g8⟩
      obtain ⟨ah, ch, rfl, -, -, -, -⟩ := own8.shape
      have gr8 := grown_trans gr g8
      obtain ⟨kR8, rD8, bx8⟩ := HGW.out gr8
      clear HRF kRr rDr bxr p1
      by_cases hfv : fv = 0
      · subst hfv
        have kP8' := pa8 rfl
        have hfe := hfle rfl
        have kO8 := kOr.grown g8 (by intro e; cases e; omega)
        have FS8 := FS.keep g8 (by omega)
        obtain ⟨A2, hA2⟩ : ∃ x, x = a + fe := ⟨_, rfl⟩
        rw [← hA2] at kP8' HDE
        have hA2N : A2 ≤ N := by omega
        have hfl : (decF data nos E k).length = k := decF_length _ _ _ _
        have hvl := FS.row.lt
        have hvl2 : ∀ g, v.ownBlock = some g → g < wr.heap.size := fun g hg => (hvl g hg).2
        have hbl : ∀ i, i < (decF data nos E k).length → ∀ g, (vs.getD i undef).ownBlock = some g → g < wr.heap.size := fun i hi g hg => (own_lt (FS.own i hi) g hg).2
        obtain ⟨w6, hw6⟩ : ∃ y, y = w8.alloc (Obj.cells #[.int .i64 (no : Int), .slice ah HD.length ch] 44) := ⟨_, rfl⟩
        have k6 : Blk w6 w8.heap.size 44 [.int .i64 (no : Int), .slice ah HD.length ch] := by rw [hw6]; exact Blk.new _ _ _
        have b6 : Below w8.heap.size w8 w6 := by rw [hw6]; exact below_newT _ _
        have hs86 := b6.size
        have hsr8 := g8.size
        have hglO := kOr.lt
        have FS6 := FS8.below b6
        have row6 := FS6.row
        rw [hfl] at row6
        have kO6 := kO8.below b6 kO8.lt
        have kP6 := kP8'.below b6 kP8'.lt
        have own6 := own8.below b6
        have g56 := grown_trans gr8 (grown_of_below b6 (some gP))
        have HW6 := hideT hw6
        have hb6 : gO + 1 ≤ w6.heap.size := by omega
        have hneO : some gO ≠ v.ownBlock := fun e => by have := (hvl gO e.symm).1; omega
        have hneP : some gP ≠ v.ownBlock := fun e => by have := (hvl gP e.symm).1; omega
        have o3 := kO8.cell 3 (by simp)
        have hwn : IntKind.i64.wrap ((n : Int) - 1) = (n : Int) - 1 := by rw [IntKind.wrap_i64]; omega
        clear hA2 hfe hfle hw6 kO8 FS8 kP8' b6 own8 kPr kOr FS gr gr8 g8 pa8 c1
        by_cases hla : k + 1 = n
        · have hlaI : (k : Int) = (n : Int) - 1 := by omega
          have hlab : ((k : Int) == (n : Int) - 1) = true := by rw [beq_iff_eq]; exact hlaI
          by_cases h64 : no = 64
          · have h64b : ((no : Int) == 64) = true := by rw [beq_iff_eq]; omega
            have HMQ : Hid ((if k + 1 = n then macL data nos E (k + 1) else 0) = a) := by
              show _ = _
              rw [if_pos hla, HDE.out.2.1]; unfold macP; rw [if_pos (.inl h64)]
            have HLA := hideT hla
            clear h64 hlaI hla
            go_wp2_with (at_builtin; rw [← show w6 = _ from HW6]; refine wpList_append_own_at _ rfl _ _ 23 rfl (gO + 1) 44 i0 (.agg #[.int .i64 0, .slice none 0 0]) 2 32 Tryz.underlying23 hi hz0 hz1 hz2 rfl (by decide) _ _ _ rfl row6 ⟨w8.heap.size, 0, none⟩ 1 1 [.int .i64 (no : Int), .slice ah HD.length ch] rfl rfl (news_of_blk k6) (by intro u hu; simp at hu; rcases hu with rfl | rfl <;> rfl) (by unfold maxLen; omega) (by omega) hb6 ?_; intro v9 w9 own9 grow9 _ hat9; obtain ⟨a9, c9, rfl⟩ := ownR_shape own9; have kO9 := kO6.grown grow9 hneO; have kP9 := kP6.grown grow9 hneP; have mf3 := kO9.free 3; have m93 := kO9.cell 3 (by simp); have mf4 := (kO9.set 3 (.slice a9 (k + 1) c9)).free 4; have m94 := (kO9.set 3 (.slice a9 (k + 1) c9)).cell 4 (by simp))
            have FS9 := FS6.snoc2 (m := wr.heap.size) (x := .slice ah HD.length ch) (p := (no, HD)) hbl hvl2 own6 (by omega) (by omega) grow9 (by rw [hfl]; exact own9) (hat9.imp id (fun e => ⟨_, e, Nat.le_refl _⟩))
            have FS10 := FS9.set (a := ⟨gO, 3, none⟩) (by show gO < gO + 1; omega) (.slice a9 (k + 1) c9)
            have kO10 := kO9.set 3 (.slice a9 (k + 1) c9)
            have g10 := grown_over (grown_over g56 grow9 (fun g hg => by have := (hvl g hg).1; have := HGO.out; omega)) (grown_setCellT w9 ⟨gO, 3, none⟩ (.slice a9 (k + 1) c9)) (fun g hg => by cases hg; show _ ≤ gO; have := HGO.out; omega)
            have kP10 := kP9.grown (grown_setCellT w9 ⟨gO, 3, none⟩ (.slice a9 (k + 1) c9)) (fun e => by have e2 : gP = gO := Option.some.inj e; omega)
            have FS11 := FS10.set (a := ⟨gO, 4, none⟩) (by show gO < gO + 1; omega) (.int .i64 (a : Int))
            have kO11 := kO10.set 4 (.int .i64 (a : Int))
            have g11 := grown_over g10 (grown_setCellT _ ⟨gO, 4, none⟩ (.int .i64 (a : Int))) (fun g hg => by cases hg; show _ ≤ gO; have := HGO.out; omega)
            have kP11 := kP10.grown (grown_setCellT _ ⟨gO, 4, none⟩ (.int .i64 (a : Int))) (fun e => by have e2 : gP = gO := Option.some.inj e; omega)
            go_roundw
            case rel => exact ⟨k + 1, _, _, by omega, by go_num, fun j hj => by
              by_cases hjk : j = k
              · rw [hjk]; exact HDE.out.2.2.2
              · exact HOK.out j (by omega), by rw [HDE.out.1]; exact hA2N, by rw [HDE.out.1]; exact kP11, by rw [HMQ.out]; exact kO11, by rw [HDE.out.2.2.1]; exact FS11, g11⟩
            case measure => simp [intOf]; omega
          · have h64b : ((no : Int) == 64) = false := by rw [beq_eq_false_iff_ne]; omega
            by_cases h128 : no = 128
            · have h128b : ((no : Int) == 128) = true := by rw [beq_iff_eq]; omega
              have HMQ : Hid ((if k + 1 = n then macL data nos E (k + 1) else 0) = a) := by
                show _ = _
                rw [if_pos hla, HDE.out.2.1]; unfold macP; rw [if_pos (.inr h128)]
              have HLA := hideT hla
              clear h128 hlaI hla
              go_wp2_with (at_builtin; rw [← show w6 = _ from HW6]; refine wpList_append_own_at _ rfl _ _ 23 rfl (gO + 1) 44 i0 (.agg #[.int .i64 0, .slice none 0 0]) 2 32 Tryz.underlying23 hi hz0 hz1 hz2 rfl (by decide) _ _ _ rfl row6 ⟨w8.heap.size, 0, none⟩ 1 1 [.int .i64 (no : Int), .slice ah HD.length ch] rfl rfl (news_of_blk k6) (by intro u hu; simp at hu; rcases hu with rfl | rfl <;> rfl) (by unfold maxLen; omega) (by omega) hb6 ?_; intro v9 w9 own9 grow9 _ hat9; obtain ⟨a9, c9, rfl⟩ := ownR_shape own9; have kO9 := kO6.grown grow9 hneO; have kP9 := kP6.grown grow9 hneP; have mf3 := kO9.free 3; have m93 := kO9.cell 3 (by simp); have mf4 := (kO9.set 3 (.slice a9 (k + 1) c9)).free 4; have m94 := (kO9.set 3 (.slice a9 (k + 1) c9)).cell 4 (by simp))
              have FS9 := FS6.snoc2 (m := wr.heap.size) (x := .slice ah HD.length ch) (p := (no, HD)) hbl hvl2 own6 (by omega) (by omega) grow9 (by rw [hfl]; exact own9) (hat9.imp id (fun e => ⟨_, e, Nat.le_refl _⟩))
              have FS10 := FS9.set (a := ⟨gO, 3, none⟩) (by show gO < gO + 1; omega) (.slice a9 (k + 1) c9)
              have kO10 := kO9.set 3 (.slice a9 (k + 1) c9)
              have g10 := grown_over (grown_over g56 grow9 (fun g hg => by have := (hvl g hg).1; have := HGO.out; omega)) (grown_setCellT w9 ⟨gO, 3, none⟩ (.slice a9 (k + 1) c9)) (fun g hg => by cases hg; show _ ≤ gO; have := HGO.out; omega)
              have kP10 := kP9.grown (grown_setCellT w9 ⟨gO, 3, none⟩ (.slice a9 (k + 1) c9)) (fun e => by have e2 : gP = gO := Option.some.inj e; omega)
              have FS11 := FS10.set (a := ⟨gO, 4, none⟩) (by show gO < gO + 1; omega) (.int .i64 (a : Int))
              have kO11 := kO10.set 4 (.int .i64 (a : Int))
              have g11 := grown_over g10 (grown_setCellT _ ⟨gO, 4, none⟩ (.int .i64 (a : Int))) (fun g hg => by cases hg; show _ ≤ gO; have := HGO.out; omega)
              have kP11 := kP10.grown (grown_setCellT _ ⟨gO, 4, none⟩ (.int .i64 (a : Int))) (fun e => by have e2 : gP = gO := Option.some.inj e; omega)
              go_roundw
              case rel => exact ⟨k + 1, _, _, by omega, by go_num, fun j hj => by
                by_cases hjk : j = k
                · rw [hjk]; exact HDE.out.2.2.2
                · exact HOK.out j (by omega), by rw [HDE.out.1]; exact hA2N, by rw [HDE.out.1]; exact kP11, by rw [HMQ.out]; exact kO11, by rw [HDE.out.2.2.1]; exact FS11, g11⟩
              case measure => simp [intOf]; omega
            · have h128b : ((no : Int) == 128) = false := by rw [beq_eq_false_iff_ne]; omega
              have HMQ : Hid ((if k + 1 = n then macL data nos E (k + 1) else 0) = 0) := by
                show _ = _
                rw [if_pos hla, HDE.out.2.1]; unfold macP; rw [if_neg (by omega)]
              have HLA := hideT hla
              clear hlaI hla
              go_wp2_with (at_builtin; rw [← show w6 = _ from HW6]; refine wpList_append_own_at _ rfl _ _ 23 rfl (gO + 1) 44 i0 (.agg #[.int .i64 0, .slice none 0 0]) 2 32 Tryz.underlying23 hi hz0 hz1 hz2 rfl (by decide) _ _ _ rfl row6 ⟨w8.heap.size, 0, none⟩ 1 1 [.int .i64 (no : Int), .slice ah HD.length ch] rfl rfl (news_of_blk k6) (by intro u hu; simp at hu; rcases hu with rfl | rfl <;> rfl) (by unfold maxLen; omega) (by omega) hb6 ?_; intro v9 w9 own9 grow9 _ hat9; obtain ⟨a9, c9, rfl⟩ := ownR_shape own9; have kO9 := kO6.grown grow9 hneO; have kP9 := kP6.grown grow9 hneP; have mf3 := kO9.free 3; have m93 := kO9.cell 3 (by simp))
              have FS9 := FS6.snoc2 (m := wr.heap.size) (x := .slice ah HD.length ch) (p := (no, HD)) hbl hvl2 own6 (by omega) (by omega) grow9 (by rw [hfl]; exact own9) (hat9.imp id (fun e => ⟨_, e, Nat.le_refl _⟩))
              have FS10 := FS9.set (a := ⟨gO, 3, none⟩) (by show gO < gO + 1; omega) (.slice a9 (k + 1) c9)
              have kO10 := kO9.set 3 (.slice a9 (k + 1) c9)
              have g10 := grown_over (grown_over g56 grow9 (fun g hg => by have := (hvl g hg).1; have := HGO.out; omega)) (grown_setCellT w9 ⟨gO, 3, none⟩ (.slice a9 (k + 1) c9)) (fun g hg => by cases hg; show _ ≤ gO; have := HGO.out; omega)
              have kP10 := kP9.grown (grown_setCellT w9 ⟨gO, 3, none⟩ (.slice a9 (k + 1) c9)) (fun e => by have e2 : gP = gO := Option.some.inj e; omega)
              go_roundw
              case rel => exact ⟨k + 1, _, _, by omega, by go_num, fun j hj => by
                by_cases hjk : j = k
                · rw [hjk]; exact HDE.out.2.2.2
                · exact HOK.out j (by omega), by rw [HDE.out.1]; exact hA2N, by rw [HDE.out.1]; exact kP10, by rw [HMQ.out]; exact kO10, by rw [HDE.out.2.2.1]; exact FS10, g10⟩
              case measure => simp [intOf]; omega
        · have hlab : ((k : Int) == (n : Int) - 1) = false := by rw [beq_eq_false_iff_ne]; omega
          have HMQ : Hid ((if k + 1 = n then macL data nos E (k + 1) else 0) = 0) := by
            show _ = _
            rw [if_neg hla]
          go_wp2_with (at_builtin; rw [← show w6 = _ from HW6]; refine wpList_append_own_at _ rfl _ _ 23 rfl (gO + 1) 44 i0 (.agg #[.int .i64 0, .slice none 0 0]) 2 32 Tryz.underlying23 hi hz0 hz1 hz2 rfl (by decide) _ _ _ rfl row6 ⟨w8.heap.size, 0, none⟩ 1 1 [.int .i64 (no : Int), .slice ah HD.length ch] rfl rfl (news_of_blk k6) (by intro u hu; simp at hu; rcases hu with rfl | rfl <;> rfl) (by unfold maxLen; omega) (by omega) hb6 ?_; intro v9 w9 own9 grow9 _ hat9; obtain ⟨a9, c9, rfl⟩ := ownR_shape own9; have kO9 := kO6.grown grow9 hneO; have kP9 := kP6.grown grow9 hneP; have mf3 := kO9.free 3; have m93 := kO9.cell 3 (by simp))
          have FS9 := FS6.snoc2 (m := wr.heap.size) (x := .slice ah HD.length ch) (p := (no, HD)) hbl hvl2 own6 (by omega) (by omega) grow9 (by rw [hfl]; exact own9) (hat9.imp id (fun e => ⟨_, e, Nat.le_refl _⟩))
          have FS10 := FS9.set (a := ⟨gO, 3, none⟩) (by show gO < gO + 1; omega) (.slice a9 (k + 1) c9)
          have kO10 := kO9.set 3 (.slice a9 (k + 1) c9)
          have g10 := grown_over (grown_over g56 grow9 (fun g hg => by have := (hvl g hg).1; have := HGO.out; omega)) (grown_setCellT w9 ⟨gO, 3, none⟩ (.slice a9 (k + 1) c9)) (fun g hg => by cases hg; show _ ≤ gO; have := HGO.out; omega)
          have kP10 := kP9.grown (grown_setCellT w9 ⟨gO, 3, none⟩ (.slice a9 (k + 1) c9)) (fun e => by have e2 : gP = gO := Option.some.inj e; omega)
          go_roundw
          case rel => exact ⟨k + 1, _, _, by omega, by go_num, fun j hj => by
            by_cases hjk : j = k
            · rw [hjk]; exact HDE.out.2.2.2
            · exact HOK.out j (by omega), by rw [HDE.out.1]; exact hA2N, by rw [HDE.out.1]; exact kP10, by rw [HMQ.out]; exact kO10, by rw [HDE.out.2.2.1]; exact FS10, g10⟩
          case measure => simp [intOf]; omega
      · have hfvI : ¬ (fv : Int) = 0 := by omega
        have hdc := HRES.out.1 k (by have := HNL.out; omega) HOK.out (by rw [HDE.out.2.2.2]; exact hfv)
        rw [HDE.out.2.2.2, ← HAE.out] at hdc
        have HDC := hideT hdc
        clear hdc
        go_wp2_with fail
        refine (HFL.out _ _ _).mono ?_
        rintro e w2 ⟨rfl, b2⟩
        have kR2 := kR8.below b2 kR8.lt
        go_wp2_with (refine store_blk rfl 29 _ _ rfl w.heap.size rfl rfl kR2 (by kernel_rfl) rfl (by kernel_rfl) ?_; intro w7 hb7 hg7 hs7)
        exact bodyPost_ret (v := .agg [.int .i64 (fv : Int), .int .i64 (a : Int), .string ByteArray.empty, .slice none 0 0, .int .i64 0].toArray) (results_blk Tryz.results9 _ _ rfl hb7 Tryz.underlying29 rfl (by kernel_rfl)) rfl (HEND.out w2 w7 fv a HDC.out.1 hfv HDC.out.2 (bx8.trans (b2.mono bx8.size)) hg7 hs7)
    · have hltI : ¬ (k : Int) < (n : Int) := by omega
      obtain rfl : k = n := by omega
      rw [if_pos rfl] at kOr
      obtain ⟨hT1, hT2⟩ := HRES.out.2 (fun j hj => HOK.out j (by have := HNL.out; omega))
      rw [← HNL.out] at hT1 hT2
      obtain ⟨kR4, -, bw4⟩ := HGW.out gr
      have hvl := FS.row.lt
      obtain ⟨av, cv, rfl⟩ := ownR_shape FS.row
      obtain ⟨nv, hnv⟩ : ∃ m, m = (decF data nos E k).length := ⟨_, rfl⟩
      have HFS := hideT FS
      rw [← hnv] at kOr hvl HFS
      obtain ⟨mc, hmc⟩ : ∃ m, m = macL data nos E k := ⟨_, rfl⟩
      obtain ⟨a, ha⟩ : ∃ a, a = decAt data nos E k := ⟨_, rfl⟩
      rw [← ha] at haN hT1 hT2 kPr
      rw [← hmc] at hT2 kOr
      have HT1 := hideT hT1
      have HT2 := hideT hT2
      have p1 := kPr.cell 1 (by simp)
      clear hmc ha hT1 hT2 hnv FS HRC HNO HRES
      by_cases hend : a < N
      · have hendI : (a : Int) < (N : Int) := by omega
        have HDC := hideT (HT1.out hend)
        clear HT1 HT2
        go_wp2_with fail
        refine (HFL.out _ _ _).mono ?_
        rintro e w2 ⟨rfl, b2⟩
        have kR2 := kR4.below b2 kR4.lt
        go_wp2_with (refine store_blk rfl 29 _ _ rfl w.heap.size rfl rfl kR2 (by kernel_rfl) rfl (by kernel_rfl) ?_; intro w7 hb7 hg7 hs7)
        exact bodyPost_ret (v := .agg [.int .i64 5, .int .i64 (a : Int), .string ByteArray.empty, .slice none 0 0, .int .i64 0].toArray) (results_blk Tryz.results9 _ _ rfl hb7 Tryz.underlying29 rfl (by kernel_rfl)) rfl (HEND.out w2 w7 5 a HDC.out.1 (by decide) HDC.out.2 (bw4.trans (b2.mono bw4.size)) hg7 hs7)
      · have hendI : ¬ (a : Int) < (N : Int) := by omega
        obtain ⟨d1, d2, d3, d4, d5⟩ := HT2.out hend
        have HDD := hideT (And.intro d1 (And.intro d2 (And.intro d3 (And.intro d4 d5))))
        clear HT1 HT2 d1 d2 d3 d4 d5
        go_wp2_with (first
          | (refine load_blk rfl 29 _ rfl gO rfl kOr Tryz.underlying29 rfl (by kernel_rfl) ?_)
          | (refine store_blk rfl 29 _ _ rfl w.heap.size rfl rfl kR4 (by kernel_rfl) rfl (by kernel_rfl) ?_; intro w7 hb7 hg7 hs7))
        have FS7 : FsX w7 w.heap.size (.slice av nv cv) (dL data) := by
          rw [HDD.out.2.2.2.1]
          exact ⟨_, (HFS.out.keep hg7 (by omega)).mono (by omega)⟩
        have b7 := bw4.grown hg7 bw4.size (fun g hg => by cases hg; exact Nat.le_refl _)
        exact bodyPost_ret (v := .agg [.int .i64 0, .int .i64 0, .string S4, .slice av nv cv, .int .i64 (mc : Int)].toArray) (results_blk Tryz.results9 _ _ rfl hb7 Tryz.underlying29 rfl (by kernel_rfl)) rfl ⟨_, by rw [HDD.out.1, HDD.out.2.1, HDD.out.2.2.1, HDD.out.2.2.2.2]; rfl, FS7, b7⟩
end Go.Proofs.YtacgbajcdngokaaGreatDoor
