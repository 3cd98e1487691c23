/-
  laws.markMsg, markDecoded, heldMsg, heldDecoded; laws.FnExactDecode.
-/
import Derived.Test.YtacgbajcdngokaaDoorIsoMark
namespace Go.Proofs.YtacgbajcdngokaaDoor
open Go.RowKit

theorem below_size {lo : Nat} {w w' : World} (h : Below lo w w') : w.heap.size ≤ w'.heap.size := h.size
set_option maxRecDepth 100000 in
set_option maxHeartbeats 1000000 in
theorem markMsg_any (s : ByteArray) (L : List (Nat × List UInt8)) (hsz : ∀ p ∈ L, p.2.length ≤ 4096) (hL : L.length ≤ 200) (k : Nat) (hk : k ≤ 10) (v : Value) (lo : Nat) (vs : List Value) (w : World) (F : Fs w lo v L vs) (hlo : lo ≤ w.heap.size) (hi : Nat) (U : Under v vs L.length hi) :
    Calls Tryd.prog 11 #[.agg #[.string s, v], .int .i64 (k : Int)] w fun e w' => e = .returned (.int .i64 (markN L k : Nat)) ∧ Fs w' lo v (markF L k) vs ∧ Below lo w w' ∧ Keeps hi w w' := by
  obtain ⟨W, hW⟩ : ∃ x, x = w.alloc (Obj.cells #[.string s, v] 30) := ⟨_, rfl⟩
  have bW : Below w.heap.size w W := by rw [hW]; exact below_newT _ _
  have HE := hideT (markFieldS_any L hsz hL k hk v lo vs W (F.below bW) (Nat.le_trans hlo bW.size) hi U)
  have kpW : Keeps hi w W := fun g _ h => bW.block g h
  have HW := hideT hW
  obtain ⟨m, hm⟩ : ∃ m, m = markN L k := ⟨_, rfl⟩
  rw [← hm] at HE ⊢
  clear hW F hm
  go_enter Tryd.func11, Tryd.ntmps11
  go_wp2_with (go_at_call 34; rw [← show W = _ from HW]; refine HE.out.mono ?_; rintro e w2 ⟨rfl, F2, b2, kp2⟩)
  go_ret
  exact ⟨rfl, F2, (bW.mono hlo).trans b2, fun g h1 h2 => (kp2 g h1 (Nat.lt_of_lt_of_le h2 bW.size)).trans (kpW g h1 h2)⟩
set_option maxRecDepth 100000 in
set_option maxHeartbeats 1000000 in
theorem markDecoded_any (c p a : Int) (s : ByteArray) (L : List (Nat × List UInt8)) (hsz : ∀ p ∈ L, p.2.length ≤ 4096) (hL : L.length ≤ 200) (k : Nat) (hk : k ≤ 10) (v : Value) (lo : Nat) (vs : List Value) (w : World) (F : Fs w lo v L vs) (hlo : lo ≤ w.heap.size) (hi : Nat) (U : Under v vs L.length hi) :
    Calls Tryd.prog 18 #[.agg #[.int .i64 c, .int .i64 p, .string s, v, .int .i64 a], .int .i64 (k : Int)] w fun e w' => e = .returned (.int .i64 (markN L k : Nat)) ∧ Fs w' lo v (markF L k) vs ∧ Below lo w w' ∧ Keeps hi w w' := by
  obtain ⟨W, hW⟩ : ∃ x, x = w.alloc (Obj.cells #[.int .i64 c, .int .i64 p, .string s, v, .int .i64 a] 38) := ⟨_, rfl⟩
  have bW : Below w.heap.size w W := by rw [hW]; exact below_newT _ _
  have HE := hideT (markMsg_any s L hsz hL k hk v lo vs W (F.below bW) (Nat.le_trans hlo bW.size) hi U)
  have kpW : Keeps hi w W := fun g _ h => bW.block g h
  have HW := hideT hW
  obtain ⟨m, hm⟩ : ∃ m, m = markN L k := ⟨_, rfl⟩
  rw [← hm] at HE ⊢
  clear hW F hm
  go_enter Tryd.func18, Tryd.ntmps18
  go_wp2_with (go_at_call 11; rw [← show W = _ from HW]; refine HE.out.mono ?_; rintro e w2 ⟨rfl, F2, b2, kp2⟩)
  go_ret
  exact ⟨rfl, F2, (bW.mono hlo).trans b2, fun g h1 h2 => (kp2 g h1 (Nat.lt_of_lt_of_le h2 bW.size)).trans (kpW g h1 h2)⟩
set_option maxRecDepth 100000 in
set_option maxHeartbeats 1000000 in
theorem heldMsg_any (s : ByteArray) (L : List (Nat × List UInt8)) (hsz : ∀ p ∈ L, p.2.length ≤ 4096) (hL : L.length ≤ 200) (k : Nat) (hk : k ≤ 10) (v : Value) (lo : Nat) (vs : List Value) (w : World) (F : Fs w lo v (markF L k) vs) :
    Calls Tryd.prog 44 #[.agg #[.string s, v], .int .i64 (k : Int)] w fun e w' => e = .returned (.int .i64 (markN L k : Nat)) ∧ Below w.heap.size w w' := by
  obtain ⟨W, hW⟩ : ∃ x, x = w.alloc (Obj.cells #[.string s, v] 30) := ⟨_, rfl⟩
  have bW : Below w.heap.size w W := by rw [hW]; exact below_newT _ _
  have HE := hideT (heldFieldS_any L hsz hL k hk v lo vs W (F.below bW))
  have HW := hideT hW
  obtain ⟨m, hm⟩ : ∃ m, m = markN L k := ⟨_, rfl⟩
  rw [← hm] at HE ⊢
  have hm0 : ¬ (m : Int) < 0 := by omega
  clear hW F hm
  go_enter Tryd.func44, Tryd.ntmps44
  go_wp2_with (go_at_call 60; rw [← show W = _ from HW]; refine HE.out.mono ?_; rintro e w2 ⟨rfl, hw2⟩; have hw3 := hw2.symm; subst hw3)
  go_ret
  exact ⟨rfl, bW⟩
set_option maxRecDepth 100000 in
set_option maxHeartbeats 1000000 in
theorem heldDecoded_any (c p a : Int) (s : ByteArray) (L : List (Nat × List UInt8)) (hsz : ∀ p ∈ L, p.2.length ≤ 4096) (hL : L.length ≤ 200) (k : Nat) (hk : k ≤ 10) (v : Value) (lo : Nat) (vs : List Value) (w : World) (F : Fs w lo v (markF L k) vs) :
    Calls Tryd.prog 19 #[.agg #[.int .i64 c, .int .i64 p, .string s, v, .int .i64 a], .int .i64 (k : Int)] w fun e w' => e = .returned (.int .i64 (markN L k : Nat)) ∧ Below w.heap.size w w' := by
  obtain ⟨W, hW⟩ : ∃ x, x = w.alloc (Obj.cells #[.int .i64 c, .int .i64 p, .string s, v, .int .i64 a] 38) := ⟨_, rfl⟩
  have bW : Below w.heap.size w W := by rw [hW]; exact below_newT _ _
  have HE := hideT (heldMsg_any s L hsz hL k hk v lo vs W (F.below bW))
  have HW := hideT hW
  obtain ⟨m, hm⟩ : ∃ m, m = markN L k := ⟨_, rfl⟩
  rw [← hm] at HE ⊢
  have hm0 : ¬ (m : Int) < 0 := by omega
  clear hW F hm
  go_enter Tryd.func19, Tryd.ntmps19
  go_wp2_with (go_at_call 44; rw [← show W = _ from HW]; refine HE.out.mono ?_; rintro e w2 ⟨rfl, b2⟩)
  go_ret
  exact ⟨rfl, bW.trans (b2.mono bW.size)⟩
theorem Fs.keepU {w w' : World} {lo g hi : Nat} {v : Value} {L : List (Nat × List UInt8)} {vs : List Value} (h : Fs w lo v L vs) (hg : w.grownBy w' (some g)) (U : Under v vs L.length hi) (hgh : hi ≤ g) : Fs w' lo v L vs := by
  refine ⟨h.len, World.ownsRow.kept h.row hg ?_, fun i hi => (h.own i hi).grown hg ?_, h.sep, h.ap⟩
  · cases hb : v.ownBlock with
    | none => exact .inl rfl
    | some k => exact .inr (fun e => by cases e; have := U.v _ hb; omega)
  · cases hb : (vs.getD i undef).ownBlock with
    | none => exact .inl rfl
    | some k => exact .inr (fun e => by cases e; have := U.vs i hi _ hb; omega)
theorem Fs.belowU {w w' : World} {lo B hi : Nat} {v : Value} {L : List (Nat × List UInt8)} {vs : List Value} (h : Fs w lo v L vs) (hb : Below B w w') (U : Under v vs L.length hi) (hB : hi ≤ B) : Fs w' lo v L vs := by
  have hk : ∀ {v : Value} {base e size n : Nat} {xs : List Value}, w.ownsRow base e size v n xs → (∀ g, v.ownBlock = some g → g < hi) → w'.ownsRow base e size v n xs := by
    intro v base e size n xs hr hv
    obtain ⟨h1, h2⟩ := hr
    refine ⟨h1, ?_⟩
    rcases h2 with h2 | ⟨g, cap, cur, hv2, hbg, hh, hrest⟩
    · exact .inl h2
    · subst hv2
      have hg := hv g rfl
      refine .inr ⟨g, cap, cur, rfl, hbg, ?_, hrest⟩
      exact (hb.block g (by omega)).trans hh
  refine ⟨h.len, hk h.row U.v, fun i hi2 => ?_, h.sep, h.ap⟩
  obtain ⟨t, q⟩ := h.own i hi2
  exact ⟨t, hk q (U.vs i hi2)⟩
theorem fldD_le (no : Nat) (rest : List UInt8) : (fldD no rest).length ≤ rest.length := by
  unfold fldD fD
  split
  · rw [List.length_take, List.length_drop]; omega
  · simp
theorem dL_ok (data : List UInt8) : (∀ p ∈ dL data, p.2.length ≤ 4096) ∧ (dL data).length ≤ 200 := by
  by_cases h : dC data = 0
  · have h4 : data.length ≤ 4096 := by
      by_cases hb : 4096 < data.length
      · exfalso; revert h; unfold dC; rw [if_pos hb]; omega
      · omega
    have e : dL data = decF data (mapN data) (mapE data) (mapN data).length := by unfold dL; rw [if_pos h]
    rw [e]
    refine ⟨fun p hp => ?_, ?_⟩
    · unfold decF at hp
      rw [List.mem_map] at hp
      obtain ⟨j, -, rfl⟩ := hp
      refine Nat.le_trans (fldD_le _ _) ?_
      rw [List.length_drop]
      omega
    · rw [decF_length]
      unfold mapN
      split
      · unfold nosOf
        refine Nat.le_trans (nosTo_length _ _) ?_
        unfold mapEnd
        split <;> omega
      · simp
  · have e : dL data = [] := by unfold dL; rw [if_neg h]
    rw [e]
    exact ⟨fun p hp => absurd hp (by simp), by simp⟩
set_option maxRecDepth 100000 in
set_option maxHeartbeats 4000000 in
theorem lawDecode_main (ao : Option Addr) (cap : Nat) (bs : List UInt8) (w : World) (hn : bs.length ≤ 1048576) (hr : RowAt w ao bs) :
    Calls Tryd.prog 4 #[.slice ao bs.length cap] w fun e w' => e = .returned (.bool true) ∧ Below w.heap.size w w' := by
  have hz := (zero_of_info Tryd.zeroDc).1
  obtain ⟨hsz, hL⟩ := dL_ok bs
  have HTB := hideT (fun (wx : World) (h : RowAt wx ao bs) => toByteS_any ao cap bs wx hn h)
  have HSD := hideT (fun (g : Nat) (wx : World) (h : RowAt wx (some ⟨g, 0, none⟩) bs) => decodeS_any bs (some ⟨g, 0, none⟩) bs.length wx hn (Nat.le_refl _) h)
  have HID := hideT (fun (g : Nat) (wx : World) (h : RowAt wx (some ⟨g, 0, none⟩) bs) => decode_any bs (some ⟨g, 0, none⟩) bs.length wx hn (Nat.le_refl _) h)
  have HEB := hideT (fun (g1 g2 : Nat) (wx : World) (h1 : RowAt wx (some ⟨g1, 0, none⟩) bs) (h2 : RowAt wx (some ⟨g2, 0, none⟩) bs) => eqByteS_any (some ⟨g1, 0, none⟩) (some ⟨g2, 0, none⟩) bs.length bs.length bs wx hn h1 h2)
  have HMB := hideT (fun (lo g : Nat) (wx : World) (h : Own wx lo (.slice (some ⟨g, 0, none⟩) bs.length bs.length) bs) => markByteS_any lo (some ⟨g, 0, none⟩) bs.length bs 1 wx hn (by omega) h)
  obtain ⟨C, hC⟩ : ∃ c : Int, c = (dC bs : Nat) := ⟨_, rfl⟩
  obtain ⟨P, hP⟩ : ∃ c : Int, c = (dP bs : Nat) := ⟨_, rfl⟩
  obtain ⟨A, hA⟩ : ∃ c : Int, c = (dA bs : Nat) := ⟨_, rfl⟩
  obtain ⟨S, hS⟩ : ∃ c, c = dM bs := ⟨_, rfl⟩
  obtain ⟨L, hLe⟩ : ∃ c, c = dL bs := ⟨_, rfl⟩
  rw [← hC, ← hP, ← hA, ← hS, ← hLe] at HSD HID
  rw [← hLe] at hsz hL
  have HED := hideT (fun (v1 v2 : Value) (lo1 lo2 : Nat) (wx : World) (F1 : FsX wx lo1 v1 L) (F2 : FsX wx lo2 v2 L) => eqDecoded_any C P A S L (fun p hp => Nat.le_trans (hsz p hp) (by omega)) (by omega) v1 v2 lo1 lo2 wx F1 F2)
  have HMD := hideT (fun (v : Value) (lo : Nat) (vs : List Value) (wx : World) (F : Fs wx lo v L vs) (h : lo ≤ wx.heap.size) (hi : Nat) (U : Under v vs L.length hi) => markDecoded_any C P A S L hsz hL 1 (by omega) v lo vs wx F h hi U)
  have HHD := hideT (fun (v : Value) (lo : Nat) (vs : List Value) (wx : World) (F : Fs wx lo v (markF L 1) vs) => heldDecoded_any C P A S L hsz hL 1 (by omega) v lo vs wx F)
  obtain ⟨mk, hmk⟩ : ∃ m, m = markN L 1 := ⟨_, rfl⟩
  rw [← hmk] at HMD HHD
  obtain ⟨n, hnn⟩ : ∃ n, n = bs.length := ⟨_, rfl⟩
  rw [← hnn] at HTB HSD HID HEB HMB ⊢
  obtain ⟨mb, hmb⟩ : ∃ m, m = 1 + n := ⟨_, rfl⟩
  rw [← hmb] at HMB
  have hnI : ¬ ((1048576 : Int) < (n : Int)) := by omega
  have hmb0 : ¬ (mb : Int) < 0 := by omega
  have hmk0 : ¬ (mk : Int) < 0 := by omega
  have HNB := hideT hnn
  clear hC hP hA hS hLe hmk hnn hmb hsz hL
  obtain ⟨nL, hnL⟩ : ∃ n, n = L.length := ⟨_, rfl⟩
  have HNL := hideT hnL
  clear hnL
  go_enter Tryd.func4, Tryd.ntmps4
  go_wp2_with fail
  refine (HTB.out _ hr).mono ?_
  rintro e w1 ⟨rfl, own1, b1⟩
  obtain ⟨a1, q1, e1, r1, -⟩ := own1.shape
  simp only [Value.slice.injEq] at e1
  obtain ⟨rfl, -, -⟩ := e1
  go_wp2_with fail
  refine (HSD.out _ _ r1).mono ?_
  rintro e w2 ⟨v2, rfl, ⟨vs2, F2⟩, b2⟩
  obtain ⟨a2, c2, rfl⟩ := F2.shape
  rw [← HNL.out] at F2 ⊢
  have b12 := b1.trans (b2.mono b1.size)
  obtain ⟨X2, hX2⟩ : ∃ x, x = w2.alloc (Obj.cells #[.int .i64 C, .int .i64 P, .string S, .slice a2 nL c2, .int .i64 A] 38) := ⟨_, rfl⟩
  obtain ⟨gW, hgW⟩ : ∃ g, g = w2.heap.size := ⟨_, rfl⟩
  have kW : Blk X2 gW 38 [.int .i64 C, .int .i64 P, .string S, .slice a2 nL c2, .int .i64 A] := by rw [hX2, hgW]; exact Blk.new _ _ _
  have bX2 : Below w2.heap.size w2 X2 := by rw [hX2]; exact below_newT _ _
  have FW := F2.below bX2
  have UW := FW.under
  have hgWl := kW.lt
  have bz2 := b12.trans (bX2.mono b12.size)
  have HX2 := hideT hX2
  have HGW := hideT hgW
  clear hX2 hgW own1 r1 b1 b2 b12 F2 bX2
  go_upto_region 4 with fail
  rw [← show X2 = _ from HX2, ← show gW = _ from HGW]
  clear HX2 HGW
  go_wp2_with fail
  refine (HTB.out _ (hr.below bz2)).mono ?_
  rintro e w3 ⟨rfl, own3, b3⟩
  obtain ⟨a3, q3, e3, r3, -⟩ := own3.shape
  simp only [Value.slice.injEq] at e3
  obtain ⟨rfl, -, -⟩ := e3
  obtain ⟨g3, hg3⟩ : ∃ g, g = X2.heap.size := ⟨_, rfl⟩
  have hg3w : g3 < w3.heap.size := by
    have h := own_lt own3 X2.heap.size rfl
    omega
  rw [← hg3] at own3 r3 hgWl UW ⊢
  have bz3 := bz2.trans (b3.mono bz2.size)
  have HG3 := hideT hg3
  have hg3l : w.heap.size ≤ g3 := by rw [hg3]; exact bz2.size
  clear hg3
  go_wp2_with fail
  refine (HID.out _ _ r3).mono ?_
  rintro e w4 ⟨v4, rfl, ⟨vs4, F4⟩, b4⟩
  obtain ⟨a4, c4, rfl⟩ := F4.shape
  have hU4 := F4.under
  rw [← HNL.out] at F4 hU4 ⊢
  obtain ⟨X4, hX4⟩ : ∃ x, x = w4.alloc (Obj.cells #[.int .i64 C, .int .i64 P, .string S, .slice a4 nL c4, .int .i64 A] 38) := ⟨_, rfl⟩
  obtain ⟨gG, hgG⟩ : ∃ g, g = w4.heap.size := ⟨_, rfl⟩
  rw [← hgG] at hU4
  have kG : Blk X4 gG 38 [.int .i64 C, .int .i64 P, .string S, .slice a4 nL c4, .int .i64 A] := by rw [hX4, hgG]; exact Blk.new _ _ _
  have bX4 : Below w4.heap.size w4 X4 := by rw [hX4]; exact below_newT _ _
  have b3X : Below w3.heap.size w3 X4 := b4.trans (bX4.mono b4.size)
  have b2X : Below X2.heap.size X2 X4 := b3.trans (b3X.mono b3.size)
  have FG := F4.below bX4
  have FWX := FW.below b2X
  have kWX := kW.below b2X kW.lt
  have own3X := own3.below b3X
  have hlo4 : w3.heap.size ≤ gG := by rw [hgG]; exact b4.size
  have hgGw : gW < w3.heap.size := Nat.lt_of_lt_of_le kW.lt b3.size
  have bz4 := bz2.trans (b2X.mono bz2.size)
  have HX4 := hideT hX4
  have HGG := hideT hgG
  obtain ⟨lo4, hlo4e⟩ : ∃ l, l = w3.heap.size := ⟨_, rfl⟩
  rw [← hlo4e] at FG hg3w hlo4 hgGw
  have hl4X : lo4 ≤ X4.heap.size := by rw [hlo4e]; exact b3X.size
  clear hX4 hgG r3 b3 b4 F4 bX4 FW kW own3 bz3 b3X hlo4e
  go_upto_region 6 with fail
  rw [← show X4 = _ from HX4, ← show gG = _ from HGG]
  clear HX4 HGG
  go_wp2_with (first
    | (refine load_blk rfl 38 (.tmp 5) rfl gG rfl kG Tryd.underlying38 rfl (by kernel_rfl) ?_)
    | (refine load_blk rfl 38 (.tmp 3) rfl gW rfl kWX Tryd.underlying38 rfl (by kernel_rfl) ?_))
  refine (HED.out _ _ _ _ _ ⟨_, FG⟩ ⟨_, FWX⟩).mono ?_
  rintro e w5 ⟨rfl, b5⟩
  have bz5 := bz4.trans (b5.mono bz4.size)
  have b25 := b2X.trans (b5.mono b2X.size)
  have FG5 := FG.below b5
  have FW5 := FWX.below b5
  have kG5 := kG.below b5 kG.lt
  have kW5 := kWX.below b5 kWX.lt
  have own5 := own3X.below b5
  clear FG FWX kG kWX own3X b5 bz4 b2X
  go_wp2_with fail
  refine (HTB.out _ (hr.below bz5)).mono ?_
  rintro e w6 ⟨rfl, own6, b6⟩
  obtain ⟨a6, q6, e6, r6, -⟩ := own6.shape
  simp only [Value.slice.injEq] at e6
  obtain ⟨rfl, -, -⟩ := e6
  have own6x := own5.below b6
  obtain ⟨a7, q7, e7, r7, -⟩ := own6x.shape
  simp only [Value.slice.injEq] at e7
  obtain ⟨rfl, -, -⟩ := e7
  go_wp2_with fail
  refine (HEB.out _ _ _ r7 r6).mono ?_
  rintro e w7 ⟨rfl, m7, hw7⟩
  have b67 : Below w5.heap.size w5 w7 := b6.trans ((show Below w6.heap.size w6 w7 from by rw [hw7]; exact below_drewN _ _).mono b6.size)
  have bz7 := bz5.trans (b67.mono bz5.size)
  have b27 := b25.trans (b67.mono b25.size)
  have FG7 := FG5.below b67
  have FW7 := FW5.below b67
  have kG7 := kG5.below b67 kG5.lt
  have kW7 := kW5.below b67 kW5.lt
  have own7 := own5.below b67
  clear FG5 FW5 kG5 kW5 own5 own6 own6x r6 r7 b6 b67 bz5 b25 hw7
  go_wp2_with fail
  refine (HMB.out _ _ _ own7).mono ?_
  rintro e w8 ⟨rfl, own8, g8⟩
  have g8' : w7.grownBy w8 (some g3) := g8
  have FW8 := FW7.keepU g8' UW (Nat.le_refl _)
  have FG8 := FG7.keep g8' hg3w
  have kG8 := kG7.grown g8' (by intro e; cases e; omega)
  have kW8 := kW7.grown g8' (by intro e; cases e; omega)
  have bz8 := bz7.grown g8' bz7.size (fun g hg => by cases hg; exact hg3l)
  have s78 := g8'.size
  clear g8 g8' own7 own8 FW7 FG7 kG7 kW7 bz7 b27
  have p0 := kG8.cell 0 (by simp)
  have p1 := kG8.cell 1 (by simp)
  have p2 := kG8.cell 2 (by simp)
  have p3 := kG8.cell 3 (by simp)
  have p4 := kG8.cell 4 (by simp)
  have t0 := kW8.cell 0 (by simp)
  have t1 := kW8.cell 1 (by simp)
  have t2 := kW8.cell 2 (by simp)
  have t3 := kW8.cell 3 (by simp)
  have t4 := kW8.cell 4 (by simp)
  go_wp2_with fail
  refine (HED.out _ _ _ _ _ ⟨_, FG8⟩ ⟨_, FW8⟩).mono ?_
  rintro e w9 ⟨rfl, b9⟩
  have bz9 := bz8.trans (b9.mono bz8.size)
  have FG9 := FG8.below b9
  have FW9 := FW8.below b9
  have kG9 := kG8.below b9 kG8.lt
  have kW9 := kW8.below b9 kW8.lt
  have hlo9 : lo4 ≤ w9.heap.size := by have := kG9.lt; omega
  clear FG8 FW8 kG8 kW8 b9 bz8 p0 p1 p2 p3 p4 t0 t1 t2 t3 t4
  go_wp2_with (refine load_blk rfl 38 (.tmp 5) rfl gG rfl kG9 Tryd.underlying38 rfl (by kernel_rfl) ?_)
  refine (HMD.out _ _ _ _ FG9 hlo9 gG ⟨hU4.v, fun i hi => hU4.vs i (by rw [HNL.out]; exact hi)⟩).mono ?_
  rintro e w10 ⟨rfl, FG10, b10, kp10⟩
  have kG10 := kp10.blk kG9 (Nat.le_refl _)
  have bz10 := bz9.trans (b10.mono (by have := bz2.size; omega))
  have kW10 := kW9.below b10 hgGw
  have FW10 := FW9.belowU b10 UW (by omega)
  clear kp10 FG9 FW9 kG9 kW9 bz9
  go_wp2_with (refine load_blk rfl 38 (.tmp 5) rfl gG rfl kG10 Tryd.underlying38 rfl (by kernel_rfl) ?_)
  refine (HHD.out _ _ _ _ FG10).mono ?_
  rintro e w11 ⟨rfl, b11⟩
  have bz11 := bz10.trans (b11.mono bz10.size)
  have FG11 := FG10.below b11
  have FW11 := FW10.below b11
  have kG11 := kG10.below b11 kG10.lt
  have kW11 := kW10.below b11 kW10.lt
  clear FG10 FW10 kG10 kW10 b11 bz10 b10
  go_wp2_with fail
  refine (HTB.out _ (hr.below bz11)).mono ?_
  rintro e w12 ⟨rfl, own12, b12⟩
  obtain ⟨a12, q12, e12, r12, -⟩ := own12.shape
  simp only [Value.slice.injEq] at e12
  obtain ⟨rfl, -, -⟩ := e12
  go_wp2_with fail
  refine (HID.out _ _ r12).mono ?_
  rintro e w13 ⟨v13, rfl, ⟨vs13, F13⟩, b13⟩
  obtain ⟨a13, c13, rfl⟩ := F13.shape
  rw [← HNL.out] at F13 ⊢
  obtain ⟨X13, hX13⟩ : ∃ x, x = w13.alloc (Obj.cells #[.int .i64 C, .int .i64 P, .string S, .slice a13 nL c13, .int .i64 A] 38) := ⟨_, rfl⟩
  obtain ⟨gH, hgH⟩ : ∃ g, g = w13.heap.size := ⟨_, rfl⟩
  have kH : Blk X13 gH 38 [.int .i64 C, .int .i64 P, .string S, .slice a13 nL c13, .int .i64 A] := by rw [hX13, hgH]; exact Blk.new _ _ _
  have bX13 : Below w13.heap.size w13 X13 := by rw [hX13]; exact below_newT _ _
  have b1113 : Below w11.heap.size w11 X13 := (b12.trans (b13.mono b12.size)).trans (bX13.mono (Nat.le_trans b12.size b13.size))
  have FH := F13.below bX13
  have FG13 := FG11.below b1113
  have FW13 := FW11.below b1113
  have kG13 := kG11.below b1113 kG11.lt
  have kW13 := kW11.below b1113 kW11.lt
  have bz13 := bz11.trans (b1113.mono bz11.size)
  have HX13 := hideT hX13
  have HGH := hideT hgH
  clear hX13 hgH own12 r12 b12 b13 F13 bX13 FG11 FW11 kG11 kW11 bz11 b1113
  go_upto_region 23 with fail
  rw [← show X13 = _ from HX13, ← show gH = _ from HGH]
  clear HX13 HGH
  go_wp2_with (first
    | (refine load_blk rfl 38 (.tmp 9) rfl gH rfl kH Tryd.underlying38 rfl (by kernel_rfl) ?_)
    | (refine load_blk rfl 38 (.tmp 3) rfl gW rfl kW13 Tryd.underlying38 rfl (by kernel_rfl) ?_))
  refine (HED.out _ _ _ _ _ ⟨_, FH⟩ ⟨_, FW13⟩).mono ?_
  rintro e w14 ⟨rfl, b14⟩
  have bz14 := bz13.trans (b14.mono bz13.size)
  have FG14 := FG13.below b14
  have kG14 := kG13.below b14 kG13.lt
  clear FH FW13 FG13 kG13 kW13 kH b14 bz13
  go_wp2_with (refine load_blk rfl 38 (.tmp 5) rfl gG rfl kG14 Tryd.underlying38 rfl (by kernel_rfl) ?_)
  refine (HHD.out _ _ _ _ FG14).mono ?_
  rintro e w15 ⟨rfl, b15⟩
  have bz15 := bz14.trans (b15.mono bz14.size)
  clear FG14 kG14 b15 bz14
  go_wp2_with fail
  go_ret
  exact ⟨rfl, bz15⟩
set_option maxHeartbeats 1000000 in
theorem lawDecode (ao : Option Addr) (cap : Nat) (bs : List UInt8) (w : World) (_hn : bs.length ≤ maxLen) (hr : RowAt w ao bs) :
    Calls Tryd.prog 4 #[.slice ao bs.length cap] w fun e w' => e = .returned (.bool true) ∧ Below w.heap.size w w' := by
  by_cases h : bs.length ≤ 1048576
  · exact lawDecode_main ao cap bs w h hr
  · have hnI : (1048576 : Int) < (bs.length : Int) := by omega
    clear hr
    go_enter Tryd.func4, Tryd.ntmps4
    go_wp2_with fail
    go_ret
    exact ⟨rfl, Below.refl _ _⟩
end Go.Proofs.YtacgbajcdngokaaDoor
