/-
  spec.Encode.
-/
import Derived.Test.YtacgbajcdngokaaGreatDoorIsoApp
namespace Go.Proofs.YtacgbajcdngokaaGreatDoor
open Go.RowKit

def okE (s : ByteArray) (L : List (Int × List UInt8)) : Bool := decide (s.size = 4) && digs s && (decide (L.length ≤ 20) && okL L)
/-- How many bits the maps have. -/
def nbE (L : List (Int × List UInt8)) : Nat := if 64 < bef L L.length then 128 else 64
/-- The maps' bits behind the first i fields. -/
def bitsE (L : List (Int × List UInt8)) : Nat → List UInt8
  | 0 => if 64 < bef L L.length then (List.replicate 128 0).set 0 1 else List.replicate 64 0
  | i + 1 => (bitsE L i).set ((L.getD i (0, [])).1.toNat - 1) 1
/-- The first i fields, written. -/
def restE (L : List (Int × List UInt8)) : Nat → List UInt8
  | 0 => []
  | i + 1 => restE L i ++ (padL (kpD (L.getD i (0, [])).1.toNat) (L.getD i (0, [])).2.length ++ (L.getD i (0, [])).2)
def encL (s : ByteArray) (L : List (Int × List UInt8)) : List UInt8 := if okE s L = true then s.data.toList ++ unbitsL (bitsE L L.length) ++ restE L L.length else []
theorem bitsE_length (L : List (Int × List UInt8)) : ∀ i, (bitsE L i).length = nbE L
  | 0 => by unfold bitsE nbE; split <;> simp
  | i + 1 => by show ((bitsE L i).set _ _).length = _; rw [List.length_set, bitsE_length L i]
theorem okL_at {L : List (Int × List UInt8)} (h : okL L = true) (i : Nat) (hi : i < L.length) : bef L i < (L.getD i (0, [])).1 ∧ 0 ≤ (L.getD i (0, [])).1 ∧ (L.getD i (0, [])).1.toNat ∈ tabNos ∧ fitsN (kpL (L.getD i (0, [])).1.toNat) (kpM (L.getD i (0, [])).1.toNat) (kpOk (L.getD i (0, [])).1.toNat) (L.getD i (0, [])).2 = true := by
  unfold okL at h
  rw [List.all_eq_true] at h
  have h1 := h i (List.mem_range.2 hi)
  unfold okF fitZ inZ at h1
  rw [Bool.and_eq_true, Bool.and_eq_true, Bool.and_eq_true, decide_eq_true_eq, decide_eq_true_eq, decide_eq_true_eq] at h1
  exact ⟨h1.1, h1.2.1.1, h1.2.1.2, h1.2.2⟩
theorem tab_le (n : Nat) (h : n ∈ tabNos) : 2 ≤ n ∧ n ≤ 128 := by
  simp only [tabNos, List.mem_cons, List.not_mem_nil, or_false] at h
  omega
/-- The numbers grow: each is at most the last. -/
theorem bef_last {L : List (Int × List UInt8)} (h : okL L = true) : ∀ k i, i < L.length → L.length = i + 1 + k → (L.getD i (0, [])).1 ≤ bef L L.length
  | 0, i, hi, e => by rw [e]; exact Int.le_refl _
  | k + 1, i, hi, e => by
    have h1 := (okL_at h (i + 1) (by omega)).1
    have h2 := bef_last h k (i + 1) (by omega) (by omega)
    show (L.getD i (0, [])).1 ≤ _
    have h3 : bef L (i + 1) = (L.getD i (0, [])).1 := rfl
    omega
theorem no_nb {L : List (Int × List UInt8)} (h : okL L = true) (i : Nat) (hi : i < L.length) : (L.getD i (0, [])).1.toNat - 1 < nbE L := by
  obtain ⟨h1, h2, h3, -⟩ := okL_at h i hi
  have h4 := tab_le _ h3
  have h5 := bef_last h (L.length - i - 1) i hi (by omega)
  unfold nbE
  split <;> omega
theorem OwnT.low {w : World} {base : Nat} {v : Value} {l : List UInt8} (h : OwnT w base v l) : ∀ j, v.ownBlock = some j → base ≤ j ∧ j < w.heap.size := by
  obtain ⟨g, cap, cur, fz, rfl, hb, hg, -⟩ := h
  intro j hj
  simp only [Value.ownBlock, Option.some.injEq] at hj
  subst hj
  exact ⟨hb, lt_of_block hg⟩
theorem OwnT.mono {w : World} {B base : Nat} {v : Value} {l : List UInt8} (h : OwnT w base v l) (hB : B ≤ base) : OwnT w B v l := by
  obtain ⟨g, cap, cur, fz, rfl, hb, hr⟩ := h
  exact ⟨g, cap, cur, fz, rfl, by omega, hr⟩
theorem below_step {a b c : World} (h : Below a.heap.size a b) (h2 : Below b.heap.size b c) : Below a.heap.size a c := h.trans (h2.mono h.size)
theorem row_of_blk0 {w : World} {g : Nat} {l : List UInt8} (h : Blk w g 5 (l.map byte)) : RowAt w (some ⟨g, 0, none⟩) l := by
  refine .inr ⟨g, 0, rfl, fun i hi => ?_⟩
  rw [Nat.zero_add, h.cell i (by simpa using hi)]
  simp [byte, hi]
theorem kind_pad : ∀ n ∈ tabNos, (n = 2 ∧ kindOf (n : Int) = (4, 2) ∧ kpD n = 2) ∨ (n = 48 ∧ kindOf (n : Int) = (5, 3) ∧ kpD n = 3) ∨ ((kindOf (n : Int)).1 ≠ 4 ∧ (kindOf (n : Int)).1 ≠ 5 ∧ kpD n = 0) := by decide
theorem kpD_le (n : Nat) : kpD n ≤ 3 := by
  unfold kpD
  split
  · omega
  · split <;> omega
theorem getD_le {L : List (Int × List UInt8)} (hsz : ∀ p ∈ L, p.2.length ≤ 1048576) (i : Nat) : (L.getD i (0, [])).2.length ≤ 1048576 := by
  by_cases h : i < L.length
  · rw [List.getD_eq_getElem?_getD, List.getElem?_eq_getElem h]; exact hsz _ (List.getElem_mem h)
  · rw [List.getD_eq_getElem?_getD, List.getElem?_eq_none (by omega)]; exact Nat.zero_le _
theorem restE_le {L : List (Int × List UInt8)} (hsz : ∀ p ∈ L, p.2.length ≤ 1048576) : ∀ i, (restE L i).length ≤ i * 1048579
  | 0 => Nat.le_refl _
  | i + 1 => by
    show (restE L i ++ (padL _ _ ++ _)).length ≤ _
    rw [List.length_append, List.length_append, padL_length]
    have h1 := restE_le hsz i
    have h2 := getD_le hsz i
    have h3 := kpD_le (L.getD i (0, [])).1.toNat
    omega
theorem bitsE_bits (L : List (Int × List UInt8)) : ∀ i, isBits (bitsE L i)
  | 0 => by
    unfold bitsE
    split
    · intro b hb
      rcases List.mem_or_eq_of_mem_set hb with h | rfl
      · rw [List.eq_of_mem_replicate h]; decide
      · decide
    · intro b hb; rw [List.eq_of_mem_replicate hb]; decide
  | i + 1 => by
    intro b hb
    rcases List.mem_or_eq_of_mem_set hb with h | rfl
    · exact bitsE_bits L i b h
    · decide
set_option maxRecDepth 100000 in
set_option maxHeartbeats 40000000 in
theorem encodeS_any (s : ByteArray) (L : List (Int × List UInt8)) (hs : s.size ≤ maxLen) (hsz : ∀ p ∈ L, p.2.length ≤ 1048576) (hL : L.length ≤ 1048576) (v : Value) (w : World) (F : Fr w v L) :
    Calls Tryz.prog 24 #[.agg #[.string s, v]] w fun e w' => ∃ ao c, e = .returned (.slice ao (encL s L).length c) ∧ RowAt w' ao (encL s L) ∧ Below w.heap.size w w' ∧ (encL s L = [] ∨ OwnT w' w.heap.size (.slice ao (encL s L).length c) (encL s L)) := by
  obtain ⟨i0, hi, hz0, hz1, hz2⟩ := info_parts Tryz.infoB8
  obtain ⟨x1, c1, rfl⟩ := F.sh
  obtain ⟨n, hn⟩ : ∃ n, n = L.length := ⟨_, rfl⟩
  have HN := hideT hn
  have HG := hideT (fun (wx : World) (h : Fr wx (.slice x1 L.length c1) L) => l6Good_any s L hs hsz hL (.slice x1 L.length c1) wx h)
  have F' := F
  rw [← hn] at HG F' ⊢
  have HF := hideT F'
  obtain ⟨W, hW⟩ : ∃ y, y = w.alloc (Obj.cells #[.string s, .slice x1 n c1] 25) := ⟨_, rfl⟩
  have kM : Blk W w.heap.size 25 [.string s, .slice x1 n c1] := by rw [hW]; exact Blk.new _ _ _
  have bW : Below w.heap.size w W := by rw [hW]; exact below_newT _ _
  have FW := F'.below bW
  have HW := hideT hW
  have HOE : Hid (okE s L = (decide (s.size = 4) && digs s && (decide (n ≤ 20) && okL L))) := by rw [hn]; exact (rfl : okE s L = okE s L)
  cases hok : okE s L
  · have HE : Hid (encL s L = []) := by show _ = _; unfold encL; rw [hok]; rfl
    rw [← show okE s L = _ from HOE, hok] at HG
    clear hn hW F F' hok HOE
    go_enter Tryz.func24, Tryz.ntmps24
    go_upto_region 1 with fail
    rw [← show W = _ from HW]
    go_wp2_with (refine load_blk rfl 25 _ rfl w.heap.size rfl kM Tryz.underlying25 rfl (by kernel_rfl) ?_)
    refine (HG.out _ FW).mono ?_
    rintro e w2 ⟨rfl, b2⟩
    go_wp2_with fail
    go_ret
    exact ⟨none, 0, by rw [HE.out]; rfl, .inl HE.out, bW.trans (b2.mono bW.size), .inl HE.out⟩
  · have HE : Hid (encL s L = s.data.toList ++ unbitsL (bitsE L n) ++ restE L n) := by show _ = _; unfold encL; rw [if_pos hok, hn]
    have hok2 := hok
    rw [show okE s L = _ from HOE] at hok2
    rw [hok2] at HG
    rw [Bool.and_eq_true, Bool.and_eq_true, Bool.and_eq_true, decide_eq_true_eq, decide_eq_true_eq] at hok2
    obtain ⟨⟨hs4, -⟩, h20, hokL⟩ := hok2
    have HOK := hideT hokL
    have hnb : nbE L = 64 ∨ nbE L = 128 := by unfold nbE; split <;> omega
    have HNB := hideT (no_nb hokL)
    have HB0 : Hid (bitsE L 0 = if 64 < bef L n then (List.replicate 128 0).set 0 1 else List.replicate 64 0) := by rw [hn]; exact (rfl : bitsE L 0 = bitsE L 0)
    have HNE : Hid (nbE L = if 64 < bef L n then 128 else 64) := by rw [hn]; exact (rfl : nbE L = nbE L)
    have HLA : Hid (0 < n → bef L n = (L.getD (n - 1) (0, [])).1) := by
      intro h
      have : n = n - 1 + 1 := by omega
      rw [this]
      rfl
    clear hn hW F F' hok HOE hokL
    go_enter Tryz.func24, Tryz.ntmps24
    go_upto_region 1 with fail
    rw [← show W = _ from HW]
    go_wp2_with (refine load_blk rfl 25 _ rfl w.heap.size rfl kM Tryz.underlying25 rfl (by kernel_rfl) ?_)
    refine (HG.out _ FW).mono ?_
    rintro e w2 ⟨rfl, b2⟩
    have FW2 := FW.below b2
    have kM2 := kM.below b2 kM.lt
    have bw2 := bW.trans (b2.mono bW.size)
    clear HW FW kM b2 HG
    have m0 := kM2.cell 0 (by simp)
    have m1 := kM2.cell 1 (by simp)
    go_upto_region 4 with (at_make; refine wpList_make_full _ rfl _ _ 22 rfl w2.heap.size 5 i0 (.int .u8 0) 1 Tryz.underlying22 hi hz0 hz1 .i64 .i64 _ _ 64 rfl rfl rfl rfl (by rw [hz2]; omega) (by unfold maxLen; omega) (Nat.le_refl _) ?_; intro w3 own3 gr3)
    have b3 := below_of_grown gr3
    rw [made_zero] at own3
    have kB3 := own_blk own3
    have e64 : List.replicate 64 (Value.int .u8 0) = (List.replicate 64 (0 : UInt8)).map byte := by rw [List.map_replicate]; rfl
    rw [e64] at kB3
    have kM3 := kM2.below b3 kM2.lt
    have FW3 := FW2.below b3
    have bw3 := bw2.trans (b3.mono bw2.size)
    obtain ⟨g3, hg3⟩ : ∃ g, g = w2.heap.size := ⟨_, rfl⟩
    rw [← hg3] at kB3 ⊢
    have hgw : w.heap.size < g3 := by rw [hg3]; exact kM2.lt
    have HG3 := hideT hg3
    clear own3 gr3 e64 kM2 FW2 bw2 b3 m0 m1 hg3
    have m0 := kM3.cell 0 (by simp)
    have m1 := kM3.cell 1 (by simp)
    go_cut [28] (fun t wx => t = .bool (decide (64 < bef L n)) ∧ wx = w3)
    case first =>
      by_cases hn0 : 0 < n
      · have hn0I : (0 : Int) < (n : Int) := by omega
        obtain ⟨g, o, cc, ai, ci, ev, p1, -, -⟩ := FW3.at_ (n - 1) (by rw [← HN.out]; omega)
        simp only [Value.slice.injEq] at ev
        obtain ⟨rfl, -, rfl⟩ := ev
        have hla := HLA.out hn0
        rw [← hla] at p1
        have hwn : IntKind.i64.wrap ((n : Int) - 1) = ((n - 1 : Nat) : Int) := by rw [IntKind.wrap_i64]; omega
        obtain ⟨la, hlae⟩ : ∃ q, q = bef L n := ⟨_, rfl⟩
        have HLE := hideT hlae
        rw [← hlae] at p1
        obtain ⟨n1, hn1⟩ : ∃ q, q = n - 1 := ⟨_, rfl⟩
        rw [← hn1] at p1 hwn
        have hn1I : (n1 : Int) < (n : Int) := by omega
        clear hla hlae hn1
        by_cases h64 : 64 < la
        · have h64I : (64 : Int) < la := h64
          go_wp2_with fail
          go_meet
          case rel => exact ⟨by rw [← HLE.out, decide_eq_true h64], rfl⟩
        · have h64I : ¬ (64 : Int) < la := h64
          go_wp2_with fail
          go_meet
          case rel => exact ⟨by rw [← HLE.out, decide_eq_false (by omega)], rfl⟩
      · have hn0I : ¬ (0 : Int) < (n : Int) := by omega
        obtain rfl : n = 0 := by omega
        go_wp2_with fail
        go_meet
        case rel => exact ⟨rfl, rfl⟩
    case rest =>
      obtain ⟨rfl, hwc⟩ := hcut
      have hwc2 := hwc.symm
      subst hwc2
      clear hwc
      obtain ⟨lb, hlb⟩ : ∃ q, q = decide (64 < bef L n) := ⟨_, rfl⟩
      rw [← hlb]
      have HLB := hideT hlb
      clear hlb
      go_upto_if 28 with fail
      go_cut [3] (fun bv wx => ∃ gB, bv = .slice (some ⟨gB, 0, none⟩) (nbE L) (nbE L) ∧ w.heap.size < gB ∧ Blk wx gB 5 ((bitsE L 0).map byte) ∧ Below w3.heap.size w3 wx)
      case first =>
        cases lb
        · have h64 : ¬ 64 < bef L n := of_decide_eq_false HLB.out.symm
          rw [if_neg h64] at HB0 HNE
          go_wp2_with fail
          go_meet
          case rel => exact ⟨g3, by rw [HNE.out], hgw, by rw [HB0.out]; exact kB3, Below.refl _ _⟩
        · have h64 : 64 < bef L n := of_decide_eq_true HLB.out.symm
          rw [if_pos h64] at HB0 HNE
          clear h64
          go_upto_region 6 with (at_make; refine wpList_make_full _ rfl _ _ 22 rfl w3.heap.size 5 i0 (.int .u8 0) 1 Tryz.underlying22 hi hz0 hz1 .i64 .i64 _ _ 128 rfl rfl rfl rfl (by rw [hz2]; omega) (by unfold maxLen; omega) (Nat.le_refl _) ?_; intro w4 own4 gr4)
          have b4 := below_of_grown gr4
          rw [made_zero] at own4
          have kB4 := own_blk own4
          have e128 : List.replicate 128 (Value.int .u8 0) = (List.replicate 128 (0 : UInt8)).map byte := by rw [List.map_replicate]; rfl
          rw [e128] at kB4
          have HG4 : Hid (∃ g, g = w3.heap.size) := ⟨_, rfl⟩
          obtain ⟨g4, hg4⟩ := HG4.out
          rw [← hg4] at kB4 ⊢
          have hg4l : w.heap.size < g4 := by rw [hg4]; exact kM3.lt
          obtain ⟨u0, hu0⟩ : ∃ u, w4.cell? ⟨g4, 0, none⟩ = some u := ⟨_, kB4.cell 0 (by simp)⟩
          have f0 := kB4.free 0
          have kB5 := kB4.set 0 (byte 1)
          have b5 := b4.setCell (p := ⟨g4, 0, none⟩) (by rw [hg4]; exact Nat.le_refl _) (byte 1)
          have HB5 : Hid (Blk (w4.setCell ⟨g4, 0, none⟩ (byte 1)) g4 5 (((List.replicate 128 (0 : UInt8)).set 0 1).map byte)) := by rw [List.map_set]; exact kB5
          clear own4 gr4 e128 hg4 kB4 kB5 HG4
          go_wp2_with fail
          go_meet
          case rel => exact ⟨g4, by rw [HNE.out], hg4l, by rw [HB0.out]; exact HB5.out, b5⟩
      case rest =>
        obtain ⟨gB, rfl, hgB, kB, b5⟩ := hcut
        have kM5 := kM3.below b5 kM3.lt
        have bw5 := bw3.trans (b5.mono bw3.size)
        have hgBl := kB.lt
        have HRL := hideT (restE_le hsz)
        have HSZ := hideT (getD_le hsz)
        have HNBI := HNB
        have HOL := hideT (fun i hi => okL_at HOK.out i hi)
        have HBB := hideT (bitsE_bits L)
        obtain ⟨B, hB⟩ : ∃ q, q = wc.heap.size := ⟨_, rfl⟩
        have hBw : w.heap.size < B := by rw [hB]; exact kM5.lt
        have hBg : gB < B := by rw [hB]; exact hgBl
        have hBc : B ≤ wc.heap.size := by rw [hB]; exact Nat.le_refl _
        obtain ⟨NB, hNBe⟩ : ∃ q, q = nbE L := ⟨_, rfl⟩
        rw [← hNBe] at HNBI ⊢
        have HNBE := hideT hNBe
        have HBL := hideT (bitsE_length L)
        rw [← hNBe] at HBL hnb
        have HS4 := hideT hs4
        clear hs4 hB hgBl kM3 bw3 b5 HNE HB0 HLA HLB kB3 hgw HG3 m0 m1 FW3 hNBe HNB hsz hs
        have m1 := kM5.cell 1 (by simp)
        go_wp2_with fail
        go_loopw [4, 35] (fun rv i wr => ∃ (k : Nat) (r : Value), k ≤ n ∧ i = .int .i64 (k : Int) ∧ rv = r ∧ OwnB wr B r (restE L k) ∧ Blk wr gB 5 ((bitsE L k).map byte) ∧ Blk wr w.heap.size 25 [.string s, .slice x1 n c1] ∧ Below w.heap.size w wr ∧ B ≤ wr.heap.size) (fun _ i _ => n - (intOf i).toNat)
        case atStart => exact ⟨0, _, Nat.zero_le _, rfl, rfl, World.ownsRow_nil _ _ _ _, kB, kM5, bw5, hBc⟩
        case round =>
          clear kB kM5 bw5 hBc m1
          obtain ⟨k, r, hk, rfl, hre, own, kBr, kMr, hbx, hBr⟩ := hrel
          have hre2 := hre.symm
          subst hre2
          clear hre
          by_cases hlt : k < n
          · have hltI : (k : Int) < (n : Int) := by omega
            have hkL : k < L.length := by rw [← HN.out]; exact hlt
            obtain ⟨g, o, cc, ai, ci, ev, p1w, p2w, r0⟩ := HF.out.at_ k hkL
            simp only [Value.slice.injEq] at ev
            obtain ⟨rfl, -, rfl⟩ := ev
            have hlw := World.block_lt_of_cell? w _ p1w
            have p1 := (hbx.cell (p := ⟨g, o + k * 2, none⟩) hlw).trans p1w
            have p2 := (hbx.cell (p := ⟨g, o + k * 2 + 1, none⟩) hlw).trans p2w
            have hdl := HSZ.out k
            have hok := HOL.out k hkL
            have hqn := HNBI.out k hkL
            have HB1 : Hid (bitsE L (k + 1) = (bitsE L k).set ((L.getD k (0, [])).1.toNat - 1) 1) := rfl
            have HRR : Hid (restE L (k + 1) = restE L k ++ (padL (kpD (L.getD k (0, [])).1.toNat) (L.getD k (0, [])).2.length ++ (L.getD k (0, [])).2)) := rfl
            have hRl := HRL.out k
            have hbl := HBL.out k
            clear p1w p2w
            obtain ⟨no, hno⟩ : ∃ m : Nat, m = (L.getD k (0, [])).1.toNat := ⟨_, rfl⟩
            have hnoI : (L.getD k (0, [])).1 = (no : Int) := by rw [hno]; omega
            rw [← hno] at hok hqn HB1 HRR
            rw [hnoI] at p1
            obtain ⟨d, hd⟩ : ∃ m, m = (L.getD k (0, [])).2 := ⟨_, rfl⟩
            rw [← hd] at p2 r0 hdl HRR
            obtain ⟨R, hR⟩ : ∃ m, m = restE L k := ⟨_, rfl⟩
            rw [← hR] at own HRR hRl
            obtain ⟨X, hX⟩ : ∃ m, m = bitsE L k := ⟨_, rfl⟩
            rw [← hX] at kBr HB1 hbl
            have htn := hok.2.2.1
            have h2n := tab_le no htn
            obtain ⟨q, hq⟩ : ∃ q, q = no - 1 := ⟨_, rfl⟩
            rw [← hq] at hqn HB1
            have hwq : IntKind.i64.wrap ((no : Int) - 1) = (q : Int) := by rw [IntKind.wrap_i64]; omega
            have hqI : (q : Int) < (NB : Int) := by omega
            have hq0 : (0 : Int) ≤ (q : Int) := by omega
            have HK := hideT (fun (wx : World) => l6Kind_any (no : Int) wx)
            have hkp := kind_pad no htn
            clear hno hnoI hd hR hX hok hq htn h2n hlw
            obtain ⟨Y, hY⟩ : ∃ y, y = wr.alloc (Obj.cells #[.int .i64 (no : Int), .slice ai d.length ci] 44) := ⟨_, rfl⟩
            have kF : Blk Y wr.heap.size 44 [.int .i64 (no : Int), .slice ai d.length ci] := by rw [hY]; exact Blk.new _ _ _
            have bY : Below wr.heap.size wr Y := by rw [hY]; exact below_newT _ _
            have kBY := kBr.below bY kBr.lt
            have kMY := kMr.below bY kMr.lt
            have ownY := own.below bY
            have belY := hbx.trans (bY.mono hbx.size)
            have hBY := Nat.le_trans hBr bY.size
            have hrF := fun j hj => World.ownsRow.lt own j hj
            obtain ⟨gF, hgF⟩ : ∃ q, q = wr.heap.size := ⟨_, rfl⟩
            rw [← hgF] at kF hrF
            have HGF := hideT hgF
            have hgFB : B ≤ gF := by rw [hgF]; exact hBr
            have HY := hideT hY
            have HRF := hideT hrF
            clear hY hgF own kBr kMr hbx hBr bY hrF
            go_upto_region 11 with fail
            rw [← show Y = _ from HY, ← show gF = _ from HGF]
            clear HY HGF p1 p2
            have f0 := kF.cell 0 (by simp)
            obtain ⟨u0, hu0⟩ : ∃ u, Y.cell? ⟨gB, q, none⟩ = some u := ⟨_, kBY.cell q (by rw [List.length_map, hbl]; exact hqn)⟩
            have fB := kBY.free q
            obtain ⟨Z, hZ⟩ : ∃ y, y = Y.setCell ⟨gB, q, none⟩ (.int .u8 1) := ⟨_, rfl⟩
            have kBZ : Blk Z gB 5 ((X.set q 1).map byte) := by rw [hZ, List.map_set]; exact kBY.set q _
            have kMZ : Blk Z w.heap.size 25 [.string s, .slice (some ⟨g, o, none⟩) n c1] := by rw [hZ]; exact kMY.other _ _ (fun e => by have e2 : w.heap.size = gB := e; omega)
            have kFZ : Blk Z gF 44 [.int .i64 (no : Int), .slice ai d.length ci] := by rw [hZ]; exact kF.other _ _ (fun e => by have e2 : gF = gB := e; omega)
            have ownZ : OwnB Z B r R := by
              rw [hZ]
              exact World.ownsRow.kept ownY (grown_setCellT Y ⟨gB, q, none⟩ (.int .u8 1)) (by
                cases hv : r.ownBlock
                · exact .inl rfl
                · refine .inr (fun e => ?_)
                  have h1 := (HRF.out _ hv).1
                  have h2 := Option.some.inj e
                  have h3 : _ = gB := h2
                  omega)
            have belZ : Below w.heap.size w Z := by rw [hZ]; exact belY.setCell (p := ⟨gB, q, none⟩) (by show w.heap.size ≤ gB; omega) _
            have hBZ : B ≤ Z.heap.size := by rw [hZ]; simpa using hBY
            have HZ := hideT hZ
            clear hZ kBY kMY ownY belY hBY hbl
            go_upto_region 12 with fail
            rw [← show Z = _ from HZ]
            have f0 := kFZ.cell 0 (by simp)
            have f1 := kFZ.cell 1 (by simp)
            have hrF := HRF.out
            clear HZ kF hu0 fB hwq hqI hq0 HRF hqn
            rcases hkp with ⟨-, hkk, hpd⟩ | ⟨-, hkk, hpd⟩ | ⟨h4, h5, hpd⟩
            · skip
              have HD := hideT (fun (wx : World) => l6Dec_any d.length 2 wx hdl (by omega))
              obtain ⟨PL, hPL⟩ : ∃ q, q = padL 2 d.length := ⟨_, rfl⟩
              have hPl : PL.length = 2 := by rw [hPL, padL_length]
              rw [← hPL] at HD
              have HR1 : Hid (restE L (k + 1) = (R ++ PL) ++ d) := by show _ = _; rw [HRR.out, hpd, hPL, List.append_assoc]
              have HPL := hideT hPl
              clear hPL hPl
              rw [hkk] at HK
              clear hkk hpd HRR
              go_wp2_with (go_at_call 42; refine (HK.out _).mono ?_; rintro e wk ⟨rfl, hwk⟩; have hwk2 := hwk.symm; subst hwk2; clear hwk)
              refine (HD.out _).mono ?_
              rintro e w8 ⟨rfl, b8⟩
              have own8 := ownZ.below b8
              have kB8 := kBZ.below b8 kBZ.lt
              have kM8 := kMZ.below b8 kMZ.lt
              have kF8 := kFZ.below b8 kFZ.lt
              have bel8 := belZ.trans (b8.mono belZ.size)
              have hb8 := Nat.le_trans hBZ b8.size
              clear b8 kBZ kMZ kFZ belZ ownZ hBZ f1 HK HD
              go_upto_region 15 with (at_builtin; refine wpList_append_text rfl _ _ rfl B _ _ PL rfl own8 rfl (by rw [HPL.out]; omega) hb8 ?_; intro v9 w9 own9 gr9)
              have kB9 := kB8.grown gr9 (fun e => by have := (World.ownsRow.lt own8 _ e.symm).1; omega)
              have kM9 := kM8.grown gr9 (fun e => by have := (World.ownsRow.lt own8 _ e.symm).1; omega)
              have kF9 := kF8.grown gr9 (fun e => by have := (hrF _ e.symm).2; omega)
              have bel9 := bel8.grown gr9 bel8.size (fun j hj => by have := (World.ownsRow.lt own8 _ hj).1; omega)
              have hb9 := Nat.le_trans hb8 gr9.size
              have hlR : (R ++ PL).length + d.length ≤ 1073741824 := by rw [List.length_append, HPL.out]; omega
              clear gr9 kB8 kM8 kF8 bel8 hb8 own8
              have f91 := kF9.cell 1 (by simp)
              have rd9 := r0.below bel9
              have hl9 := hlR
              have HF2 : Hid (restE L (k + 1) = (R ++ PL) ++ d) := HR1
              clear HR1 r0 kF9
              go_wp2_with (at_builtin; refine wpList_append_bytes rfl _ _ rfl B _ _ d rfl own9 ai ci rfl rd9 hl9 hb9 ?_; intro v10 w10 own10 gr10)
              have kB10 := kB9.grown gr10 (fun e => by have := (World.ownsRow.lt own9 _ e.symm).1; omega)
              have kM10 := kM9.grown gr10 (fun e => by have := (World.ownsRow.lt own9 _ e.symm).1; omega)
              have b10 := bel9.grown gr10 bel9.size (fun j hj => by have := (World.ownsRow.lt own9 _ hj).1; omega)
              have hs10 := Nat.le_trans hb9 gr10.size
              clear gr10 f91 rd9 hl9 own9 kB9 kM9 bel9 hb9
              go_wp2_with fail
              go_roundw
              case rel => exact ⟨k + 1, _, by omega, by go_num, rfl, by rw [HF2.out]; exact own10, by rw [HB1.out]; exact kB10, kM10, b10, hs10⟩
              case measure => simp [intOf]; omega
            · skip
              have HD := hideT (fun (wx : World) => l6Dec_any d.length 3 wx hdl (by omega))
              obtain ⟨PL, hPL⟩ : ∃ q, q = padL 3 d.length := ⟨_, rfl⟩
              have hPl : PL.length = 3 := by rw [hPL, padL_length]
              rw [← hPL] at HD
              have HR1 : Hid (restE L (k + 1) = (R ++ PL) ++ d) := by show _ = _; rw [HRR.out, hpd, hPL, List.append_assoc]
              have HPL := hideT hPl
              clear hPL hPl
              rw [hkk] at HK
              clear hkk hpd HRR
              go_wp2_with (go_at_call 42; refine (HK.out _).mono ?_; rintro e wk ⟨rfl, hwk⟩; have hwk2 := hwk.symm; subst hwk2; clear hwk)
              refine (HD.out _).mono ?_
              rintro e w8 ⟨rfl, b8⟩
              have own8 := ownZ.below b8
              have kB8 := kBZ.below b8 kBZ.lt
              have kM8 := kMZ.below b8 kMZ.lt
              have kF8 := kFZ.below b8 kFZ.lt
              have bel8 := belZ.trans (b8.mono belZ.size)
              have hb8 := Nat.le_trans hBZ b8.size
              clear b8 kBZ kMZ kFZ belZ ownZ hBZ f1 HK HD
              go_upto_region 15 with (at_builtin; refine wpList_append_text rfl _ _ rfl B _ _ PL rfl own8 rfl (by rw [HPL.out]; omega) hb8 ?_; intro v9 w9 own9 gr9)
              have kB9 := kB8.grown gr9 (fun e => by have := (World.ownsRow.lt own8 _ e.symm).1; omega)
              have kM9 := kM8.grown gr9 (fun e => by have := (World.ownsRow.lt own8 _ e.symm).1; omega)
              have kF9 := kF8.grown gr9 (fun e => by have := (hrF _ e.symm).2; omega)
              have bel9 := bel8.grown gr9 bel8.size (fun j hj => by have := (World.ownsRow.lt own8 _ hj).1; omega)
              have hb9 := Nat.le_trans hb8 gr9.size
              have hlR : (R ++ PL).length + d.length ≤ 1073741824 := by rw [List.length_append, HPL.out]; omega
              clear gr9 kB8 kM8 kF8 bel8 hb8 own8
              have f91 := kF9.cell 1 (by simp)
              have rd9 := r0.below bel9
              have hl9 := hlR
              have HF2 : Hid (restE L (k + 1) = (R ++ PL) ++ d) := HR1
              clear HR1 r0 kF9
              go_wp2_with (at_builtin; refine wpList_append_bytes rfl _ _ rfl B _ _ d rfl own9 ai ci rfl rd9 hl9 hb9 ?_; intro v10 w10 own10 gr10)
              have kB10 := kB9.grown gr10 (fun e => by have := (World.ownsRow.lt own9 _ e.symm).1; omega)
              have kM10 := kM9.grown gr10 (fun e => by have := (World.ownsRow.lt own9 _ e.symm).1; omega)
              have b10 := bel9.grown gr10 bel9.size (fun j hj => by have := (World.ownsRow.lt own9 _ hj).1; omega)
              have hs10 := Nat.le_trans hb9 gr10.size
              clear gr10 f91 rd9 hl9 own9 kB9 kM9 bel9 hb9
              go_wp2_with fail
              go_roundw
              case rel => exact ⟨k + 1, _, by omega, by go_num, rfl, by rw [HF2.out]; exact own10, by rw [HB1.out]; exact kB10, kM10, b10, hs10⟩
              case measure => simp [intOf]; omega
            · skip
              have HR1 : Hid (restE L (k + 1) = R ++ d) := by show _ = _; rw [HRR.out, hpd]; rfl
              obtain ⟨ka, hka⟩ : ∃ q, q = (kindOf (no : Int)).1 := ⟨_, rfl⟩
              rw [← hka] at h4 h5 HK
              have h4b : (ka == 4) = false := by rw [beq_eq_false_iff_ne]; exact h4
              have h5b : (ka == 5) = false := by rw [beq_eq_false_iff_ne]; exact h5
              have hlR : R.length + d.length ≤ 1073741824 := by omega
              clear hpd HRR hka h4 h5
              go_upto_region 15 with (go_at_call 42; refine (HK.out _).mono ?_; rintro e wk ⟨rfl, hwk⟩; have hwk2 := hwk.symm; subst hwk2; clear hwk)
              clear f1 HK
              have f91 := kFZ.cell 1 (by simp)
              have rd9 := r0.below belZ
              have hl9 := hlR
              have HF2 : Hid (restE L (k + 1) = R ++ d) := HR1
              clear HR1 r0 kFZ
              go_wp2_with (at_builtin; refine wpList_append_bytes rfl _ _ rfl B _ _ d rfl ownZ ai ci rfl rd9 hl9 hBZ ?_; intro v10 w10 own10 gr10)
              have kB10 := kBZ.grown gr10 (fun e => by have := (World.ownsRow.lt ownZ _ e.symm).1; omega)
              have kM10 := kMZ.grown gr10 (fun e => by have := (World.ownsRow.lt ownZ _ e.symm).1; omega)
              have b10 := belZ.grown gr10 belZ.size (fun j hj => by have := (World.ownsRow.lt ownZ _ hj).1; omega)
              have hs10 := Nat.le_trans hBZ gr10.size
              clear gr10 f91 rd9 hl9 ownZ kBZ kMZ belZ hBZ
              go_wp2_with fail
              go_roundw
              case rel => exact ⟨k + 1, _, by omega, by go_num, rfl, by rw [HF2.out]; exact own10, by rw [HB1.out]; exact kB10, kM10, b10, hs10⟩
              case measure => simp [intOf]; omega
          · have hltI : ¬ (k : Int) < (n : Int) := by omega
            obtain rfl : k = n := by omega
            have hRl := HRL.out k
            have hbl := HBL.out k
            have HU := hideT (fun (wx : World) (h : RowAt wx (some ⟨gB, 0, none⟩) (bitsE L k)) => unbits_any (some ⟨gB, 0, none⟩) NB (bitsE L k) wx (by rw [hbl]; omega) (by rw [hbl]; omega) (HBB.out k) h)
            obtain ⟨R, hR⟩ : ∃ m, m = restE L k := ⟨_, rfl⟩
            obtain ⟨X, hX⟩ : ∃ m, m = bitsE L k := ⟨_, rfl⟩
            rw [← hR] at own hRl HE
            rw [← hX] at kBr HE HU hbl
            rw [← hbl] at HU hnb ⊢
            have hUl : (unbitsL X).length ≤ 16 := by unfold unbitsL; rw [cellsU_length]; omega
            obtain ⟨U, hU⟩ : ∃ m, m = unbitsL X := ⟨_, rfl⟩
            rw [← hU] at HU HE hUl
            have hsl : s.data.toList.length = 4 := by rw [Array.length_toList]; exact HS4.out
            have hlU : s.data.toList.length + U.length ≤ 1073741824 := by omega
            have hlR : (s.data.toList ++ U).length + R.length ≤ 1073741824 := by rw [List.length_append]; omega
            have rX0 := row_of_blk0 kBr
            clear hR hX hU hRl hbl hnb hsl hUl
            go_upto_region 17 with fail
            obtain ⟨V, hV⟩ : ∃ V, V = World.drew wr := ⟨_, rfl⟩
            have b_0 : Below V.heap.size V V := Below.refl _ _
            have bV : Below wr.heap.size wr V := by rw [hV]; exact (Below.refl _ _).drew
            have belV := hbx.trans (bV.mono hbx.size)
            have kMV := kMr.below bV kMr.lt
            have rX := rX0.below bV
            have ownV := own.below bV
            obtain ⟨ar, cr, rfl, rR, hRlow, -⟩ := ownV.own.shape
            have keep : Hid (∀ {x}, Below V.heap.size V x → Blk x w.heap.size 25 [.string s, .slice x1 k c1]) := fun h => kMV.below h kMV.lt
            refine wp_region_held_drew (S := fun x => Blk x w.heap.size 25 [.string s, .slice x1 k c1]) (by kernel_rfl) (by rw [← hV]; exact kMV) (fun hHeld => ?_)
            rw [← hV] at hHeld ⊢
            clear hV bV kMr own rX0 ownV
            refine wpAnyH_take (i := 0) (v := (.pointer (some ⟨w.heap.size, 0, none⟩))) rfl (by kernel_rfl) (by kernel_rfl) (by kernel_rfl) (fun _ _ _ h => h) (Or.inl ⟨by rfl, ?_⟩) hHeld ?_
            · intro _ _; go_simp
            dsimp only [Act.put, List.getElem_toArray, List.getElem_cons_zero, List.getElem_cons_succ]
            simp only [List.setIfInBounds_toArray, List.set_cons_succ, List.set_cons_zero]
            refine wpAnyH_take (i := 1) (v := (.string s)) rfl (by kernel_rfl) (by kernel_rfl) (by kernel_rfl) (fun _ _ _ h => h) (Or.inl ⟨by rfl, fun w1 h => by have hc : w1.cell? ⟨w.heap.size, 0, none⟩ = some (.string s) := h.cell 0 (by simp); go_simp⟩) hHeld ?_
            dsimp only [Act.put, List.getElem_toArray, List.getElem_cons_zero, List.getElem_cons_succ]
            simp only [List.setIfInBounds_toArray, List.set_cons_succ, List.set_cons_zero]
            refine wpAnyH_take (i := 3) (v := (.slice (some ⟨gB, 0, none⟩) X.length X.length)) rfl (by kernel_rfl) (by kernel_rfl) (by kernel_rfl) (fun _ _ _ h => h) (Or.inl ⟨by rfl, ?_⟩) hHeld ?_
            · intro _ _; go_simp
            dsimp only [Act.put, List.getElem_toArray, List.getElem_cons_zero, List.getElem_cons_succ]
            simp only [List.setIfInBounds_toArray, List.set_cons_succ, List.set_cons_zero]
            refine wpAnyH_take (i := 6) (v := (.slice ar R.length cr)) rfl (by kernel_rfl) (by kernel_rfl) (by kernel_rfl) (fun _ _ _ h => h) (Or.inl ⟨by rfl, ?_⟩) hHeld ?_
            · intro _ _; go_simp
            dsimp only [Act.put, List.getElem_toArray, List.getElem_cons_zero, List.getElem_cons_succ]
            simp only [List.setIfInBounds_toArray, List.set_cons_succ, List.set_cons_zero]
            refine wpAnyH_ready (rs := [2, 4]) (by kernel_rfl) (by simp) ?_
            refine AllReadyH.cons rfl (fun K hK => ?_) (AllReadyH.cons rfl (fun K hK => ?_) (AllReadyH.nil))
            · obtain ⟨v_1, w_1, hr_1, ownx_1, bel_1⟩ := conv_T V s (by rw [HS4.out]; omega)
              have own_1 := ownx_1.mono b_0.size
              go_simp
              clear hr_1 ownx_1
              have X_1 := rX.below bel_1
              have R_1 := rR.below bel_1
              have b_1 := below_step b_0 bel_1
              refine hK.out _ _ (keep.out b_1) (fun hHeld => ?_)
              clear hK K
              try dsimp only [Act.put]
              refine wpAnyH_ready (rs := [4]) (by kernel_rfl) (by simp) ?_
              refine AllReadyH.cons rfl (fun K hK => ?_) (AllReadyH.nil)
              go_simp
              refine (HU.out _ X_1).mono ?_
              rintro e w_2 ⟨v_2, rfl, own_2, bel_2⟩
              obtain ⟨au, cu, rfl, ru_2, -⟩ := own_2.own.shape
              clear own_2
              have ownk_2 := own_1.kept bel_2
              have X_2 := X_1.below bel_2
              have R_2 := R_1.below bel_2
              have b_2 := below_step b_1 bel_2
              go_wp2_with fail
              refine hK.out _ _ (keep.out b_2) (fun hHeld => ?_)
              clear hK K
              try dsimp only [Act.put]
              refine wpAnyH_ready (rs := [5]) (by kernel_rfl) (by simp) ?_
              refine AllReadyH.cons rfl (fun K hK => ?_) (AllReadyH.nil)
              rw [if_pos (by rfl)]
              refine wp_append_T _ _ rfl V.heap.size _ (s.data.toList) (U) rfl ownk_2 au cu rfl ru_2 hlU b_2.size ?_
              intro v_3 w_3 own_3 gr_3
              have b_3 := b_2.grown gr_3 b_2.size (fun j hj => (ownk_2.low j hj).1)
              have rr_3 := R_2.grown gr_3 (fun a ha e => by have h1 := (ownk_2.low _ e).1; obtain ⟨gg, rfl, -, h2⟩ := hRlow a ha; have h3 : V.heap.size ≤ gg := h1; omega)
              refine hK.out _ _ (keep.out b_3) (fun hHeld => ?_)
              clear hK K
              try dsimp only [Act.put]
              refine wpAnyH_ready (rs := [7]) (by kernel_rfl) (by simp) ?_
              refine AllReadyH.cons rfl (fun K hK => ?_) (AllReadyH.nil)
              rw [if_pos (by rfl)]
              refine wp_append_T _ _ rfl V.heap.size _ (s.data.toList ++ U) (R) rfl own_3 ar cr rfl rr_3 hlR b_3.size ?_
              intro v_4 w_4 own_4 gr_4
              have b_4 := b_3.grown gr_4 b_3.size (fun j hj => (own_3.low j hj).1)
              refine hK.out _ _ (keep.out b_4) (fun hHeld => ?_)
              clear hK K
              try dsimp only [Act.put]
              refine wpAnyH_ready (rs := [8]) (by kernel_rfl) (by simp) ?_
              refine AllReadyH.cons rfl (fun K hK => ?_) (AllReadyH.nil)
              go_simp
              refine hK.out _ _ (keep.out b_4) (fun hHeld => ?_)
              clear hK K
              try dsimp only [Act.put]
              refine wpAnyH_done (by kernel_rfl) ?_ _
              go_wp2_with fail
              go_ret
              have hoz := own_4.mono belV.size
              obtain ⟨gz, cz, rfl, -, -, rz⟩ := own_4.row
              exact ⟨some ⟨gz, 0, none⟩, cz, by rw [HE.out]; rfl, by rw [HE.out]; exact rz, belV.trans (b_4.mono belV.size), .inr (by rw [HE.out]; exact hoz)⟩
            · go_simp
              refine (HU.out _ rX).mono ?_
              rintro e w_6 ⟨v_6, rfl, own_6, bel_6⟩
              obtain ⟨au, cu, rfl, ru_6, -⟩ := own_6.own.shape
              clear own_6
              have X_6 := rX.below bel_6
              have R_6 := rR.below bel_6
              have b_6 := below_step b_0 bel_6
              go_wp2_with fail
              refine hK.out _ _ (keep.out b_6) (fun hHeld => ?_)
              clear hK K
              try dsimp only [Act.put]
              refine wpAnyH_ready (rs := [2]) (by kernel_rfl) (by simp) ?_
              refine AllReadyH.cons rfl (fun K hK => ?_) (AllReadyH.nil)
              obtain ⟨v_7, w_7, hr_7, ownx_7, bel_7⟩ := conv_T w_6 s (by rw [HS4.out]; omega)
              have own_7 := ownx_7.mono b_6.size
              go_simp
              clear hr_7 ownx_7
              have X_7 := X_6.below bel_7
              have R_7 := R_6.below bel_7
              have U_7 := ru_6.below bel_7
              have b_7 := below_step b_6 bel_7
              refine hK.out _ _ (keep.out b_7) (fun hHeld => ?_)
              clear hK K
              try dsimp only [Act.put]
              refine wpAnyH_ready (rs := [5]) (by kernel_rfl) (by simp) ?_
              refine AllReadyH.cons rfl (fun K hK => ?_) (AllReadyH.nil)
              rw [if_pos (by rfl)]
              refine wp_append_T _ _ rfl V.heap.size _ (s.data.toList) (U) rfl own_7 au cu rfl U_7 hlU b_7.size ?_
              intro v_8 w_8 own_8 gr_8
              have b_8 := b_7.grown gr_8 b_7.size (fun j hj => (own_7.low j hj).1)
              have rr_8 := R_7.grown gr_8 (fun a ha e => by have h1 := (own_7.low _ e).1; obtain ⟨gg, rfl, -, h2⟩ := hRlow a ha; have h3 : V.heap.size ≤ gg := h1; omega)
              refine hK.out _ _ (keep.out b_8) (fun hHeld => ?_)
              clear hK K
              try dsimp only [Act.put]
              refine wpAnyH_ready (rs := [7]) (by kernel_rfl) (by simp) ?_
              refine AllReadyH.cons rfl (fun K hK => ?_) (AllReadyH.nil)
              rw [if_pos (by rfl)]
              refine wp_append_T _ _ rfl V.heap.size _ (s.data.toList ++ U) (R) rfl own_8 ar cr rfl rr_8 hlR b_8.size ?_
              intro v_9 w_9 own_9 gr_9
              have b_9 := b_8.grown gr_9 b_8.size (fun j hj => (own_8.low j hj).1)
              refine hK.out _ _ (keep.out b_9) (fun hHeld => ?_)
              clear hK K
              try dsimp only [Act.put]
              refine wpAnyH_ready (rs := [8]) (by kernel_rfl) (by simp) ?_
              refine AllReadyH.cons rfl (fun K hK => ?_) (AllReadyH.nil)
              go_simp
              refine hK.out _ _ (keep.out b_9) (fun hHeld => ?_)
              clear hK K
              try dsimp only [Act.put]
              refine wpAnyH_done (by kernel_rfl) ?_ _
              go_wp2_with fail
              go_ret
              have hoz := own_9.mono belV.size
              obtain ⟨gz, cz, rfl, -, -, rz⟩ := own_9.row
              exact ⟨some ⟨gz, 0, none⟩, cz, by rw [HE.out]; rfl, by rw [HE.out]; exact rz, belV.trans (b_9.mono belV.size), .inr (by rw [HE.out]; exact hoz)⟩
end Go.Proofs.YtacgbajcdngokaaGreatDoor
