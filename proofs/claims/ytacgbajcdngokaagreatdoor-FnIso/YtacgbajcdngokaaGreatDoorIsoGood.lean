/-
  Fields that came in; spec.l6Holds at a number that is not in the table; spec.l6Good.
-/
import Derived.Test.YtacgbajcdngokaaGreatDoorIsoConcat
namespace Go.Proofs.YtacgbajcdngokaaGreatDoor
open Go.RowKit

/-- A row of fields that is read. -/
structure Fr (w : World) (v : Value) (L : List (Int × List UInt8)) : Prop where
  sh : ∃ ao cap, v = .slice ao L.length cap
  at_ : ∀ i, i < L.length → ∃ g o cap ai ci, v = .slice (some ⟨g, o, none⟩) L.length cap ∧ w.cell? ⟨g, o + i * 2, none⟩ = some (.int .i64 (L.getD i (0, [])).1) ∧ w.cell? ⟨g, o + i * 2 + 1, none⟩ = some (.slice ai (L.getD i (0, [])).2.length ci) ∧ RowAt w ai (L.getD i (0, [])).2
theorem Fr.below {w w' : World} {v : Value} {L : List (Int × List UInt8)} (h : Fr w v L) (hb : Below w.heap.size w w') : Fr w' v L := by
  refine ⟨h.sh, fun i hi => ?_⟩
  obtain ⟨g, o, cap, ai, ci, e, c1, c2, r⟩ := h.at_ i hi
  have hl := World.block_lt_of_cell? w _ c1
  exact ⟨g, o, cap, ai, ci, e, (hb.cell (p := ⟨g, o + i * 2, none⟩) hl).trans c1, (hb.cell (p := ⟨g, o + i * 2 + 1, none⟩) hl).trans c2, r.below hb⟩
def bef (L : List (Int × List UInt8)) : Nat → Int
  | 0 => 0
  | i + 1 => (L.getD i (0, [])).1
def inZ (no : Int) : Bool := decide (0 ≤ no) && decide (no.toNat ∈ tabNos)
def fitZ (no : Int) (d : List UInt8) : Bool := inZ no && fitsN (kpL no.toNat) (kpM no.toNat) (kpOk no.toNat) d
def okF (b : Int) (p : Int × List UInt8) : Bool := decide (b < p.1) && fitZ p.1 p.2
def okL (L : List (Int × List UInt8)) : Bool := (List.range L.length).all (fun j => okF (bef L j) (L.getD j (0, [])))
theorem okL_no (L : List (Int × List UInt8)) (i : Nat) (hi : i < L.length) (h : okF (bef L i) (L.getD i (0, [])) = false) : okL L = false := by
  unfold okL
  rw [List.all_eq_false]
  exact ⟨i, List.mem_range.2 hi, by rw [h]; decide⟩
theorem okL_yes (L : List (Int × List UInt8)) (h : ∀ i, i < L.length → okF (bef L i) (L.getD i (0, [])) = true) : okL L = true := by
  unfold okL
  rw [List.all_eq_true]
  intro i hi
  exact h i (List.mem_range.1 hi)
theorem kind_out (no : Int) (h : inZ no = false) : kindOf no = (0, 0) := by
  unfold inZ at h
  by_cases h0 : 0 ≤ no
  · have hm : no.toNat ∉ tabNos := by simpa [h0] using h
    have e : no = ((no.toNat : Nat) : Int) := (Int.toNat_of_nonneg h0).symm
    generalize no.toNat = n at e hm
    subst e
    simp only [tabNos, List.mem_cons, List.not_mem_nil, or_false, not_or] at hm
    obtain ⟨h1, h2, h3, h4, h5, h6, h7, h8, h9, h10, h11, h12, h13, h14⟩ := hm
    unfold kindOf
    rw [if_neg (by omega), if_neg (by omega), if_neg (by omega), if_neg (by omega), if_neg (by omega), if_neg (by omega), if_neg (by omega), if_neg (by omega), if_neg (by omega), if_neg (by omega), if_neg (by omega), if_neg (by omega), if_neg (by omega), if_neg (by omega)]
  · unfold kindOf
    rw [if_neg (by omega), if_neg (by omega), if_neg (by omega), if_neg (by omega), if_neg (by omega), if_neg (by omega), if_neg (by omega), if_neg (by omega), if_neg (by omega), if_neg (by omega), if_neg (by omega), if_neg (by omega), if_neg (by omega), if_neg (by omega)]
theorem holds_out (no : Int) (h : inZ no = false) (v : Value) (w : World) : Calls Tryz.prog 46 #[.int .i64 no, v] w fun e w' => e = .returned (.bool false) ∧ w' = w := by
  have HK := hideT (fun (wx : World) => l6Kind_any no wx)
  rw [kind_out no h] at HK
  clear h
  go_enter Tryz.func46, Tryz.ntmps46
  go_wp2_with (go_at_call 42; refine (HK.out _).mono ?_; rintro e w2 ⟨rfl, hw2⟩; have hw3 := hw2.symm; subst hw3)
  go_ret
  exact ⟨rfl, rfl⟩
theorem holds_int (no : Int) (d : List UInt8) (ao : Option Addr) (cap : Nat) (w : World) (hd : d.length ≤ 1048576) (hr : RowAt w ao d) : Calls Tryz.prog 46 #[.int .i64 no, .slice ao d.length cap] w fun e w' => e = .returned (.bool (fitZ no d)) ∧ w' = w := by
  unfold fitZ
  cases hz : inZ no
  · rw [Bool.false_and]; exact holds_out no hz _ w
  · rw [Bool.true_and]
    have h2 := hz
    unfold inZ at h2
    rw [Bool.and_eq_true, decide_eq_true_eq, decide_eq_true_eq] at h2
    have h := holds_no no.toNat h2.2 d ao cap w hd hr
    rw [Int.toNat_of_nonneg h2.1] at h
    exact h
set_option maxRecDepth 100000 in
set_option maxHeartbeats 2000000 in
theorem l6Good_any (s : ByteArray) (L : List (Int × List UInt8)) (hs : s.size ≤ maxLen) (hsz : ∀ p ∈ L, p.2.length ≤ 1048576) (hL : L.length ≤ 1048576) (v : Value) (w : World) (F : Fr w v L) :
    Calls Tryz.prog 41 #[.agg #[.string s, v]] w fun e w' => e = .returned (.bool (decide (s.size = 4) && digs s && (decide (L.length ≤ 20) && okL L))) ∧ Below w.heap.size w w' := by
  have HD := hideT (fun (wx : World) => l4Digits_any s 4 4 wx hs (by omega) (by omega))
  have e4 : (decide (4 ≤ s.size) && decide (s.size ≤ 4) && digs s) = (decide (s.size = 4) && digs s) := by
    by_cases h : s.size = 4
    · rw [decide_eq_true h, decide_eq_true (by omega), decide_eq_true (by omega)]; rfl
    · rw [decide_eq_false h]
      by_cases h2 : 4 ≤ s.size
      · rw [decide_eq_true h2, decide_eq_false (by omega)]; rfl
      · rw [decide_eq_false h2]; rfl
  rw [e4] at HD
  obtain ⟨dg, hdg⟩ : ∃ q, q = (decide (s.size = 4) && digs s) := ⟨_, rfl⟩
  rw [← hdg] at HD ⊢
  clear hdg e4 hs
  obtain ⟨x1, c1, rfl⟩ := F.sh
  obtain ⟨n, hn⟩ : ∃ n, n = L.length := ⟨_, rfl⟩
  have HN := hideT hn
  rw [← hn] at hL ⊢
  have F' := F
  rw [← hn] at F'
  have HSZ := hideT hsz
  have HNOK := hideT (okL_no L)
  have HYOK := hideT (okL_yes L)
  rw [← hn] at HNOK HYOK
  obtain ⟨W, hW⟩ : ∃ y, y = w.alloc (Obj.cells #[.string s, .slice x1 n c1] 25) := ⟨_, rfl⟩
  have kM : Blk W w.heap.size 25 [.string s, .slice x1 n c1] := by rw [hW]; exact Blk.new _ _ _
  have bW : Below w.heap.size w W := by rw [hW]; exact below_newT _ _
  have FW := F'.below bW
  have HW := hideT hW
  have m0 := kM.cell 0 (by simp)
  have m1 := kM.cell 1 (by simp)
  clear hn hsz hW F F'
  cases dg
  · go_enter Tryz.func41, Tryz.ntmps41
    go_upto_region 1 with fail
    rw [← show W = _ from HW]
    go_wp2_with fail
    refine (HD.out _).mono ?_
    rintro e w2 ⟨rfl, hw2⟩
    have hw3 := hw2.symm
    subst hw3
    go_wp2_with fail
    go_ret
    exact ⟨rfl, bW⟩
  by_cases h20 : n ≤ 20
  · have h20I : ¬ (20 : Int) < (n : Int) := by omega
    rw [decide_eq_true h20]
    obtain ⟨OK, hOK⟩ : ∃ q, q = okL L := ⟨_, rfl⟩
    rw [← hOK] at HNOK HYOK ⊢
    clear hOK
    go_enter Tryz.func41, Tryz.ntmps41
    go_upto_region 1 with fail
    rw [← show W = _ from HW]
    go_wp2_with fail
    refine (HD.out _).mono ?_
    rintro e w2 ⟨rfl, hw2⟩
    have hw3 := hw2.symm
    subst hw3
    go_wp2_with fail
    go_loopw [3, 19] (fun la i wr => ∃ k : Nat, k ≤ n ∧ i = .int .i64 (k : Int) ∧ la = .int .i64 (bef L k) ∧ Hid (∀ j, j < k → okF (bef L j) (L.getD j (0, [])) = true) ∧ Below W.heap.size W wr) (fun _ i _ => n - (intOf i).toNat)
    case atStart => exact ⟨0, Nat.zero_le _, rfl, rfl, fun j h => absurd h (Nat.not_lt_zero j), Below.refl _ _⟩
    case round =>
      obtain ⟨k, hk, rfl, rfl, HOK, hbx⟩ := hrel
      by_cases hlt : k < n
      · have hltI : (k : Int) < (n : Int) := by omega
        have hkL : k < L.length := by rw [← HN.out]; exact hlt
        obtain ⟨g, o, cc, ai, ci, ev, p1, p2, r1⟩ := (FW.below hbx).at_ k hkL
        simp only [Value.slice.injEq] at ev
        obtain ⟨rfl, -, rfl⟩ := ev
        have hdl : (L.getD k (0, [])).2.length ≤ 1048576 := by
          rw [List.getD_eq_getElem?_getD, List.getElem?_eq_getElem hkL]
          exact HSZ.out _ (List.getElem_mem hkL)
        have HNX : Hid (bef L (k + 1) = (L.getD k (0, [])).1) := rfl
        have HBAD := hideT (HNOK.out k hlt)
        have HOF : Hid (okF (bef L k) (L.getD k (0, [])) = (decide (bef L k < (L.getD k (0, [])).1) && fitZ (L.getD k (0, [])).1 (L.getD k (0, [])).2)) := rfl
        obtain ⟨ob, hob⟩ : ∃ q, q = okF (bef L k) (L.getD k (0, [])) := ⟨_, rfl⟩
        obtain ⟨no, hno⟩ : ∃ m, m = (L.getD k (0, [])).1 := ⟨_, rfl⟩
        obtain ⟨d, hd⟩ : ∃ m, m = (L.getD k (0, [])).2 := ⟨_, rfl⟩
        obtain ⟨la, hla⟩ : ∃ m, m = bef L k := ⟨_, rfl⟩
        have HOB := hideT hob
        rw [← hob] at HBAD HOF
        rw [← hno] at p1 HNX HOF
        rw [← hd] at p2 r1 hdl HOF
        rw [← hla] at HOF ⊢
        obtain ⟨Y, hY⟩ : ∃ y, y = wr.alloc (Obj.cells #[.int .i64 no, .slice ai d.length ci] 44) := ⟨_, rfl⟩
        have kF : Blk Y wr.heap.size 44 [.int .i64 no, .slice ai d.length ci] := by rw [hY]; exact Blk.new _ _ _
        have bY : Below wr.heap.size wr Y := by rw [hY]; exact below_newT _ _
        have bxY := hbx.trans (bY.mono hbx.size)
        have HHO := hideT (holds_int no d ai ci Y hdl (r1.below bY))
        obtain ⟨l, hl⟩ : ∃ l, l = d.length := ⟨_, rfl⟩
        rw [← hl] at p2 hY kF HHO
        obtain ⟨fq, hfq⟩ : ∃ q, q = fitZ no d := ⟨_, rfl⟩
        rw [← hfq] at HHO HOF
        have HY := hideT hY
        obtain ⟨gF, hgF⟩ : ∃ q, q = wr.heap.size := ⟨_, rfl⟩
        rw [← hgF] at kF
        have HGF := hideT hgF
        clear hob hno hd hla hl hfq hY r1 hgF
        go_upto_region 7 with fail
        rw [← show Y = _ from HY, ← show gF = _ from HGF]
        clear HY HGF p1 p2
        have f0 := kF.cell 0 (by simp)
        have f1 := kF.cell 1 (by simp)
        by_cases hle : no ≤ la
        · rw [decide_eq_false (by omega), Bool.false_and] at HOF
          obtain rfl : OK = false := HBAD.out HOF.out
          go_wp2_with fail
          go_ret
          exact ⟨rfl, bW.trans (bxY.mono bW.size)⟩
        · rw [decide_eq_true (by omega), Bool.true_and] at HOF
          cases fq
          · obtain rfl : OK = false := HBAD.out HOF.out
            go_wp2_with fail
            refine HHO.out.mono ?_
            rintro e w5 ⟨rfl, hw5⟩
            have hw6 := hw5.symm
            subst hw6
            go_wp2_with fail
            go_ret
            exact ⟨rfl, bW.trans (bxY.mono bW.size)⟩
          · go_wp2_with fail
            refine HHO.out.mono ?_
            rintro e w5 ⟨rfl, hw5⟩
            have hw6 := hw5.symm
            subst hw6
            go_wp2_with fail
            go_roundw
            case rel => exact ⟨k + 1, by omega, by go_num, by rw [HNX.out], fun j hj => by
              by_cases hjk : j = k
              · rw [hjk, ← HOB.out]; exact HOF.out
              · exact HOK.out j (by omega), bxY⟩
            case measure => simp [intOf]; omega
      · have hltI : ¬ (k : Int) < (n : Int) := by omega
        obtain rfl : k = n := by omega
        obtain rfl : OK = true := HYOK.out (fun i hi => HOK.out i hi)
        go_wp2_with fail
        go_ret
        exact ⟨rfl, bW.trans (hbx.mono bW.size)⟩
  · have h20I : (20 : Int) < (n : Int) := by omega
    rw [decide_eq_false h20]
    go_enter Tryz.func41, Tryz.ntmps41
    go_upto_region 1 with fail
    rw [← show W = _ from HW]
    go_wp2_with fail
    refine (HD.out _).mono ?_
    rintro e w2 ⟨rfl, hw2⟩
    have hw3 := hw2.symm
    subst hw3
    go_wp2_with fail
    go_ret
    exact ⟨rfl, bW⟩
end Go.Proofs.YtacgbajcdngokaaGreatDoor
