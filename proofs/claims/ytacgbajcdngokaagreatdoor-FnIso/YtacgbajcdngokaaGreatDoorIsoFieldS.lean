/-
  spec.l6Field.
-/
import Derived.Test.YtacgbajcdngokaaGreatDoorIsoBits
namespace Go.Proofs.YtacgbajcdngokaaGreatDoor
open Go.RowKit

def PAt (RC : Nat) (w : World) (gP b o N cap q : Nat) : Prop := RC = 0 → Blk w gP 65 [.slice (some ⟨b, o, none⟩) N cap, .int .i64 (q : Int)]
theorem fld_fixed (no n : Nat) (h1 : kpD no = 0) (h2 : kpS no = fun _ => n) (h3 : kpB no = fun _ => true) (rest : List UInt8) :
    fldC no rest = (if rest.length < n then 1 else if fitsN (kpL no) (kpM no) (kpOk no) (rest.take n) = true then 0 else 4) ∧ fldD no rest = (if fldC no rest = 0 then rest.take n else []) ∧ fldE no rest = (if fldC no rest = 0 then n else 0) := by
  refine ⟨?_, ?_, ?_⟩
  · unfold fldC fC
    rw [h1, h2, h3]
    simp
  · unfold fldD fD
    show (if fldC no rest = 0 then _ else _) = _
    rw [h1, h2]
    simp
  · unfold fldE fE
    show (if fldC no rest = 0 then _ else _) = _
    rw [h1, h2]
    simp
set_option maxRecDepth 100000 in
set_option maxHeartbeats 4000000 in
theorem fieldS_fixed (no : Nat) (hin : no ∈ tabNos) (K : Int) (n : Nat) (hk : kindOf (no : Int) = (K, (n : Int))) (hK4 : ¬ K = 4) (hK5 : ¬ K = 5) (h1 : kpD no = 0) (h2 : kpS no = fun _ => n) (h3 : kpB no = fun _ => true) (hn1 : n ≤ 1000)
    (data : List UInt8) (a gP b o cap N : Nat) (w : World) (hN : N = data.length) (hN4 : N ≤ 4096) (hNc : N ≤ cap) (ha : a ≤ N) (hbP : b ≠ gP) (kP : Blk w gP 65 [.slice (some ⟨b, o, none⟩) N cap, .int .i64 (a : Int)]) (hr : RowAt w (some ⟨b, o, none⟩) data) :
    Calls Tryz.prog 29 #[.pointer (some ⟨gP, 0, none⟩), .int .i64 (no : Int)] w fun e w' => ∃ v, e = .returned (.tuple #[v, .int .i64 (fldC no (data.drop a) : Nat)]) ∧ Own w' w.heap.size v (fldD no (data.drop a)) ∧ PAt (fldC no (data.drop a)) w' gP b o N cap (a + fldE no (data.drop a)) ∧ w.grownBy w' (some gP) := by
  have HK := hideT (fun (wx : World) => l6Kind_any (no : Int) wx)
  rw [hk] at HK
  have HR := hideT (fld_fixed no n h1 h2 h3 (data.drop a))
  have hdl : (data.drop a).length = N - a := by rw [List.length_drop, hN]
  rw [hdl] at HR
  obtain ⟨held, hh⟩ : ∃ l, l = (data.drop a).take n := ⟨_, rfl⟩
  have HH := hideT hh
  rw [← hh] at HR
  obtain ⟨RC, hRC⟩ : ∃ c, c = fldC no (data.drop a) := ⟨_, rfl⟩
  obtain ⟨RD, hRD⟩ : ∃ c, c = fldD no (data.drop a) := ⟨_, rfl⟩
  obtain ⟨RE, hRE⟩ : ∃ c, c = fldE no (data.drop a) := ⟨_, rfl⟩
  rw [← hRC, ← hRD, ← hRE] at HR
  rw [← hRC, ← hRD, ← hRE]
  have hhl0 : a + n ≤ N → held.length = n := by intro h; rw [hh, List.length_take, hdl]; omega
  clear hRC hRD hRE hh hk h1 h2 h3 hdl hN
  have hKb4 : (K == 4) = false := by rw [beq_eq_false_iff_ne]; exact hK4
  have hKb5 : (K == 5) = false := by rw [beq_eq_false_iff_ne]; exact hK5
  go_enter Tryz.func29, Tryz.ntmps29
  go_upto_region 16 with (go_at_call 42; refine (HK.out _).mono ?_; rintro e wk ⟨rfl, hwk⟩; have hwk2 := hwk.symm; subst hwk2)
  by_cases hsh : N < a + n
  · rw [if_pos (by omega)] at HR
    obtain ⟨r1, r2, r3⟩ := HR.out
    rw [r1] at r2 r3
    rw [if_neg (by decide)] at r2 r3
    subst r1 r2 r3
    go_wp2_with fail
    refine (take_no N a n gP cap _ w (by omega) (by omega) hsh kP).mono ?_
    rintro e wt ⟨rfl, hwt⟩
    have gt := grown_trans (grown_of_below (Below.refl w.heap.size w) (some gP)) (grown_of_below (show Below w.heap.size w wt from by rw [hwt]; exact (Below.refl _ _).drew) (some gP))
    clear hwt
    go_wp2_with fail
    go_ret2
    exact ⟨_, rfl, own_nilI _ _, (fun h => absurd h (by decide)), gt⟩
  rw [if_neg (by omega)] at HR
  have HHL := hideT (hhl0 (by omega))
  clear hhl0
  obtain ⟨oA, hoA⟩ : ∃ oA, (cap = a ∧ oA = o) ∨ (¬ cap = a ∧ oA = o + a) := by
    by_cases h : cap = a
    · exact ⟨o, .inl ⟨h, rfl⟩⟩
    · exact ⟨o + a, .inr ⟨h, rfl⟩⟩
  have HTK := hideT (take_go N a n gP b o oA cap w hN4 (by omega) hNc hoA kP)
  have RH : Hid (∀ {x : World}, RowAt x (some ⟨b, o, none⟩) data → RowAt x (some ⟨b, oA, none⟩) held) := by
    intro x hx
    rcases hoA with ⟨h1, rfl⟩ | ⟨-, rfl⟩
    · exact .inl (List.length_eq_zero_iff.1 (by rw [HHL.out]; omega))
    · rw [show held = _ from HH.out]; exact (RowAt.drop hx a).take n
  clear hoA
  obtain ⟨A2, hA2⟩ : ∃ x, x = a + n := ⟨_, rfl⟩
  rw [← hA2] at HTK
  have HA2 := hideT hA2
  have hhl := HHL.out
  clear hA2
  go_wp2_with fail
  refine HTK.out.mono ?_
  rintro e wt ⟨rfl, kPt, gt0⟩
  have gt := grown_trans (grown_of_below (Below.refl w.heap.size w) (some gP)) gt0
  have rt := RH.out (RowAt.grown hr gt (by intro x hx e; cases hx; cases e; exact hbP rfl))
  have HHO := hideT (holds_no no hin held (some ⟨b, oA, none⟩) (cap - a) wt (by omega) rt)
  have HBY := hideT (bytes_allQ held (some ⟨b, oA, none⟩) (cap - a) wt (by omega) rt)
  rw [hhl] at HHO HBY
  obtain ⟨fq, hfq⟩ : ∃ c, c = fitsN (kpL no) (kpM no) (kpOk no) held := ⟨_, rfl⟩
  rw [← hfq] at HHO HR
  have hwl := gt.size
  clear hfq HTK gt0 rt RH hhl
  cases fq
  · rw [if_neg (by decide)] at HR
    obtain ⟨r1, r2, r3⟩ := HR.out
    rw [r1] at r2 r3
    rw [if_neg (by decide)] at r2 r3
    subst r1 r2 r3
    go_wp2_with fail
    refine HHO.out.mono ?_
    rintro e w8 ⟨rfl, hw8⟩
    subst hw8
    go_wp2_with fail
    go_ret2
    exact ⟨_, rfl, own_nilI _ _, (fun h => absurd h (by decide)), gt⟩
  · rw [if_pos rfl] at HR
    obtain ⟨r1, r2, r3⟩ := HR.out
    rw [r1] at r2 r3
    rw [if_pos rfl] at r2 r3
    have HR2 := hideT (And.intro r2 r3)
    subst r1
    clear r2 r3 HR
    go_wp2_with fail
    refine HHO.out.mono ?_
    rintro e w8 ⟨rfl, hw8⟩
    subst hw8
    go_wp2_with fail
    refine HBY.out.mono ?_
    rintro e w9 ⟨v9, rfl, own9, b9⟩
    have gt9 := grown_trans gt (grown_of_below b9 (some gP))
    have kP9 := kPt.below b9 kPt.lt
    have own9' := (OwnB.own own9).monoI hwl
    clear own9 b9
    go_wp2_with fail
    go_ret2
    exact ⟨_, rfl, by rw [HR2.out.1]; exact own9', (fun _ => by rw [HR2.out.2, show a + n = A2 from by have := HA2.out; omega]; exact kP9), gt9⟩
theorem numL_snoc (l : List UInt8) (x : UInt8) : numL (l ++ [x]) = numL l * 10 + (x.toNat - 48) := by unfold numL; simp
theorem fld_counted (no d l m : Nat) (h1 : kpD no = d) (h2 : kpS no = szN) (h3 : kpB no = sdN l m) (rest : List UInt8) :
    fldC no rest = (if rest.length < d then 1 else if sdN l m (rest.take d) = false then 4 else if rest.length < d + szN (rest.take d) then 1 else if fitsN (kpL no) (kpM no) (kpOk no) ((rest.drop d).take (szN (rest.take d))) = true then 0 else 4) ∧ fldD no rest = (if fldC no rest = 0 then (rest.drop d).take (szN (rest.take d)) else []) ∧ fldE no rest = (if fldC no rest = 0 then d + szN (rest.take d) else 0) := by
  refine ⟨?_, ?_, ?_⟩
  · unfold fldC fC
    rw [h1, h2, h3]
  · unfold fldD fD
    show (if fldC no rest = 0 then _ else _) = _
    rw [h1, h2]
  · unfold fldE fE
    show (if fldC no rest = 0 then _ else _) = _
    rw [h1, h2]
set_option maxRecDepth 100000 in
set_option maxHeartbeats 4000000 in
theorem fieldS_counted (no : Nat) (hin : no ∈ tabNos) (K : Int) (d l m : Nat) (hk : kindOf (no : Int) = (K, (d : Int))) (hKs : (K = 4 ∧ l = 13 ∧ m = 19) ∨ (K = 5 ∧ l = 0 ∧ m = 200)) (h1 : kpD no = d) (h2 : kpS no = szN) (h3 : kpB no = sdN l m) (hd0 : 0 < d) (hd3 : d ≤ 3)
    (data : List UInt8) (a gP b o cap N : Nat) (w : World) (hN : N = data.length) (hN4 : N ≤ 4096) (hNc : N ≤ cap) (ha : a ≤ N) (hbP : b ≠ gP) (kP : Blk w gP 65 [.slice (some ⟨b, o, none⟩) N cap, .int .i64 (a : Int)]) (hr : RowAt w (some ⟨b, o, none⟩) data) :
    Calls Tryz.prog 29 #[.pointer (some ⟨gP, 0, none⟩), .int .i64 (no : Int)] w fun e w' => ∃ v, e = .returned (.tuple #[v, .int .i64 (fldC no (data.drop a) : Nat)]) ∧ Own w' w.heap.size v (fldD no (data.drop a)) ∧ PAt (fldC no (data.drop a)) w' gP b o N cap (a + fldE no (data.drop a)) ∧ w.grownBy w' (some gP) := by
  have HK := hideT (fun (wx : World) => l6Kind_any (no : Int) wx)
  rw [hk] at HK
  have HR := hideT (fld_counted no d l m h1 h2 h3 (data.drop a))
  have hdl : (data.drop a).length = N - a := by rw [List.length_drop, hN]
  rw [hdl] at HR
  obtain ⟨RC, hRC⟩ : ∃ c, c = fldC no (data.drop a) := ⟨_, rfl⟩
  obtain ⟨RD, hRD⟩ : ∃ c, c = fldD no (data.drop a) := ⟨_, rfl⟩
  obtain ⟨RE, hRE⟩ : ∃ c, c = fldE no (data.drop a) := ⟨_, rfl⟩
  rw [← hRC, ← hRD, ← hRE] at HR
  rw [← hRC, ← hRD, ← hRE]
  have HKs := hideT hKs
  have hKor : ((K == 4) = true ∧ (K == 5) = false) ∨ ((K == 4) = false ∧ (K == 5) = true) := by
    rcases hKs with ⟨rfl, -⟩ | ⟨rfl, -⟩
    · exact .inl ⟨rfl, rfl⟩
    · exact .inr ⟨rfl, rfl⟩
  obtain ⟨head, hhd⟩ : ∃ x, x = (data.drop a).take d := ⟨_, rfl⟩
  rw [← hhd] at HR
  have hd0I : (0 : Int) ≤ (d : Int) := by omega
  obtain ⟨a1, ha1⟩ : ∃ x, x = a + d := ⟨_, rfl⟩
  have HA1 := hideT ha1
  by_cases hs1 : N < a + d
  · rw [if_pos (by omega)] at HR
    obtain ⟨r1, r2, r3⟩ := HR.out
    rw [r1] at r2 r3
    rw [if_neg (by decide)] at r2 r3
    subst r1 r2 r3
    have HT := hideT (take_no N a d gP cap _ w (by omega) ha hs1 kP)
    clear hhd HR hdl hRC hRD hRE hk h1 h2 h3 hKs ha1
    go_enter Tryz.func29, Tryz.ntmps29
    rcases hKor with ⟨q1, q2⟩ | ⟨q1, q2⟩
    all_goals
      go_wp2_with (first | (go_at_call 42; refine (HK.out _).mono ?_; rintro e wk ⟨rfl, hwk⟩; have hwk2 := hwk.symm; subst hwk2) | (go_at_call 26; refine HT.out.mono ?_; rintro e wt ⟨rfl, hwt⟩))
      go_ret2
      exact ⟨_, rfl, own_nilI _ _, (fun h => absurd h (by decide)), grown_drewT (grown_of_below (Below.refl _ _) _)⟩
  rw [if_neg (by omega)] at HR
  have hhl : head.length = d := by rw [hhd, List.length_take, hdl]; omega
  obtain ⟨oA, hoA⟩ : ∃ oA, (cap = a ∧ oA = o) ∨ (¬ cap = a ∧ oA = o + a) := by
    by_cases h : cap = a
    · exact ⟨o, .inl ⟨h, rfl⟩⟩
    · exact ⟨o + a, .inr ⟨h, rfl⟩⟩
  have HT := hideT (take_go N a d gP b o oA cap w hN4 (by omega) hNc hoA kP)
  rw [← ha1] at HT
  have RH : Hid (∀ {x : World}, RowAt x (some ⟨b, o, none⟩) data → RowAt x (some ⟨b, oA, none⟩) head) := by
    intro x hx
    rcases hoA with ⟨h1, rfl⟩ | ⟨-, rfl⟩
    · exfalso; omega
    · rw [hhd]; exact (RowAt.drop hx a).take d
  have HHD := hideT hhd
  have HDD : Hid (∀ z, ((data.drop a).drop d).take z = (data.drop a1).take z) := fun z => by rw [List.drop_drop, ← ha1]
  have HDL : Hid (∀ z, a1 + z ≤ N → ((data.drop a1).take z).length = z) := fun z h => by rw [List.length_take, List.length_drop, ← hN]; omega
  have ha1N : a1 ≤ N := by omega
  have HCND : Hid (∀ z, (N - a < d + z) ↔ (N < a1 + z)) := fun z => by omega
  clear hhd hdl hRC hRD hRE hk h1 h2 h3 hKs ha1 hoA hs1
  have hz4 : (⟨head.toArray⟩ : ByteArray).size = d := by rw [← hhl]; simp [ByteArray.size]
  have HDG := hideT (fun (wx : World) => l4Digits_any ⟨head.toArray⟩ d d wx (by rw [hz4]; unfold maxLen; omega) (by omega) (by omega))
  rw [hz4, digs_of, decide_eq_true (Nat.le_refl d), Bool.true_and, Bool.true_and] at HDG
  have HCV := hideT (fun (wx : World) (h : RowAt wx (some ⟨b, oA, none⟩) head) => conv_any head (some ⟨b, oA, none⟩) d (cap - a) wx hhl h)
  obtain ⟨S, hS⟩ : ∃ S : ByteArray, S = ⟨head.toArray⟩ := ⟨_, rfl⟩
  rw [← hS] at HDG HCV
  obtain ⟨dg, hdg⟩ : ∃ q, q = head.all dig := ⟨_, rfl⟩
  rw [← hdg] at HDG
  have HDGE := hideT hdg
  clear hS hz4 hdg
  go_enter Tryz.func29, Tryz.ntmps29
  rcases hKor with ⟨q1, q2⟩ | ⟨q1, q2⟩
  · skip
    go_upto_region 6 with (first | (go_at_call 42; refine (HK.out _).mono ?_; rintro e wk ⟨rfl, hwk⟩; have hwk2 := hwk.symm; subst hwk2) | (go_at_call 26; refine HT.out.mono ?_; rintro e wt1 ⟨rfl, kP1, g1⟩))
    have rD1 := RowAt.grown hr g1 (by intro x hx e; cases hx; cases e; exact hbP rfl)
    have rH1 := RH.out rD1
    have hcv := HCV.out wt1 rH1
    obtain ⟨hlm1, hlm2⟩ : l = 13 ∧ m = 19 := by
      rcases HKs.out with ⟨e, h1, h2⟩ | ⟨e, h1, h2⟩
      · exact ⟨h1, h2⟩
      · rw [e] at q2; exact absurd q2 (by decide)
    subst hlm1 hlm2
    clear HT RH HCV HKs HK
    cases dg with
    | false =>
      have hsd : sdN 13 19 head = false := by unfold sdN; rw [← HDGE.out]; rfl
      rw [if_pos hsd] at HR
      obtain ⟨r1, r2, r3⟩ := HR.out
      rw [r1] at r2 r3
      rw [if_neg (by decide)] at r2 r3
      subst r1 r2 r3
      go_wp2_with (go_at_call 27; refine (HDG.out _).mono ?_; rintro e w5 ⟨rfl, hw5⟩; subst hw5)
      go_ret2
      exact ⟨_, rfl, own_nilI _ _, (fun h => absurd h (by decide)), g1⟩
    | true =>
      have hszz : szN head = numL head := by unfold szN; rw [if_pos HDGE.out.symm]
      rw [hszz] at HR
      have hzb := szN_le d hd3 head hhl
      rw [hszz] at hzb
      have HSD : Hid (sdN 13 19 head = decide (13 ≤ numL head ∧ numL head ≤ 19)) := by
        show _ = _
        unfold sdN
        rw [← HDGE.out, Bool.true_and]
      have HPRE : Hid (∀ k, k ≤ d → numL (head.take k) ≤ 1000) := by
        intro k hk
        have h := szN_le k (by omega) (head.take k) (by rw [List.length_take]; omega)
        have e : szN (head.take k) = numL (head.take k) := by
          unfold szN
          rw [if_pos]
          rw [List.all_eq_true]
          intro x hx
          have ha := HDGE.out.symm
          rw [List.all_eq_true] at ha
          exact ha x (List.mem_of_mem_take hx)
        omega
      go_wp2_with (go_at_call 27; refine (HDG.out _).mono ?_; rintro e w5 ⟨rfl, hw5⟩; have hw6 := hw5.symm; subst hw6)
      go_loopw [7, 41] (fun n7 i wr => ∃ k : Nat, k ≤ d ∧ i = .int .i64 (k : Int) ∧ n7 = .int .i64 (numL (head.take k) : Nat) ∧ wr = wt1) (fun _ i _ => d - (intOf i).toNat)
      case atStart => exact ⟨0, Nat.zero_le _, rfl, rfl, rfl⟩
      case round =>
        obtain ⟨k, hk, rfl, rfl, hwr⟩ := hrel
        have hwr2 := hwr.symm
        subst hwr2
        by_cases hlt : k < d
        · have hltI : (k : Int) < (d : Int) := by omega
          obtain ⟨b2, o2, e2, hc⟩ := rH1.at (k := k) (by omega)
          cases e2
          have ck := hc k (by omega)
          have hkl : k < head.length := by omega
          have hdk := dig_to (show dig (head.getD k 0) = true by
            have ha := HDGE.out.symm
            rw [List.all_eq_true] at ha
            rw [List.getD_eq_getElem?_getD, List.getElem?_eq_getElem hkl]
            exact ha _ (List.getElem_mem hkl))
          have HST : Hid (numL (head.take (k + 1)) = numL (head.take k) * 10 + ((head.getD k 0).toNat - 48)) := by
            show _ = _
            rw [List.take_succ_eq_append_getElem hkl, numL_snoc]
            congr 2
            rw [List.getD_eq_getElem?_getD, List.getElem?_eq_getElem hkl]
            rfl
          have hpk := HPRE.out k hk
          obtain ⟨y, hy⟩ : ∃ y, y = (head.getD k 0).toNat := ⟨_, rfl⟩
          obtain ⟨c, hcc⟩ : ∃ c, c = numL (head.take k) := ⟨_, rfl⟩
          rw [← hy] at ck hdk HST
          rw [← hcc] at hpk HST ⊢
          clear hy hcc hc
          have hsub : IntKind.u8.wrap ((y : Int) - 48) = ((y - 48 : Nat) : Int) := by rw [show (y : Int) - 48 = ((y - 48 : Nat) : Int) from by omega]; unfold IntKind.wrap; simp [IntKind.bits, IntKind.signed]; omega
          obtain ⟨y2, hy2⟩ : ∃ z, z = y - 48 := ⟨_, rfl⟩
          rw [← hy2] at hsub HST
          have hy9 : y2 ≤ 9 := by omega
          clear hy2
          have hmul : IntKind.i64.wrap ((c : Int) * 10) = ((c * 10 : Nat) : Int) := by rw [IntKind.wrap_i64]; omega
          obtain ⟨c2, hc2⟩ : ∃ z, z = c * 10 := ⟨_, rfl⟩
          rw [← hc2] at hmul HST
          have hc2b : c2 ≤ 10000 := by omega
          clear hc2
          have hadd : IntKind.i64.wrap ((c2 : Int) + (y2 : Int)) = ((c2 + y2 : Nat) : Int) := by rw [IntKind.wrap_i64]; omega
          obtain ⟨c3, hc3⟩ : ∃ z, z = c2 + y2 := ⟨_, rfl⟩
          rw [← hc3] at hadd HST
          clear hc3
          go_wp2_with fail
          go_roundw
          case rel => exact ⟨k + 1, by omega, by go_num, by rw [HST.out], by trivial⟩
          case measure => simp [intOf]; omega
        · have hltI : ¬ (k : Int) < (d : Int) := by omega
          have hkd : k = d := by omega
          have etk : head.take k = head := by rw [List.take_of_length_le (by omega)]
          rw [etk]
          obtain ⟨z, hz⟩ : ∃ z, z = numL head := ⟨_, rfl⟩
          rw [← hz] at hzb HR HSD ⊢
          clear hz HPRE HDG HDGE rH1 hcv etk hszz
          by_cases hz1 : z < 13
          · have hz1I : (z : Int) < 13 := by omega
            have hsd := HSD.out
            rw [decide_eq_false (by omega)] at hsd
            rw [if_pos hsd] at HR
            obtain ⟨r1, r2, r3⟩ := HR.out
            rw [r1] at r2 r3
            rw [if_neg (by decide)] at r2 r3
            subst r1 r2 r3
            go_wp2_with fail
            go_ret2
            exact ⟨_, rfl, own_nilI _ _, (fun h => absurd h (by decide)), g1⟩
          have hz1I : ¬ (z : Int) < 13 := by omega
          by_cases hz2 : 19 < z
          · have hz2I : (19 : Int) < (z : Int) := by omega
            have hsd := HSD.out
            rw [decide_eq_false (by omega)] at hsd
            rw [if_pos hsd] at HR
            obtain ⟨r1, r2, r3⟩ := HR.out
            rw [r1] at r2 r3
            rw [if_neg (by decide)] at r2 r3
            subst r1 r2 r3
            go_wp2_with fail
            go_ret2
            exact ⟨_, rfl, own_nilI _ _, (fun h => absurd h (by decide)), g1⟩
          have hz2I : ¬ (19 : Int) < (z : Int) := by omega
          have hz3I : ¬ (200 : Int) < (z : Int) := by omega
          have hsd := HSD.out
          rw [decide_eq_true (by omega)] at hsd
          rw [if_neg (by rw [hsd]; decide), HDD.out z] at HR
          simp only [HCND.out z] at HR
          have hhl0 := HDL.out z
          obtain ⟨held, hh⟩ : ∃ l, l = (data.drop a1).take z := ⟨_, rfl⟩
          rw [← hh] at HR hhl0
          have HH := hideT hh
          clear hh hsd HSD HDD HCND HDL HHD
          go_upto_region 16 with fail
          by_cases hsh : N < a1 + z
          · rw [if_pos (by omega)] at HR
            obtain ⟨r1, r2, r3⟩ := HR.out
            rw [r1] at r2 r3
            rw [if_neg (by decide)] at r2 r3
            subst r1 r2 r3
            go_wp2_with fail
            refine (take_no N a1 z gP cap _ wt1 (by omega) (by omega) hsh kP1).mono ?_
            rintro e wt ⟨rfl, hwt⟩
            have gt := grown_trans g1 (grown_of_below (show Below wt1.heap.size wt1 wt from by rw [hwt]; exact (Below.refl _ _).drew) (some gP))
            clear hwt
            go_wp2_with fail
            go_ret2
            exact ⟨_, rfl, own_nilI _ _, (fun h => absurd h (by decide)), gt⟩
          rw [if_neg (by omega)] at HR
          have HHL := hideT (hhl0 (by omega))
          clear hhl0
          obtain ⟨oA, hoA⟩ : ∃ oA, (cap = a1 ∧ oA = o) ∨ (¬ cap = a1 ∧ oA = o + a1) := by
            by_cases h : cap = a1
            · exact ⟨o, .inl ⟨h, rfl⟩⟩
            · exact ⟨o + a1, .inr ⟨h, rfl⟩⟩
          have HTK := hideT (take_go N a1 z gP b o oA cap wt1 hN4 (by omega) hNc hoA kP1)
          have RH : Hid (∀ {x : World}, RowAt x (some ⟨b, o, none⟩) data → RowAt x (some ⟨b, oA, none⟩) held) := by
            intro x hx
            rcases hoA with ⟨h1, rfl⟩ | ⟨-, rfl⟩
            · exact .inl (List.length_eq_zero_iff.1 (by rw [HHL.out]; omega))
            · rw [show held = _ from HH.out]; exact (RowAt.drop hx a1).take z
          clear hoA
          obtain ⟨A2, hA2⟩ : ∃ x, x = a1 + z := ⟨_, rfl⟩
          rw [← hA2] at HTK
          have HA2 := hideT hA2
          have hhl := HHL.out
          clear hA2
          go_wp2_with fail
          refine HTK.out.mono ?_
          rintro e wt ⟨rfl, kPt, gt0⟩
          have gt := grown_trans g1 gt0
          have rt := RH.out (RowAt.grown hr gt (by intro x hx e; cases hx; cases e; exact hbP rfl))
          have HHO := hideT (holds_no no hin held (some ⟨b, oA, none⟩) (cap - a1) wt (by omega) rt)
          have HBY := hideT (bytes_allQ held (some ⟨b, oA, none⟩) (cap - a1) wt (by omega) rt)
          rw [hhl] at HHO HBY
          obtain ⟨fq, hfq⟩ : ∃ c, c = fitsN (kpL no) (kpM no) (kpOk no) held := ⟨_, rfl⟩
          rw [← hfq] at HHO HR
          have hwl := gt.size
          clear hfq HTK gt0 rt RH hhl
          cases fq
          · rw [if_neg (by decide)] at HR
            obtain ⟨r1, r2, r3⟩ := HR.out
            rw [r1] at r2 r3
            rw [if_neg (by decide)] at r2 r3
            subst r1 r2 r3
            go_wp2_with fail
            refine HHO.out.mono ?_
            rintro e w8 ⟨rfl, hw8⟩
            subst hw8
            go_wp2_with fail
            go_ret2
            exact ⟨_, rfl, own_nilI _ _, (fun h => absurd h (by decide)), gt⟩
          · rw [if_pos rfl] at HR
            obtain ⟨r1, r2, r3⟩ := HR.out
            rw [r1] at r2 r3
            rw [if_pos rfl] at r2 r3
            have HR2 := hideT (And.intro r2 r3)
            subst r1
            clear r2 r3 HR
            go_wp2_with fail
            refine HHO.out.mono ?_
            rintro e w8 ⟨rfl, hw8⟩
            subst hw8
            go_wp2_with fail
            refine HBY.out.mono ?_
            rintro e w9 ⟨v9, rfl, own9, b9⟩
            have gt9 := grown_trans gt (grown_of_below b9 (some gP))
            have kP9 := kPt.below b9 kPt.lt
            have own9' := (OwnB.own own9).monoI hwl
            clear own9 b9
            go_wp2_with fail
            go_ret2
            exact ⟨_, rfl, by rw [HR2.out.1]; exact own9', (fun _ => by rw [HR2.out.2, show a + (d + z) = A2 from by have := HA2.out; have := HA1.out; omega]; exact kP9), gt9⟩
  · skip
    go_upto_region 6 with (first | (go_at_call 42; refine (HK.out _).mono ?_; rintro e wk ⟨rfl, hwk⟩; have hwk2 := hwk.symm; subst hwk2) | (go_at_call 26; refine HT.out.mono ?_; rintro e wt1 ⟨rfl, kP1, g1⟩))
    have rD1 := RowAt.grown hr g1 (by intro x hx e; cases hx; cases e; exact hbP rfl)
    have rH1 := RH.out rD1
    have hcv := HCV.out wt1 rH1
    obtain ⟨hlm1, hlm2⟩ : l = 0 ∧ m = 200 := by
      rcases HKs.out with ⟨e, h1, h2⟩ | ⟨e, h1, h2⟩
      · rw [e] at q1; exact absurd q1 (by decide)
      · exact ⟨h1, h2⟩
    subst hlm1 hlm2
    clear HT RH HCV HKs HK
    cases dg with
    | false =>
      have hsd : sdN 0 200 head = false := by unfold sdN; rw [← HDGE.out]; rfl
      rw [if_pos hsd] at HR
      obtain ⟨r1, r2, r3⟩ := HR.out
      rw [r1] at r2 r3
      rw [if_neg (by decide)] at r2 r3
      subst r1 r2 r3
      go_wp2_with (go_at_call 27; refine (HDG.out _).mono ?_; rintro e w5 ⟨rfl, hw5⟩; subst hw5)
      go_ret2
      exact ⟨_, rfl, own_nilI _ _, (fun h => absurd h (by decide)), g1⟩
    | true =>
      have hszz : szN head = numL head := by unfold szN; rw [if_pos HDGE.out.symm]
      rw [hszz] at HR
      have hzb := szN_le d hd3 head hhl
      rw [hszz] at hzb
      have HSD : Hid (sdN 0 200 head = decide (0 ≤ numL head ∧ numL head ≤ 200)) := by
        show _ = _
        unfold sdN
        rw [← HDGE.out, Bool.true_and]
      have HPRE : Hid (∀ k, k ≤ d → numL (head.take k) ≤ 1000) := by
        intro k hk
        have h := szN_le k (by omega) (head.take k) (by rw [List.length_take]; omega)
        have e : szN (head.take k) = numL (head.take k) := by
          unfold szN
          rw [if_pos]
          rw [List.all_eq_true]
          intro x hx
          have ha := HDGE.out.symm
          rw [List.all_eq_true] at ha
          exact ha x (List.mem_of_mem_take hx)
        omega
      go_wp2_with (go_at_call 27; refine (HDG.out _).mono ?_; rintro e w5 ⟨rfl, hw5⟩; have hw6 := hw5.symm; subst hw6)
      go_loopw [7, 41] (fun n7 i wr => ∃ k : Nat, k ≤ d ∧ i = .int .i64 (k : Int) ∧ n7 = .int .i64 (numL (head.take k) : Nat) ∧ wr = wt1) (fun _ i _ => d - (intOf i).toNat)
      case atStart => exact ⟨0, Nat.zero_le _, rfl, rfl, rfl⟩
      case round =>
        obtain ⟨k, hk, rfl, rfl, hwr⟩ := hrel
        have hwr2 := hwr.symm
        subst hwr2
        by_cases hlt : k < d
        · have hltI : (k : Int) < (d : Int) := by omega
          obtain ⟨b2, o2, e2, hc⟩ := rH1.at (k := k) (by omega)
          cases e2
          have ck := hc k (by omega)
          have hkl : k < head.length := by omega
          have hdk := dig_to (show dig (head.getD k 0) = true by
            have ha := HDGE.out.symm
            rw [List.all_eq_true] at ha
            rw [List.getD_eq_getElem?_getD, List.getElem?_eq_getElem hkl]
            exact ha _ (List.getElem_mem hkl))
          have HST : Hid (numL (head.take (k + 1)) = numL (head.take k) * 10 + ((head.getD k 0).toNat - 48)) := by
            show _ = _
            rw [List.take_succ_eq_append_getElem hkl, numL_snoc]
            congr 2
            rw [List.getD_eq_getElem?_getD, List.getElem?_eq_getElem hkl]
            rfl
          have hpk := HPRE.out k hk
          obtain ⟨y, hy⟩ : ∃ y, y = (head.getD k 0).toNat := ⟨_, rfl⟩
          obtain ⟨c, hcc⟩ : ∃ c, c = numL (head.take k) := ⟨_, rfl⟩
          rw [← hy] at ck hdk HST
          rw [← hcc] at hpk HST ⊢
          clear hy hcc hc
          have hsub : IntKind.u8.wrap ((y : Int) - 48) = ((y - 48 : Nat) : Int) := by rw [show (y : Int) - 48 = ((y - 48 : Nat) : Int) from by omega]; unfold IntKind.wrap; simp [IntKind.bits, IntKind.signed]; omega
          obtain ⟨y2, hy2⟩ : ∃ z, z = y - 48 := ⟨_, rfl⟩
          rw [← hy2] at hsub HST
          have hy9 : y2 ≤ 9 := by omega
          clear hy2
          have hmul : IntKind.i64.wrap ((c : Int) * 10) = ((c * 10 : Nat) : Int) := by rw [IntKind.wrap_i64]; omega
          obtain ⟨c2, hc2⟩ : ∃ z, z = c * 10 := ⟨_, rfl⟩
          rw [← hc2] at hmul HST
          have hc2b : c2 ≤ 10000 := by omega
          clear hc2
          have hadd : IntKind.i64.wrap ((c2 : Int) + (y2 : Int)) = ((c2 + y2 : Nat) : Int) := by rw [IntKind.wrap_i64]; omega
          obtain ⟨c3, hc3⟩ : ∃ z, z = c2 + y2 := ⟨_, rfl⟩
          rw [← hc3] at hadd HST
          clear hc3
          go_wp2_with fail
          go_roundw
          case rel => exact ⟨k + 1, by omega, by go_num, by rw [HST.out], by trivial⟩
          case measure => simp [intOf]; omega
        · have hltI : ¬ (k : Int) < (d : Int) := by omega
          have hkd : k = d := by omega
          have etk : head.take k = head := by rw [List.take_of_length_le (by omega)]
          rw [etk]
          obtain ⟨z, hz⟩ : ∃ z, z = numL head := ⟨_, rfl⟩
          rw [← hz] at hzb HR HSD ⊢
          clear hz HPRE HDG HDGE rH1 hcv etk hszz
          by_cases hz2 : 200 < z
          · have hz2I : (200 : Int) < (z : Int) := by omega
            have hsd := HSD.out
            rw [decide_eq_false (by omega)] at hsd
            rw [if_pos hsd] at HR
            obtain ⟨r1, r2, r3⟩ := HR.out
            rw [r1] at r2 r3
            rw [if_neg (by decide)] at r2 r3
            subst r1 r2 r3
            go_wp2_with fail
            go_ret2
            exact ⟨_, rfl, own_nilI _ _, (fun h => absurd h (by decide)), g1⟩
          have hz2I : ¬ (200 : Int) < (z : Int) := by omega
          have hsd := HSD.out
          rw [decide_eq_true (by omega)] at hsd
          rw [if_neg (by rw [hsd]; decide), HDD.out z] at HR
          simp only [HCND.out z] at HR
          have hhl0 := HDL.out z
          obtain ⟨held, hh⟩ : ∃ l, l = (data.drop a1).take z := ⟨_, rfl⟩
          rw [← hh] at HR hhl0
          have HH := hideT hh
          clear hh hsd HSD HDD HCND HDL HHD
          go_upto_region 16 with fail
          by_cases hsh : N < a1 + z
          · rw [if_pos (by omega)] at HR
            obtain ⟨r1, r2, r3⟩ := HR.out
            rw [r1] at r2 r3
            rw [if_neg (by decide)] at r2 r3
            subst r1 r2 r3
            go_wp2_with fail
            refine (take_no N a1 z gP cap _ wt1 (by omega) (by omega) hsh kP1).mono ?_
            rintro e wt ⟨rfl, hwt⟩
            have gt := grown_trans g1 (grown_of_below (show Below wt1.heap.size wt1 wt from by rw [hwt]; exact (Below.refl _ _).drew) (some gP))
            clear hwt
            go_wp2_with fail
            go_ret2
            exact ⟨_, rfl, own_nilI _ _, (fun h => absurd h (by decide)), gt⟩
          rw [if_neg (by omega)] at HR
          have HHL := hideT (hhl0 (by omega))
          clear hhl0
          obtain ⟨oA, hoA⟩ : ∃ oA, (cap = a1 ∧ oA = o) ∨ (¬ cap = a1 ∧ oA = o + a1) := by
            by_cases h : cap = a1
            · exact ⟨o, .inl ⟨h, rfl⟩⟩
            · exact ⟨o + a1, .inr ⟨h, rfl⟩⟩
          have HTK := hideT (take_go N a1 z gP b o oA cap wt1 hN4 (by omega) hNc hoA kP1)
          have RH : Hid (∀ {x : World}, RowAt x (some ⟨b, o, none⟩) data → RowAt x (some ⟨b, oA, none⟩) held) := by
            intro x hx
            rcases hoA with ⟨h1, rfl⟩ | ⟨-, rfl⟩
            · exact .inl (List.length_eq_zero_iff.1 (by rw [HHL.out]; omega))
            · rw [show held = _ from HH.out]; exact (RowAt.drop hx a1).take z
          clear hoA
          obtain ⟨A2, hA2⟩ : ∃ x, x = a1 + z := ⟨_, rfl⟩
          rw [← hA2] at HTK
          have HA2 := hideT hA2
          have hhl := HHL.out
          clear hA2
          go_wp2_with fail
          refine HTK.out.mono ?_
          rintro e wt ⟨rfl, kPt, gt0⟩
          have gt := grown_trans g1 gt0
          have rt := RH.out (RowAt.grown hr gt (by intro x hx e; cases hx; cases e; exact hbP rfl))
          have HHO := hideT (holds_no no hin held (some ⟨b, oA, none⟩) (cap - a1) wt (by omega) rt)
          have HBY := hideT (bytes_allQ held (some ⟨b, oA, none⟩) (cap - a1) wt (by omega) rt)
          rw [hhl] at HHO HBY
          obtain ⟨fq, hfq⟩ : ∃ c, c = fitsN (kpL no) (kpM no) (kpOk no) held := ⟨_, rfl⟩
          rw [← hfq] at HHO HR
          have hwl := gt.size
          clear hfq HTK gt0 rt RH hhl
          cases fq
          · rw [if_neg (by decide)] at HR
            obtain ⟨r1, r2, r3⟩ := HR.out
            rw [r1] at r2 r3
            rw [if_neg (by decide)] at r2 r3
            subst r1 r2 r3
            go_wp2_with fail
            refine HHO.out.mono ?_
            rintro e w8 ⟨rfl, hw8⟩
            subst hw8
            go_wp2_with fail
            go_ret2
            exact ⟨_, rfl, own_nilI _ _, (fun h => absurd h (by decide)), gt⟩
          · rw [if_pos rfl] at HR
            obtain ⟨r1, r2, r3⟩ := HR.out
            rw [r1] at r2 r3
            rw [if_pos rfl] at r2 r3
            have HR2 := hideT (And.intro r2 r3)
            subst r1
            clear r2 r3 HR
            go_wp2_with fail
            refine HHO.out.mono ?_
            rintro e w8 ⟨rfl, hw8⟩
            subst hw8
            go_wp2_with fail
            refine HBY.out.mono ?_
            rintro e w9 ⟨v9, rfl, own9, b9⟩
            have gt9 := grown_trans gt (grown_of_below b9 (some gP))
            have kP9 := kPt.below b9 kPt.lt
            have own9' := (OwnB.own own9).monoI hwl
            clear own9 b9
            go_wp2_with fail
            go_ret2
            exact ⟨_, rfl, by rw [HR2.out.1]; exact own9', (fun _ => by rw [HR2.out.2, show a + (d + z) = A2 from by have := HA2.out; have := HA1.out; omega]; exact kP9), gt9⟩
theorem fieldS_no (no : Nat) (hin : no ∈ tabNos) (data : List UInt8) (a gP b o cap N : Nat) (w : World) (hN : N = data.length) (hN4 : N ≤ 4096) (hNc : N ≤ cap) (ha : a ≤ N) (hbP : b ≠ gP) (kP : Blk w gP 65 [.slice (some ⟨b, o, none⟩) N cap, .int .i64 (a : Int)]) (hr : RowAt w (some ⟨b, o, none⟩) data) :
    Calls Tryz.prog 29 #[.pointer (some ⟨gP, 0, none⟩), .int .i64 (no : Int)] w fun e w' => ∃ v, e = .returned (.tuple #[v, .int .i64 (fldC no (data.drop a) : Nat)]) ∧ Own w' w.heap.size v (fldD no (data.drop a)) ∧ PAt (fldC no (data.drop a)) w' gP b o N cap (a + fldE no (data.drop a)) ∧ w.grownBy w' (some gP) := by
  have h := hin
  simp only [tabNos, List.mem_cons, List.not_mem_nil, or_false] at h
  rcases h with rfl | rfl | rfl | rfl | rfl | rfl | rfl | rfl | rfl | rfl | rfl | rfl | rfl | rfl
  · exact fieldS_counted 2 hin 4 2 13 19 rfl (.inl ⟨rfl, rfl, rfl⟩) rfl rfl rfl (by omega) (by omega) data a gP b o cap N w hN hN4 hNc ha hbP kP hr
  · exact fieldS_fixed 3 hin 1 6 rfl (by decide) (by decide) rfl rfl rfl (by omega) data a gP b o cap N w hN hN4 hNc ha hbP kP hr
  · exact fieldS_fixed 4 hin 1 12 rfl (by decide) (by decide) rfl rfl rfl (by omega) data a gP b o cap N w hN hN4 hNc ha hbP kP hr
  · exact fieldS_fixed 7 hin 1 10 rfl (by decide) (by decide) rfl rfl rfl (by omega) data a gP b o cap N w hN hN4 hNc ha hbP kP hr
  · exact fieldS_fixed 11 hin 1 6 rfl (by decide) (by decide) rfl rfl rfl (by omega) data a gP b o cap N w hN hN4 hNc ha hbP kP hr
  · exact fieldS_fixed 37 hin 2 12 rfl (by decide) (by decide) rfl rfl rfl (by omega) data a gP b o cap N w hN hN4 hNc ha hbP kP hr
  · exact fieldS_fixed 39 hin 2 2 rfl (by decide) (by decide) rfl rfl rfl (by omega) data a gP b o cap N w hN hN4 hNc ha hbP kP hr
  · exact fieldS_fixed 41 hin 2 8 rfl (by decide) (by decide) rfl rfl rfl (by omega) data a gP b o cap N w hN hN4 hNc ha hbP kP hr
  · exact fieldS_counted 48 hin 5 3 0 200 rfl (.inr ⟨rfl, rfl, rfl⟩) rfl rfl rfl (by omega) (by omega) data a gP b o cap N w hN hN4 hNc ha hbP kP hr
  · exact fieldS_fixed 52 hin 3 8 rfl (by decide) (by decide) rfl rfl rfl (by omega) data a gP b o cap N w hN hN4 hNc ha hbP kP hr
  · exact fieldS_fixed 53 hin 3 10 rfl (by decide) (by decide) rfl rfl rfl (by omega) data a gP b o cap N w hN hN4 hNc ha hbP kP hr
  · exact fieldS_fixed 64 hin 3 8 rfl (by decide) (by decide) rfl rfl rfl (by omega) data a gP b o cap N w hN hN4 hNc ha hbP kP hr
  · exact fieldS_fixed 70 hin 1 3 rfl (by decide) (by decide) rfl rfl rfl (by omega) data a gP b o cap N w hN hN4 hNc ha hbP kP hr
  · exact fieldS_fixed 128 hin 3 8 rfl (by decide) (by decide) rfl rfl rfl (by omega) data a gP b o cap N w hN hN4 hNc ha hbP kP hr
end Go.Proofs.YtacgbajcdngokaaGreatDoor
