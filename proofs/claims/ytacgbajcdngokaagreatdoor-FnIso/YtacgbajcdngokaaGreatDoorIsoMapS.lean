/-
  spec.l6Map.
-/
import Derived.Test.YtacgbajcdngokaaGreatDoorIsoFieldS
namespace Go.Proofs.YtacgbajcdngokaaGreatDoor
open Go.RowKit

def numV (n : Nat) : Value := .int .i64 (n : Int)
theorem bitsL_app (a b : List UInt8) : bitsL (a ++ b) = bitsL a ++ bitsL b := by simp [bitsL]
theorem bitsL_get (l : List UInt8) : ∀ i, i < 8 * l.length → ((bitsL l).getD i 0).toNat = if bitL l i = true then 1 else 0 := by
  induction l with
  | nil => intro i h; simp at h
  | cons x r ih =>
    intro i h
    have e : bitsL (x :: r) = bits8 x ++ bitsL r := by simp [bitsL]
    rw [e]
    by_cases hi : i < 8
    · rw [List.getD_eq_getElem?_getD, List.getElem?_append_left (by rw [bits8_length]; exact hi)]
      have e2 : (bits8 x)[i]? = some (bitN x i) := by unfold bits8; rw [List.getElem?_map, List.getElem?_range hi]; rfl
      rw [e2]
      show (bitN x i).toNat = _
      unfold bitN bitL
      rw [show i / 8 = 0 from by omega, show i % 8 = i from by omega]
      show (UInt8.ofNat (x.toNat / 2 ^ (7 - i) % 2)).toNat = if x.toNat.testBit (7 - i) = true then 1 else 0
      rw [UInt8.toNat_ofNat', Nat.testBit_eq_decide_div_mod_eq]
      have hm := Nat.mod_two_eq_zero_or_one (x.toNat / 2 ^ (7 - i))
      rcases hm with hm | hm <;> rw [hm] <;> simp
    · rw [List.getD_eq_getElem?_getD, List.getElem?_append_right (by rw [bits8_length]; omega), bits8_length, ← List.getD_eq_getElem?_getD]
      rw [ih (i - 8) (by simp at h; omega)]
      unfold bitL
      rw [show i / 8 = (i - 8) / 8 + 1 from by omega, show i % 8 = (i - 8) % 8 from by omega]
      rfl
theorem kind_in (n : Nat) : (kindOf (n : Int)).1 = 0 ↔ n ∉ tabNos := by
  constructor
  · intro h hm
    simp only [tabNos, List.mem_cons, List.not_mem_nil, or_false] at hm
    rcases hm with rfl | rfl | rfl | rfl | rfl | rfl | rfl | rfl | rfl | rfl | rfl | rfl | rfl | rfl <;> exact absurd h (by decide)
  · intro h
    simp only [tabNos, List.mem_cons, List.not_mem_nil, or_false, not_or] at h
    obtain ⟨h1, h2, h3, h4, h5, h6, h7, h8, h9, h10, h11, h12, h13, h14⟩ := h
    unfold kindOf
    rw [if_neg (by omega), if_neg (by omega), if_neg (by omega), if_neg (by omega), if_neg (by omega), if_neg (by omega), if_neg (by omega), if_neg (by omega), if_neg (by omega), if_neg (by omega), if_neg (by omega), if_neg (by omega), if_neg (by omega), if_neg (by omega)]
theorem lastN_lt (bm : List UInt8) (k : Nat) (hk : 1 ≤ k) : lastN (nosTo bm k) < k := by
  unfold lastN
  cases h : (nosTo bm k).getLast? with
  | none => simp [List.getLastD_eq_getLast?, h]; omega
  | some x =>
    have hm := List.mem_of_getLast? h
    simp [List.getLastD_eq_getLast?, h]
    unfold nosTo at hm
    rw [List.mem_filter, List.mem_range] at hm
    exact hm.1
theorem grown_over {a b c : World} {r y : Option Nat} (h : a.grownBy b r) (k : b.grownBy c y) (hy : ∀ g, y = some g → a.heap.size ≤ g) : a.grownBy c r :=
  ⟨k.os.trans h.os, k.tape.trans h.tape, k.output.trans h.output, Nat.le_trans h.size k.size, fun i hi hr => (k.block i (Nat.lt_of_lt_of_le hi h.size) (fun e => by first | exact absurd (hy i e) (by omega) | exact absurd (hy i e.symm) (by omega))).trans (h.block i hi hr)⟩
theorem nosTo_one (bm : List UInt8) : nosTo bm 1 = [] := by
  unfold nosTo
  simp [List.range_succ]
theorem Tryz.infoInt : (Tryz.prog.info? 3).map (fun i => (i.zero, i.size, i.bytes)) = some (some (.int .i64 0), 1, 8) := by kernel_rfl
set_option maxRecDepth 100000 in
set_option maxHeartbeats 4000000 in
theorem l6Map_any (data : List UInt8) (gP b o cap N : Nat) (w : World) (hN : N = data.length) (hN4 : N ≤ 4096) (hNc : N ≤ cap) (h4 : 4 ≤ N) (hbP : b ≠ gP) (kP : Blk w gP 65 [.slice (some ⟨b, o, none⟩) N cap, .int .i64 ((4 : Nat) : Int)]) (hr : RowAt w (some ⟨b, o, none⟩) data) :
    Calls Tryz.prog 28 #[.pointer (some ⟨gP, 0, none⟩)] w fun e w' => ∃ v, e = .returned (.tuple #[v, .int .i64 (mapC data : Nat)]) ∧ w'.ownsRow w.heap.size 3 1 v (mapN data).length ((mapN data).map numV) ∧ PAt (mapC data) w' gP b o N cap (mapE data) ∧ w.grownBy w' (some gP) := by
  obtain ⟨i0, hi, hz0, hz1, hz2⟩ := info_parts Tryz.infoInt
  obtain ⟨j0, hj, hy0, hy1, hy2⟩ := info_parts Tryz.info5
  by_cases h12 : N < 12
  · have hc : mapC data = 1 := by
      unfold mapC
      rw [if_pos]
      unfold mapEnd
      split <;> omega
    have hn0 : mapN data = [] := by unfold mapN; rw [hc]; rfl
    rw [hc, hn0]
    have HT := hideT (take_no N 4 8 gP cap _ w (by omega) h4 (by omega) kP)
    clear hc hn0 hN
    go_enter Tryz.func28, Tryz.ntmps28
    go_wp2_with (go_at_call 26; refine HT.out.mono ?_; rintro e wt ⟨rfl, hwt⟩)
    go_ret2
    exact ⟨_, rfl, World.ownsRow_nil _ _ _ _, (fun h => absurd h (by decide)), grown_drewT (grown_of_below (Below.refl _ _) _)⟩
  have hgPl := kP.lt
  have HT1 := hideT (take_go N 4 8 gP b o (o + 4) cap w hN4 (by omega) hNc (.inr ⟨by omega, rfl⟩) kP)
  obtain ⟨one, hone⟩ : ∃ l, l = (data.drop 4).take 8 := ⟨_, rfl⟩
  have hol : one.length = 8 := by rw [hone, List.length_take, List.length_drop]; omega
  have hq0 : bitL one 0 = bitL (data.drop 4) 0 := by
    have e : ((data.drop 4).take 8).getD 0 0 = (data.drop 4).getD 0 0 := by cases (data.drop 4) <;> rfl
    unfold bitL
    rw [hone, show 0 / 8 = 0 from rfl, e]
  have hb0 : ((bitsL one).getD 0 0).toNat = if bitL one 0 = true then 1 else 0 := bitsL_get one 0 (by omega)
  obtain ⟨q, hq⟩ : ∃ c, c = bitL (data.drop 4) 0 := ⟨_, rfl⟩
  rw [hq0, ← hq] at hb0
  obtain ⟨E, hE⟩ : ∃ E, E = mapEnd data := ⟨_, rfl⟩
  have hEq : E = if q = true then 20 else 12 := by rw [hE, hq]; rfl
  obtain ⟨m, hm⟩ : ∃ m, m = E - 4 := ⟨_, rfl⟩
  obtain ⟨bm, hbm⟩ : ∃ l, l = (data.drop 4).take m := ⟨_, rfl⟩
  have HR : Hid (mapC data = (if N < E then 1 else if inTab (nosTo bm (8 * m + 1)) = false then 3 else if 12 < E ∧ lastN (nosTo bm (8 * m + 1)) ≤ 64 then 3 else 0) ∧ mapN data = (if mapC data = 0 then nosTo bm (8 * m + 1) else []) ∧ mapE data = (if mapC data = 0 then E else 0)) := by
    have e : nosOf data = nosTo bm (8 * m + 1) := by unfold nosOf; rw [hbm, hm, hE]
    refine ⟨?_, ?_, ?_⟩
    · unfold mapC; rw [e, ← hE, ← hN]
    · unfold mapN; rw [e]
    · unfold mapE; rw [← hE]
  obtain ⟨RC, hRC⟩ : ∃ c, c = mapC data := ⟨_, rfl⟩
  obtain ⟨RN, hRN⟩ : ∃ c, c = mapN data := ⟨_, rfl⟩
  obtain ⟨RE, hRE⟩ : ∃ c, c = mapE data := ⟨_, rfl⟩
  rw [← hRC, ← hRN, ← hRE] at HR ⊢
  have HQ := hideT hEq
  have HN := hideT hN
  have HM := hideT hm
  have HBM := hideT hbm
  have HONE := hideT hone
  have R1 : Hid (∀ {x : World}, RowAt x (some ⟨b, o, none⟩) data → RowAt x (some ⟨b, o + 4, none⟩) one) := by
    intro x hx; rw [hone]; exact (RowAt.drop hx 4).take 8
  have HB1 := hideT (fun (wx : World) (h : RowAt wx (some ⟨b, o + 4, none⟩) one) => bits_any (some ⟨b, o + 4, none⟩) (cap - 4) one wx (by omega) h)
  rw [hol] at HB1
  have hbl1 : (bitsL one).length = 64 := by rw [bitsL_length, hol]
  clear hRC hRN hRE hN hE hq hEq hm hbm hone hq0
  go_enter Tryz.func28, Tryz.ntmps28
  go_upto_region 4 with (go_at_call 26; refine HT1.out.mono ?_; rintro e w1 ⟨rfl, kP1, g1⟩)
  have rD1 := RowAt.grown hr g1 (by intro x hx e; cases hx; cases e; exact hbP rfl)
  go_wp2_with fail
  refine (HB1.out _ (R1.out rD1)).mono ?_
  rintro e w2 ⟨v2, rfl, own2, b2⟩
  obtain ⟨a2, c2, rfl, r2, -, -, -⟩ := (OwnB.own own2).shape
  rw [hbl1] at own2 ⊢
  obtain ⟨g6, o6, rfl, hc6⟩ := r2.at (k := 0) (by omega)
  have c60 := hc6 0 (by omega)
  rw [Nat.add_zero] at c60
  obtain ⟨y0, hy0e⟩ : ∃ y, y = ((bitsL one).getD 0 0).toNat := ⟨_, rfl⟩
  rw [← hy0e] at c60 hb0
  have g12 := grown_trans g1 (grown_of_below b2 (some gP))
  have kP2 := kP1.below b2 kP1.lt
  have rD2 := rD1.below b2
  have hw12 := g1.size
  have own2' := ownR_mono own2 hw12
  have OB2 : Hid (w2.ownsRow w.heap.size 5 1 (.slice (some ⟨g6, o6, none⟩) 64 c2) 64 ((bitsL one).map byte)) := by
    have h := own2'
    unfold OwnB at own2
    rw [hbl1] at h
    exact h
  have hbq : ((y0 : Int) == 1) = q := by
    rw [hb0]
    cases q <;> rfl
  clear hy0e hc6 own2 own2' r2 HT1 HB1 b2 kP1 rD1 g1 hr kP hb0
  go_upto_if 29 with fail
  go_cut [6] (fun bv wx => ∃ g7 c7, bv = .slice (some ⟨g7, 0, none⟩) (8 * m) c7 ∧ wx.ownsRow w.heap.size 5 1 (.slice (some ⟨g7, 0, none⟩) (8 * m) c7) (8 * m) ((bitsL bm).map byte) ∧ bm.length = m ∧ ¬ N < E ∧ Blk wx gP 65 [.slice (some ⟨b, o, none⟩) N cap, .int .i64 (E : Int)] ∧ w.grownBy wx (some gP))
  case first =>
    cases q
    · have hE := HQ.out
      rw [if_neg (by decide)] at hE
      subst hE
      have hm8 : m = 8 := HM.out
      subst hm8
      have hbo : bm = one := by rw [HBM.out, HONE.out]
      subst hbo
      have hg60 : o6 = 0 := by
        rcases OB2.out.2 with ⟨hv, hz⟩ | ⟨g, c, cur, hv, -⟩
        · cases hv
        · cases hv; rfl
      subst hg60
      have HRES := hideT (And.intro OB2.out (And.intro kP2 g12))
      clear OB2 HR HQ
      go_wp2_with fail
      go_meet
      case rel => exact ⟨g6, c2, rfl, HRES.out.1, hol, h12, HRES.out.2.1, HRES.out.2.2⟩
    · have hE := HQ.out
      rw [if_pos rfl] at hE
      subst hE
      have hm8 : m = 16 := HM.out
      subst hm8
      by_cases h20 : N < 20
      · rw [if_pos h20] at HR
        obtain ⟨r1, r2, r3⟩ := HR.out
        rw [r1] at r2 r3
        rw [if_neg (by decide)] at r2 r3
        subst r1 r2 r3
        have HT := hideT (take_no N 12 8 gP cap _ w2 (by omega) (by omega) (by omega) kP2)
        have HG := hideT g12
        clear OB2 HR HQ kP2 g12
        go_wp2_with (go_at_call 26; refine HT.out.mono ?_; rintro e wt ⟨rfl, hwt⟩)
        go_ret2
        exact ⟨_, rfl, World.ownsRow_nil _ _ _ _, (fun h => absurd h (by decide)), grown_drewT HG.out⟩
      have HT := hideT (take_go N 12 8 gP b o (o + 12) cap w2 hN4 (by omega) hNc (.inr ⟨by omega, rfl⟩) kP2)
      obtain ⟨more, hmo⟩ : ∃ l, l = (data.drop 12).take 8 := ⟨_, rfl⟩
      have hml : more.length = 8 := by have := HN.out; rw [hmo, List.length_take, List.length_drop]; omega
      have R2 : Hid (∀ {x : World}, RowAt x (some ⟨b, o, none⟩) data → RowAt x (some ⟨b, o + 12, none⟩) more) := by
        intro x hx; rw [hmo]; exact (RowAt.drop hx 12).take 8
      have hbe : bm = one ++ more := by rw [HBM.out, HONE.out, hmo, show (16 : Nat) = 8 + 8 from rfl, List.take_add, List.drop_drop]
      have HB2 := hideT (fun (wx : World) (h : RowAt wx (some ⟨b, o + 12, none⟩) more) => bits_any (some ⟨b, o + 12, none⟩) (cap - 12) more wx (by omega) h)
      rw [hml] at HB2
      have hbl2 : (bitsL more).length = 64 := by rw [bitsL_length, hml]
      have hbml : bm.length = 16 := by rw [hbe, List.length_append, hol, hml]
      have HBE := hideT hbe
      clear hbe hmo HQ HR
      have hgl := kP2.lt
      have hgPw : gP < w.heap.size := hgPl
      have hrl := OB2.out.lt
      go_upto_region 10 with (go_at_call 26; refine HT.out.mono ?_; rintro e w3 ⟨rfl, kP3, g3⟩)
      have rD3 := RowAt.grown rD2 g3 (by intro x hx e; cases hx; cases e; exact hbP rfl)
      have OB3 := World.ownsRow.kept OB2.out g3 (.inr (fun e => by have := (hrl _ e).1; omega))
      have g13 := grown_trans g12 g3
      clear HT kP2 g12 g3 rD2
      go_wp2_with fail
      refine (HB2.out _ (R2.out rD3)).mono ?_
      rintro e w4 ⟨v4, rfl, own4, b4⟩
      obtain ⟨a4, c4, rfl, r4, -, -, -⟩ := (OwnB.own own4).shape
      rw [hbl2]
      obtain ⟨g8, o8, rfl, h8⟩ := row_rangeI r4 (by omega)
      have OB4 := ownR_below OB3 b4
      have kP4 := kP3.below b4 kP3.lt
      have g14 := grown_trans g13 (grown_of_below b4 (some gP))
      have hs4 := g14.size
      have hrl4 := OB4.lt
      clear OB3 kP3 b4 g13 rD3 own4 HB2 R2
      go_wp2_with (at_builtin; refine wpList_append_own_at _ rfl _ _ 22 rfl w.heap.size 5 j0 (.int .u8 0) 1 1 Tryz.underlying22 hj hy0 hy1 hy2 rfl (by decide) _ _ _ rfl OB4 ⟨g8, o8, none⟩ 64 c4 ((bitsL more).map byte) rfl (by rw [List.length_map, hbl2]) (by intro j u hu; rw [Addr.add_mid]; exact h8 j u hu) (by intro u hu; simp only [List.mem_map] at hu; obtain ⟨y, -, rfl⟩ := hu; rfl) (by unfold maxLen; omega) (by omega) hs4 ?_; intro v5 w5 own5 grow5 _ hat5)
      have kP5 := kP4.grown grow5 (fun e => by have := (hrl4 _ e.symm).1; omega)
      have g15 := grown_over g14 grow5 (fun g hg => (hrl4 g hg).1)
      rcases own5.2 with ⟨hv, hz⟩ | ⟨g7, c7, cur, hv, hrest⟩
      · omega
      · subst hv
        have OB5 : Hid (w5.ownsRow w.heap.size 5 1 (.slice (some ⟨g7, 0, none⟩) (64 + 64) c7) (64 + 64) ((bitsL bm).map byte)) := by
          rw [HBE.out, bitsL_app, List.map_append]
          exact own5
        clear own5 hrest hat5 grow5 OB4 h8 r4 kP4 g14 hrl4 OB2 hrl
        go_wp2_with fail
        go_meet
        case rel => exact ⟨g7, c7, rfl, OB5.out, hbml, h20, kP5, g15⟩
  case rest =>
    obtain ⟨g7, c7, rfl, ownB, hbl, hNE, kPc, gc⟩ := hcut
    rw [if_neg hNE] at HR
    have HEv : Hid (E = if q = true then 20 else 12) := HQ
    have hmv : m = 8 ∨ m = 16 := by have h1 := HM.out; have h2 := HQ.out; cases q <;> simp at h2 <;> omega
    obtain ⟨M, hMe⟩ : ∃ M, M = 8 * m := ⟨_, rfl⟩
    rw [← hMe] at ownB HR ⊢
    have hMb : M ≤ 128 := by omega
    have HCB : Hid (∀ {x : World}, Below wc.heap.size wc x → ∀ k, k < M → x.cell? ⟨g7, k, none⟩ = some (.int .u8 ((if bitL bm k = true then 1 else 0 : Nat) : Int))) := by
      intro y hy k hk
      have ox := ownR_below ownB hy
      have c := ox.cellAt k (by omega)
      have hlk : k < (bitsL bm).length := by rw [bitsL_length, hbl]; omega
      rw [c, List.getElem?_map, List.getElem?_eq_getElem hlk]
      have e := bitsL_get bm k (by omega)
      rw [List.getD_eq_getElem?_getD, List.getElem?_eq_getElem hlk] at e
      rw [← e]
      rfl
    have hgl := kPc.lt
    clear ownB hMe HBM HONE OB2 kP2 g12 rD2 R1 hbl hbl1 hol hw12 hNE HQ HM
    go_wp2_with fail
    go_loopw [10, 11, 43] (fun ov hv iv wr => ∃ k : Nat, k ≤ M ∧ iv = .int .i64 (k : Int) ∧ hv = .bool (decide (64 < lastN (nosTo bm (k + 1)))) ∧ wr.ownsRow wc.heap.size 3 1 ov (nosTo bm (k + 1)).length ((nosTo bm (k + 1)).map numV) ∧ Hid (inTab (nosTo bm (k + 1)) = true) ∧ Below wc.heap.size wc wr) (fun _ _ iv _ => M - (intOf iv).toNat)
    case atStart => exact ⟨0, Nat.zero_le _, rfl, by rw [nosTo_one]; rfl, by rw [nosTo_one]; exact World.ownsRow_nil _ _ _ _, by rw [nosTo_one]; exact (rfl : inTab [] = true), Below.refl _ _⟩
    case round =>
      rename_i ov _ _
      obtain ⟨k, hk, rfl, rfl, own, HT, hbx⟩ := hrel
      by_cases hlt : k < M
      · have hltI : (k : Int) < (M : Int) := by omega
        have ck := HCB.out hbx k hlt
        have hlen := nosTo_length bm (k + 1)
        have HLL := hideT (lastN_lt bm (k + 1) (by omega))
        by_cases hk0 : k = 0
        · subst hk0
          have H2 : Hid (nosTo bm (0 + 1 + 1) = nosTo bm (0 + 1)) := (nosTo_two bm).trans (nosTo_one bm).symm
          obtain ⟨L, hL⟩ : ∃ l, l = nosTo bm (0 + 1) := ⟨_, rfl⟩
          rw [← hL] at own HT H2 ⊢
          obtain ⟨yb, hyb⟩ : ∃ y : Nat, y = (if bitL bm 0 = true then 1 else 0) := ⟨_, rfl⟩
          rw [← hyb] at ck
          clear hL hyb
          go_wp2_with fail
          go_roundw
          case rel => exact ⟨1, by omega, rfl, by rw [H2.out], by rw [H2.out]; exact own, by rw [H2.out]; exact HT, hbx⟩
          case measure => simp [intOf]; omega
        · have hk0I : ¬ (k : Int) = 0 := by omega
          have HNO := hideT (nosTo_no bm (k + 1))
          have HYE := hideT (nosTo_yes bm (k + 1) (by omega))
          have HME := hideT (fun n => nosTo_mem bm (k + 1) n (by omega))
          rw [show k + 1 - 1 = k from rfl] at HNO HYE HME
          obtain ⟨bt, hbt⟩ : ∃ c, c = bitL bm k := ⟨_, rfl⟩
          rw [← hbt] at ck HNO HYE HME
          clear hbt
          obtain ⟨L, hL⟩ : ∃ l, l = nosTo bm (k + 1) := ⟨_, rfl⟩
          rw [← hL] at own HT HNO HYE hlen HLL ⊢
          clear hL
          cases bt
          · have HN1 := hideT (HNO.out rfl)
            have ck0 : wr.cell? ⟨g7, k, none⟩ = some (.int .u8 0) := ck
            clear HNO HYE HME ck
            go_wp2_with fail
            go_roundw
            case rel => exact ⟨k + 1, by omega, by go_num, by rw [HN1.out], by rw [HN1.out]; exact own, by rw [HN1.out]; exact HT, hbx⟩
            case measure => simp [intOf]; omega
          · have HY1 := hideT (HYE.out rfl)
            have HM1 := hideT (HME.out (M + 1) rfl (by omega))
            have ck0 : wr.cell? ⟨g7, k, none⟩ = some (.int .u8 1) := ck
            clear HNO HYE HME ck
            obtain ⟨hb, hhb⟩ : ∃ c, c = decide (64 < lastN L) := ⟨_, rfl⟩
            rw [← hhb]
            have HHB := hideT hhb
            have hwk : IntKind.i64.wrap ((k : Int) + 1) = ((k + 1 : Nat) : Int) := by rw [IntKind.wrap_i64]; omega
            obtain ⟨k1, hk1⟩ : ∃ z, z = k + 1 := ⟨_, rfl⟩
            rw [← hk1] at hwk HY1 HM1
            have HK1 := hideT hk1
            have HKD := hideT (fun (wx : World) => l6Kind_any (k1 : Int) wx)
            have HKI := hideT (kind_in k1)
            obtain ⟨kd, hkd⟩ : ∃ z, z = (kindOf (k1 : Int)).1 := ⟨_, rfl⟩
            obtain ⟨ke, hke⟩ : ∃ z, z = (kindOf (k1 : Int)).2 := ⟨_, rfl⟩
            rw [← hkd, ← hke] at HKD
            rw [← hkd] at HKI
            clear hkd hke hk1 hhb
            by_cases hin : k1 ∈ tabNos
            · have hkdn : ¬ kd = 0 := fun e => (HKI.out.1 e) hin
              have bx6 := hbx.alloc hbx.size (Obj.cells #[.int .i64 (k1 : Int)] 3)
              have hbs := hbx.size
              have HIN := hideT hin
              clear HKI hin
              have HY2 : Hid (nosTo bm (k + 1 + 1) = L ++ [k1]) := by rw [← HK1.out]; exact HY1.out
              have hll := HLL.out
              have hke1 := HK1.out
              have HKE := hideT (And.intro hll hke1)
              clear hll hke1 HY1
              cases hb
              · by_cases h64 : 64 ≤ k
                · have h64I : (64 : Int) ≤ (k : Int) := by omega
                  go_wp2_with (first
                    | (go_at_call 42; refine (HKD.out _).mono ?_; rintro e w5 ⟨rfl, hw5⟩; have hw6 := hw5.symm; subst hw6)
                    | (at_builtin; refine wpList_append_own _ rfl _ _ 69 rfl wc.heap.size 3 i0 (.int .i64 0) 1 8 Tryz.underlying69 hi hz0 hz1 hz2 rfl (by decide) _ _ _ rfl (own.alloc _) ⟨wr.heap.size, 0, none⟩ 1 1 [.int .i64 (k1 : Int)] rfl rfl (news_of_blk (Blk.new wr 3 #[.int .i64 (k1 : Int)])) (by intro u hu; simp at hu; subst hu; rfl) (by unfold maxLen; omega) (by omega) (by simp; omega) ?_; intro v5 w5 own5 grow5 _))
                  have bx5 := bx6.grown grow5 (by simp; omega) (fun g hg => (own.lt g hg).1)
                  go_roundw
                  case rel => exact ⟨k + 1, by omega, by rw [HK1.out], by rw [HY2.out, lastN_snoc]; exact congrArg Value.bool (by rw [decide_eq_true (by have := HKE.out; omega)]), by rw [HY2.out, List.length_append, List.map_append]; exact own5, by rw [HY2.out]; exact (inTab_snoc _ _).trans (by rw [HT.out, decide_eq_true HIN.out]; rfl), bx5⟩
                  case measure => have hkm := HK1.out; simp [intOf]; omega
                · have h64I : ¬ (64 : Int) ≤ (k : Int) := by omega
                  go_wp2_with (first
                    | (go_at_call 42; refine (HKD.out _).mono ?_; rintro e w5 ⟨rfl, hw5⟩; have hw6 := hw5.symm; subst hw6)
                    | (at_builtin; refine wpList_append_own _ rfl _ _ 69 rfl wc.heap.size 3 i0 (.int .i64 0) 1 8 Tryz.underlying69 hi hz0 hz1 hz2 rfl (by decide) _ _ _ rfl (own.alloc _) ⟨wr.heap.size, 0, none⟩ 1 1 [.int .i64 (k1 : Int)] rfl rfl (news_of_blk (Blk.new wr 3 #[.int .i64 (k1 : Int)])) (by intro u hu; simp at hu; subst hu; rfl) (by unfold maxLen; omega) (by omega) (by simp; omega) ?_; intro v5 w5 own5 grow5 _))
                  have bx5 := bx6.grown grow5 (by simp; omega) (fun g hg => (own.lt g hg).1)
                  go_roundw
                  case rel => exact ⟨k + 1, by omega, by rw [HK1.out], by rw [HY2.out, lastN_snoc]; exact congrArg Value.bool (by exact decide_eq_decide.2 (by have := HKE.out; omega)), by rw [HY2.out, List.length_append, List.map_append]; exact own5, by rw [HY2.out]; exact (inTab_snoc _ _).trans (by rw [HT.out, decide_eq_true HIN.out]; rfl), bx5⟩
                  case measure => have hkm := HK1.out; simp [intOf]; omega
              · go_wp2_with (first
                  | (go_at_call 42; refine (HKD.out _).mono ?_; rintro e w5 ⟨rfl, hw5⟩; have hw6 := hw5.symm; subst hw6)
                  | (at_builtin; refine wpList_append_own _ rfl _ _ 69 rfl wc.heap.size 3 i0 (.int .i64 0) 1 8 Tryz.underlying69 hi hz0 hz1 hz2 rfl (by decide) _ _ _ rfl (own.alloc _) ⟨wr.heap.size, 0, none⟩ 1 1 [.int .i64 (k1 : Int)] rfl rfl (news_of_blk (Blk.new wr 3 #[.int .i64 (k1 : Int)])) (by intro u hu; simp at hu; subst hu; rfl) (by unfold maxLen; omega) (by omega) (by simp; omega) ?_; intro v5 w5 own5 grow5 _))
                have bx5 := bx6.grown grow5 (by simp; omega) (fun g hg => (own.lt g hg).1)
                go_roundw
                case rel => exact ⟨k + 1, by omega, by rw [HK1.out], by rw [HY2.out, lastN_snoc]; exact congrArg Value.bool (by rw [decide_eq_true (by have h := of_decide_eq_true HHB.out.symm; have := HKE.out; omega)]), by rw [HY2.out, List.length_append, List.map_append]; exact own5, by rw [HY2.out]; exact (inTab_snoc _ _).trans (by rw [HT.out, decide_eq_true HIN.out]; rfl), bx5⟩
                case measure => have hkm := HK1.out; simp [intOf]; omega
            · have hkdn : kd = 0 := HKI.out.2 hin
              have hf := inTab_no _ k1 HM1.out hin
              rw [if_pos hf] at HR
              obtain ⟨r1, r2, r3⟩ := HR.out
              rw [r1] at r2 r3
              rw [if_neg (by decide)] at r2 r3
              subst r1 r2 r3 hkdn
              clear HKI hf hin
              go_wp2_with (go_at_call 42; refine (HKD.out _).mono ?_; rintro e w5 ⟨rfl, hw5⟩; have hw6 := hw5.symm; subst hw6)
              go_ret2
              exact ⟨_, rfl, World.ownsRow_nil _ _ _ _, (fun h => absurd h (by decide)), grown_trans gc (grown_of_below hbx (some gP))⟩
      · have hltI : ¬ (k : Int) < (M : Int) := by omega
        obtain rfl : k = M := by omega
        rw [if_neg (by rw [HT.out]; decide)] at HR
        obtain ⟨L, hL⟩ : ∃ l, l = nosTo bm (k + 1) := ⟨_, rfl⟩
        rw [← hL] at own HR ⊢
        obtain ⟨la, hla⟩ : ∃ n, n = lastN L := ⟨_, rfl⟩
        rw [← hla] at HR ⊢
        have HFN := hideT (And.intro (ownR_mono own gc.size) (And.intro (kPc.below hbx kPc.lt) (grown_trans gc (grown_of_below hbx (some gP)))))
        clear hL hla own HT kPc gc HCB
        have hEq := HEv.out
        cases q
        · rw [if_neg (by decide)] at hEq
          subst hEq
          rw [if_neg (by omega)] at HR
          obtain ⟨r1, r2, r3⟩ := HR.out
          rw [r1] at r2 r3
          rw [if_pos rfl] at r2 r3
          subst r1 r2 r3
          go_wp2_with fail
          go_ret2
          exact ⟨_, rfl, HFN.out.1, (fun _ => HFN.out.2.1), HFN.out.2.2⟩
        · rw [if_pos rfl] at hEq
          subst hEq
          by_cases h64 : 64 < la
          · rw [if_neg (by omega)] at HR
            obtain ⟨r1, r2, r3⟩ := HR.out
            rw [r1] at r2 r3
            rw [if_pos rfl] at r2 r3
            subst r1 r2 r3
            rw [decide_eq_true h64]
            go_wp2_with fail
            go_ret2
            exact ⟨_, rfl, HFN.out.1, (fun _ => HFN.out.2.1), HFN.out.2.2⟩
          · rw [if_pos (by omega)] at HR
            obtain ⟨r1, r2, r3⟩ := HR.out
            rw [r1] at r2 r3
            rw [if_neg (by decide)] at r2 r3
            subst r1 r2 r3
            rw [decide_eq_false h64]
            go_wp2_with fail
            go_ret2
            exact ⟨_, rfl, World.ownsRow_nil _ _ _ _, (fun h => absurd h (by decide)), HFN.out.2.2⟩
end Go.Proofs.YtacgbajcdngokaaGreatDoor
