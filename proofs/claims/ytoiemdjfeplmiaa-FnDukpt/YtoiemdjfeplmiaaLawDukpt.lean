/-
  laws.FnDukpt: the walk out of the contracts.
-/
import Derived.Test.YtoiemdjfeplmiaaDukDraw2
import Derived.Test.YtoiemdjfeplmiaaGdA
import Derived.Deep.RegionHeld3
namespace Go.Proofs.Ytoiemdjfeplmiaa
open Go.RowKit

theorem keyL_ten (bdk s : List UInt8) (hk : bdk.length = 16) (hs : s.length = 10) : keyL bdk s = keyN16 bdk s := by unfold keyL; rw [if_pos ⟨hk, hs⟩]
theorem keyL_nine (bdk s : List UInt8) (hs : s.length = 9) : keyL bdk s = [] := by unfold keyL; rw [if_neg (by omega)]
theorem dinitAll_ten (bdk s : List UInt8) (hk : bdk.length = 16) (hs : s.length = 10) : dinitAll bdk s = dinitL bdk s := by unfold dinitAll; rw [if_pos ⟨hk, hs⟩]
theorem key_zero (bdk s : List UInt8) (hs : s.length = 10) (h : countN s = 0) : keyN16 bdk s = dinitL bdk s := by
  obtain ⟨s0, s1, s2, s3, s4, s5, s6, s7, s8, s9, rfl⟩ := ten_of s hs
  unfold keyN16
  rw [ser_ten, count_word s0 s1 s2 s3 s4 s5 s6 s7 s8 s9, h]
  exact walkK_skip _ _ 0 0 21 (fun i _ _ => by simp)
theorem count_lt (s : List UInt8) : countN s < 2097152 := by
  have h7 := (s.getD 7 0).toNat_lt
  have h8 := (s.getD 8 0).toNat_lt
  have h9 := (s.getD 9 0).toNat_lt
  unfold countN
  omega

set_option maxRecDepth 100000 in
set_option maxHeartbeats 4000000 in
theorem lawDukpt_main (code : List UInt8) (ao : Option Addr) (cap : Nat) (w : World) (hn : code.length ≤ 1048576) (hr : RowAt w ao code) :
    Calls Try.prog 13 #[.slice ao code.length cap] w fun e w' => e = .returned (.bool true) ∧ Below w.heap.size w w' := by
  have HC := hide (cutLaw_any code 0 16 ao cap w hn (by omega) (by omega) hr)
  have hbl := cutL_length code 0 16
  obtain ⟨bdk, hbd⟩ : ∃ b, b = cutL code 0 16 := ⟨_, rfl⟩
  rw [← hbd] at HC hbl
  have HDr := hide (fun (wx : World) (h : Below w.heap.size w wx) => draw_any ao cap code wx hn (hr.below h))
  have hn' : ¬ ((1048576 : Int) < (code.length : Int)) := by omega
  clear hbd hr
  go_enter Try.func13, Try.ntmps13
  go_wp2_with fail
  refine HC.out.mono ?_
  rintro e w1 ⟨rfl, own1, bel1⟩
  have row1 : RowAt w1 (some ⟨w.heap.size, 0, none⟩) bdk := own1.own.row
  clear HC own1
  go_wp2_with fail
  refine (HDr.out w1 bel1).mono ?_
  rintro e w2 ⟨u, g, c, s, rfl, hs, hsc, hg, rows, bel2⟩
  have bz2 := bel1.trans (bel2.mono bel1.size)
  have rowk := row1.below bel2
  clear HDr row1 bel1 bel2
  have HK := hide (fun (sl : List UInt8) (ab : Option Addr) (cb : Nat) (wx : World) (h1 : sl.length ≤ 1048576) (h2 : sl.length ≤ cb) (h3 : RowAt wx (some ⟨w.heap.size, 0, none⟩) bdk) (h4 : RowAt wx ab sl) => key_all bdk sl (some ⟨w.heap.size, 0, none⟩) ab 16 cb wx (by omega) h1 (by omega) h2 h3 h4)
  rw [hbl] at HK
  rcases hs with hs | hs
  · have hKt := keyL_ten bdk s hbl hs
    have HK10 := hide (HK.out s (some ⟨g, 0, none⟩) c)
    rw [hKt, hs] at HK10
    have hcnt := count_lt s
    have hcv := count_val (s.getD 7 0) (s.getD 8 0) (s.getD 9 0)
    have hce : countN s = (s.getD 7 0).toNat % 32 * 65536 + (s.getD 8 0).toNat * 256 + (s.getD 9 0).toNat := rfl
    have hcell : ∀ j, j < 10 → w2.cell? ⟨g, j, none⟩ = some (.int .u8 ((s.getD j 0).toNat : Int)) := by
      intro j hj
      obtain ⟨b', o', he, hc⟩ := rows.at (k := j) (by omega)
      cases he
      have h := hc j (by omega)
      rw [Nat.zero_add] at h
      exact h
    have c7 := hcell 7 (by omega)
    have c8 := hcell 8 (by omega)
    have c9 := hcell 9 (by omega)
    rw [← hce] at hcv
    have HX7 := hide (show (s.getD 7 0) = (s.getD 7 0) from rfl)
    obtain ⟨x7, hx7⟩ : ∃ x, x = s.getD 7 0 := ⟨_, rfl⟩
    obtain ⟨x8, hx8⟩ : ∃ x, x = s.getD 8 0 := ⟨_, rfl⟩
    obtain ⟨x9, hx9⟩ : ∃ x, x = s.getD 9 0 := ⟨_, rfl⟩
    rw [← hx7, ← hx8, ← hx9] at hcv
    rw [← hx7] at c7
    rw [← hx8] at c8
    rw [← hx9] at c9
    have Hx7 := hide hx7
    obtain ⟨N, hN⟩ : ∃ N, N = countN s := ⟨_, rfl⟩
    rw [← hN] at hcv hcnt
    have HN := hide hN
    have HV := hide hcv
    have hsl := hs
    have hgc : 10 ≤ c := by omega
    rw [hs]
    clear hcell hce hcv hx7 hx8 hx9 hN HX7 hKt hsc
    go_wp2_with fail
    go_region_held3 (fun x => x.cell? ⟨g, 7, none⟩ = some (.int .u8 (x7.toNat : Int)) ∧ x.cell? ⟨g, 8, none⟩ = some (.int .u8 (x8.toNat : Int)) ∧ x.cell? ⟨g, 9, none⟩ = some (.int .u8 (x9.toNat : Int))) (exact ⟨c7, c8, c9⟩) (fail)
    rw [HV.out]
    clear HV c7 c8 c9
    have rowk' : RowAt w2.drew (some ⟨w.heap.size, 0, none⟩) bdk := rowk
    have rows' : RowAt w2.drew (some ⟨g, 0, none⟩) s := rows
    have bz2' := bz2.drew
    obtain ⟨V, hV⟩ : ∃ V, V = World.drew w2 := ⟨_, rfl⟩
    rw [← hV] at rowk' rows' bz2' ⊢
    clear hV rowk rows bz2
    have hkl := keyN16_length bdk s
    obtain ⟨K, hK⟩ : ∃ K, K = keyN16 bdk s := ⟨_, rfl⟩
    rw [← hK] at HK10 hkl
    have HKe := hide hK
    clear hK
    go_wp2_with fail
    refine (HK10.out V (by omega) hgc rowk' rows').mono ?_
    rintro e w3 ⟨v3, rfl, own3, bel3⟩
    obtain ⟨g3, c3, hc3, rfl, row3⟩ := Own.at own3 hkl (by omega)
    have bz3 := bz2'.trans (bel3.mono bz2'.size)
    have rk3 := rowk'.below bel3
    have rs3 := rows'.below bel3
    have hV3 := bel3.size
    have hg3 : V.heap.size ≤ g3 := by
      obtain ⟨ao', c', hv', -, hgg, -, -⟩ := own3.shape
      simp only [Value.slice.injEq] at hv'
      obtain ⟨rfl, -, -⟩ := hv'
      obtain ⟨g', h1, h2, -⟩ := hgg _ rfl
      cases h1
      exact h2
    clear own3 bel3 rowk' rows' bz2' HK10
    by_cases hN0 : N = 0
    · subst hN0
      have hKd : K = dinitL bdk s := by rw [HKe.out]; exact key_zero bdk s hsl HN.out.symm
      have HDI := hide (fun (wx : World) (h3 : RowAt wx (some ⟨w.heap.size, 0, none⟩) bdk) (h4 : RowAt wx (some ⟨g, 0, none⟩) s) => dinit_all bdk s (some ⟨w.heap.size, 0, none⟩) (some ⟨g, 0, none⟩) 16 c wx (by omega) (by omega) (by omega) (by omega) h3 h4)
      have HDS := hide (fun (wx : World) (h3 : RowAt wx (some ⟨w.heap.size, 0, none⟩) bdk) (h4 : RowAt wx (some ⟨g, 0, none⟩) s) => dinitS_all bdk s (some ⟨w.heap.size, 0, none⟩) (some ⟨g, 0, none⟩) 16 c wx (by omega) (by omega) (by omega) (by omega) h3 h4)
      rw [hbl, hsl, dinitAll_ten bdk s hbl hsl, ← hKd] at HDI HDS
      clear hKd
      go_wp2_with fail
      refine (HDI.out w3 rk3 rs3).mono ?_
      rintro e w4 ⟨v4, rfl, own4, bel4⟩
      obtain ⟨g4, c4, hc4, rfl, row4⟩ := Own.at own4 hkl (by omega)
      have bz4 := bz3.trans (bel4.mono bz3.size)
      have rk4 := rk3.below bel4
      have rs4 := rs3.below bel4
      have r34 := row3.below bel4
      clear own4 bel4 rk3 rs3 row3 bz3
      go_wp2_with fail
      refine (same_any K _ _ 16 _ _ w4 hkl (by omega) r34 row4).mono ?_
      rintro e w5 ⟨rfl, hw5⟩
      subst w5
      go_wp2_with fail
      refine (HDS.out w4 rk4 rs4).mono ?_
      rintro e w5 ⟨v5, rfl, own5, bel5⟩
      obtain ⟨g5, c5, hc5, rfl, row5⟩ := Own.at own5 hkl (by omega)
      have bz5 := bz4.trans (bel5.mono bz4.size)
      have r35 := r34.below bel5
      clear own5 bel5 rk4 rs4 r34 row4 bz4
      go_wp2_with fail
      refine (same_any K _ _ 16 _ _ w5 hkl (by omega) r35 row5).mono ?_
      rintro e w6 ⟨rfl, hw6⟩
      subst w6
      go_wp2_with fail
      go_ret
      exact ⟨rfl, bz5⟩
    · have hN0' : ¬ ((N : Int) = 0) := by omega
      obtain ⟨k, q, hk21, hkq⟩ := low_bit21 N (by omega) hcnt
      obtain ⟨m, hm⟩ : ∃ m, m = 2 ^ (k + 1) * q := ⟨_, rfl⟩
      have hp2 : 0 < 2 ^ k := Nat.pow_pos (by omega)
      have hmN : m < 2097152 := by omega
      have hand : bits BinOp.and IntKind.i64 (N : Int) ((N : Int) - 1) = (m : Int) := by
        show IntKind.i64.wrap ((BitVec.ofInt 64 (N : Int) &&& BitVec.ofInt 64 ((N : Int) - 1)).toNat : Int) = _
        rw [show (N : Int) - 1 = ((N - 1 : Nat) : Int) from by omega, BitVec.toNat_and, ofInt_u64 N (by omega), ofInt_u64 (N - 1) (by omega)]
        have h := and_pred_nat q k
        rw [← hkq, ← hm] at h
        rw [h, IntKind.wrap_i64]
        omega
      have HST := hide (dukStep bdk s hsl q k hk21 (by rw [← HN.out]; exact hkq) (by rw [← HN.out]; exact hcnt))
      rw [← hm, ← HKe.out] at HST
      have hLl := lessL_length s m
      have HLe := hide (show lessL s m = ((s.set 7 (UInt8.ofNat ((s.getD 7 0).toNat / 32 * 32 + m / 65536))).set 8 (UInt8.ofNat (m / 256))).set 9 (UInt8.ofNat m) from rfl)
      rw [← Hx7.out] at HLe
      rw [hsl] at hLl
      clear hkq hm hp2
      obtain ⟨i0, hi0, hz0, hz1, hz2⟩ := info_parts Try.info5
      have oE : (w3.alloc (.cells #[] 5)).ownsRow w3.heap.size 5 1 (.slice (some ⟨w3.heap.size, 0, none⟩) 0 0) 0 [] := ⟨rfl, .inr ⟨w3.heap.size, 0, #[], rfl, Nat.le_refl _, Blk.new w3 5 #[], Nat.le_refl _, by unfold maxLen; omega, rfl, rfl⟩⟩
      have hnw := row_news (rs3.below (below_new w3 (.cells #[] 5)))
      have hb3 := bz3.size
      have hclr := (clr_nat x7.toNat x7.toNat_lt).1
      have hm16 : m / 65536 < 32 := by omega
      have hor := or_seven x7.toNat (m / 65536) x7.toNat_lt hm16
      go_wp2_with (at_builtin; (refine wpList_append_own _ rfl _ _ 22 rfl w3.heap.size 5 i0 (.int .u8 0) 1 1 Try.underlying22 hi0 hz0 hz1 hz2 rfl (by decide) _ _ _ rfl oE ⟨g, 0, none⟩ 10 c (s.map byte) rfl (by rw [List.length_map, hsl]) hnw (all_one _) (by unfold maxLen; omega) (by omega) (by simp) ?_); intro vL w4 hownL hgrowL hnilL; replace hgrowL : World.grownBy _ w4 (some w3.heap.size) := hgrowL; (have hOL : OwnB w4 w3.heap.size vL s := (by unfold OwnB; rw [hsl]; exact hownL); obtain ⟨gL, cL, hcL, hvL, rowL⟩ := own_at hOL hsl (by omega); subst hvL; have hgL := hOL.low gL rfl; have hfL7 := hownL.frozenAt 7; have hfL8 := hownL.frozenAt 8; have hfL9 := hownL.frozenAt 9; have k7 : w4.cell? ⟨gL, 7, none⟩ = some (.int .u8 (x7.toNat : Int)) := (by rw [hownL.cellAt 7 (by omega), List.nil_append, List.getElem?_map, Hx7.out]; simp [hsl, byte]); obtain ⟨y8, k8⟩ := own_some hownL (show 8 < 10 * 1 by omega); obtain ⟨y9, k9⟩ := own_some hownL (show 9 < 10 * 1 by omega); have b34 : Below w3.heap.size w3 w4 := ((Below.refl _ w3).alloc (Nat.le_refl _) _).grown hgrowL (by simp) (by intro k hk; injection hk with hk; omega)))
      have e7 : Value.int .u8 (bits BinOp.or IntKind.u8 ((x7.toNat : Int) / 32 * 32) ((m : Int) / 65536)) = byte (UInt8.ofNat (x7.toNat / 32 * 32 + m / 65536)) := by
        have h7 := x7.toNat_lt
        rw [show ((x7.toNat : Int) / 32 * 32) = ((x7.toNat / 32 * 32 : Nat) : Int) from by omega, show ((m : Int) / 65536) = ((m / 65536 : Nat) : Int) from by omega, hor, byte_nat _ (by omega)]
      have e8 : Value.int .u8 ((m : Int) / 256 % 256) = byte (UInt8.ofNat (m / 256)) := by
        unfold byte
        rw [UInt8.toNat_ofNat']
        rfl
      have e9 : Value.int .u8 ((m : Int) % 256) = byte (UInt8.ofNat m) := by
        unfold byte
        rw [UInt8.toNat_ofNat']
        rfl
      rw [e7, e8, e9]
      have hO5 := (((hownL.stored 7 (byte (UInt8.ofNat (x7.toNat / 32 * 32 + m / 65536)))).1.stored 8 (byte (UInt8.ofNat (m / 256)))).1.stored 9 (byte (UInt8.ofNat m))).1
      have hb5 := ((b34.setCell (p := ⟨gL, 7, none⟩) hgL (byte (UInt8.ofNat (x7.toNat / 32 * 32 + m / 65536)))).setCell (p := ⟨gL, 8, none⟩) hgL (byte (UInt8.ofNat (m / 256)))).setCell (p := ⟨gL, 9, none⟩) hgL (byte (UInt8.ofNat m))
      rw [List.nil_append, ← List.map_set, ← List.map_set, ← List.map_set, ← HLe.out] at hO5
      obtain ⟨w5, hw5⟩ : ∃ x, x = ((w4.setCell ⟨gL, 7, none⟩ (byte (UInt8.ofNat (x7.toNat / 32 * 32 + m / 65536)))).setCell ⟨gL, 8, none⟩ (byte (UInt8.ofNat (m / 256)))).setCell ⟨gL, 9, none⟩ (byte (UInt8.ofNat m)) := ⟨_, rfl⟩
      rw [← hw5] at hO5 hb5 ⊢
      obtain ⟨LL, hLL⟩ : ∃ l, l = lessL s m := ⟨_, rfl⟩
      rw [← hLL] at hO5 hLl HST
      have rowL5 : RowAt w5 (some ⟨gL, 0, none⟩) LL := Own.row (⟨_, by rw [hLl]; exact hO5⟩ : Own w5 w3.heap.size (.slice (some ⟨gL, 0, none⟩) 10 cL) LL)
      have rk5 := rk3.below hb5
      have rs5 := rs3.below hb5
      have r35 := row3.below hb5
      have bz5 := bz3.trans (hb5.mono hb3)
      have HKL := hide (HK.out LL (some ⟨gL, 0, none⟩) cL w5 (by omega) (by omega) rk5 rowL5)
      rw [keyL_ten bdk LL hbl hLl, hLl] at HKL
      have hKKl := keyN16_length bdk LL
      obtain ⟨KK, hKK⟩ : ∃ K, K = keyN16 bdk LL := ⟨_, rfl⟩
      rw [← hKK] at HKL hKKl HST
      clear e7 e8 e9 hO5 hb5 hw5 hLL rowL5 rk5 rk3 rs3 row3 bz3 hownL hgrowL hnilL hOL rowL hfL7 hfL8 hfL9 k7 k8 k9 b34 oE hnw hclr hor hm16 hand hKK HK HLe hLl
      go_wp2_with fail
      refine HKL.out.mono ?_
      rintro e w6 ⟨v6, rfl, own6, bel6⟩
      obtain ⟨g6, c6, hc6, rfl, row6⟩ := Own.at own6 hKKl (by omega)
      have bz6 := bz5.trans (bel6.mono bz5.size)
      have rs6 := rs5.below bel6
      have r36 := r35.below bel6
      obtain ⟨w7, hw7⟩ : ∃ x, x = w6.alloc (.cells (serialL.map byte).toArray 5) := ⟨_, rfl⟩
      have b67 : Below w6.heap.size w6 w7 := by rw [hw7]; exact below_new _ _
      have rowM : RowAt w7 (some ⟨w6.heap.size, 0, none⟩) serialL := by rw [hw7]; exact rowAt_block (Blk.new w6 _ _)
      have bz7 := bz6.trans (b67.mono bz6.size)
      have rs7 := rs6.below b67
      have r37 := r36.below b67
      have row67 := row6.below b67
      have HXL := hide (lawXor_any (some ⟨g6, 0, none⟩) (some ⟨w6.heap.size, 0, none⟩) c6 16 KK serialL w7 (by omega) (by rw [hKKl]; rfl) row67 rowM)
      rw [hKKl, show serialL.length = 16 from rfl] at HXL
      have hLF : (xorL KK serialL).length = 16 := xorS_length KK hKKl
      have hw7' : w7 = w6.alloc (.cells #[.int .u8 192, .int .u8 192, .int .u8 192, .int .u8 192, .int .u8 0, .int .u8 0, .int .u8 0, .int .u8 0, .int .u8 192, .int .u8 192, .int .u8 192, .int .u8 192, .int .u8 0, .int .u8 0, .int .u8 0, .int .u8 0] 5) := hw7
      have HST2 : Hid (K = dhalfN (xorL KK serialL) (s.drop 2) ++ dhalfN KK (s.drop 2)) := HST.out
      obtain ⟨LF, hLFe⟩ : ∃ l, l = xorL KK serialL := ⟨_, rfl⟩
      rw [← hLFe] at HXL hLF HST2
      clear hLFe HST own6 bel6 rs6 r36 rs5 r35 bz5 bz6 row6 b67 rowM hw7 HKL
      go_wp2_with fail
      rw [← hw7']
      clear hw7'
      refine HXL.out.mono ?_
      rintro e w8 ⟨rfl, own8, bel8⟩
      obtain ⟨F, cF, -, hvF, rF8⟩ := own_at own8 hLF (by omega)
      cases hvF
      have bzw8 := bz7.trans (bel8.mono bz7.size)
      have RS1 := rs7.below bel8
      have r38 := r37.below bel8
      have row68 := row67.below bel8
      have hd2 : (s.drop 2).length = 8 := by rw [List.length_drop]; omega
      have hcg : (10 : Int) ≤ (c : Int) := by omega
      have hcg2 : (2 : Int) ≤ (c : Int) := by omega
      have hcg3 : ¬ c = 2 := by omega
      have h6a : (16 : Int) ≤ (c6 : Int) := by omega
      have h6b : (8 : Int) ≤ (c6 : Int) := by omega
      have h6c : ¬ c6 = 8 := by omega
      obtain ⟨FB, hFB⟩ : ∃ F, F = w7.heap.size := ⟨_, rfl⟩
      rw [← hFB] at rF8 ⊢
      clear own8 bel8 rs7 r37 row67 bz7 HXL hFB
      go_wp2_with fail
      obtain ⟨V1, hV1⟩ : ∃ V, V = World.drew w8 := ⟨_, rfl⟩
      have bV1 : Below w.heap.size w V1 := by rw [hV1]; exact bzw8.drew
      have q11 : RowAt V1 (some ⟨g, 2, none⟩) (s.drop 2) := by rw [hV1]; have h := RS1.drop 2; rw [Nat.zero_add] at h; exact h
      have q21 : RowAt V1 (some ⟨FB, 8, none⟩) (LF.drop 8) := by rw [hV1]; have h := rF8.drop 8; rw [Nat.zero_add] at h; exact h
      have q31 : RowAt V1 (some ⟨FB, 0, none⟩) (LF.take 8) := by rw [hV1]; exact rF8.take 8
      have rs1 : Hid (∀ {x}, Below V1.heap.size V1 x → RowAt x (some ⟨g, 2, none⟩) (s.drop 2)) := fun h => q11.below h
      have rd1 : Hid (∀ {x}, Below V1.heap.size V1 x → RowAt x (some ⟨FB, 8, none⟩) (LF.drop 8)) := fun h => q21.below h
      have rt1 : Hid (∀ {x}, Below V1.heap.size V1 x → RowAt x (some ⟨FB, 0, none⟩) (LF.take 8)) := fun h => q31.below h
      have keep1 : Hid (∀ {B x}, Below B V1 x → True) := fun _ => trivial
      have bb1 : Below V1.heap.size V1 V1 := Below.refl _ _
      have hd1l : (LF.drop 8).length = 8 := by rw [List.length_drop]; omega
      have ht1l : (LF.take 8).length = 8 := by rw [List.length_take]; omega
      have HXr1 := hide (fun (wx : World) (h1 : RowAt wx (some ⟨g, 2, none⟩) (s.drop 2)) (h2 : RowAt wx (some ⟨FB, 8, none⟩) (LF.drop 8)) => lawXor_any (some ⟨g, 2, none⟩) (some ⟨FB, 8, none⟩) (c - 2) (8) (s.drop 2) (LF.drop 8) wx (by omega) (by omega) h1 h2)
      rw [hd2, hd1l] at HXr1
      have hXl1 : (xorL (s.drop 2) (LF.drop 8)).length = 8 := by rw [xorL_length _ _ (by omega)]; exact hd2
      have HDs1 := hide (fun (gx cx : Nat) (wx : World) (h1 : RowAt wx (some ⟨FB, 0, none⟩) (LF.take 8)) (h2 : RowAt wx (some ⟨gx, 0, none⟩) (xorL (s.drop 2) (LF.drop 8))) => des_all (LF.take 8) (xorL (s.drop 2) (LF.drop 8)) (some ⟨FB, 0, none⟩) (some ⟨gx, 0, none⟩) 16 cx false wx (by omega) (by omega) h1 h2)
      have hde1 : desL (LF.take 8) (xorL (s.drop 2) (LF.drop 8)) false = encN (LF.take 8) (xorL (s.drop 2) (LF.drop 8)) := by unfold desL desN; rw [if_pos ⟨ht1l, hXl1⟩]; rfl
      rw [ht1l, hXl1, hde1] at HDs1
      have ha1l : (encN (LF.take 8) (xorL (s.drop 2) (LF.drop 8))).length = 8 := encN_length _ _
      obtain ⟨a1, ha1e⟩ : ∃ A, A = encN (LF.take 8) (xorL (s.drop 2) (LF.drop 8)) := ⟨_, rfl⟩
      rw [← ha1e] at HDs1 ha1l
      have Ha1e := hide ha1e
      have hwV1 := bV1.size
      clear q11 q21 q31 hde1 ha1e
      have z_s := (show RowAt V1 (some ⟨g, 0, none⟩) s from by rw [hV1]; exact RS1)
      have z_F := (show RowAt V1 (some ⟨FB, 0, none⟩) LF from by rw [hV1]; exact rF8)
      have z_Q := (show RowAt V1 (some ⟨g6, 0, none⟩) KK from by rw [hV1]; exact row68)
      have z_K := (show RowAt V1 (some ⟨g3, 0, none⟩) K from by rw [hV1]; exact r38)
      refine wp_region_held_drew (S := fun _ => True) (by kernel_rfl) trivial (fun hHeld => ?_)
      rw [← hV1]
      clear hV1
      refine wpAnyH_take (i := 0) (v := (.slice (some ⟨FB, 0, none⟩) 16 16)) rfl (by kernel_rfl) (by kernel_rfl) (by kernel_rfl) (fun _ _ _ h => h) (Or.inl ⟨by rfl, ?_⟩) hHeld ?_
      · intro _ _; go_simp
      dsimp only [Act.put, List.getElem_toArray, List.getElem_cons_zero, List.getElem_cons_succ]
      simp only [List.setIfInBounds_toArray, List.set_cons_succ, List.set_cons_zero]
      refine wpAnyH_take (i := 1) (v := (.slice (some ⟨FB, 0, none⟩) 8 16)) rfl (by kernel_rfl) (by kernel_rfl) (by kernel_rfl) (fun _ _ _ h => h) (Or.inl ⟨by rfl, ?_⟩) hHeld ?_
      · intro _ _; go_simp
      dsimp only [Act.put, List.getElem_toArray, List.getElem_cons_zero, List.getElem_cons_succ]
      simp only [List.setIfInBounds_toArray, List.set_cons_succ, List.set_cons_zero]
      refine wpAnyH_take (i := 2) (v := (.slice (some ⟨g, 0, none⟩) 10 c)) rfl (by kernel_rfl) (by kernel_rfl) (by kernel_rfl) (fun _ _ _ h => h) (Or.inl ⟨by rfl, ?_⟩) hHeld ?_
      · intro _ _; go_simp
      dsimp only [Act.put, List.getElem_toArray, List.getElem_cons_zero, List.getElem_cons_succ]
      simp only [List.setIfInBounds_toArray, List.set_cons_succ, List.set_cons_zero]
      refine wpAnyH_take (i := 3) (v := (.slice (some ⟨g, 2, none⟩) 8 (c - 2))) rfl (by kernel_rfl) (by kernel_rfl) (by kernel_rfl) (fun _ _ _ h => h) (Or.inl ⟨by rfl, ?_⟩) hHeld ?_
      · intro _ _; go_simp
      dsimp only [Act.put, List.getElem_toArray, List.getElem_cons_zero, List.getElem_cons_succ]
      simp only [List.setIfInBounds_toArray, List.set_cons_succ, List.set_cons_zero]
      refine wpAnyH_take (i := 4) (v := (.slice (some ⟨FB, 0, none⟩) 16 16)) rfl (by kernel_rfl) (by kernel_rfl) (by kernel_rfl) (fun _ _ _ h => h) (Or.inl ⟨by rfl, ?_⟩) hHeld ?_
      · intro _ _; go_simp
      dsimp only [Act.put, List.getElem_toArray, List.getElem_cons_zero, List.getElem_cons_succ]
      simp only [List.setIfInBounds_toArray, List.set_cons_succ, List.set_cons_zero]
      refine wpAnyH_take (i := 5) (v := (.slice (some ⟨FB, 8, none⟩) 8 8)) rfl (by kernel_rfl) (by kernel_rfl) (by kernel_rfl) (fun _ _ _ h => h) (Or.inl ⟨by rfl, ?_⟩) hHeld ?_
      · intro _ _; go_simp
      dsimp only [Act.put, List.getElem_toArray, List.getElem_cons_zero, List.getElem_cons_succ]
      simp only [List.setIfInBounds_toArray, List.set_cons_succ, List.set_cons_zero]
      refine wpAnyH_ready (rs := [6]) (by kernel_rfl) (by simp) ?_
      refine AllReadyH.cons rfl (fun K hK => ?_) (AllReadyH.nil)
      go_simp
      refine (HXr1.out _ (rs1.out bb1) (rd1.out bb1)).mono ?_
      rintro e w_1 ⟨rfl, own_1, bel_1⟩
      have b_1 := below_step bb1 bel_1
      obtain ⟨gX_1, cX_1, -, hvX_1, rowX_1⟩ := own_at own_1 hXl1 (by omega)
      cases hvX_1
      go_wp2_with fail
      refine hK.out _ _ (keep1.out b_1) (fun hHeld => ?_)
      clear hK K
      try dsimp only [Act.put]
      refine wpAnyH_ready (rs := [7]) (by kernel_rfl) (by simp) ?_
      refine AllReadyH.cons rfl (fun K hK => ?_) (AllReadyH.nil)
      go_simp
      refine (HDs1.out _ _ _ (rt1.out b_1) rowX_1).mono ?_
      rintro e w_2 ⟨v_2, rfl, own_2, bel_2⟩
      have X_2 := rowX_1.below bel_2
      have b_2 := below_step b_1 bel_2
      obtain ⟨ga1, ca1, hca1, hva1, rowa1⟩ := Own.at own_2 ha1l (by omega)
      subst hva1
      go_wp2_with fail
      refine hK.out _ _ (keep1.out b_2) (fun hHeld => ?_)
      clear hK K
      try dsimp only [Act.put]
      refine wpAnyH_ready (rs := [8]) (by kernel_rfl) (by simp) ?_
      refine AllReadyH.cons rfl (fun K hK => ?_) (AllReadyH.nil)
      go_simp
      refine hK.out _ _ (keep1.out b_2) (fun hHeld => ?_)
      clear hK K
      try dsimp only [Act.put]
      refine wpAnyH_done (by kernel_rfl) ?_ _
      have bq1 := b_2
      have y1_s := z_s.below bq1
      have y1_F := z_F.below bq1
      have y1_Q := z_Q.below bq1
      have y1_K := z_K.below bq1
      have bzw_2 := bV1.trans (bq1.mono hwV1)

      have RS2 := y1_s
      clear hHeld RS1 rF8 row68 r38 z_s z_F z_Q z_K HXr1 HDs1 rs1 rd1 rt1 keep1 bb1 bV1 hwV1 bq1 b_1 b_2 bel_1 bel_2 own_1 own_2 rowX_1 X_2 bzw8
      go_wp2_with fail
      obtain ⟨V2, hV2⟩ : ∃ V, V = World.drew w_2 := ⟨_, rfl⟩
      have bV2 : Below w.heap.size w V2 := by rw [hV2]; exact bzw_2.drew
      have q12 : RowAt V2 (some ⟨g, 2, none⟩) (s.drop 2) := by rw [hV2]; have h := RS2.drop 2; rw [Nat.zero_add] at h; exact h
      have q22 : RowAt V2 (some ⟨g6, 8, none⟩) (KK.drop 8) := by rw [hV2]; have h := y1_Q.drop 8; rw [Nat.zero_add] at h; exact h
      have q32 : RowAt V2 (some ⟨g6, 0, none⟩) (KK.take 8) := by rw [hV2]; exact y1_Q.take 8
      have rs2 : Hid (∀ {x}, Below V2.heap.size V2 x → RowAt x (some ⟨g, 2, none⟩) (s.drop 2)) := fun h => q12.below h
      have rd2 : Hid (∀ {x}, Below V2.heap.size V2 x → RowAt x (some ⟨g6, 8, none⟩) (KK.drop 8)) := fun h => q22.below h
      have rt2 : Hid (∀ {x}, Below V2.heap.size V2 x → RowAt x (some ⟨g6, 0, none⟩) (KK.take 8)) := fun h => q32.below h
      have keep2 : Hid (∀ {B x}, Below B V2 x → True) := fun _ => trivial
      have bb2 : Below V2.heap.size V2 V2 := Below.refl _ _
      have hd2l : (KK.drop 8).length = 8 := by rw [List.length_drop]; omega
      have ht2l : (KK.take 8).length = 8 := by rw [List.length_take]; omega
      have HXr2 := hide (fun (wx : World) (h1 : RowAt wx (some ⟨g, 2, none⟩) (s.drop 2)) (h2 : RowAt wx (some ⟨g6, 8, none⟩) (KK.drop 8)) => lawXor_any (some ⟨g, 2, none⟩) (some ⟨g6, 8, none⟩) (c - 2) ((c6 - 8)) (s.drop 2) (KK.drop 8) wx (by omega) (by omega) h1 h2)
      rw [hd2, hd2l] at HXr2
      have hXl2 : (xorL (s.drop 2) (KK.drop 8)).length = 8 := by rw [xorL_length _ _ (by omega)]; exact hd2
      have HDs2 := hide (fun (gx cx : Nat) (wx : World) (h1 : RowAt wx (some ⟨g6, 0, none⟩) (KK.take 8)) (h2 : RowAt wx (some ⟨gx, 0, none⟩) (xorL (s.drop 2) (KK.drop 8))) => des_all (KK.take 8) (xorL (s.drop 2) (KK.drop 8)) (some ⟨g6, 0, none⟩) (some ⟨gx, 0, none⟩) c6 cx false wx (by omega) (by omega) h1 h2)
      have hde2 : desL (KK.take 8) (xorL (s.drop 2) (KK.drop 8)) false = encN (KK.take 8) (xorL (s.drop 2) (KK.drop 8)) := by unfold desL desN; rw [if_pos ⟨ht2l, hXl2⟩]; rfl
      rw [ht2l, hXl2, hde2] at HDs2
      have ha2l : (encN (KK.take 8) (xorL (s.drop 2) (KK.drop 8))).length = 8 := encN_length _ _
      obtain ⟨a2, ha2e⟩ : ∃ A, A = encN (KK.take 8) (xorL (s.drop 2) (KK.drop 8)) := ⟨_, rfl⟩
      rw [← ha2e] at HDs2 ha2l
      have Ha2e := hide ha2e
      have hwV2 := bV2.size
      clear q12 q22 q32 hde2 ha2e
      have z_F := (show RowAt V2 (some ⟨FB, 0, none⟩) LF from by rw [hV2]; exact y1_F)
      have z_Q := (show RowAt V2 (some ⟨g6, 0, none⟩) KK from by rw [hV2]; exact y1_Q)
      have z_K := (show RowAt V2 (some ⟨g3, 0, none⟩) K from by rw [hV2]; exact y1_K)
      have z_A := (show RowAt V2 (some ⟨ga1, 0, none⟩) a1 from by rw [hV2]; exact rowa1)
      refine wp_region_held_drew (S := fun _ => True) (by kernel_rfl) trivial (fun hHeld => ?_)
      rw [← hV2]
      clear hV2
      refine wpAnyH_take (i := 0) (v := (.slice (some ⟨g6, 0, none⟩) 16 c6)) rfl (by kernel_rfl) (by kernel_rfl) (by kernel_rfl) (fun _ _ _ h => h) (Or.inl ⟨by rfl, ?_⟩) hHeld ?_
      · intro _ _; go_simp
      dsimp only [Act.put, List.getElem_toArray, List.getElem_cons_zero, List.getElem_cons_succ]
      simp only [List.setIfInBounds_toArray, List.set_cons_succ, List.set_cons_zero]
      refine wpAnyH_take (i := 1) (v := (.slice (some ⟨g6, 0, none⟩) 8 c6)) rfl (by kernel_rfl) (by kernel_rfl) (by kernel_rfl) (fun _ _ _ h => h) (Or.inl ⟨by rfl, ?_⟩) hHeld ?_
      · intro _ _; go_simp
      dsimp only [Act.put, List.getElem_toArray, List.getElem_cons_zero, List.getElem_cons_succ]
      simp only [List.setIfInBounds_toArray, List.set_cons_succ, List.set_cons_zero]
      refine wpAnyH_take (i := 2) (v := (.slice (some ⟨g, 0, none⟩) 10 c)) rfl (by kernel_rfl) (by kernel_rfl) (by kernel_rfl) (fun _ _ _ h => h) (Or.inl ⟨by rfl, ?_⟩) hHeld ?_
      · intro _ _; go_simp
      dsimp only [Act.put, List.getElem_toArray, List.getElem_cons_zero, List.getElem_cons_succ]
      simp only [List.setIfInBounds_toArray, List.set_cons_succ, List.set_cons_zero]
      refine wpAnyH_take (i := 3) (v := (.slice (some ⟨g, 2, none⟩) 8 (c - 2))) rfl (by kernel_rfl) (by kernel_rfl) (by kernel_rfl) (fun _ _ _ h => h) (Or.inl ⟨by rfl, ?_⟩) hHeld ?_
      · intro _ _; go_simp
      dsimp only [Act.put, List.getElem_toArray, List.getElem_cons_zero, List.getElem_cons_succ]
      simp only [List.setIfInBounds_toArray, List.set_cons_succ, List.set_cons_zero]
      refine wpAnyH_take (i := 4) (v := (.slice (some ⟨g6, 0, none⟩) 16 c6)) rfl (by kernel_rfl) (by kernel_rfl) (by kernel_rfl) (fun _ _ _ h => h) (Or.inl ⟨by rfl, ?_⟩) hHeld ?_
      · intro _ _; go_simp
      dsimp only [Act.put, List.getElem_toArray, List.getElem_cons_zero, List.getElem_cons_succ]
      simp only [List.setIfInBounds_toArray, List.set_cons_succ, List.set_cons_zero]
      refine wpAnyH_take (i := 5) (v := (.slice (some ⟨g6, 8, none⟩) 8 (c6 - 8))) rfl (by kernel_rfl) (by kernel_rfl) (by kernel_rfl) (fun _ _ _ h => h) (Or.inl ⟨by rfl, ?_⟩) hHeld ?_
      · intro _ _; go_simp
      dsimp only [Act.put, List.getElem_toArray, List.getElem_cons_zero, List.getElem_cons_succ]
      simp only [List.setIfInBounds_toArray, List.set_cons_succ, List.set_cons_zero]
      refine wpAnyH_ready (rs := [6]) (by kernel_rfl) (by simp) ?_
      refine AllReadyH.cons rfl (fun K hK => ?_) (AllReadyH.nil)
      go_simp
      refine (HXr2.out _ (rs2.out bb2) (rd2.out bb2)).mono ?_
      rintro e w_1 ⟨rfl, own_1, bel_1⟩
      have b_1 := below_step bb2 bel_1
      obtain ⟨gX_1, cX_1, -, hvX_1, rowX_1⟩ := own_at own_1 hXl2 (by omega)
      cases hvX_1
      go_wp2_with fail
      refine hK.out _ _ (keep2.out b_1) (fun hHeld => ?_)
      clear hK K
      try dsimp only [Act.put]
      refine wpAnyH_ready (rs := [7]) (by kernel_rfl) (by simp) ?_
      refine AllReadyH.cons rfl (fun K hK => ?_) (AllReadyH.nil)
      go_simp
      refine (HDs2.out _ _ _ (rt2.out b_1) rowX_1).mono ?_
      rintro e w_2 ⟨v_2, rfl, own_2, bel_2⟩
      have X_2 := rowX_1.below bel_2
      have b_2 := below_step b_1 bel_2
      obtain ⟨ga2, ca2, hca2, hva2, rowa2⟩ := Own.at own_2 ha2l (by omega)
      subst hva2
      go_wp2_with fail
      refine hK.out _ _ (keep2.out b_2) (fun hHeld => ?_)
      clear hK K
      try dsimp only [Act.put]
      refine wpAnyH_ready (rs := [8]) (by kernel_rfl) (by simp) ?_
      refine AllReadyH.cons rfl (fun K hK => ?_) (AllReadyH.nil)
      go_simp
      refine hK.out _ _ (keep2.out b_2) (fun hHeld => ?_)
      clear hK K
      try dsimp only [Act.put]
      refine wpAnyH_done (by kernel_rfl) ?_ _
      have bq2 := b_2
      have y2_F := z_F.below bq2
      have y2_Q := z_Q.below bq2
      have y2_K := z_K.below bq2
      have y2_A := z_A.below bq2
      have bzw_2 := bV2.trans (bq2.mono hwV2)

      clear hHeld RS2 y1_s y1_F y1_Q y1_K rowa1 z_F z_Q z_K z_A HXr2 HDs2 rs2 rd2 rt2 keep2 bb2 bV2 hwV2 bq2
      go_wp2_with fail
      obtain ⟨V3, hV3⟩ : ∃ V, V = World.drew w_2 := ⟨_, rfl⟩
      have bV3 : Below w.heap.size w V3 := by rw [hV3]; exact bzw_2.drew
      have hwV3 := bV3.size
      have q1 : RowAt V3 (some ⟨g3, 0, none⟩) K := by rw [hV3]; exact y2_K
      have q2 : RowAt V3 (some ⟨ga1, 0, none⟩) a1 := by rw [hV3]; exact y2_A
      have q3 : RowAt V3 (some ⟨FB, 8, none⟩) (LF.drop 8) := by rw [hV3]; have h := y2_F.drop 8; rw [Nat.zero_add] at h; exact h
      have q4 : RowAt V3 (some ⟨ga2, 0, none⟩) a2 := by rw [hV3]; exact rowa2
      have q5 : RowAt V3 (some ⟨g6, 8, none⟩) (KK.drop 8) := by rw [hV3]; have h := y2_Q.drop 8; rw [Nat.zero_add] at h; exact h
      have hg3V : g3 < V3.heap.size := q1.blk (by omega)
      have rA3 : Hid (∀ {x}, Below V3.heap.size V3 x → RowAt x (some ⟨ga1, 0, none⟩) a1) := fun h => q2.below h
      have rF3 : Hid (∀ {x}, Below V3.heap.size V3 x → RowAt x (some ⟨FB, 8, none⟩) (LF.drop 8)) := fun h => q3.below h
      have rB3 : Hid (∀ {x}, Below V3.heap.size V3 x → RowAt x (some ⟨ga2, 0, none⟩) a2) := fun h => q4.below h
      have rQ3 : Hid (∀ {x}, Below V3.heap.size V3 x → RowAt x (some ⟨g6, 8, none⟩) (KK.drop 8)) := fun h => q5.below h
      have rK3 : Hid (∀ {x}, Below V3.heap.size V3 x → RowAt x (some ⟨g3, 0, none⟩) K) := fun h => q1.below h
      have keep3 : Hid (∀ {B x}, Below B V3 x → True) := fun _ => trivial
      have bb3 : Below V3.heap.size V3 V3 := Below.refl _ _
      have hX1l : (xorL a1 (LF.drop 8)).length = 8 := by rw [xorL_length _ _ (by omega)]; exact ha1l
      have hX2l : (xorL a2 (KK.drop 8)).length = 8 := by rw [xorL_length _ _ (by omega)]; exact ha2l
      have HKX : Hid (K = xorL a1 (LF.drop 8) ++ xorL a2 (KK.drop 8)) := by show _ = _; rw [HST2.out, Ha1e.out, Ha2e.out]; rfl
      have HY1 := hide (fun (wx : World) (h1 : RowAt wx (some ⟨ga1, 0, none⟩) a1) (h2 : RowAt wx (some ⟨FB, 8, none⟩) (LF.drop 8)) => lawXor_any (some ⟨ga1, 0, none⟩) (some ⟨FB, 8, none⟩) ca1 8 a1 (LF.drop 8) wx (by omega) (by omega) h1 h2)
      rw [ha1l, hd1l] at HY1
      have HY2 := hide (fun (wx : World) (h1 : RowAt wx (some ⟨ga2, 0, none⟩) a2) (h2 : RowAt wx (some ⟨g6, 8, none⟩) (KK.drop 8)) => lawXor_any (some ⟨ga2, 0, none⟩) (some ⟨g6, 8, none⟩) ca2 (c6 - 8) a2 (KK.drop 8) wx (by omega) (by omega) h1 h2)
      rw [ha2l, hd2l] at HY2
      obtain ⟨X1, hX1⟩ : ∃ X, X = xorL a1 (LF.drop 8) := ⟨_, rfl⟩
      obtain ⟨X2, hX2⟩ : ∃ X, X = xorL a2 (KK.drop 8) := ⟨_, rfl⟩
      rw [← hX1] at hX1l HY1 HKX
      rw [← hX2] at hX2l HY2 HKX
      clear q1 q2 q3 q4 q5 hX1 hX2 HST2 Ha1e Ha2e y2_F y2_Q y2_K y2_A rowa2
      refine wp_region_held_drew (S := fun _ => True) (by kernel_rfl) trivial (fun hHeld => ?_)
      rw [← hV3]
      clear hV3
      refine wpAnyH_take (i := 0) (v := (.slice (some ⟨g3, 0, none⟩) 16 c3)) rfl (by kernel_rfl) (by kernel_rfl) (by kernel_rfl) (fun _ _ _ h => h) (Or.inl ⟨by rfl, ?_⟩) hHeld ?_
      · intro _ _; go_simp
      dsimp only [Act.put, List.getElem_toArray, List.getElem_cons_zero, List.getElem_cons_succ]
      simp only [List.setIfInBounds_toArray, List.set_cons_succ, List.set_cons_zero]
      refine wpAnyH_take (i := 1) (v := (.slice (some ⟨ga1, 0, none⟩) 8 ca1)) rfl (by kernel_rfl) (by kernel_rfl) (by kernel_rfl) (fun _ _ _ h => h) (Or.inl ⟨by rfl, ?_⟩) hHeld ?_
      · intro _ _; go_simp
      dsimp only [Act.put, List.getElem_toArray, List.getElem_cons_zero, List.getElem_cons_succ]
      simp only [List.setIfInBounds_toArray, List.set_cons_succ, List.set_cons_zero]
      refine wpAnyH_take (i := 2) (v := (.slice (some ⟨FB, 0, none⟩) 16 16)) rfl (by kernel_rfl) (by kernel_rfl) (by kernel_rfl) (fun _ _ _ h => h) (Or.inl ⟨by rfl, ?_⟩) hHeld ?_
      · intro _ _; go_simp
      dsimp only [Act.put, List.getElem_toArray, List.getElem_cons_zero, List.getElem_cons_succ]
      simp only [List.setIfInBounds_toArray, List.set_cons_succ, List.set_cons_zero]
      refine wpAnyH_take (i := 3) (v := (.slice (some ⟨FB, 8, none⟩) 8 8)) rfl (by kernel_rfl) (by kernel_rfl) (by kernel_rfl) (fun _ _ _ h => h) (Or.inl ⟨by rfl, ?_⟩) hHeld ?_
      · intro _ _; go_simp
      dsimp only [Act.put, List.getElem_toArray, List.getElem_cons_zero, List.getElem_cons_succ]
      simp only [List.setIfInBounds_toArray, List.set_cons_succ, List.set_cons_zero]
      refine wpAnyH_take (i := 5) (v := (.slice (some ⟨ga2, 0, none⟩) 8 ca2)) rfl (by kernel_rfl) (by kernel_rfl) (by kernel_rfl) (fun _ _ _ h => h) (Or.inl ⟨by rfl, ?_⟩) hHeld ?_
      · intro _ _; go_simp
      dsimp only [Act.put, List.getElem_toArray, List.getElem_cons_zero, List.getElem_cons_succ]
      simp only [List.setIfInBounds_toArray, List.set_cons_succ, List.set_cons_zero]
      refine wpAnyH_take (i := 6) (v := (.slice (some ⟨g6, 0, none⟩) 16 c6)) rfl (by kernel_rfl) (by kernel_rfl) (by kernel_rfl) (fun _ _ _ h => h) (Or.inl ⟨by rfl, ?_⟩) hHeld ?_
      · intro _ _; go_simp
      dsimp only [Act.put, List.getElem_toArray, List.getElem_cons_zero, List.getElem_cons_succ]
      simp only [List.setIfInBounds_toArray, List.set_cons_succ, List.set_cons_zero]
      refine wpAnyH_take (i := 7) (v := (.slice (some ⟨g6, 8, none⟩) 8 (c6 - 8))) rfl (by kernel_rfl) (by kernel_rfl) (by kernel_rfl) (fun _ _ _ h => h) (Or.inl ⟨by rfl, ?_⟩) hHeld ?_
      · intro _ _; go_simp
      dsimp only [Act.put, List.getElem_toArray, List.getElem_cons_zero, List.getElem_cons_succ]
      simp only [List.setIfInBounds_toArray, List.set_cons_succ, List.set_cons_zero]
      refine wpAnyH_ready (rs := [4]) (by kernel_rfl) (by simp) ?_
      refine AllReadyH.cons rfl (fun K hK => ?_) (AllReadyH.nil)
      go_simp
      refine (HY1.out _ (rA3.out bb3) (rF3.out bb3)).mono ?_
      rintro e w_1 ⟨rfl, own_1, bel_1⟩
      have b_1 := below_step bb3 bel_1
      obtain ⟨gP, cP, -, hvP, rowP_1⟩ := own_at own_1 hX1l (by omega)
      cases hvP
      go_wp2_with fail
      refine hK.out _ _ (keep3.out b_1) (fun hHeld => ?_)
      clear hK K
      try dsimp only [Act.put]
      refine wpAnyH_ready (rs := [8]) (by kernel_rfl) (by simp) ?_
      refine AllReadyH.cons rfl (fun K hK => ?_) (AllReadyH.nil)
      go_simp
      refine (HY2.out _ (rB3.out b_1) (rQ3.out b_1)).mono ?_
      rintro e w_2 ⟨rfl, own_2, bel_2⟩
      have OP_2 := own_1.below bel_2
      have RP_2 := rowP_1.below bel_2
      have b_2 := below_step b_1 bel_2
      obtain ⟨gQ2, cQ2, -, hvQ2, rowQ2_2⟩ := own_at own_2 hX2l (by omega)
      cases hvQ2
      go_wp2_with fail
      refine hK.out _ _ (keep3.out b_2) (fun hHeld => ?_)
      clear hK K
      try dsimp only [Act.put]
      refine wpAnyH_ready (rs := [9]) (by kernel_rfl) (by simp) ?_
      refine AllReadyH.cons rfl (fun K hK => ?_) (AllReadyH.nil)
      rw [if_pos (by rfl)]
      refine wp_append_to (some 141) rfl _ _ 22 rfl V3.heap.size 5 i0 (.int .u8 0) 1 1 Try.underlying22 hi0 hz0 hz1 hz2 rfl (by decide) _ 8 (X1.map byte) rfl (own_num OP_2 hX1l) ⟨w_1.heap.size, 0, none⟩ 8 8 (X2.map byte) rfl (by rw [List.length_map, hX2l]) (row_news rowQ2_2) (all_one _) (by unfold maxLen; omega) (by omega) b_2.size ?_
      intro vY wY ownY growY nilY
      replace growY : World.grownBy _ wY (some V3.heap.size) := growY
      have bY : Below V3.heap.size V3 wY := b_2.grown growY b_2.size (by intro k hk; injection hk with hk; omega)
      have oY : OwnB wY V3.heap.size vY (X1 ++ X2) := by
        unfold OwnB
        rw [List.length_append, hX1l, hX2l, List.map_append]
        exact ownY
      rw [← HKX.out] at oY
      obtain ⟨gY, cY, hcY, hvY, rowY⟩ := own_at oY hkl (by omega)
      subst hvY
      have rKY := rK3.out bY
      try dsimp only [Act.put]
      refine hK.out _ _ (keep3.out bY) (fun hHeld => ?_)
      clear hK K
      try dsimp only [Act.put]
      refine wpAnyH_ready (rs := [10]) (by kernel_rfl) (by simp) ?_
      refine AllReadyH.cons rfl (fun K hK => ?_) (AllReadyH.nil)
      go_simp
      refine (same_any _ _ _ 16 _ _ wY hkl (by omega) rKY rowY).mono ?_
      rintro e w_9 ⟨rfl, hw_9⟩
      subst w_9
      go_wp2_with fail
      refine hK.out _ _ (keep3.out bY) (fun hHeld => ?_)
      clear hK K
      try dsimp only [Act.put]
      refine wpAnyH_ready (rs := [11]) (by kernel_rfl) (by simp) ?_
      refine AllReadyH.cons rfl (fun K hK => ?_) (AllReadyH.nil)
      go_simp
      refine hK.out _ _ (keep3.out bY) (fun hHeld => ?_)
      clear hK K
      try dsimp only [Act.put]
      refine wpAnyH_done (by kernel_rfl) ?_ _
      go_wp2_with fail
      go_ret
      exact ⟨rfl, bV3.trans (bY.mono hwV3)⟩
  · have HK9 := hide (HK.out s (some ⟨g, 0, none⟩) c w2 (by omega) hsc rowk rows)
    rw [keyL_nine bdk s hs, hs] at HK9
    rw [hs]
    go_wp2_with fail
    refine HK9.out.mono ?_
    rintro e w3 ⟨v3, rfl, own3, bel3⟩
    obtain ⟨a3, c3, rfl, -, -, -, -⟩ := own3.shape
    have bz3 := bz2.trans (bel3.mono bz2.size)
    go_wp2_with fail
    go_ret
    exact ⟨rfl, bz3⟩

set_option maxHeartbeats 1000000 in
theorem lawDukpt (ao : Option Addr) (cap : Nat) (code : List UInt8) (w : World) (hn : code.length ≤ 1048576) (hr : RowAt w ao code) :
    Calls Try.prog 13 #[.slice ao code.length cap] w fun e w' => e = .returned (.bool true) ∧ Below w.heap.size w w' := lawDukpt_main code ao cap w hn hr
end Go.Proofs.Ytoiemdjfeplmiaa
