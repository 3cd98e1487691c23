/-
  spec: l1Words.
-/
import Derived.Test.YthjnalbgnjbdnaaAesSpec2
import Derived.Test.YthjnalbgnjbdnaaSteps
namespace Go.Proofs.Ythjnalbgnjbdnaa
open Go.RowKit

theorem RowAt.mid {w : World} {g n : Nat} {l : List UInt8} (h : RowAt w (some ⟨g, 0, none⟩) l) (k : Nat) : RowAt w (some ⟨g, k, none⟩) ((l.drop k).take n) := by
  have := (h.drop k).take n
  rwa [Nat.zero_add] at this

def subI (n : Nat) : Nat := (subTab.getD n 0).toNat
theorem subI_lt (n : Nat) : subI n < 256 := UInt8.toNat_lt _
theorem sub_I (n : Nat) (w : World) (hn : n < 256) : Calls Try.prog 82 #[.int .u8 n] w fun e w' => e = .returned (.int .u8 (subI n : Nat)) ∧ w' = w := sub_any n w hn
theorem app_own {w1 : World} {base : Nat} {v1 : Value} {l x : List UInt8} {n : Nat} (hn : l.length = n) (hx : x.length = 4) (h : w1.ownsRow base 5 1 v1 (n + 4) (l.map byte ++ x.map byte)) : OwnB w1 base v1 (l ++ x) := by
  unfold OwnB
  rw [List.map_append, List.length_append, hn, hx]
  exact h
theorem pow_next (m : Nat) (h : m % 4 = 0) : powB ((m + 1 + 3) / 4) = tXB (powB ((m + 3) / 4)) := by
  rw [show (m + 1 + 3) / 4 = (m + 3) / 4 + 1 from by omega]
  rfl

set_option maxRecDepth 100000 in
set_option maxHeartbeats 4000000 in
theorem words_any (ao : Option Addr) (ca : Nat) (key : List UInt8) (w : World) (hk : key.length = 16) (hr : RowAt w ao key) :
    Calls Try.prog 80 #[.slice ao 16 ca] w fun e w' => ∃ v, e = .returned v ∧ OwnB w' w.heap.size v (keysL key) ∧ Below w.heap.size w w' := by
  obtain ⟨i0, hi0, hz0, hz1, hz2⟩ := info_parts Try.info5
  have HB := hid_of (fun (wx : World) (h : RowAt wx ao key) => bytes_any ao ca key wx (by omega) (by omega) h)
  rw [hk] at HB
  go_enter Try.func80, Try.ntmps80
  go_wp2_with fail
  refine (HB.out _ hr).mono ?_
  rintro e w1 ⟨rfl, own1, bel1⟩
  clear HB
  go_wp2
  go_loopw [3, 4, 5, 6] (fun v p i _ wr => ∃ m : Nat, m ≤ 40 ∧ i = .int .i64 ((m + 4 : Nat) : Int) ∧ p = .int .u8 ((powB ((m + 3) / 4)).toNat : Int) ∧ OwnB wr w.heap.size v (wordsGo key m) ∧ Below w.heap.size w wr) (fun _ _ i _ _ => 44 - (intOf i).toNat)
  case atStart => exact ⟨0, by omega, rfl, rfl, by show w1.ownsRow _ _ 1 _ key.length _; rw [hk]; exact own_num own1 hk, bel1⟩
  case round =>
    clear own1 bel1
    obtain ⟨m, hm, rfl, rfl, hown, hbel⟩ := hrel
    have hwl := wordsGo_length key hk m
    by_cases hlt : m < 40
    · obtain ⟨I, hI, hI44, HI⟩ : ∃ I : Nat, m + 4 = I ∧ I < 44 ∧ Hid (I = m + 4) := ⟨_, rfl, by omega, rfl⟩
      rw [hI]
      obtain ⟨P, hP, hP8, HP⟩ : ∃ P : Nat, (powB ((m + 3) / 4)).toNat = P ∧ P < 256 ∧ Hid (P = (powB ((m + 3) / 4)).toNat) := ⟨_, rfl, UInt8.toNat_lt _, rfl⟩
      rw [hP]
      obtain ⟨N, hN, HN⟩ : ∃ N : Nat, (wordsGo key m).length = N ∧ Hid (N = 16 + 4 * m) := ⟨_, rfl, hwl⟩
      obtain ⟨g, cap, hcap, rfl, row⟩ := own_at hown hN (by have := HN.out; omega)
      have hg := (hown.lt g rfl)
      have hownN := own_num hown hN
      have hII : (I : Int) < 44 := by omega
      obtain ⟨a4, h4, H4⟩ : ∃ a : Nat, IntKind.i64.wrap (4 * (I : Int)) = (a : Int) ∧ Hid (a = 4 * m + 16) := ⟨4 * I, by rw [IntKind.wrap_i64]; omega, by show 4 * I = _; omega⟩
      obtain ⟨b4, k4, K4⟩ : ∃ a : Nat, IntKind.i64.wrap ((a4 : Int) - 4) = (a : Int) ∧ Hid (a = 4 * m + 12) := ⟨4 * m + 12, by have := H4.out; rw [IntKind.wrap_i64]; omega, rfl⟩
      obtain ⟨c4, l4, L4⟩ : ∃ a : Nat, IntKind.i64.wrap ((a4 : Int) - 16) = (a : Int) ∧ Hid (a = 4 * m) := ⟨4 * m, by have := H4.out; rw [IntKind.wrap_i64]; omega, rfl⟩
      obtain ⟨d4, m4, M4⟩ : ∃ a : Nat, IntKind.i64.wrap ((a4 : Int) - 12) = (a : Int) ∧ Hid (a = 4 * m + 4) := ⟨4 * m + 4, by have := H4.out; rw [IntKind.wrap_i64]; omega, rfl⟩
      have q1 : a4 ≤ cap := by have := H4.out; have := HN.out; omega
      have q2 : b4 ≤ a4 := by have := H4.out; have := K4.out; omega
      have q3 : c4 ≤ d4 := by have := L4.out; have := M4.out; omega
      have q4 : d4 ≤ cap := by have := M4.out; have := HN.out; omega
      have q1I : (a4 : Int) ≤ (cap : Int) := by omega
      have q2I : (b4 : Int) ≤ (a4 : Int) := by omega
      have q3I : (c4 : Int) ≤ (d4 : Int) := by omega
      have q4I : (d4 : Int) ≤ (cap : Int) := by omega
      have e1 : a4 - b4 = 4 := by have := H4.out; have := K4.out; omega
      have e2 : d4 - c4 = 4 := by have := L4.out; have := M4.out; omega
      clear hI hP hN hwl
      obtain ⟨T, hT, HT⟩ : ∃ T, T = ((wordsGo key m).drop (4 * m + 12)).take 4 ∧ Hid (T = ((wordsGo key m).drop (4 * m + 12)).take 4) := ⟨_, rfl, rfl⟩
      have hTl : T.length = 4 := by rw [hT, List.length_take, List.length_drop, wordsGo_length key hk m]; omega
      have rowT0 : RowAt wr (some ⟨g, b4, none⟩) T := by rw [hT, K4.out]; exact row.mid _
      have HB := hid_of (bytes_any (some ⟨g, b4, none⟩) (cap - b4) T wr (by omega) (by omega) rowT0)
      rw [hTl] at HB
      have HNl : Hid ((wordsGo key m).length = N) := hid_of (by rw [wordsGo_length key hk m, HN.out])
      clear hT
      go_wp2_with fail
      refine HB.out.mono ?_
      rintro e w2 ⟨rfl, own2, bel2⟩
      clear HB rowT0
      have row2 : RowAt w2 (some ⟨wr.heap.size, 0, none⟩) T := by
        obtain ⟨g', c', -, hv', row'⟩ := own_at own2 hTl (by omega)
        cases hv'
        exact row'
      have rowg := row.below bel2
      have hown2 := hown.below bel2
      have b2 := hbel.trans (bel2.mono hbel.size)
      obtain ⟨G, hG⟩ : ∃ G, G = wr.heap.size := ⟨_, rfl⟩
      rw [← hG] at row2 ⊢
      clear own2 bel2 row hown hbel hownN hG
      obtain ⟨rr, hrr, Hrr⟩ : ∃ r : Nat, Int.tmod (I : Int) 4 = (r : Int) ∧ Hid (r = m % 4) := ⟨m % 4, by have := HI.out; rw [Int.tmod_eq_emod_of_nonneg (by omega)]; omega, rfl⟩
      by_cases h4m : m % 4 = 0
      · obtain rfl : rr = 0 := by rw [Hrr.out, h4m]
        obtain ⟨bb, oo, e0, hcT⟩ := row2.at (show 0 < T.length by omega)
        cases e0
        obtain ⟨x0, l0, X0⟩ : ∃ y : Nat, y < 256 ∧ Hid (y = (T.getD 0 0).toNat) := ⟨_, UInt8.toNat_lt _, rfl⟩
        obtain ⟨x1, l1, X1⟩ : ∃ y : Nat, y < 256 ∧ Hid (y = (T.getD 1 0).toNat) := ⟨_, UInt8.toNat_lt _, rfl⟩
        obtain ⟨x2, l2, X2⟩ : ∃ y : Nat, y < 256 ∧ Hid (y = (T.getD 2 0).toNat) := ⟨_, UInt8.toNat_lt _, rfl⟩
        obtain ⟨x3, l3, X3⟩ : ∃ y : Nat, y < 256 ∧ Hid (y = (T.getD 3 0).toNat) := ⟨_, UInt8.toNat_lt _, rfl⟩
        have d0 : w2.cell? ⟨G, 0, none⟩ = some (.int .u8 (x0 : Int)) := by rw [X0.out]; have := hcT 0 (by omega); simpa using this
        have d1 : w2.cell? ⟨G, 1, none⟩ = some (.int .u8 (x1 : Int)) := by rw [X1.out]; have := hcT 1 (by omega); simpa using this
        have d2 : w2.cell? ⟨G, 2, none⟩ = some (.int .u8 (x2 : Int)) := by rw [X2.out]; have := hcT 2 (by omega); simpa using this
        have d3 : w2.cell? ⟨G, 3, none⟩ = some (.int .u8 (x3 : Int)) := by rw [X3.out]; have := hcT 3 (by omega); simpa using this
        have s1 := subI_lt x1
        obtain ⟨z, hz, Hz⟩ : ∃ z : Nat, bits BinOp.xor IntKind.u8 ((subI x1 : Nat) : Int) (P : Int) = (z : Int) ∧ Hid (z = subI x1 ^^^ P) := ⟨_, u8_xor_nat _ _ s1 hP8, rfl⟩
        clear hcT
        go_upto_region 8 with fail
        go_cut [6] (fun p wx => p = .slice (some ⟨w2.heap.size, 0, none⟩) 4 4 ∧ wx = (w2.alloc (.cells #[.int .u8 (z : Int), .int .u8 ((subI x2 : Nat) : Int), .int .u8 ((subI x3 : Nat) : Int), .int .u8 ((subI x0 : Nat) : Int)] 5)).drew)
        case first =>
          go_region_held3 (fun w' => w'.cell? ⟨G, 0, none⟩ = some (.int .u8 (x0 : Int)) ∧ w'.cell? ⟨G, 1, none⟩ = some (.int .u8 (x1 : Int)) ∧ w'.cell? ⟨G, 2, none⟩ = some (.int .u8 (x2 : Int)) ∧ w'.cell? ⟨G, 3, none⟩ = some (.int .u8 (x3 : Int))) (first | exact ⟨d0, d1, d2, d3⟩ | go_keep)
            (first | (go_at_call 82; refine (sub_I _ _ (by assumption)).mono ?_; rintro e w' ⟨rfl, rfl⟩))
          all_goals
            go_wp2_with fail
            go_meet
            case rel => exact ⟨rfl, rfl⟩
        case rest =>
          obtain ⟨rfl, hwc⟩ := hcut
          obtain ⟨TT, HTT0⟩ : ∃ TT : List UInt8, Hid (TT = [subB (T.getD 1 0) ^^^ powB (m / 4), subB (T.getD 2 0), subB (T.getD 3 0), subB (T.getD 0 0)]) := ⟨_, hid_of rfl⟩
          have hTl : TT.length = 4 := by rw [HTT0.out]; rfl
          have HTT : Hid (TT = tailW m (wordsGo key m)) := hid_of (by
            rw [HTT0.out]
            unfold tailW
            rw [if_pos h4m]
            have gd : ∀ k, k < 4 → T.getD k 0 = (wordsGo key m).getD (4 * m + (12 + k)) 0 := by
              intro k hk4
              rw [HT.out, List.getD_eq_getElem?_getD, List.getD_eq_getElem?_getD, List.getElem?_take_of_lt hk4, List.getElem?_drop, show 4 * m + 12 + k = 4 * m + (12 + k) from by omega]
            rw [gd 0 (by omega), gd 1 (by omega), gd 2 (by omega), gd 3 (by omega)])
          obtain ⟨TB, hTB⟩ : ∃ n, n = w2.heap.size := ⟨_, rfl⟩
          have rowT : RowAt wc (some ⟨TB, 0, none⟩) TT := by
            have hb : Blk wc TB 5 (TT.map byte) := by
              have e : TT.map byte = [.int .u8 (z : Int), .int .u8 ((subI x2 : Nat) : Int), .int .u8 ((subI x3 : Nat) : Int), .int .u8 ((subI x0 : Nat) : Int)] := by
                rw [HTT0.out, Hz.out, X0.out, X1.out, X2.out, X3.out]
                show [byte (subB (T.getD 1 0) ^^^ powB (m / 4)), byte (subB (T.getD 2 0)), byte (subB (T.getD 3 0)), byte (subB (T.getD 0 0))] = _
                rw [HP.out, show (m + 3) / 4 = m / 4 from by omega]
                unfold byte
                rw [UInt8.toNat_xor]
                rfl
              rw [hwc, e, hTB]
              exact Blk.drew1 (Blk.new w2 _ _)
            exact rowAt_block hb
          have rowW : RowAt wc (some ⟨g, 0, none⟩) (wordsGo key m) := by rw [hwc]; exact RowAt.drew1 (rowg.below (below_new _ _))
          have hownW : OwnB wc w.heap.size (.slice (some ⟨g, 0, none⟩) N cap) (wordsGo key m) := by rw [hwc]; exact OwnB.drew1 (hown2.below (below_new _ _))
          have belW : Below w.heap.size w wc := by rw [hwc]; exact (b2.alloc b2.size _).drew
          obtain ⟨pn, hpn, Hpn⟩ : ∃ n : Nat, mulN P 2 = n ∧ Hid (n = (powB ((m + 1 + 3) / 4)).toNat) := ⟨_, rfl, hid_of (by rw [pow_next m h4m, tXB_nat, ← HP.out, tX_mul P hP8])⟩
          rw [← hTB]
          clear hwc rowg hown2 b2 row2 d0 d1 d2 d3 hz hTB
          go_wp2_with fail
          refine (mul_any P 2 _ hP8 (by decide)).mono ?_
          rintro e w4 ⟨rfl, hw4⟩
          subst w4
          rw [hpn]
          clear hpn
          obtain ⟨Y, hY⟩ : ∃ Y, Y = ((wordsGo key m).drop (4 * m)).take 4 := ⟨_, rfl⟩
          have hYl : Y.length = 4 := by rw [hY, List.length_take, List.length_drop, wordsGo_length key hk m]; omega
          have rowY : RowAt wc (some ⟨g, c4, none⟩) Y := by rw [hY, L4.out]; exact (rowW.mid (4 * m))
          have hXl : (xorL Y TT).length = 4 := by rw [xorL_length _ _ (by omega), hYl]
          have HX := hid_of (xor_any (some ⟨g, c4, none⟩) (some ⟨TB, 0, none⟩) (cap - c4) 4 Y TT wc (by omega) (by omega) rowY rowT)
          rw [hYl, hTl] at HX
          have HY : Hid (wordsGo key (m + 1) = wordsGo key m ++ xorL Y TT) := hid_of (by rw [hY, HTT.out]; rfl)
          clear hY
          go_wp2_with fail
          refine HX.out.mono ?_
          rintro e w5 ⟨rfl, own5, bel5⟩
          clear HX
          have hown5 := own_num (hownW.below bel5) HNl.out
          have row5 : RowAt w5 (some ⟨wc.heap.size, 0, none⟩) (xorL Y TT) := by
            obtain ⟨g', c', -, hv', row'⟩ := own_at own5 hXl (by omega)
            cases hv'
            exact row'
          have b5 := belW.trans (bel5.mono belW.size)
          have hs5 := b5.size
          go_wp2_with (at_builtin; refine wpList_append_own _ rfl _ _ 22 rfl w.heap.size 5 i0 (.int .u8 0) 1 1 Try.underlying22 hi0 hz0 hz1 hz2 rfl (by decide) _ _ _ rfl hown5 ⟨wc.heap.size, 0, none⟩ 4 4 ((xorL Y TT).map byte) rfl (by rw [List.length_map, hXl]) row5.news (by intro u hu; simp only [List.mem_map] at hu; obtain ⟨q, -, rfl⟩ := hu; rfl) (by unfold maxLen; have := HN.out; omega) (by have := HN.out; omega) hs5 ?_; intro v6 w6 hown6 hgrow6 hnil6)
          have b6 := b5.grown hgrow6 hs5 (fun j hj => (hown5.lt j hj).1)
          have R6 : OwnB w6 w.heap.size v6 (wordsGo key (m + 1)) := by rw [HY.out]; exact app_own HNl.out hXl hown6
          clear hown6 hgrow6 hown5 row5 own5 bel5
          go_wp2
          go_roundw
          case rel => exact ⟨m + 1, by omega, by have := HI.out; go_num, by rw [Hpn.out], R6, b6⟩
          case measure => have := HI.out; simp [intOf]; omega
      · have hrrI : ¬ ((rr : Int) = 0) := by have := Hrr.out; omega
        have hrrB : ((rr : Int) == 0) = false := by simpa using hrrI
        obtain ⟨TT, HTT1⟩ : ∃ TT : List UInt8, Hid (TT = T) := ⟨_, hid_of rfl⟩
        have hTl : TT.length = 4 := by rw [HTT1.out]; exact hTl
        have HTT : Hid (TT = tailW m (wordsGo key m)) := hid_of (by rw [HTT1.out, HT.out]; unfold tailW; rw [if_neg h4m])
        have rowT : RowAt w2 (some ⟨G, 0, none⟩) TT := by rw [HTT1.out]; exact row2
        have rowW := rowg
        have hownW := hown2
        have belW := b2
        have Hpn : Hid (P = (powB ((m + 1 + 3) / 4)).toNat) := hid_of (by rw [HP.out, show (m + 1 + 3) / 4 = (m + 3) / 4 from by omega])
        clear rowg hown2 b2 row2
        obtain ⟨Y, hY⟩ : ∃ Y, Y = ((wordsGo key m).drop (4 * m)).take 4 := ⟨_, rfl⟩
        have hYl : Y.length = 4 := by rw [hY, List.length_take, List.length_drop, wordsGo_length key hk m]; omega
        have rowY : RowAt w2 (some ⟨g, c4, none⟩) Y := by rw [hY, L4.out]; exact (rowW.mid (4 * m))
        have hXl : (xorL Y TT).length = 4 := by rw [xorL_length _ _ (by omega), hYl]
        have HX := hid_of (xor_any (some ⟨g, c4, none⟩) (some ⟨G, 0, none⟩) (cap - c4) 4 Y TT w2 (by omega) (by omega) rowY rowT)
        rw [hYl, hTl] at HX
        have HY : Hid (wordsGo key (m + 1) = wordsGo key m ++ xorL Y TT) := hid_of (by rw [hY, HTT.out]; rfl)
        clear hY
        go_wp2_with fail
        refine HX.out.mono ?_
        rintro e w5 ⟨rfl, own5, bel5⟩
        clear HX
        have hown5 := own_num (hownW.below bel5) HNl.out
        have row5 : RowAt w5 (some ⟨w2.heap.size, 0, none⟩) (xorL Y TT) := by
          obtain ⟨g', c', -, hv', row'⟩ := own_at own5 hXl (by omega)
          cases hv'
          exact row'
        have b5 := belW.trans (bel5.mono belW.size)
        have hs5 := b5.size
        go_wp2_with (at_builtin; refine wpList_append_own _ rfl _ _ 22 rfl w.heap.size 5 i0 (.int .u8 0) 1 1 Try.underlying22 hi0 hz0 hz1 hz2 rfl (by decide) _ _ _ rfl hown5 ⟨w2.heap.size, 0, none⟩ 4 4 ((xorL Y TT).map byte) rfl (by rw [List.length_map, hXl]) row5.news (by intro u hu; simp only [List.mem_map] at hu; obtain ⟨q, -, rfl⟩ := hu; rfl) (by unfold maxLen; have := HN.out; omega) (by have := HN.out; omega) hs5 ?_; intro v6 w6 hown6 hgrow6 hnil6)
        have b6 := b5.grown hgrow6 hs5 (fun j hj => (hown5.lt j hj).1)
        have R6 : OwnB w6 w.heap.size v6 (wordsGo key (m + 1)) := by rw [HY.out]; exact app_own HNl.out hXl hown6
        clear hown6 hgrow6 hown5 row5 own5 bel5
        go_wp2
        go_roundw
        case rel => exact ⟨m + 1, by omega, by have := HI.out; go_num, by rw [Hpn.out], R6, b6⟩
        case measure => have := HI.out; simp [intOf]; omega
    · obtain rfl : m = 40 := by omega
      go_wp2
      go_ret
      exact ⟨_, rfl, hown, hbel⟩
end Go.Proofs.Ythjnalbgnjbdnaa
