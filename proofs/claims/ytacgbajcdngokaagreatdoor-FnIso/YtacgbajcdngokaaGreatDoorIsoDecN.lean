/-
  spec.l6Dec.
-/
import Derived.Test.YtacgbajcdngokaaGreatDoorIsoGood
namespace Go.Proofs.YtacgbajcdngokaaGreatDoor
open Go.RowKit

set_option maxRecDepth 100000 in
set_option maxHeartbeats 2000000 in
theorem l6Dec_any (N d : Nat) (w : World) (hN : N ≤ 1048576) (hd : d ≤ 1000) :
    Calls Tryz.prog 43 #[.int .i64 (N : Int), .int .i64 (d : Int)] w fun e w' => e = .returned (.string ⟨(padL d N).toArray⟩) ∧ Below w.heap.size w w' := by
  go_enter Tryz.func43, Tryz.ntmps43
  go_wp2_with fail
  go_loopw [0, 1, 5] (fun nv wv sv wr => ∃ (r n : Nat) (s : List UInt8), r ≤ d ∧ n ≤ 1048576 ∧ nv = .int .i64 (n : Int) ∧ wv = .int .i64 (r : Int) ∧ sv = .string ⟨s.toArray⟩ ∧ Hid (padL r n ++ s = padL d N ∧ s.length + r = d) ∧ Below w.heap.size w wr) (fun _ wv _ _ => (intOf wv).toNat)
  case atStart => exact ⟨d, N, [], Nat.le_refl _, hN, rfl, rfl, rfl, ⟨List.append_nil _, by simp⟩, Below.refl _ _⟩
  case round =>
    obtain ⟨r, n, s, hr, hn, rfl, rfl, rfl, HP, hbx⟩ := hrel
    by_cases h0 : 0 < r
    · have h0I : (0 : Int) < (r : Int) := by omega
      have hrem : (n : Int).tmod 10 = ((n % 10 : Nat) : Int) := by rw [Int.tmod_eq_emod_of_nonneg (Int.natCast_nonneg _)]; omega
      have hremE : (n : Int) % 10 = ((n % 10 : Nat) : Int) := by omega
      have hdiv : (n : Int).tdiv 10 = ((n / 10 : Nat) : Int) := by rw [Int.tdiv_eq_ediv_of_nonneg (Int.natCast_nonneg _)]; omega
      have hdivE : (n : Int) / 10 = ((n / 10 : Nat) : Int) := by omega
      have hm10 : n % 10 < 10 := Nat.mod_lt _ (by omega)
      have HS : Hid (padL (r - 1) (n / 10) ++ ([UInt8.ofNat (48 + n % 10)] ++ s) = padL d N ∧ ([UInt8.ofNat (48 + n % 10)] ++ s).length + (r - 1) = d) := by
        obtain ⟨e1, e2⟩ := HP.out
        refine ⟨?_, by simp; omega⟩
        rw [← e1, ← List.append_assoc]
        congr 1
        have : r = r - 1 + 1 := by omega
        rw [this]
        rfl
      have hqn : n / 10 ≤ 1048576 := Nat.le_trans (Nat.div_le_self _ _) hn
      obtain ⟨q, hq⟩ : ∃ q, q = n / 10 := ⟨_, rfl⟩
      obtain ⟨m, hm⟩ : ∃ q, q = n % 10 := ⟨_, rfl⟩
      rw [← hq] at hdiv hdivE hqn HS
      rw [← hm] at hrem hremE hm10 HS
      have hwr : IntKind.i64.wrap ((r : Int) - 1) = ((r - 1 : Nat) : Int) := by rw [IntKind.wrap_i64]; omega
      obtain ⟨r1, hr1⟩ : ∃ q, q = r - 1 := ⟨_, rfl⟩
      rw [← hr1] at hwr HS
      have hr1d : r1 ≤ d := by omega
      have hr1r : r1 < r := by omega
      have hx : (UInt8.ofNat (48 + m)).toNat = 48 + m := by rw [UInt8.toNat_ofNat']; omega
      obtain ⟨Y, hY⟩ : ∃ y, y = wr.alloc (Obj.cells #[.int .u8 (48 + (m : Int))] 5) := ⟨_, rfl⟩
      have kY : Blk Y wr.heap.size 5 [.int .u8 (48 + (m : Int))] := by rw [hY]; exact Blk.new _ _ _
      have rY : RowAt Y (some ⟨wr.heap.size, 0, none⟩) [UInt8.ofNat (48 + m)] := by
        refine .inr ⟨_, _, rfl, fun i hi => ?_⟩
        obtain rfl : i = 0 := by simp at hi; omega
        rw [Nat.add_zero, kY.cell 0 (by simp)]
        show some (Value.int .u8 (48 + (m : Int))) = some (Value.int .u8 (((UInt8.ofNat (48 + m)).toNat : Nat) : Int))
        rw [hx]
        simp
      have hcv := conv_any [UInt8.ofNat (48 + m)] (some ⟨wr.heap.size, 0, none⟩) 1 1 Y rfl rY
      have bY : Below wr.heap.size wr Y := by rw [hY]; exact below_newT _ _
      have bxY := hbx.trans (bY.mono hbx.size)
      obtain ⟨A, hA⟩ : ∃ a : ByteArray, a = ⟨[UInt8.ofNat (48 + m)].toArray⟩ := ⟨_, rfl⟩
      obtain ⟨SS, hSS⟩ : ∃ a : ByteArray, a = ⟨s.toArray⟩ := ⟨_, rfl⟩
      have hAS : A ++ SS = ⟨([UInt8.ofNat (48 + m)] ++ s).toArray⟩ := by
        rw [hA, hSS]
        apply ByteArray.ext
        simp
      have hsum : A.size + SS.size ≤ 9223372036854775807 := by
        have h := congrArg ByteArray.size hAS
        have h2 : (⟨([UInt8.ofNat (48 + m)] ++ s).toArray⟩ : ByteArray).size = s.length + 1 := by simp [ByteArray.size]
        rw [h2, ByteArray.size_append] at h
        have h3 := HS.out.2
        rw [List.length_append] at h3
        simp at h3
        omega
      have hsr := fun (wx : World) => run_string_add_sum (P := Tryz.prog) wx A SS hsum
      rw [← hA] at hcv
      rw [← hSS]
      rw [hY] at hcv
      have HAS := hideT hAS
      have HY := hideT hY
      clear hq hm hr1 HP hA hSS hAS rY kY hx hY
      go_upto_region 5 with fail
      rw [← show Y = _ from HY]
      clear hcv HY
      go_wp2_with fail
      go_roundw
      case rel => exact ⟨r1, q, _, hr1d, hqn, rfl, rfl, by rw [show A ++ SS = _ from HAS], HS, bxY⟩
      case measure => simp [intOf]; omega
    · have h0I : ¬ (0 : Int) < (r : Int) := by omega
      obtain rfl : r = 0 := by omega
      have HE : Hid (s = padL d N) := by have h := HP.out.1; exact h
      clear HP
      go_wp2_with fail
      go_ret
      exact ⟨by rw [HE.out]; rfl, hbx⟩
end Go.Proofs.YtacgbajcdngokaaGreatDoor
