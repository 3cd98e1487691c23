/-
  spec: l1Mul, l1Inverse, l1Turn, l1Sub.
-/
import Derived.Test.YthjnalbgnjbdnaaAesMath
namespace Go.Proofs.Ythjnalbgnjbdnaa
open Go.RowKit

set_option maxRecDepth 100000 in
theorem tX_form : ∀ n : Nat, n < 256 → bits BinOp.xor IntKind.u8 ((n : Int) * 2 % 256) ((n : Int) / 128 * 27) = ((tXN n : Nat) : Int) := by decide +kernel

set_option maxRecDepth 100000 in
set_option maxHeartbeats 1000000 in
theorem mul_any (A B : Nat) (w : World) (hA : A < 256) (hB : B < 256) :
    Calls Try.prog 103 #[.int .u8 A, .int .u8 B] w fun e w' => e = .returned (.int .u8 (mulN A B : Nat)) ∧ w' = w := by
  go_enter Try.func103, Try.ntmps103
  go_wp2
  go_loopw [0, 1, 5, 6] (fun a b p _ wr => ∃ f p' a' b' : Nat, b' < 2 ^ f ∧ b' < 256 ∧ a' < 256 ∧ p' < 256 ∧ a = .int .u8 a' ∧ b = .int .u8 b' ∧ p = .int .u8 p' ∧ Hid (mulGo f p' a' b' = mulN A B) ∧ Hid (wr = w)) (fun _ b _ _ _ => (intOf b).toNat)
  case atStart => exact ⟨8, 0, A, B, hB, hB, hA, by omega, rfl, rfl, rfl, rfl, rfl⟩
  case round =>
    obtain ⟨f, p, a, b, hbf, hb8, ha8, hp8, rfl, rfl, rfl, HM, Hwr⟩ := hrel
    by_cases hb0 : b = 0
    · subst hb0
      have hM : Hid (p = mulN A B) := (mulGo_zero f p a).symm.trans HM.out
      go_wp2
      go_ret
      exact ⟨ret_int (by rw [hM.out]), Hwr.out⟩
    · have hbI : (0 : Int) < (b : Int) := by omega
      obtain ⟨g, rfl⟩ : ∃ g, f = g + 1 := by
        cases f with
        | zero => simp at hbf; omega
        | succ g => exact ⟨g, rfl⟩
      have hbg : b / 2 < 2 ^ g := by rw [Nat.pow_succ] at hbf; omega
      have hb2 : Value.int .u8 ((b : Int) / 2) = .int .u8 ((b / 2 : Nat) : Int) := by simp
      have HB : Hid (Value.int .u8 ((b : Int) / 2) = .int .u8 ((b / 2 : Nat) : Int)) := hb2
      clear hbf hb2
      by_cases h1 : b % 2 = 1
      · obtain hbit : bits BinOp.and IntKind.u8 (b : Int) 1 = 1 := by
          have h := u8_and_nat b 1 hb8 (by decide)
          rw [show b &&& 1 = b % 2 from Nat.and_one_is_mod b, h1] at h
          exact h
        have HM2 : Hid (mulGo g (p ^^^ a) (tXN a) (b / 2) = mulN A B) := by
          have h := HM.out
          unfold mulGo at h
          rw [if_pos h1] at h
          exact h
        obtain ⟨q, hq, hq8, Hq⟩ : ∃ q : Nat, bits BinOp.xor IntKind.u8 (p : Int) (a : Int) = (q : Int) ∧ q < 256 ∧ Hid (q = p ^^^ a) := ⟨_, u8_xor_nat p a hp8 ha8, Nat.xor_lt_two_pow (n := 8) hp8 ha8, rfl⟩
        rw [← Hq.out] at HM2
        go_wp2
        go_roundw
        case rel =>
          refine ⟨g, q, tXN a, b / 2, hbg, by omega, tXN_lt a ha8, hq8, ?_, HB.out, rfl, HM2, Hwr⟩
          refine congrArg (Value.int .u8) ?_
          exact tX_form a ha8
        case measure => simp [intOf]; omega
      · have h0 : b % 2 = 0 := by omega
        obtain hbit : bits BinOp.and IntKind.u8 (b : Int) 1 = 0 := by
          have h := u8_and_nat b 1 hb8 (by decide)
          rw [show b &&& 1 = b % 2 from Nat.and_one_is_mod b, h0] at h
          exact h
        have HM2 : Hid (mulGo g p (tXN a) (b / 2) = mulN A B) := by
          have h := HM.out
          unfold mulGo at h
          rw [if_neg h1] at h
          exact h
        go_wp2
        go_roundw
        case rel =>
          refine ⟨g, p, tXN a, b / 2, hbg, by omega, tXN_lt a ha8, hp8, ?_, HB.out, rfl, HM2, Hwr⟩
          refine congrArg (Value.int .u8) ?_
          exact tX_form a ha8
        case measure => simp [intOf]; omega

theorem invGo_s1 (a k : Nat) : (invGo a (k + 1)).1 = mulN (invGo a k).1 (invGo a k).1 := by rw [invGo]
theorem invGo_s2 (a k : Nat) : (invGo a (k + 1)).2 = mulN (invGo a k).2 (mulN (invGo a k).1 (invGo a k).1) := by rw [invGo]
theorem invN_def (a : Nat) : (invGo a 7).2 = invN a := by rw [invN]
theorem invN_lt (a : Nat) (h : a < 256) : invN a < 256 := by rw [← invN_def]; exact (invGo_lt a 7 h).2
theorem hid_of {p : Prop} (h : p) : Hid p := h

set_option maxRecDepth 100000 in
set_option maxHeartbeats 400000 in
theorem inverse_any (A : Nat) (w : World) (hA : A < 256) :
    Calls Try.prog 106 #[.int .u8 A] w fun e w' => e = .returned (.int .u8 (invN A : Nat)) ∧ w' = w := by
  go_enter Try.func106, Try.ntmps106
  go_wp2
  go_loopw [0, 3, 4] (fun a p i wr => ∃ k : Nat, k ≤ 7 ∧ i = .int .i64 k ∧ a = .int .u8 ((invGo A k).1 : Nat) ∧ p = .int .u8 ((invGo A k).2 : Nat) ∧ Hid (wr = w)) (fun _ _ i _ => 7 - (intOf i).toNat)
  case atStart => exact ⟨0, by omega, rfl, rfl, rfl, rfl⟩
  case round =>
    obtain ⟨k, hk, rfl, rfl, rfl, Hwr⟩ := hrel
    have hl := invGo_lt A k hA
    obtain ⟨x, hx⟩ : ∃ x, x = (invGo A k).1 := ⟨_, rfl⟩
    obtain ⟨y, hy⟩ : ∃ y, y = (invGo A k).2 := ⟨_, rfl⟩
    have H1 : Hid ((invGo A (k + 1)).1 = mulN x x) := hid_of (by rw [hx, invGo_s1])
    have H2 : Hid ((invGo A (k + 1)).2 = mulN y (mulN x x)) := hid_of (by rw [hx, hy, invGo_s2])
    have HY : Hid (y = (invGo A k).2) := hid_of hy
    rw [← hx, ← hy] at hl ⊢
    clear hx hy
    by_cases hlt : k < 7
    · have hkI : (k : Int) < 7 := by omega
      obtain ⟨z, hz8, Hz⟩ : ∃ z : Nat, z < 256 ∧ Hid (z = mulN x x) := ⟨mulN x x, mulN_lt x x hl.1, hid_of rfl⟩
      go_wp2_with fail
      refine (mul_any x x _ hl.1 hl.1).mono ?_
      rintro e w' ⟨rfl, rfl⟩
      rw [← Hz.out]
      go_wp2_with fail
      refine (mul_any y z _ hl.2 hz8).mono ?_
      rintro e w' ⟨rfl, rfl⟩
      go_wp2
      go_roundw
      case rel => exact ⟨k + 1, by omega, by go_num, by rw [H1.out, Hz.out], by rw [H2.out, Hz.out], Hwr⟩
      case measure => simp [intOf]; omega
    · obtain rfl : k = 7 := by omega
      go_wp2
      go_ret
      exact ⟨ret_int (by rw [HY.out, invN_def]), Hwr.out⟩

set_option maxRecDepth 100000 in
set_option maxHeartbeats 400000 in
theorem turn_any (x k : Nat) (ki : Int) (w : World) (hx : x < 256) (hki : ki = (k : Int)) (hk : 1 ≤ k) (hk4 : k ≤ 4) :
    Calls Try.prog 107 #[.int .u8 x, .int .i64 ki] w fun e w' => e = .returned (.int .u8 (turn8 x k : Nat)) ∧ w' = w := by
  obtain ⟨rfl, rfl⟩ | ⟨rfl, rfl⟩ | ⟨rfl, rfl⟩ | ⟨rfl, rfl⟩ : (k = 1 ∧ ki = 1) ∨ (k = 2 ∧ ki = 2) ∨ (k = 3 ∧ ki = 3) ∨ (k = 4 ∧ ki = 4) := by omega
  all_goals
    clear hk hk4 hki
    go_enter Try.func107, Try.ntmps107
    go_wp2
    go_ret
    refine ⟨ret_int ?_, rfl⟩
    revert x
    decide +kernel

theorem t8_lt (n k : Nat) (hn : n < 256) : turn8 n k < 256 := by
  unfold turn8
  have hd : n / 2 ^ (8 - k) ≤ n := Nat.div_le_self _ _
  exact Nat.or_lt_two_pow (n := 8) (by omega) (by omega)

set_option maxRecDepth 100000 in
set_option maxHeartbeats 1000000 in
theorem sub_any (n : Nat) (w : World) (hn : n < 256) :
    Calls Try.prog 82 #[.int .u8 n] w fun e w' => e = .returned (.int .u8 ((subTab.getD n 0).toNat : Int)) ∧ w' = w := by
  obtain ⟨c, hc8, Hc⟩ : ∃ c : Nat, c < 256 ∧ Hid (c = invN n) := ⟨invN n, invN_lt n hn, hid_of rfl⟩
  have X : ∀ a b : Nat, a < 256 → b < 256 → a ^^^ b < 256 := fun a b ha hb => Nat.xor_lt_two_pow (n := 8) ha hb
  obtain ⟨t1, h1, H1⟩ : ∃ t : Nat, t < 256 ∧ Hid (t = turn8 c 1) := ⟨turn8 c 1, t8_lt c 1 hc8, hid_of rfl⟩
  obtain ⟨t2, h2, H2⟩ : ∃ t : Nat, t < 256 ∧ Hid (t = turn8 c 2) := ⟨turn8 c 2, t8_lt c 2 hc8, hid_of rfl⟩
  obtain ⟨t3, h3, H3⟩ : ∃ t : Nat, t < 256 ∧ Hid (t = turn8 c 3) := ⟨turn8 c 3, t8_lt c 3 hc8, hid_of rfl⟩
  obtain ⟨t4, h4, H4⟩ : ∃ t : Nat, t < 256 ∧ Hid (t = turn8 c 4) := ⟨turn8 c 4, t8_lt c 4 hc8, hid_of rfl⟩
  obtain ⟨y1, e1, l1, E1⟩ : ∃ y : Nat, bits BinOp.xor IntKind.u8 (c : Int) (t1 : Int) = (y : Int) ∧ y < 256 ∧ Hid (y = c ^^^ t1) := ⟨_, u8_xor_nat _ _ hc8 h1, X _ _ hc8 h1, rfl⟩
  obtain ⟨y2, e2, l2, E2⟩ : ∃ y : Nat, bits BinOp.xor IntKind.u8 (y1 : Int) (t2 : Int) = (y : Int) ∧ y < 256 ∧ Hid (y = y1 ^^^ t2) := ⟨_, u8_xor_nat _ _ l1 h2, X _ _ l1 h2, rfl⟩
  obtain ⟨y3, e3, l3, E3⟩ : ∃ y : Nat, bits BinOp.xor IntKind.u8 (y2 : Int) (t3 : Int) = (y : Int) ∧ y < 256 ∧ Hid (y = y2 ^^^ t3) := ⟨_, u8_xor_nat _ _ l2 h3, X _ _ l2 h3, rfl⟩
  obtain ⟨y4, e4, l4, E4⟩ : ∃ y : Nat, bits BinOp.xor IntKind.u8 (y3 : Int) (t4 : Int) = (y : Int) ∧ y < 256 ∧ Hid (y = y3 ^^^ t4) := ⟨_, u8_xor_nat _ _ l3 h4, X _ _ l3 h4, rfl⟩
  obtain ⟨y5, e5, E5⟩ : ∃ y : Nat, bits BinOp.xor IntKind.u8 (y4 : Int) 99 = (y : Int) ∧ Hid (y = (subTab.getD n 0).toNat) := by
    refine ⟨_, u8_xor_nat y4 99 l4 (by decide), ?_⟩
    refine hid_of ?_
    rw [← sub_aff n hn, ← Hc.out, E4.out, E3.out, E2.out, E1.out, H1.out, H2.out, H3.out, H4.out, affN]
  clear X
  go_enter Try.func82, Try.ntmps82
  go_wp2_with fail
  refine (inverse_any n _ hn).mono ?_
  rintro e w' ⟨rfl, rfl⟩
  rw [← Hc.out]
  go_wp2_with fail
  refine (turn_any c 1 _ _ hc8 rfl (by omega) (by omega)).mono ?_
  rintro e w' ⟨rfl, rfl⟩
  rw [← H1.out]
  go_wp2_with fail
  refine (turn_any c 2 _ _ hc8 rfl (by omega) (by omega)).mono ?_
  rintro e w' ⟨rfl, rfl⟩
  rw [← H2.out]
  go_wp2_with fail
  refine (turn_any c 3 _ _ hc8 rfl (by omega) (by omega)).mono ?_
  rintro e w' ⟨rfl, rfl⟩
  rw [← H3.out]
  go_wp2_with fail
  refine (turn_any c 4 _ _ hc8 rfl (by omega) (by omega)).mono ?_
  rintro e w' ⟨rfl, rfl⟩
  rw [← H4.out]
  go_wp2
  go_ret
  exact ⟨ret_int (by rw [E5.out]), rfl⟩
end Go.Proofs.Ythjnalbgnjbdnaa
