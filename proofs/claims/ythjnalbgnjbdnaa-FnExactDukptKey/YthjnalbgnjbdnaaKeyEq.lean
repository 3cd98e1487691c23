/-
  spec.DukptKey; impl.DukptKey and spec.DukptKey at every argument.
-/
import Derived.Test.YthjnalbgnjbdnaaWalkSpec
import Derived.Test.YthjnalbgnjbdnaaKeyImpl
namespace Go.Proofs.Ythjnalbgnjbdnaa
open Go.RowKit

set_option maxHeartbeats 1000000 in
theorem walkS_zero (bdk ksn : List UInt8) (kb ko ck sb so cs : Nat) (w : World) (hk : bdk.length = 16) (hs : ksn.length = 10) (hck : 16 ≤ ck) (rk : RowAt w (some ⟨kb, ko, none⟩) bdk) (rs : RowAt w (some ⟨sb, so, none⟩) ksn) :
    Calls Try.prog 71 #[.slice (some ⟨kb, ko, none⟩) 16 ck, .slice (some ⟨sb, so, none⟩) 10 cs, .int .i64 0] w fun e w' => ∃ v, e = .returned v ∧ Own w' w.heap.size v (dinitL bdk ksn) ∧ Below w.heap.size w w' := by
  have HI := hide (dinitS_ok bdk ksn kb ko ck cs (some ⟨sb, so, none⟩) w hk hs hck rk rs)
  go_enter Try.func71, Try.ntmps71
  go_wp2_with (first | (go_at_call 31; refine HI.out.mono ?_; rintro e1 w1 ⟨v1, rfl, own1, bel1⟩))
  go_ret
  exact ⟨_, rfl, own1, bel1⟩

/-- The counter's first j bits. -/
def topN (c j : Nat) : Nat := c / 2 ^ (21 - j) * 2 ^ (21 - j)
theorem topN_le (c j : Nat) : topN c j ≤ c := Nat.div_mul_le_self _ _
theorem topN_all (c : Nat) : topN c 21 = c := by unfold topN; simp
theorem topN_zero (c : Nat) (h : c < 2097152) : topN c 0 = 0 := by unfold topN; rw [Nat.div_eq_of_lt (by simpa using h), Nat.zero_mul]
theorem topN_same (c j : Nat) (hj : j < 21) (hb : ¬ c / 2 ^ (20 - j) % 2 = 1) : topN c (j + 1) = topN c j := by
  unfold topN
  rw [show 21 - (j + 1) = 20 - j from by omega, show 21 - j = (20 - j) + 1 from by omega, Nat.pow_succ, ← Nat.div_div_eq_div_mul]
  obtain ⟨p, hp⟩ : ∃ p, p = 2 ^ (20 - j) := ⟨_, rfl⟩
  rw [← hp] at hb ⊢
  obtain ⟨q, hq⟩ : ∃ q, q = c / p := ⟨_, rfl⟩
  rw [← hq] at hb ⊢
  have e : q = q / 2 * 2 := by omega
  calc q * p = (q / 2 * 2) * p := by rw [← e]
    _ = q / 2 * (p * 2) := by rw [Nat.mul_assoc, Nat.mul_comm 2 p]
theorem topN_next (c j : Nat) (hj : j < 21) (hb : c / 2 ^ (20 - j) % 2 = 1) : topN c (j + 1) = 2 ^ (20 - j + 1) * (c / 2 ^ (21 - j)) + 2 ^ (20 - j) ∧ topN c (j + 1) - 2 ^ (20 - j) = topN c j := by
  have h : topN c (j + 1) = 2 ^ (20 - j + 1) * (c / 2 ^ (21 - j)) + 2 ^ (20 - j) := by
    unfold topN
    rw [show 21 - (j + 1) = 20 - j from by omega, show 21 - j = (20 - j) + 1 from by omega, Nat.pow_succ, ← Nat.div_div_eq_div_mul]
    obtain ⟨p, hp⟩ : ∃ p, p = 2 ^ (20 - j) := ⟨_, rfl⟩
    rw [← hp] at hb ⊢
    obtain ⟨q, hq⟩ : ∃ q, q = c / p := ⟨_, rfl⟩
    rw [← hq] at hb ⊢
    have e : q = q / 2 * 2 + 1 := by omega
    calc q * p = (q / 2 * 2 + 1) * p := by rw [← e]
      _ = p * 2 * (q / 2) + p := by rw [Nat.add_mul, Nat.one_mul, Nat.mul_assoc, Nat.mul_comm 2 p, Nat.mul_comm (q / 2)]
  refine ⟨h, ?_⟩
  rw [h, Nat.add_sub_cancel]
  unfold topN
  rw [show 21 - j = (20 - j) + 1 from by omega, Nat.mul_comm]

theorem walkS_any (bdk : List UInt8) (s0 s1 s2 s3 s4 s5 s6 s7 s8 s9 : UInt8) (kb ko ck sb so cs : Nat) (hk : bdk.length = 16) (hck : 16 ≤ ck) (c base : Nat) (_hc : c = countN [s0, s1, s2, s3, s4, s5, s6, s7, s8, s9]) (hbase : base = wordN [s2, s3, s4, s5, s6, s7, s8, s9] / 2097152 * 2097152) (hcl : c < 2097152) (j : Nat) (hj : j ≤ 21) :
    ∀ w, RowAt w (some ⟨kb, ko, none⟩) bdk → RowAt w (some ⟨sb, so, none⟩) [s0, s1, s2, s3, s4, s5, s6, s7, s8, s9] → Calls Try.prog 71 #[.slice (some ⟨kb, ko, none⟩) 16 ck, .slice (some ⟨sb, so, none⟩) 10 cs, .int .i64 ((topN c j : Nat) : Int)] w fun e w' => ∃ v, e = .returned v ∧ Own w' w.heap.size v (walkK (dinitL bdk [s0, s1, s2, s3, s4, s5, s6, s7, s8, s9]) base c j) ∧ Below w.heap.size w w' := by
  induction j with
  | zero =>
    intro w rk rs
    rw [topN_zero c hcl]
    exact walkS_zero bdk _ kb ko ck sb so cs w hk rfl hck rk rs
  | succ j ih =>
    intro w rk rs
    have ihj := ih (by omega)
    have HK : walkK (dinitL bdk [s0, s1, s2, s3, s4, s5, s6, s7, s8, s9]) base c (j + 1) = if c / 2 ^ (20 - j) % 2 = 1 then stepN (walkK (dinitL bdk [s0, s1, s2, s3, s4, s5, s6, s7, s8, s9]) base c j) (blockN (walkR base c (j + 1))) else walkK (dinitL bdk [s0, s1, s2, s3, s4, s5, s6, s7, s8, s9]) base c j := rfl
    by_cases hb : c / 2 ^ (20 - j) % 2 = 1
    · rw [HK, if_pos hb]
      obtain ⟨h1, h2⟩ := topN_next c j (by omega) hb
      have hlt : topN c (j + 1) < 2097152 := Nat.lt_of_le_of_lt (topN_le c _) hcl
      have hw : walkR base c (j + 1) = base + topN c (j + 1) := walkR_spec base c hcl (j + 1) (by omega)
      rw [hw, hbase, rBytes_block s2 s3 s4 s5 s6 s7 s8 s9 _ hlt, ← hbase]
      refine walkS_step bdk _ s0 s1 s2 s3 s4 s5 s6 s7 s8 s9 (walkK_length _ (dinitL_length _ _) _ _ _) (topN c (j + 1)) (c / 2 ^ (21 - j)) (20 - j) h1 (by omega) hlt kb ko ck sb so cs w rk rs ?_
      intro wx hx1 hx2
      rw [h2]
      exact ihj wx hx1 hx2
    · rw [HK, if_neg hb, topN_same c j (by omega) hb]
      exact ihj w rk rs

set_option maxRecDepth 100000 in
set_option maxHeartbeats 1000000 in
theorem keyS_ok (bdk ksn : List UInt8) (kb ko ck sb so cs : Nat) (w : World) (hk : bdk.length = 16) (hs : ksn.length = 10) (hck : 16 ≤ ck) (rk : RowAt w (some ⟨kb, ko, none⟩) bdk) (rs : RowAt w (some ⟨sb, so, none⟩) ksn) :
    Calls Try.prog 33 #[.slice (some ⟨kb, ko, none⟩) 16 ck, .slice (some ⟨sb, so, none⟩) 10 cs] w fun e w' => ∃ v, e = .returned v ∧ Own w' w.heap.size v (keyN16 bdk ksn) ∧ Below w.heap.size w w' := by
  obtain ⟨s0, s1, s2, s3, s4, s5, s6, s7, s8, s9, hl⟩ := ten ksn hs
  have HC := hide (count_any ksn (some ⟨sb, so, none⟩) cs w hs rs)
  have hcw := count_word s0 s1 s2 s3 s4 s5 s6 s7 s8 s9
  have hcl : countN ksn < 2097152 := by rw [hl, ← hcw]; omega
  have HW : Hid (∀ wx, RowAt wx (some ⟨kb, ko, none⟩) bdk → RowAt wx (some ⟨sb, so, none⟩) ksn → Calls Try.prog 71 #[.slice (some ⟨kb, ko, none⟩) 16 ck, .slice (some ⟨sb, so, none⟩) 10 cs, .int .i64 ((countN ksn : Nat) : Int)] wx fun e w' => ∃ v, e = .returned v ∧ Own w' wx.heap.size v (keyN16 bdk ksn) ∧ Below wx.heap.size wx w') := by
    intro wx h1 h2
    have e : keyN16 bdk ksn = walkK (dinitL bdk ksn) (wordN [s2, s3, s4, s5, s6, s7, s8, s9] / 2097152 * 2097152) (countN ksn) 21 := by
      unfold keyN16 serW
      rw [hl, ← hcw]; rfl
    rw [e]
    have := walkS_any bdk s0 s1 s2 s3 s4 s5 s6 s7 s8 s9 kb ko ck sb so cs hk hck (countN ksn) _ (by rw [hl]) rfl hcl 21 (Nat.le_refl _) wx h1 (by rw [← hl]; exact h2)
    rw [topN_all, ← hl] at this
    exact this
  obtain ⟨N, hN⟩ : ∃ N, N = keyN16 bdk ksn := ⟨_, rfl⟩
  rw [← hN] at HW ⊢
  obtain ⟨cn, hcn⟩ : ∃ c, c = countN ksn := ⟨_, rfl⟩
  rw [← hcn] at HW HC
  have RK := hide rk
  have RS := hide rs
  clear hN hcn hcl hcw hl rk rs
  go_enter Try.func33, Try.ntmps33
  go_wp2_with (first
    | (go_at_call 66; refine HC.out.mono ?_; rintro e1 w1 ⟨rfl, kR, bel1⟩)
    | (go_at_call 71; refine (HW.out _ (RK.out.below bel1) (RS.out.below bel1)).mono ?_; rintro e2 w2 ⟨v2, rfl, own2, bel2⟩))
  go_ret
  have b2 := below_step bel1 bel2
  refine ⟨_, rfl, ?_, b2⟩
  obtain ⟨t, h⟩ := own2
  refine ⟨t, h.1, ?_⟩
  rcases h.2 with h | ⟨g, cap, cur, hv, hb, r⟩
  · exact .inl h
  · exact .inr ⟨g, cap, cur, hv, Nat.le_trans bel1.size hb, r⟩

set_option maxRecDepth 100000 in
set_option maxHeartbeats 1000000 in
theorem keyS_wrong (n m : Nat) (ak ab : Option Addr) (ck cb : Nat) (w : World) (_hn : n ≤ 1048576) (_hm : m ≤ 1048576) (h : ¬ (n = 16 ∧ m = 10)) :
    Calls Try.prog 33 #[.slice ak n ck, .slice ab m cb] w fun e w' => e = .returned (.slice none 0 0) ∧ w' = w := by
  by_cases h1 : n = 16
  · have h2 : ((m : Int) != 10) = true := by rw [bne_iff_ne]; omega
    subst h1
    go_enter Try.func33, Try.ntmps33
    go_wp2
    go_ret
    exact ⟨rfl, rfl⟩
  · have h2 : ((n : Int) != 16) = true := by rw [bne_iff_ne]; omega
    go_enter Try.func33, Try.ntmps33
    go_wp2
    go_ret
    exact ⟨rfl, rfl⟩
set_option maxRecDepth 100000 in
set_option maxHeartbeats 2000000 in
theorem key_wrong (n m : Nat) (ak ab : Option Addr) (ck cb : Nat) (w : World) (hn : n ≤ 1048576) (hm : m ≤ 1048576) (h : ¬ (n = 16 ∧ m = 10)) :
    Calls Try.prog 34 #[.slice ak n ck, .slice ab m cb] w fun e w' => e = .returned (.slice none 0 0) ∧ w' = w := by
  have HI := hide (dinit_wrong n m ak ab ck cb w hn hm h)
  go_enter Try.func34, Try.ntmps34
  go_wp2_with fail
  go_step3
  go_wp2_with (first | (go_at_call 32; refine HI.out.mono ?_; rintro e1 w1 ⟨rfl, rfl⟩))
  rw [Exit.noGoto_ret]
  go_ret
  exact ⟨rfl, rfl⟩

def keyL (bdk ksn : List UInt8) : List UInt8 := if bdk.length = 16 ∧ ksn.length = 10 then keyN16 bdk ksn else []
theorem keyL_le (bdk ksn : List UInt8) (_ : bdk.length ≤ 1048576) (_ : ksn.length ≤ 1048576) : (keyL bdk ksn).length ≤ 1048576 := by
  unfold keyL
  split
  · rw [keyN16_length]; omega
  · simp
theorem key_all (bdk ksn : List UInt8) (ak ab : Option Addr) (ck cb : Nat) (w : World) (hn : bdk.length ≤ 1048576) (hm : ksn.length ≤ 1048576) (hc : bdk.length ≤ ck) (hd : ksn.length ≤ cb) (rk : RowAt w ak bdk) (rb : RowAt w ab ksn) :
    Calls Try.prog 34 #[.slice ak bdk.length ck, .slice ab ksn.length cb] w fun e w' =>
      ∃ v, e = .returned v ∧ Own w' w.heap.size v (keyL bdk ksn) ∧ Below w.heap.size w w' := by
  unfold keyL
  by_cases h : bdk.length = 16 ∧ ksn.length = 10
  · rw [if_pos h]
    obtain ⟨sb, so, rfl, -⟩ := rb.at (k := 0) (by omega)
    have := key_ok bdk ksn ak sb so ck cb w h.1 h.2 (by omega) (by omega) rk rb
    rw [h.1, h.2]
    exact this
  · rw [if_neg h]
    refine (key_wrong _ _ ak ab ck cb w hn hm h).mono ?_
    rintro e w' ⟨rfl, rfl⟩
    exact ⟨_, rfl, ⟨5, World.ownsRow_nil _ _ _ _⟩, Below.refl _ _⟩
theorem keyS_all (bdk ksn : List UInt8) (ak ab : Option Addr) (ck cb : Nat) (w : World) (hn : bdk.length ≤ 1048576) (hm : ksn.length ≤ 1048576) (hc : bdk.length ≤ ck) (_hd : ksn.length ≤ cb) (rk : RowAt w ak bdk) (rb : RowAt w ab ksn) :
    Calls Try.prog 33 #[.slice ak bdk.length ck, .slice ab ksn.length cb] w fun e w' =>
      ∃ v, e = .returned v ∧ Own w' w.heap.size v (keyL bdk ksn) ∧ Below w.heap.size w w' := by
  unfold keyL
  by_cases h : bdk.length = 16 ∧ ksn.length = 10
  · rw [if_pos h]
    obtain ⟨kb, ko, rfl, -⟩ := rk.at (k := 0) (by omega)
    obtain ⟨sb, so, rfl, -⟩ := rb.at (k := 0) (by omega)
    have := keyS_ok bdk ksn kb ko ck sb so cb w h.1 h.2 (by omega) rk rb
    rw [h.1, h.2]
    exact this
  · rw [if_neg h]
    refine (keyS_wrong _ _ ak ab ck cb w hn hm h).mono ?_
    rintro e w' ⟨rfl, rfl⟩
    exact ⟨_, rfl, ⟨5, World.ownsRow_nil _ _ _ _⟩, Below.refl _ _⟩
end Go.Proofs.Ythjnalbgnjbdnaa
