/-
  Texts laid together: HalfImpl, KeyMath, HalfSpec, WalkMath, WalkSpec.
-/
import Derived.Test.YtoajfbkblpaejaaDoorGmH
import Derived.Test.YtoajfbkblpaejaaDoorGrG
/-
  impl.half.
-/
namespace Go.Proofs.YtoajfbkblpaejaaDoor
open Go.RowKit

def dhalfN (key r : List UInt8) : List UInt8 := xorL (encN (key.take 8) (xorL r (key.drop 8))) (key.drop 8)
theorem dhalfN_length (key r : List UInt8) (hk : key.length = 16) : (dhalfN key r).length = 8 := by
  unfold dhalfN
  rw [xorL_length _ _ (by rw [encN_length, drop8 hk]), encN_length]

end Go.Proofs.YtoajfbkblpaejaaDoor

/-
  impl.DukptKey.
-/
namespace Go.Proofs.YtoajfbkblpaejaaDoor
open Go.RowKit

def stepN (key r : List UInt8) : List UInt8 := dhalfN (xorL key serialL) r ++ dhalfN key r
theorem xorS_length (key : List UInt8) (h : key.length = 16) : (xorL key serialL).length = 16 := by rw [xorL_length _ _ (by rw [h]; rfl), h]
theorem stepN_length (key r : List UInt8) (h : key.length = 16) : (stepN key r).length = 16 := by
  unfold stepN
  rw [List.length_append, dhalfN_length _ _ (xorS_length _ h), dhalfN_length _ _ h]
/-- The walk over the bits of the counter c, from the highest on. -/
def bitAt (j : Nat) : Nat := 1048576 / 2 ^ j
def walkR (base c : Nat) : Nat → Nat
  | 0 => base
  | j + 1 => if c / 2 ^ (20 - j) % 2 = 1 then walkR base c j + bitAt j else walkR base c j
def walkK (init : List UInt8) (base c : Nat) : Nat → List UInt8
  | 0 => init
  | j + 1 => if c / 2 ^ (20 - j) % 2 = 1 then stepN (walkK init base c j) (blockN (walkR base c (j + 1))) else walkK init base c j
theorem walkK_length (init : List UInt8) (h : init.length = 16) (base c j : Nat) : (walkK init base c j).length = 16 := by
  induction j with
  | zero => exact h
  | succ j ih =>
    show (if _ then _ else _ : List UInt8).length = 16
    split
    · exact stepN_length _ _ ih
    · exact ih
theorem bitAt_succ (j : Nat) : bitAt (j + 1) = bitAt j / 2 := by unfold bitAt; rw [Nat.pow_succ, Nat.div_div_eq_div_mul]
theorem bitAt_pow (j : Nat) (h : j ≤ 20) : bitAt j = 2 ^ (20 - j) := by
  unfold bitAt
  rw [show (1048576 : Nat) = 2 ^ (20 - j) * 2 ^ j from by rw [← Nat.pow_add, Nat.sub_add_cancel h], Nat.mul_div_cancel _ (Nat.pow_pos (by omega))]
theorem walkR_spec (base c : Nat) (hc : c < 2097152) (j : Nat) (hj : j ≤ 21) : walkR base c j = base + c / 2 ^ (21 - j) * 2 ^ (21 - j) := by
  induction j with
  | zero =>
    show base = _
    rw [Nat.div_eq_of_lt (by simpa using hc)]; omega
  | succ j ih =>
    have h1 := ih (by omega)
    show (if c / 2 ^ (20 - j) % 2 = 1 then walkR base c j + bitAt j else walkR base c j) = _
    rw [h1, bitAt_pow j (by omega), show 21 - (j + 1) = 20 - j from by omega, show 21 - j = (20 - j) + 1 from by omega, Nat.pow_succ]
    have hp : 0 < 2 ^ (20 - j) := Nat.pow_pos (by omega)
    obtain ⟨p, hpE⟩ : ∃ p, p = 2 ^ (20 - j) := ⟨_, rfl⟩
    rw [← hpE] at hp ⊢
    rw [← Nat.div_div_eq_div_mul]
    obtain ⟨q, hq⟩ : ∃ q, q = c / p := ⟨_, rfl⟩
    rw [← hq]
    split
    · rename_i h
      have e : q = q / 2 * 2 + 1 := by omega
      have e2 : q * p = q / 2 * (p * 2) + p := by
        calc q * p = (q / 2 * 2 + 1) * p := by rw [← e]
          _ = q / 2 * (p * 2) + p := by rw [Nat.add_mul, Nat.one_mul, Nat.mul_assoc, Nat.mul_comm 2 p]
      omega
    · rename_i h
      have e : q = q / 2 * 2 := by omega
      have e2 : q * p = q / 2 * (p * 2) := by
        calc q * p = (q / 2 * 2) * p := by rw [← e]
          _ = q / 2 * (p * 2) := by rw [Nat.mul_assoc, Nat.mul_comm 2 p]
      omega
theorem and_bit (c p : Nat) (k : Nat) (hc : c < 18446744073709551616) (hk : k < 64) (hp : p = 2 ^ k) : bits BinOp.and IntKind.u64 (c : Int) (p : Int) = ((if c / 2 ^ k % 2 = 1 then p else 0 : Nat) : Int) := by
  have hlt : p < 18446744073709551616 := by rw [hp]; exact Nat.pow_lt_pow_right (by omega) hk
  rw [u64_and_nat _ _ hc hlt]
  congr 1
  rw [hp]
  apply Nat.eq_of_testBit_eq
  intro i
  rw [Nat.testBit_and, Nat.testBit_two_pow]
  split
  · rename_i h
    rw [Nat.testBit_two_pow]
    by_cases e : k = i
    · subst e; simp [Nat.testBit_eq_decide_div_mod_eq, h]
    · simp [e]
  · rename_i h
    by_cases e : k = i
    · subst e; simp [Nat.testBit_eq_decide_div_mod_eq, h]
    · simp [e]
theorem or_bit21 (r p k : Nat) (hr : r % 2 ^ (k + 1) = 0) (hr2 : r < 18446744073709551616) (hk : k < 64) (hp : p = 2 ^ k) : bits BinOp.or IntKind.u64 (r : Int) (p : Int) = ((r + p : Nat) : Int) := by
  have hlt : p < 18446744073709551616 := by rw [hp]; exact Nat.pow_lt_pow_right (by omega) hk
  rw [u64_or_nat _ _ hr2 hlt, nat_join (k + 1) r p hr (by rw [hp, Nat.pow_succ]; have := Nat.pow_pos (n := k) (show 0 < 2 by omega); omega)]
end Go.Proofs.YtoajfbkblpaejaaDoor

/-
  spec.l3Half.
-/
namespace Go.Proofs.YtoajfbkblpaejaaDoor
open Go.RowKit

theorem dhalf_eq (key r : List UInt8) (hk : key.length = 16) (hr : r.length = 8) : dhalfN key r = xorL (desS (key.take 8) (xorL r (key.drop 8)) false) (key.drop 8) := by
  unfold dhalfN
  rw [enc_eq _ _ (take8 hk) (by rw [xorL_length _ _ (by rw [hr, drop8 hk]), hr])]

set_option maxRecDepth 100000 in
set_option maxHeartbeats 4000000 in
theorem halfS_any (key r : List UInt8) (kb ko ck cb : Nat) (ab : Option Addr) (w : World) (hk : key.length = 16) (hck : 16 ≤ ck) (hr : r.length = 8) (rk : RowAt w (some ⟨kb, ko, none⟩) key) (rr : RowAt w ab r) :
    Calls Tryd.prog 64 #[.slice (some ⟨kb, ko, none⟩) 16 ck, .slice ab 8 cb] w fun e w' => ∃ v, e = .returned v ∧ OwnB w' w.heap.size v (dhalfN key r) ∧ Below w.heap.size w w' := by
  have hal := take8 hk
  have hbl := drop8 hk
  have ra : RowAt w (some ⟨kb, ko, none⟩) (key.take 8) := rk.take 8
  have rb : RowAt w (some ⟨kb, ko + 8, none⟩) (key.drop 8) := rk.drop 8
  rw [dhalf_eq key r hk hr]
  have hxl : (xorL r (key.drop 8)).length = 8 := by rw [xorL_length _ _ (by rw [hr, hbl]), hr]
  have hyl := desS_length (key.take 8) (xorL r (key.drop 8)) false
  have hzl : (xorL (desS (key.take 8) (xorL r (key.drop 8)) false) (key.drop 8)).length = 8 := by rw [xorL_length _ _ (by rw [hyl, hbl]), hyl]
  have HX1 : Hid (∀ (cp : Nat) (wx : World), RowAt wx ab r → RowAt wx (some ⟨kb, ko + 8, none⟩) (key.drop 8) → Calls Tryd.prog 52 #[.slice ab 8 cb, .slice (some ⟨kb, ko + 8, none⟩) 8 cp] wx fun e w' => e = .returned (.slice (some ⟨wx.heap.size, 0, none⟩) 8 8) ∧ OwnB w' wx.heap.size (.slice (some ⟨wx.heap.size, 0, none⟩) 8 8) (xorL r (key.drop 8)) ∧ Below wx.heap.size wx w') := by
    intro cp wx h1 h2
    have := xor_any ab (some ⟨kb, ko + 8, none⟩) cb cp r (key.drop 8) wx (by omega) (by rw [hr, hbl]) h1 h2
    rw [hr, hbl] at this
    exact this
  have HD := hide (fun (g c : Nat) (wx : World) (h1 : RowAt wx (some ⟨kb, ko, none⟩) (key.take 8)) (h2 : RowAt wx (some ⟨g, 0, none⟩) (xorL r (key.drop 8))) => des_spec (some ⟨kb, ko, none⟩) (some ⟨g, 0, none⟩) ck c (key.take 8) _ false wx hal hxl h1 h2)
  have HX2 : Hid (∀ (g c cp : Nat) (wx : World), RowAt wx (some ⟨g, 0, none⟩) (desS (key.take 8) (xorL r (key.drop 8)) false) → RowAt wx (some ⟨kb, ko + 8, none⟩) (key.drop 8) → Calls Tryd.prog 52 #[.slice (some ⟨g, 0, none⟩) 8 c, .slice (some ⟨kb, ko + 8, none⟩) 8 cp] wx fun e w' => e = .returned (.slice (some ⟨wx.heap.size, 0, none⟩) 8 8) ∧ OwnB w' wx.heap.size (.slice (some ⟨wx.heap.size, 0, none⟩) 8 8) (xorL (desS (key.take 8) (xorL r (key.drop 8)) false) (key.drop 8)) ∧ Below wx.heap.size wx w') := by
    intro g c cp wx h1 h2
    have := xor_any (some ⟨g, 0, none⟩) (some ⟨kb, ko + 8, none⟩) c cp (desS (key.take 8) (xorL r (key.drop 8)) false) (key.drop 8) wx (by omega) (by rw [hyl, hbl]) h1 h2
    rw [hyl, hbl] at this
    exact this
  obtain ⟨z, hzE⟩ : ∃ z, z = xorL (desS (key.take 8) (xorL r (key.drop 8)) false) (key.drop 8) := ⟨_, rfl⟩
  rw [← hzE] at HX2 hzl ⊢
  obtain ⟨y, hyE⟩ : ∃ y, y = desS (key.take 8) (xorL r (key.drop 8)) false := ⟨_, rfl⟩
  rw [← hyE] at HX2 HD hyl
  obtain ⟨x, hxE⟩ : ∃ x, x = xorL r (key.drop 8) := ⟨_, rfl⟩
  rw [← hxE] at HX1 HD hxl
  obtain ⟨a, haE⟩ : ∃ a, a = key.take 8 := ⟨_, rfl⟩
  obtain ⟨b, hbE⟩ : ∃ b, b = key.drop 8 := ⟨_, rfl⟩
  rw [← haE] at HD ra
  rw [← hbE] at HX1 HX2 rb
  clear hzE hyE hxE haE hbE rk hk hal hbl
  have hcI : (8 : Int) ≤ (ck : Int) := by omega
  have hcI2 : (16 : Int) ≤ (ck : Int) := by omega
  have hcn : ¬ ck = 8 := by omega
  go_enter Tryd.func64, Tryd.ntmps64
  go_wp2_with fail
  obtain ⟨V, hV⟩ : ∃ V, V = w.drew := ⟨_, rfl⟩
  have bV : Below w.heap.size w V := by rw [hV]; exact (Below.refl _ _).drew
  have hwV := bV.size
  have b_0 : Below V.heap.size V V := Below.refl _ _
  have rowA : Hid (∀ {x}, Below V.heap.size V x → RowAt x (some ⟨kb, ko, none⟩) a) := fun h => (ra.below bV).below h
  have rowB : Hid (∀ {x}, Below V.heap.size V x → RowAt x (some ⟨kb, ko + 8, none⟩) b) := fun h => (rb.below bV).below h
  have rowR : Hid (∀ {x}, Below V.heap.size V x → RowAt x ab r) := fun h => (rr.below bV).below h
  have keep : Hid (∀ {B x}, Below B V x → True) := fun _ => trivial
  refine wp_region_held_drew (S := fun _ => True) (by kernel_rfl) trivial (fun hHeld => ?_)
  rw [← hV]
  clear hV
  refine wpAnyH_take (i := 0) (v := (.slice (some ⟨kb, ko, none⟩) 16 ck)) rfl (by kernel_rfl) (by kernel_rfl) (by kernel_rfl) (fun _ _ _ h => h) (Or.inl ⟨by rfl, ?_⟩) hHeld ?_
  · intro _ _; go_simp
  try dsimp only [Act.put]
  refine wpAnyH_take (i := 1) (v := (.slice (some ⟨kb, ko, none⟩) 8 ck)) rfl (by kernel_rfl) (by kernel_rfl) (by kernel_rfl) (fun _ _ _ h => h) (Or.inl ⟨by rfl, ?_⟩) hHeld ?_
  · intro _ _; go_simp
  try dsimp only [Act.put]
  refine wpAnyH_take (i := 2) (v := (.slice ab 8 cb)) rfl (by kernel_rfl) (by kernel_rfl) (by kernel_rfl) (fun _ _ _ h => h) (Or.inl ⟨by rfl, ?_⟩) hHeld ?_
  · intro _ _; go_simp
  try dsimp only [Act.put]
  refine wpAnyH_take (i := 3) (v := (.slice (some ⟨kb, ko + 8, none⟩) 8 (ck - 8))) rfl (by kernel_rfl) (by kernel_rfl) (by kernel_rfl) (fun _ _ _ h => h) (Or.inl ⟨by rfl, ?_⟩) hHeld ?_
  · intro _ _; go_simp
  try dsimp only [Act.put]
  refine wpAnyH_take (i := 6) (v := (.slice (some ⟨kb, ko + 8, none⟩) 8 (ck - 8))) rfl (by kernel_rfl) (by kernel_rfl) (by kernel_rfl) (fun _ _ _ h => h) (Or.inl ⟨by rfl, ?_⟩) hHeld ?_
  · intro _ _; go_simp
  try dsimp only [Act.put]
  refine wpAnyH_ready (rs := [4]) (by kernel_rfl) (by simp) ?_
  refine AllReadyH.cons rfl (fun K hK => ?_) (AllReadyH.nil)
  go_simp
  refine (HX1.out _ _ (rowR.out b_0) (rowB.out b_0)).mono ?_
  rintro e w_1 ⟨rfl, own_1, bel_1⟩
  have b_1 := below_step b_0 bel_1
  have rowx_1 : RowAt w_1 (some ⟨V.heap.size, 0, none⟩) x := (by obtain ⟨g', c', -, hv', row'⟩ := own_at own_1 hxl (by omega); cases hv'; exact row')
  go_wp2_with fail
  refine hK.out _ _ (keep.out b_1) (fun hHeld => ?_)
  clear hK K
  try dsimp only [Act.put]
  refine wpAnyH_ready (rs := [5]) (by kernel_rfl) (by simp) ?_
  refine AllReadyH.cons rfl (fun K hK => ?_) (AllReadyH.nil)
  go_simp
  refine (HD.out _ _ _ (rowA.out b_1) rowx_1).mono ?_
  rintro e w_2 ⟨v_2, rfl, own_2, bel_2⟩
  have x_2 := rowx_1.below bel_2
  have b_2 := below_step b_1 bel_2
  obtain ⟨gy, cy, -, hvy, rowy_2⟩ := own_at own_2 hyl (by omega)
  subst hvy
  go_wp2_with fail
  refine hK.out _ _ (keep.out b_2) (fun hHeld => ?_)
  clear hK K
  try dsimp only [Act.put]
  refine wpAnyH_ready (rs := [7]) (by kernel_rfl) (by simp) ?_
  refine AllReadyH.cons rfl (fun K hK => ?_) (AllReadyH.nil)
  go_simp
  refine (HX2.out _ _ _ _ rowy_2 (rowB.out b_2)).mono ?_
  rintro e w_3 ⟨rfl, own_3, bel_3⟩
  have x_3 := x_2.below bel_3
  have y_3 := rowy_2.below bel_3
  have b_3 := below_step b_2 bel_3
  have bq := b_3
  go_wp2_with fail
  refine hK.out _ _ (keep.out b_3) (fun hHeld => ?_)
  clear hK K
  try dsimp only [Act.put]
  refine wpAnyH_ready (rs := [8]) (by kernel_rfl) (by simp) ?_
  refine AllReadyH.cons rfl (fun K hK => ?_) (AllReadyH.nil)
  go_simp
  refine hK.out _ _ (keep.out b_3) (fun hHeld => ?_)
  clear hK K
  try dsimp only [Act.put]
  refine wpAnyH_done (by kernel_rfl) ?_ _
  go_wp2_with fail
  go_ret
  exact ⟨_, rfl, own_3.mono (Nat.le_trans hwV b_2.size), bV.trans (bq.mono hwV)⟩
end Go.Proofs.YtoajfbkblpaejaaDoor

/-
  The walk over the counter's bits: numbers and bytes.
-/
namespace Go.Proofs.YtoajfbkblpaejaaDoor
open Go.RowKit

theorem low_nat64 (q k : Nat) (hk : k < 63) (hn : 2 ^ (k + 1) * q + 2 ^ k < 2 ^ 64) : (2 ^ (k + 1) * q + 2 ^ k) &&& (2 ^ 64 - (2 ^ (k + 1) * q + 2 ^ k)) = 2 ^ k := by
  have hp : 0 < 2 ^ k := Nat.pow_pos (by omega)
  have hlt : 2 ^ k < 2 ^ (k + 1) := Nat.pow_lt_pow_right (by omega) (by omega)
  have hlt2 : 2 ^ k - 1 < 2 ^ (k + 1) := by omega
  have e : 2 ^ 64 - (2 ^ (k + 1) * q + 2 ^ k) = 2 ^ 64 - ((2 ^ (k + 1) * q + (2 ^ k - 1)) + 1) := by
    rw [Nat.add_assoc, Nat.sub_add_cancel hp]
  rw [e]
  apply Nat.eq_of_testBit_eq
  intro i
  rw [Nat.testBit_and, Nat.testBit_two_pow_sub_succ (by omega), Nat.testBit_two_pow_mul_add _ hlt, Nat.testBit_two_pow_mul_add _ hlt2, Nat.testBit_two_pow]
  by_cases h : i < k + 1
  · rw [if_pos h, if_pos h, Nat.testBit_two_pow_sub_one]
    by_cases e2 : k = i
    · subst e2; simp; omega
    · simp [e2]
  · rw [if_neg h, if_neg h]
    have : ¬ k = i := by omega
    simp [this]
    intro h1 _
    exact h1
theorem and_neg (n q k : Nat) (hk : k < 30) (hn : n = 2 ^ (k + 1) * q + 2 ^ k) (hb : n < 4294967296) : bits BinOp.and IntKind.i64 (n : Int) (-(n : Int)) = ((2 ^ k : Nat) : Int) := by
  show IntKind.i64.wrap ((BitVec.ofInt 64 (n : Int) &&& BitVec.ofInt 64 (-(n : Int))).toNat : Int) = _
  have hp : 0 < 2 ^ k := Nat.pow_pos (by omega)
  have h0 : 0 < n := by omega
  have h1 : (BitVec.ofInt 64 (-(n : Int))).toNat = 2 ^ 64 - n := by
    rw [BitVec.toNat_ofInt]
    omega
  rw [BitVec.toNat_and, ofInt_u64 n (by omega), h1, hn, low_nat64 q k (by omega) (by omega), IntKind.wrap_i64]
  have : 2 ^ k < 2 ^ 30 := Nat.pow_lt_pow_right (by omega) hk
  omega

theorem block_word (a b c d e f g h : UInt8) : blockN (wordN [a, b, c, d, e, f, g, h]) = [a, b, c, d, e, f, g, h] := by
  have ha := a.toNat_lt; have hb := b.toNat_lt; have hc := c.toNat_lt; have hd := d.toNat_lt
  have he := e.toNat_lt; have hf := f.toNat_lt; have hg := g.toNat_lt; have hh := h.toNat_lt
  have u : ∀ (x : UInt8) (n : Nat), n % 256 = x.toNat → UInt8.ofNat n = x := by
    intro x n hn
    apply UInt8.toNat.inj
    rw [UInt8.toNat_ofNat', hn]
  simp only [blockN, wordN, List.foldl_cons, List.foldl_nil, List.range, List.range.loop, List.map_cons, List.map_nil]
  simp only [List.cons.injEq, and_true]
  refine ⟨u _ _ ?_, u _ _ ?_, u _ _ ?_, u _ _ ?_, u _ _ ?_, u _ _ ?_, u _ _ ?_, u _ _ ?_⟩ <;> simp <;> omega

/-- The eight bytes of a step. -/
def rBytes (s2 s3 s4 s5 s6 s7 : UInt8) (n : Nat) : List UInt8 := [s2, s3, s4, s5, s6, UInt8.ofNat (s7.toNat / 32 * 32 + n / 65536), UInt8.ofNat (n / 256), UInt8.ofNat n]
theorem rBytes_block (s2 s3 s4 s5 s6 s7 s8 s9 : UInt8) (n : Nat) (hn : n < 2097152) : blockN (wordN [s2, s3, s4, s5, s6, s7, s8, s9] / 2097152 * 2097152 + n) = rBytes s2 s3 s4 s5 s6 s7 n := by
  have h7 := s7.toNat_lt; have h8 := s8.toNat_lt; have h9 := s9.toNat_lt
  have e : wordN [s2, s3, s4, s5, s6, s7, s8, s9] / 2097152 * 2097152 + n = wordN (rBytes s2 s3 s4 s5 s6 s7 n) := by
    unfold rBytes
    simp only [wordN, List.foldl_cons, List.foldl_nil, UInt8.toNat_ofNat']
    omega
  rw [e]
  exact block_word _ _ _ _ _ _ _ _
theorem count_word (s0 s1 s2 s3 s4 s5 s6 s7 s8 s9 : UInt8) : wordN [s2, s3, s4, s5, s6, s7, s8, s9] % 2097152 = countN [s0, s1, s2, s3, s4, s5, s6, s7, s8, s9] := by
  have h7 := s7.toNat_lt; have h8 := s8.toNat_lt; have h9 := s9.toNat_lt
  simp only [wordN, countN, List.foldl_cons, List.foldl_nil, List.getD_cons_succ, List.getD_cons_zero]
  omega
theorem or_seven (x n : Nat) (hx : x < 256) (hn : n < 32) : bits BinOp.or IntKind.u8 ((x / 32 * 32 : Nat) : Int) (n : Int) = ((x / 32 * 32 + n : Nat) : Int) := by
  rw [u8_or_nat _ _ (by omega) (by omega), nat_join 5 (x / 32 * 32) n (by omega) (by omega)]
theorem Own.at {w : World} {base n : Nat} {v : Value} {l : List UInt8} (h : Own w base v l) (hl : l.length = n) (h0 : 0 < n) : ∃ g cap, n ≤ cap ∧ v = .slice (some ⟨g, 0, none⟩) n cap ∧ RowAt w (some ⟨g, 0, none⟩) l := by
  subst hl
  obtain ⟨ao, cap, rfl, row, -⟩ := h.shape
  obtain ⟨t, h⟩ := h
  rcases h.2 with ⟨-, hn⟩ | ⟨g, cap', cur, hv, hb, hh, hn, hm, hs, ht⟩
  · omega
  · simp only [Value.slice.injEq, true_and] at hv
    obtain ⟨rfl, rfl⟩ := hv
    exact ⟨g, cap, hn, rfl, row⟩
end Go.Proofs.YtoajfbkblpaejaaDoor

/-
  spec.l3Walk: one step.
-/
namespace Go.Proofs.YtoajfbkblpaejaaDoor
open Go.RowKit

set_option maxRecDepth 100000 in
set_option maxHeartbeats 8000000 in
theorem walkS_step (bdk kk : List UInt8) (s0 s1 s2 s3 s4 s5 s6 s7 s8 s9 : UInt8) (hkk : kk.length = 16) (n q k : Nat) (hn : n = 2 ^ (k + 1) * q + 2 ^ k) (hk : k < 21) (hb : n < 2097152) (kb ko ck sb so cs : Nat) (w : World) (rk : RowAt w (some ⟨kb, ko, none⟩) bdk) (rs : RowAt w (some ⟨sb, so, none⟩) [s0, s1, s2, s3, s4, s5, s6, s7, s8, s9])
    (HREC : ∀ wx, RowAt wx (some ⟨kb, ko, none⟩) bdk → RowAt wx (some ⟨sb, so, none⟩) [s0, s1, s2, s3, s4, s5, s6, s7, s8, s9] → Calls Tryd.prog 48 #[.slice (some ⟨kb, ko, none⟩) 16 ck, .slice (some ⟨sb, so, none⟩) 10 cs, .int .i64 ((n - 2 ^ k : Nat) : Int)] wx fun e w' => ∃ v, e = .returned v ∧ Own w' wx.heap.size v kk ∧ Below wx.heap.size wx w') :
    Calls Tryd.prog 48 #[.slice (some ⟨kb, ko, none⟩) 16 ck, .slice (some ⟨sb, so, none⟩) 10 cs, .int .i64 (n : Int)] w fun e w' => ∃ v, e = .returned v ∧ Own w' w.heap.size v (stepN kk (rBytes s2 s3 s4 s5 s6 s7 n)) ∧ Below w.heap.size w w' := by
  obtain ⟨i0, hi, hz0, hz1, hz2⟩ := info_parts Tryd.info5
  have hp0 : 0 < 2 ^ k := Nat.pow_pos (by omega)
  have hple : 2 ^ k ≤ n := by omega
  have hand := and_neg n q k (by omega) hn (by omega)
  have hn0 : ¬ ((n : Int) = 0) := by omega
  have hneg : IntKind.i64.wrap (-(n : Int)) = -(n : Int) := by rw [IntKind.wrap_i64]; omega
  have hsub : IntKind.i64.wrap ((n : Int) - ((2 ^ k : Nat) : Int)) = ((n - 2 ^ k : Nat) : Int) := by rw [IntKind.wrap_i64]; omega
  obtain ⟨p, hp⟩ : ∃ p, p = 2 ^ k := ⟨_, rfl⟩
  rw [← hp] at hand hsub HREC
  obtain ⟨m, hm⟩ : ∃ m, m = n - p := ⟨_, rfl⟩
  rw [← hm] at hsub HREC
  have HR := hide HREC
  have HS := hide rs
  have HK := hide rk
  have HC := hide (fun (wx : World) (h : RowAt wx (some ⟨sb, so, none⟩) [s0, s1, s2, s3, s4, s5, s6, s7, s8, s9]) => count_any [s0, s1, s2, s3, s4, s5, s6, s7, s8, s9] (some ⟨sb, so, none⟩) cs wx rfl h)
  obtain ⟨cn, hcn⟩ : ∃ c, c = countN [s0, s1, s2, s3, s4, s5, s6, s7, s8, s9] := ⟨_, rfl⟩
  rw [← hcn] at HC
  obtain ⟨ksn, hksn⟩ : ∃ l, l = [s0, s1, s2, s3, s4, s5, s6, s7, s8, s9] := ⟨_, rfl⟩
  have HCR : Hid ((countR ksn).map byte = [byte s0, byte s1, byte s2, byte s3, byte s4, byte s5, byte s6, .int .u8 ((s7.toNat / 32 * 32 : Nat) : Int), .int .u8 0, .int .u8 0]) := by
    rw [hksn, ← byte_clr]; rfl
  rw [← hksn] at HC HR HS
  obtain ⟨rl, hrl⟩ : ∃ l, l = (countR ksn).map byte := ⟨_, rfl⟩
  rw [← hrl] at HCR HC
  clear HREC hp hm hcn hksn hrl rs rk hn hp0 hple
  have hrBl : (rBytes s2 s3 s4 s5 s6 s7 n).length = 8 := rfl
  obtain ⟨rB, hrB⟩ : ∃ r, r = rBytes s2 s3 s4 s5 s6 s7 n := ⟨_, rfl⟩
  have HRB := hide hrB
  rw [← hrB] at hrBl ⊢
  clear hrB
  have hXl := xorS_length kk hkk
  have HX : Hid (∀ (g cp : Nat) (g1 c1 : Nat) (wx : World), RowAt wx (some ⟨g1, 0, none⟩) kk → RowAt wx (some ⟨g, 0, none⟩) serialL → Calls Tryd.prog 52 #[.slice (some ⟨g1, 0, none⟩) 16 c1, .slice (some ⟨g, 0, none⟩) 16 cp] wx fun e w' => e = .returned (.slice (some ⟨wx.heap.size, 0, none⟩) 16 16) ∧ OwnB w' wx.heap.size (.slice (some ⟨wx.heap.size, 0, none⟩) 16 16) (xorL kk serialL) ∧ Below wx.heap.size wx w') := by
    intro g cp g1 c1 wx h1 h2
    have := xor_any (some ⟨g1, 0, none⟩) (some ⟨g, 0, none⟩) c1 cp kk serialL wx (by omega) (by rw [hkk]; rfl) h1 h2
    rw [hkk, serialL_length] at this
    exact this
  have HH1 := hide (fun (R g : Nat) (wx : World) (h1 : RowAt wx (some ⟨g, 0, none⟩) (xorL kk serialL)) (h2 : RowAt wx (some ⟨R, 2, none⟩) rB) => halfS_any (xorL kk serialL) rB g 0 16 8 (some ⟨R, 2, none⟩) wx hXl (by omega) hrBl h1 h2)
  have HH2 := hide (fun (R g1 c1 : Nat) (hc1 : 16 ≤ c1) (wx : World) (h1 : RowAt wx (some ⟨g1, 0, none⟩) kk) (h2 : RowAt wx (some ⟨R, 2, none⟩) rB) => halfS_any kk rB g1 0 c1 8 (some ⟨R, 2, none⟩) wx hkk hc1 hrBl h1 h2)
  have hAl := dhalfN_length (xorL kk serialL) rB hXl
  have hBl := dhalfN_length kk rB hkk
  show Calls Tryd.prog 48 #[.slice (some ⟨kb, ko, none⟩) 16 ck, .slice (some ⟨sb, so, none⟩) 10 cs, .int .i64 (n : Int)] w fun e w' => ∃ v, e = .returned v ∧ Own w' w.heap.size v (dhalfN (xorL kk serialL) rB ++ dhalfN kk rB) ∧ Below w.heap.size w w'
  obtain ⟨A, hA⟩ : ∃ A, A = dhalfN (xorL kk serialL) rB := ⟨_, rfl⟩
  obtain ⟨B, hB⟩ : ∃ B, B = dhalfN kk rB := ⟨_, rfl⟩
  rw [← hA] at HH1 hAl ⊢
  rw [← hB] at HH2 hBl ⊢
  obtain ⟨X, hX⟩ : ∃ X, X = xorL kk serialL := ⟨_, rfl⟩
  rw [← hX] at HX HH1 hXl
  clear hA hB hX
  go_enter Tryd.func48, Tryd.ntmps48
  go_wp2_with (first
    | (go_at_call 48; refine (HR.out _ HK.out HS.out).mono ?_; rintro e1 w1 ⟨v1, rfl, own1, bel1⟩; obtain ⟨g1, c1, hc1, hv1, row1⟩ := own1.at hkk (by omega); subst hv1)
    | (go_at_call 47; refine (HC.out _ (HS.out.below bel1)).mono ?_; rintro e2 w2 ⟨rfl, kR, bel2⟩; have kR' := kR; rw [HCR.out] at kR'; have d7 : w2.cell? ⟨w1.heap.size, 7, none⟩ = some (.int .u8 ((s7.toNat / 32 * 32 : Nat) : Int)) := (kR'.cell 7 (by simp)); have d8 : w2.cell? ⟨w1.heap.size, 8, none⟩ = some (.int .u8 0) := (kR'.cell 8 (by simp)); have d9 : w2.cell? ⟨w1.heap.size, 9, none⟩ = some (.int .u8 0) := (kR'.cell 9 (by simp)); have f7 := kR.free 7; have f8 := kR.free 8; have f9 := kR.free 9))
  have e7 : Value.int IntKind.u8 (bits BinOp.or IntKind.u8 ((s7.toNat : Int) / 32 * 32) ((n : Int) / 65536)) = byte (UInt8.ofNat (s7.toNat / 32 * 32 + n / 65536)) := by
    have h := or_seven s7.toNat (n / 65536) s7.toNat_lt (by omega)
    have h7 := s7.toNat_lt
    unfold byte
    rw [UInt8.toNat_ofNat', show (s7.toNat : Int) / 32 * 32 = ((s7.toNat / 32 * 32 : Nat) : Int) from by omega, show (n : Int) / 65536 = ((n / 65536 : Nat) : Int) from by omega, h]
    congr 2
    omega
  have e8 : Value.int IntKind.u8 ((n : Int) / 256 % 256) = byte (UInt8.ofNat (n / 256)) := by unfold byte; rw [UInt8.toNat_ofNat']; congr 1
  have e9 : Value.int IntKind.u8 ((n : Int) % 256) = byte (UInt8.ofNat n) := by unfold byte; rw [UInt8.toNat_ofNat']; congr 1
  rw [e7, e8, e9]
  have kW := ((kR'.set 7 (byte (UInt8.ofNat (s7.toNat / 32 * 32 + n / 65536)))).set 8 (byte (UInt8.ofNat (n / 256)))).set 9 (byte (UInt8.ofNat n))
  have hls : ((([byte s0, byte s1, byte s2, byte s3, byte s4, byte s5, byte s6, Value.int .u8 ((s7.toNat / 32 * 32 : Nat) : Int), Value.int .u8 0, Value.int .u8 0].set 7 (byte (UInt8.ofNat (s7.toNat / 32 * 32 + n / 65536)))).set 8 (byte (UInt8.ofNat (n / 256)))).set 9 (byte (UInt8.ofNat n))) = ([s0, s1] ++ rBytes s2 s3 s4 s5 s6 s7 n).map byte := rfl
  rw [hls] at kW
  have be := (((below_step bel1 bel2).setCell (p := ⟨w1.heap.size, 7, none⟩) bel1.size (byte (UInt8.ofNat (s7.toNat / 32 * 32 + n / 65536)))).setCell (p := ⟨w1.heap.size, 8, none⟩) bel1.size (byte (UInt8.ofNat (n / 256)))).setCell (p := ⟨w1.heap.size, 9, none⟩) bel1.size (byte (UInt8.ofNat n))
  have be1 := ((bel2.setCell (p := ⟨w1.heap.size, 7, none⟩) (Nat.le_refl _) (byte (UInt8.ofNat (s7.toNat / 32 * 32 + n / 65536)))).setCell (p := ⟨w1.heap.size, 8, none⟩) (Nat.le_refl _) (byte (UInt8.ofNat (n / 256)))).setCell (p := ⟨w1.heap.size, 9, none⟩) (Nat.le_refl _) (byte (UInt8.ofNat n))
  have rowKW := row1.below be1
  obtain ⟨W, hW⟩ : ∃ W, W = ((w2.setCell ⟨w1.heap.size, 7, none⟩ (byte (UInt8.ofNat (s7.toNat / 32 * 32 + n / 65536)))).setCell ⟨w1.heap.size, 8, none⟩ (byte (UInt8.ofNat (n / 256)))).setCell ⟨w1.heap.size, 9, none⟩ (byte (UInt8.ofNat n)) := ⟨_, rfl⟩
  rw [← hW] at kW be rowKW ⊢
  have kW2 : Blk W w1.heap.size 5 (([s0, s1] ++ rB).map byte) := by rw [HRB.out]; exact kW
  obtain ⟨R, hR⟩ : ∃ R, R = w1.heap.size := ⟨_, rfl⟩
  rw [← hR] at kW2 ⊢
  obtain ⟨V, hV⟩ : ∃ V, V = W.drew := ⟨_, rfl⟩
  have kV : Blk V R 5 (([s0, s1] ++ rB).map byte) := by rw [hV]; exact kW2.drew1
  have rowKV : RowAt V (some ⟨g1, 0, none⟩) kk := by rw [hV]; exact rowKW.drew1
  have bV : Below w.heap.size w V := by rw [hV]; exact be.drew
  have hwV := bV.size
  replace HX := hide (fun g cp => HX.out g cp g1 c1)
  replace HH1 := hide (HH1.out R)
  replace HH2 := hide (HH2.out R g1 c1 hc1)
  clear hR hW kW kW2 be be1 rowKW hls e7 e8 e9 d7 d8 d9 f7 f8 f9 kR kR' bel1 bel2 own1 row1 HC HR HS HK HCR HRB hand hneg hsub
  have b_0 : Below V.heap.size V V := Below.refl _ _
  have rowK : Hid (∀ {x}, Below V.heap.size V x → RowAt x (some ⟨g1, 0, none⟩) kk) := fun h => rowKV.below h
  have rowR : Hid (∀ {x}, Below V.heap.size V x → RowAt x (some ⟨R, 2, none⟩) rB) := fun {x} h => by
    have hr : RowAt x (some ⟨R, 0, none⟩) ([s0, s1] ++ rB) := rowAt_block (kV.below h kV.lt)
    exact hr.drop 2
  have keep : Hid (∀ {B x}, Below B V x → True) := fun _ => trivial
  refine wp_region_held_drew (S := fun _ => True) (by kernel_rfl) trivial (fun hHeld => ?_)
  rw [← hV]
  clear hV
  refine wpAnyH_take (i := 0) (v := (.slice (some ⟨g1, 0, none⟩) 16 c1)) rfl (by kernel_rfl) (by kernel_rfl) (by kernel_rfl) (fun _ _ _ h => h) (Or.inl ⟨by rfl, ?_⟩) hHeld ?_
  · intro _ _; go_simp
  try dsimp only [Act.put]
  refine wpAnyH_take (i := 3) (v := (.slice (some ⟨R, 0, none⟩) 10 10)) rfl (by kernel_rfl) (by kernel_rfl) (by kernel_rfl) (fun _ _ _ h => h) (Or.inl ⟨by rfl, ?_⟩) hHeld ?_
  · intro _ _; go_simp
  try dsimp only [Act.put]
  refine wpAnyH_take (i := 4) (v := (.slice (some ⟨R, 2, none⟩) 8 8)) rfl (by kernel_rfl) (by kernel_rfl) (by kernel_rfl) (fun _ _ _ h => h) (Or.inl ⟨by rfl, ?_⟩) hHeld ?_
  · intro _ _; go_simp
  try dsimp only [Act.put]
  refine wpAnyH_take (i := 6) (v := (.slice (some ⟨g1, 0, none⟩) 16 c1)) rfl (by kernel_rfl) (by kernel_rfl) (by kernel_rfl) (fun _ _ _ h => h) (Or.inl ⟨by rfl, ?_⟩) hHeld ?_
  · intro _ _; go_simp
  try dsimp only [Act.put]
  refine wpAnyH_take (i := 7) (v := (.slice (some ⟨R, 0, none⟩) 10 10)) rfl (by kernel_rfl) (by kernel_rfl) (by kernel_rfl) (fun _ _ _ h => h) (Or.inl ⟨by rfl, ?_⟩) hHeld ?_
  · intro _ _; go_simp
  try dsimp only [Act.put]
  refine wpAnyH_take (i := 8) (v := (.slice (some ⟨R, 2, none⟩) 8 8)) rfl (by kernel_rfl) (by kernel_rfl) (by kernel_rfl) (fun _ _ _ h => h) (Or.inl ⟨by rfl, ?_⟩) hHeld ?_
  · intro _ _; go_simp
  try dsimp only [Act.put]
  refine wpAnyH_ready (rs := [1]) (by kernel_rfl) (by simp) ?_
  refine AllReadyH.cons rfl (fun K hK => ?_) (AllReadyH.nil)
  go_simp
  refine (c0_any _).mono ?_
  rintro e w_1 ⟨v_1, rfl, own_1, bel_1⟩
  have b_1 := below_step b_0 bel_1
  obtain ⟨gc, cc, -, hvc, rowc_1⟩ := own_at own_1 serialL_length (by omega)
  subst hvc
  go_wp2_with fail
  refine hK.out _ _ (keep.out b_1) (fun hHeld => ?_)
  clear hK K
  try dsimp only [Act.put]
  refine wpAnyH_ready (rs := [2]) (by kernel_rfl) (by simp) ?_
  refine AllReadyH.cons rfl (fun K hK => ?_) (AllReadyH.nil)
  go_simp
  refine (HX.out gc cc _ (rowK.out b_1) rowc_1).mono ?_
  rintro e w_2 ⟨rfl, own_2, bel_2⟩
  have c0_2 := rowc_1.below bel_2
  have b_2 := below_step b_1 bel_2
  have rowx_2 : RowAt w_2 (some ⟨w_1.heap.size, 0, none⟩) X := (by obtain ⟨g', c', -, hv', row'⟩ := own_at own_2 hXl (by omega); cases hv'; exact row')
  go_wp2_with fail
  refine hK.out _ _ (keep.out b_2) (fun hHeld => ?_)
  clear hK K
  try dsimp only [Act.put]
  refine wpAnyH_ready (rs := [5]) (by kernel_rfl) (by simp) ?_
  refine AllReadyH.cons rfl (fun K hK => ?_) (AllReadyH.nil)
  go_simp
  refine (HH1.out _ _ rowx_2 (rowR.out b_2)).mono ?_
  rintro e w_3 ⟨v_3, rfl, own_3, bel_3⟩
  have c0_3 := c0_2.below bel_3
  have x_3 := rowx_2.below bel_3
  have b_3 := below_step b_2 bel_3
  go_wp2_with fail
  refine hK.out _ _ (keep.out b_3) (fun hHeld => ?_)
  clear hK K
  try dsimp only [Act.put]
  refine wpAnyH_ready (rs := [9]) (by kernel_rfl) (by simp) ?_
  refine AllReadyH.cons rfl (fun K hK => ?_) (AllReadyH.nil)
  go_simp
  refine (HH2.out _ (rowK.out b_3) (rowR.out b_3)).mono ?_
  rintro e w_4 ⟨v_4, rfl, own_4, bel_4⟩
  have c0_4 := c0_3.below bel_4
  have x_4 := x_3.below bel_4
  have A_4 := own_3.below bel_4
  have b_4 := below_step b_3 bel_4
  obtain ⟨gb, cb, hcb, hvb, rowb⟩ := own_at own_4 hBl (by omega)
  subst hvb
  go_wp2_with fail
  refine hK.out _ _ (keep.out b_4) (fun hHeld => ?_)
  clear hK K
  try dsimp only [Act.put]
  refine wpAnyH_ready (rs := [10]) (by kernel_rfl) (by simp) ?_
  refine AllReadyH.cons rfl (fun K hK => ?_) (AllReadyH.nil)
  rw [if_pos (by rfl)]
  have oA := A_4.mono (Nat.le_trans hwV b_2.size)
  refine wp_append_to (some 58) rfl _ _ 22 rfl w.heap.size 5 i0 (.int .u8 0) 1 1 Tryd.underlying22 hi hz0 hz1 hz2 rfl (by decide) _ 8 (A.map byte) rfl (by have h := oA; unfold OwnB at h; rw [hAl] at h; exact h) ⟨gb, 0, none⟩ 8 cb (B.map byte) rfl (by rw [List.length_map, hBl]) (row_news rowb) (all_one B) (by unfold maxLen; omega) (by omega) (Nat.le_trans hwV b_4.size) ?_
  rintro v_5 w_5 own_5 gr_5 -
  have bq : Below w.heap.size V w_5 := (b_4.mono hwV).grown gr_5 (Nat.le_trans hwV b_4.size) (fun j hj => (oA.lt j hj).1)
  refine hK.out _ _ (keep.out bq) (fun hHeld => ?_)
  clear hK K
  try dsimp only [Act.put]
  refine wpAnyH_ready (rs := [11]) (by kernel_rfl) (by simp) ?_
  refine AllReadyH.cons rfl (fun K hK => ?_) (AllReadyH.nil)
  go_simp
  refine hK.out _ _ (keep.out bq) (fun hHeld => ?_)
  clear hK K
  try dsimp only [Act.put]
  refine wpAnyH_done (by kernel_rfl) ?_ _
  go_wp2_with fail
  go_ret
  refine ⟨_, rfl, ?_, bV.trans bq⟩
  have h := own_5
  refine ⟨5, ?_⟩
  rw [List.map_append, List.length_append, hAl, hBl]
  exact h
end Go.Proofs.YtoajfbkblpaejaaDoor
