/-
  Texts laid together: KeyImpl, KeyEq, VariantImpl, VariantSpec.
-/
import Derived.Test.YtoajfbkblpaejaaDoorGmI
import Derived.WalkMore
import Derived.Test.YtoajfbkblpaejaaDoorGrG
/-
  impl.DukptKey.
-/
namespace Go.Proofs.YtoajfbkblpaejaaDoor
open Go.RowKit

/-- The serial number's last eight bytes as a word, its counter and the rest. -/
def serW (ksn : List UInt8) : Nat := wordN (ksn.drop 2)
def keyN16 (bdk ksn : List UInt8) : List UInt8 := walkK (dinitL bdk ksn) (serW ksn / 2097152 * 2097152) (serW ksn % 2097152) 21
theorem keyN16_length (bdk ksn : List UInt8) : (keyN16 bdk ksn).length = 16 := walkK_length _ (dinitL_length _ _) _ _ _
theorem and_low21 (c : Nat) (hc : c < 18446744073709551616) : bits BinOp.and IntKind.u64 (c : Int) 2097151 = ((c % 2097152 : Nat) : Int) := by
  have h := u64_and_nat c 2097151 hc (by omega)
  rw [show (2097151 : Nat) = 2 ^ 21 - 1 from rfl, Nat.and_two_pow_sub_one_eq_mod] at h
  exact h
theorem andNot_low21 (c : Nat) (hc : c < 18446744073709551616) : bits BinOp.andNot IntKind.u64 (c : Int) 2097151 = ((c / 2097152 * 2097152 : Nat) : Int) := by
  have h := u64_andNot_nat c 2097151 hc (by omega)
  rw [show (18446744073709551615 - 2097151 : Nat) = 18446744073707454464 from rfl] at h
  rw [nat_midmask 64 21 c (by decide), Nat.mod_eq_of_lt hc] at h
  exact h

end Go.Proofs.YtoajfbkblpaejaaDoor

/-
  spec.DukptKey; impl.DukptKey and spec.DukptKey at every argument.
-/
namespace Go.Proofs.YtoajfbkblpaejaaDoor
open Go.RowKit

set_option maxHeartbeats 1000000 in
theorem walkS_zero (bdk ksn : List UInt8) (kb ko ck sb so cs : Nat) (w : World) (hk : bdk.length = 16) (hs : ksn.length = 10) (hck : 16 ≤ ck) (rk : RowAt w (some ⟨kb, ko, none⟩) bdk) (rs : RowAt w (some ⟨sb, so, none⟩) ksn) :
    Calls Tryd.prog 48 #[.slice (some ⟨kb, ko, none⟩) 16 ck, .slice (some ⟨sb, so, none⟩) 10 cs, .int .i64 0] w fun e w' => ∃ v, e = .returned v ∧ Own w' w.heap.size v (dinitL bdk ksn) ∧ Below w.heap.size w w' := by
  have HI := hide (dinitS_ok bdk ksn kb ko ck cs (some ⟨sb, so, none⟩) w hk hs hck rk rs)
  go_enter Tryd.func48, Tryd.ntmps48
  go_wp2_with (first | (go_at_call 63; refine HI.out.mono ?_; rintro e1 w1 ⟨v1, rfl, own1, bel1⟩))
  go_ret
  exact ⟨_, rfl, own1, bel1⟩

/-- The counter's first j bits. -/
def topN (c j : Nat) : Nat := c / 2 ^ (21 - j) * 2 ^ (21 - j)
theorem topN_le (c j : Nat) : topN c j ≤ c := Nat.div_mul_le_self _ _
theorem topN_all (c : Nat) : topN c 21 = c := by unfold topN; simp
theorem topN_zero (c : Nat) (h : c < 2097152) : topN c 0 = 0 := by unfold topN; rw [Nat.div_eq_of_lt (by simpa using h), Nat.zero_mul]
theorem topN_same (c j : Nat) (hj : j < 21) (hb : ¬ c / 2 ^ (20 - j) % 2 = 1) : topN c (j + 1) = topN c j := by
  unfold topN
  rw [show 21 - (j + 1) = 20 - j from by omega, show 21 - j = (20 - j) + 1 from by omega, Nat.pow_succ, ← Nat.div_div_eq_div_mul]
  obtain ⟨p, hp⟩ : ∃ p, p = 2 ^ (20 - j) := ⟨_, rfl⟩
  rw [← hp] at hb ⊢
  obtain ⟨q, hq⟩ : ∃ q, q = c / p := ⟨_, rfl⟩
  rw [← hq] at hb ⊢
  have e : q = q / 2 * 2 := by omega
  calc q * p = (q / 2 * 2) * p := by rw [← e]
    _ = q / 2 * (p * 2) := by rw [Nat.mul_assoc, Nat.mul_comm 2 p]
theorem topN_next (c j : Nat) (hj : j < 21) (hb : c / 2 ^ (20 - j) % 2 = 1) : topN c (j + 1) = 2 ^ (20 - j + 1) * (c / 2 ^ (21 - j)) + 2 ^ (20 - j) ∧ topN c (j + 1) - 2 ^ (20 - j) = topN c j := by
  have h : topN c (j + 1) = 2 ^ (20 - j + 1) * (c / 2 ^ (21 - j)) + 2 ^ (20 - j) := by
    unfold topN
    rw [show 21 - (j + 1) = 20 - j from by omega, show 21 - j = (20 - j) + 1 from by omega, Nat.pow_succ, ← Nat.div_div_eq_div_mul]
    obtain ⟨p, hp⟩ : ∃ p, p = 2 ^ (20 - j) := ⟨_, rfl⟩
    rw [← hp] at hb ⊢
    obtain ⟨q, hq⟩ : ∃ q, q = c / p := ⟨_, rfl⟩
    rw [← hq] at hb ⊢
    have e : q = q / 2 * 2 + 1 := by omega
    calc q * p = (q / 2 * 2 + 1) * p := by rw [← e]
      _ = p * 2 * (q / 2) + p := by rw [Nat.add_mul, Nat.one_mul, Nat.mul_assoc, Nat.mul_comm 2 p, Nat.mul_comm (q / 2)]
  refine ⟨h, ?_⟩
  rw [h, Nat.add_sub_cancel]
  unfold topN
  rw [show 21 - j = (20 - j) + 1 from by omega, Nat.mul_comm]

theorem walkS_any (bdk : List UInt8) (s0 s1 s2 s3 s4 s5 s6 s7 s8 s9 : UInt8) (kb ko ck sb so cs : Nat) (hk : bdk.length = 16) (hck : 16 ≤ ck) (c base : Nat) (_hc : c = countN [s0, s1, s2, s3, s4, s5, s6, s7, s8, s9]) (hbase : base = wordN [s2, s3, s4, s5, s6, s7, s8, s9] / 2097152 * 2097152) (hcl : c < 2097152) (j : Nat) (hj : j ≤ 21) :
    ∀ w, RowAt w (some ⟨kb, ko, none⟩) bdk → RowAt w (some ⟨sb, so, none⟩) [s0, s1, s2, s3, s4, s5, s6, s7, s8, s9] → Calls Tryd.prog 48 #[.slice (some ⟨kb, ko, none⟩) 16 ck, .slice (some ⟨sb, so, none⟩) 10 cs, .int .i64 ((topN c j : Nat) : Int)] w fun e w' => ∃ v, e = .returned v ∧ Own w' w.heap.size v (walkK (dinitL bdk [s0, s1, s2, s3, s4, s5, s6, s7, s8, s9]) base c j) ∧ Below w.heap.size w w' := by
  induction j with
  | zero =>
    intro w rk rs
    rw [topN_zero c hcl]
    exact walkS_zero bdk _ kb ko ck sb so cs w hk rfl hck rk rs
  | succ j ih =>
    intro w rk rs
    have ihj := ih (by omega)
    have HK : walkK (dinitL bdk [s0, s1, s2, s3, s4, s5, s6, s7, s8, s9]) base c (j + 1) = if c / 2 ^ (20 - j) % 2 = 1 then stepN (walkK (dinitL bdk [s0, s1, s2, s3, s4, s5, s6, s7, s8, s9]) base c j) (blockN (walkR base c (j + 1))) else walkK (dinitL bdk [s0, s1, s2, s3, s4, s5, s6, s7, s8, s9]) base c j := rfl
    by_cases hb : c / 2 ^ (20 - j) % 2 = 1
    · rw [HK, if_pos hb]
      obtain ⟨h1, h2⟩ := topN_next c j (by omega) hb
      have hlt : topN c (j + 1) < 2097152 := Nat.lt_of_le_of_lt (topN_le c _) hcl
      have hw : walkR base c (j + 1) = base + topN c (j + 1) := walkR_spec base c hcl (j + 1) (by omega)
      rw [hw, hbase, rBytes_block s2 s3 s4 s5 s6 s7 s8 s9 _ hlt, ← hbase]
      refine walkS_step bdk _ s0 s1 s2 s3 s4 s5 s6 s7 s8 s9 (walkK_length _ (dinitL_length _ _) _ _ _) (topN c (j + 1)) (c / 2 ^ (21 - j)) (20 - j) h1 (by omega) hlt kb ko ck sb so cs w rk rs ?_
      intro wx hx1 hx2
      rw [h2]
      exact ihj wx hx1 hx2
    · rw [HK, if_neg hb, topN_same c j (by omega) hb]
      exact ihj w rk rs

set_option maxRecDepth 100000 in
set_option maxHeartbeats 1000000 in
theorem keyS_ok (bdk ksn : List UInt8) (kb ko ck sb so cs : Nat) (w : World) (hk : bdk.length = 16) (hs : ksn.length = 10) (hck : 16 ≤ ck) (rk : RowAt w (some ⟨kb, ko, none⟩) bdk) (rs : RowAt w (some ⟨sb, so, none⟩) ksn) :
    Calls Tryd.prog 30 #[.slice (some ⟨kb, ko, none⟩) 16 ck, .slice (some ⟨sb, so, none⟩) 10 cs] w fun e w' => ∃ v, e = .returned v ∧ Own w' w.heap.size v (keyN16 bdk ksn) ∧ Below w.heap.size w w' := by
  obtain ⟨s0, s1, s2, s3, s4, s5, s6, s7, s8, s9, hl⟩ := ten ksn hs
  have HC := hide (count_any ksn (some ⟨sb, so, none⟩) cs w hs rs)
  have hcw := count_word s0 s1 s2 s3 s4 s5 s6 s7 s8 s9
  have hcl : countN ksn < 2097152 := by rw [hl, ← hcw]; omega
  have HW : Hid (∀ wx, RowAt wx (some ⟨kb, ko, none⟩) bdk → RowAt wx (some ⟨sb, so, none⟩) ksn → Calls Tryd.prog 48 #[.slice (some ⟨kb, ko, none⟩) 16 ck, .slice (some ⟨sb, so, none⟩) 10 cs, .int .i64 ((countN ksn : Nat) : Int)] wx fun e w' => ∃ v, e = .returned v ∧ Own w' wx.heap.size v (keyN16 bdk ksn) ∧ Below wx.heap.size wx w') := by
    intro wx h1 h2
    have e : keyN16 bdk ksn = walkK (dinitL bdk ksn) (wordN [s2, s3, s4, s5, s6, s7, s8, s9] / 2097152 * 2097152) (countN ksn) 21 := by
      unfold keyN16 serW
      rw [hl, ← hcw]; rfl
    rw [e]
    have := walkS_any bdk s0 s1 s2 s3 s4 s5 s6 s7 s8 s9 kb ko ck sb so cs hk hck (countN ksn) _ (by rw [hl]) rfl hcl 21 (Nat.le_refl _) wx h1 (by rw [← hl]; exact h2)
    rw [topN_all, ← hl] at this
    exact this
  obtain ⟨N, hN⟩ : ∃ N, N = keyN16 bdk ksn := ⟨_, rfl⟩
  rw [← hN] at HW ⊢
  obtain ⟨cn, hcn⟩ : ∃ c, c = countN ksn := ⟨_, rfl⟩
  rw [← hcn] at HW HC
  have RK := hide rk
  have RS := hide rs
  clear hN hcn hcl hcw hl rk rs
  go_enter Tryd.func30, Tryd.ntmps30
  go_wp2_with (first
    | (go_at_call 47; refine HC.out.mono ?_; rintro e1 w1 ⟨rfl, kR, bel1⟩)
    | (go_at_call 48; refine (HW.out _ (RK.out.below bel1) (RS.out.below bel1)).mono ?_; rintro e2 w2 ⟨v2, rfl, own2, bel2⟩))
  go_ret
  have b2 := below_step bel1 bel2
  refine ⟨_, rfl, ?_, b2⟩
  obtain ⟨t, h⟩ := own2
  refine ⟨t, h.1, ?_⟩
  rcases h.2 with h | ⟨g, cap, cur, hv, hb, r⟩
  · exact .inl h
  · exact .inr ⟨g, cap, cur, hv, Nat.le_trans bel1.size hb, r⟩

set_option maxRecDepth 100000 in
set_option maxHeartbeats 1000000 in
theorem keyS_wrong (n m : Nat) (ak ab : Option Addr) (ck cb : Nat) (w : World) (_hn : n ≤ 1048576) (_hm : m ≤ 1048576) (h : ¬ (n = 16 ∧ m = 10)) :
    Calls Tryd.prog 30 #[.slice ak n ck, .slice ab m cb] w fun e w' => e = .returned (.slice none 0 0) ∧ w' = w := by
  by_cases h1 : n = 16
  · have h2 : ((m : Int) != 10) = true := by rw [bne_iff_ne]; omega
    subst h1
    go_enter Tryd.func30, Tryd.ntmps30
    go_wp2
    go_ret
    exact ⟨rfl, rfl⟩
  · have h2 : ((n : Int) != 16) = true := by rw [bne_iff_ne]; omega
    go_enter Tryd.func30, Tryd.ntmps30
    go_wp2
    go_ret
    exact ⟨rfl, rfl⟩
def keyL (bdk ksn : List UInt8) : List UInt8 := if bdk.length = 16 ∧ ksn.length = 10 then keyN16 bdk ksn else []
theorem keyL_le (bdk ksn : List UInt8) (_ : bdk.length ≤ 1048576) (_ : ksn.length ≤ 1048576) : (keyL bdk ksn).length ≤ 1048576 := by
  unfold keyL
  split
  · rw [keyN16_length]; omega
  · simp
theorem keyS_all (bdk ksn : List UInt8) (ak ab : Option Addr) (ck cb : Nat) (w : World) (hn : bdk.length ≤ 1048576) (hm : ksn.length ≤ 1048576) (hc : bdk.length ≤ ck) (_hd : ksn.length ≤ cb) (rk : RowAt w ak bdk) (rb : RowAt w ab ksn) :
    Calls Tryd.prog 30 #[.slice ak bdk.length ck, .slice ab ksn.length cb] w fun e w' =>
      ∃ v, e = .returned v ∧ Own w' w.heap.size v (keyL bdk ksn) ∧ Below w.heap.size w w' := by
  unfold keyL
  by_cases h : bdk.length = 16 ∧ ksn.length = 10
  · rw [if_pos h]
    obtain ⟨kb, ko, rfl, -⟩ := rk.at (k := 0) (by omega)
    obtain ⟨sb, so, rfl, -⟩ := rb.at (k := 0) (by omega)
    have := keyS_ok bdk ksn kb ko ck sb so cb w h.1 h.2 (by omega) rk rb
    rw [h.1, h.2]
    exact this
  · rw [if_neg h]
    refine (keyS_wrong _ _ ak ab ck cb w hn hm h).mono ?_
    rintro e w' ⟨rfl, rfl⟩
    exact ⟨_, rfl, ⟨5, World.ownsRow_nil _ _ _ _⟩, Below.refl _ _⟩
end Go.Proofs.YtoajfbkblpaejaaDoor

/-
  impl.Variant.
-/
namespace Go.Proofs.YtoajfbkblpaejaaDoor
open Go.RowKit

/-- The mask of a use. -/
def maskL (use : Int) : List UInt8 := if use = 1 then [0, 0, 0, 0, 0, 0, 0, 255] else [0, 0, 0, 0, 0, 0, 255, 0]
theorem maskL_length (use : Int) : (maskL use).length = 8 := by unfold maskL; split <;> rfl
/-- What Variant answers. -/
def variantL (key : List UInt8) (use : Int) : List UInt8 := if key.length = 16 ∧ (use = 1 ∨ use = 2) then xorL key (maskL use ++ maskL use) else []

end Go.Proofs.YtoajfbkblpaejaaDoor

/-
  spec.Variant; both at every argument.
-/
namespace Go.Proofs.YtoajfbkblpaejaaDoor
open Go.RowKit

def outV (key : List UInt8) (p : Nat) : Nat → List UInt8
  | 0 => key
  | k + 1 => (outV key p k).set (p + 8 * k) ((outV key p k).getD (p + 8 * k) 0 ^^^ 255)
theorem outV_length (key : List UInt8) (p k : Nat) : (outV key p k).length = key.length := by
  induction k with
  | zero => rfl
  | succ k ih => simp only [outV, List.length_set, ih]
theorem outV_all (key : List UInt8) (h : key.length = 16) : outV key 7 2 = xorL key (maskL 1 ++ maskL 1) ∧ outV key 6 2 = xorL key (maskL 2 ++ maskL 2) := by
  match key, h with
  | [a0, a1, a2, a3, a4, a5, a6, a7, a8, a9, a10, a11, a12, a13, a14, a15], _ => exact ⟨by simp [outV, xorL, maskL], by simp [outV, xorL, maskL]⟩

set_option maxRecDepth 100000 in
set_option maxHeartbeats 2000000 in
theorem variantS_1 (key : List UInt8) (ak : Option Addr) (ck : Nat) (w : World) (hk : key.length = 16) (rk : RowAt w ak key) :
    Calls Tryd.prog 29 #[.slice ak 16 ck, .int .i64 1] w fun e w' => ∃ v, e = .returned v ∧ Own w' w.heap.size v (outV key 7 2) ∧ Below w.heap.size w w' := by
  have hB := bytes_any ak ck key w (by omega) (by omega) rk
  rw [hk] at hB
  go_enter Tryd.func29, Tryd.ntmps29
  go_wp2_with (first | (go_at_call 46; refine hB.mono ?_; rintro e w1 ⟨rfl, own1, bel1⟩))
  have k1 : Blk w1 w.heap.size 5 (key.map byte) := own_blk (by have h := own1; unfold OwnB at h; rw [hk] at h; exact h)
  obtain ⟨I, hI⟩ : ∃ I, I = w1.heap.size := ⟨_, rfl⟩
  have hlt := k1.lt
  rw [← hI] at hlt
  have s1 := Blk.new w1 3 #[Value.int .i64 7, Value.int .i64 15]
  have s2 := k1.alloc (.cells #[Value.int .i64 7, Value.int .i64 15] 3)
  have s3 := bel1.alloc bel1.size (.cells #[Value.int .i64 7, Value.int .i64 15] 3)
  rw [← hI] at s1 ⊢
  clear own1 k1 bel1 hI hB
  go_loopw [7, 23] (fun _ i wr => ∃ k : Nat, k ≤ 2 ∧ i = .int .i64 k ∧ Blk wr w.heap.size 5 ((outV key 7 k).map byte) ∧ Blk wr I 3 [Value.int .i64 7, Value.int .i64 15] ∧ Below w.heap.size w wr) (fun _ i _ => 2 - (intOf i).toNat)
  case atStart => exact ⟨0, by omega, rfl, s2, s1, s3⟩
  case round =>
    clear s1 s2 s3
    obtain ⟨k, hk2, rfl, b1, b2, bel⟩ := hrel
    have hol := outV_length key 7 k
    by_cases hkl : k < 2
    · have hci : wr.cell? ⟨I, k, none⟩ = some (.int .i64 ((7 + 8 * k : Nat) : Int)) := by
        rw [b2.cell k (by simpa using hkl)]
        match k, hkl with
        | 0, _ => rfl
        | 1, _ => rfl
      obtain ⟨n, hn, Hn⟩ : ∃ n : Nat, 7 + 8 * k = n ∧ Hid (7 + 8 * k = n) := ⟨_, rfl, rfl⟩
      rw [hn] at hci
      clear hn
      obtain ⟨m, Hm⟩ : ∃ m : Nat, Hid (m = 7 + 8 * k) := ⟨_, rfl⟩
      obtain rfl : m = n := by have h1 := Hn.out; have h2 := Hm.out; omega
      have hm16 : m < 16 := by have := Hm.out; omega
      obtain ⟨x, hx, Hx⟩ : ∃ x, (outV key 7 k).getD m 0 = x ∧ Hid (x = (outV key 7 k).getD (7 + 8 * k) 0) := ⟨_, rfl, by show _ = _; rw [Hm.out]⟩
      have hcx : wr.cell? ⟨w.heap.size, m, none⟩ = some (.int .u8 (x.toNat : Int)) := by
        have hml : m < (outV key 7 k).length := by omega
        rw [b1.cell m (by simpa using hml), ← hx]
        simp [byte, hml]
      have hf := b1.free m
      have hst := b1.set m (byte (x ^^^ 255))
      have hos : ((outV key 7 k).map byte).set m (byte (x ^^^ 255)) = (outV key 7 (k + 1)).map byte := by
        rw [← List.map_set, Hx.out, Hm.out]; rfl
      rw [hos] at hst
      have HE : Hid (Value.int .u8 (bits BinOp.xor IntKind.u8 (x.toNat : Int) 255) = byte (x ^^^ 255)) := byte_xor x 255
      have hmI : (m : Int) < 16 := by omega
      have hkI : (k : Int) < 2 := by omega
      have hb2 := b2.other ⟨w.heap.size, m, none⟩ (byte (x ^^^ 255)) (by simp; omega)
      have hbe := bel.setCell (p := ⟨w.heap.size, m, none⟩) (Nat.le_refl _) (byte (x ^^^ 255))
      clear hos hx b1 hol
      go_wp2
      go_roundw
      case rel =>
        rw [HE.out]
        exact ⟨k + 1, by omega, by go_num, hst, hb2, hbe⟩
      case measure => simp [intOf]; omega
    · obtain rfl : k = 2 := by omega
      go_wp2
      go_ret
      exact ⟨_, rfl, own_of_blk b1 (Nat.le_refl _) (by omega) (by unfold maxLen; omega), bel⟩

set_option maxRecDepth 100000 in
set_option maxHeartbeats 2000000 in
theorem variantS_2 (key : List UInt8) (ak : Option Addr) (ck : Nat) (w : World) (hk : key.length = 16) (rk : RowAt w ak key) :
    Calls Tryd.prog 29 #[.slice ak 16 ck, .int .i64 2] w fun e w' => ∃ v, e = .returned v ∧ Own w' w.heap.size v (outV key 6 2) ∧ Below w.heap.size w w' := by
  have hB := bytes_any ak ck key w (by omega) (by omega) rk
  rw [hk] at hB
  go_enter Tryd.func29, Tryd.ntmps29
  go_wp2_with (first | (go_at_call 46; refine hB.mono ?_; rintro e w1 ⟨rfl, own1, bel1⟩))
  have k1 : Blk w1 w.heap.size 5 (key.map byte) := own_blk (by have h := own1; unfold OwnB at h; rw [hk] at h; exact h)
  obtain ⟨I, hI⟩ : ∃ I, I = w1.heap.size := ⟨_, rfl⟩
  have hlt := k1.lt
  rw [← hI] at hlt
  have s1 := Blk.new w1 3 #[Value.int .i64 7, Value.int .i64 15]
  have s2 := k1.alloc (.cells #[Value.int .i64 7, Value.int .i64 15] 3)
  have s3 := bel1.alloc bel1.size (.cells #[Value.int .i64 7, Value.int .i64 15] 3)
  rw [← hI] at s1 ⊢
  clear own1 k1 bel1 hI hB
  go_loopw [7, 23] (fun _ i wr => ∃ k : Nat, k ≤ 2 ∧ i = .int .i64 k ∧ Blk wr w.heap.size 5 ((outV key 6 k).map byte) ∧ Blk wr I 3 [Value.int .i64 7, Value.int .i64 15] ∧ Below w.heap.size w wr) (fun _ i _ => 2 - (intOf i).toNat)
  case atStart => exact ⟨0, by omega, rfl, s2, s1, s3⟩
  case round =>
    clear s1 s2 s3
    obtain ⟨k, hk2, rfl, b1, b2, bel⟩ := hrel
    have hol := outV_length key 6 k
    by_cases hkl : k < 2
    · have hci : wr.cell? ⟨I, k, none⟩ = some (.int .i64 ((7 + 8 * k : Nat) : Int)) := by
        rw [b2.cell k (by simpa using hkl)]
        match k, hkl with
        | 0, _ => rfl
        | 1, _ => rfl
      obtain ⟨n, hn, Hn⟩ : ∃ n : Nat, 7 + 8 * k = n ∧ Hid (7 + 8 * k = n) := ⟨_, rfl, rfl⟩
      rw [hn] at hci
      clear hn
      obtain ⟨m, hm, Hm⟩ : ∃ m : Nat, IntKind.i64.wrap ((n : Int) - 1) = (m : Int) ∧ Hid (m = 6 + 8 * k) := ⟨6 + 8 * k, by have := Hn.out; rw [IntKind.wrap_i64]; omega, rfl⟩
      have hm16 : m < 16 := by have := Hm.out; omega
      obtain ⟨x, hx, Hx⟩ : ∃ x, (outV key 6 k).getD m 0 = x ∧ Hid (x = (outV key 6 k).getD (6 + 8 * k) 0) := ⟨_, rfl, by show _ = _; rw [Hm.out]⟩
      have hcx : wr.cell? ⟨w.heap.size, m, none⟩ = some (.int .u8 (x.toNat : Int)) := by
        have hml : m < (outV key 6 k).length := by omega
        rw [b1.cell m (by simpa using hml), ← hx]
        simp [byte, hml]
      have hf := b1.free m
      have hst := b1.set m (byte (x ^^^ 255))
      have hos : ((outV key 6 k).map byte).set m (byte (x ^^^ 255)) = (outV key 6 (k + 1)).map byte := by
        rw [← List.map_set, Hx.out, Hm.out]; rfl
      rw [hos] at hst
      have HE : Hid (Value.int .u8 (bits BinOp.xor IntKind.u8 (x.toNat : Int) 255) = byte (x ^^^ 255)) := byte_xor x 255
      have hmI : (m : Int) < 16 := by omega
      have hkI : (k : Int) < 2 := by omega
      have hb2 := b2.other ⟨w.heap.size, m, none⟩ (byte (x ^^^ 255)) (by simp; omega)
      have hbe := bel.setCell (p := ⟨w.heap.size, m, none⟩) (Nat.le_refl _) (byte (x ^^^ 255))
      clear hos hx b1 hol
      go_wp2
      go_roundw
      case rel =>
        rw [HE.out]
        exact ⟨k + 1, by omega, by go_num, hst, hb2, hbe⟩
      case measure => simp [intOf]; omega
    · obtain rfl : k = 2 := by omega
      go_wp2
      go_ret
      exact ⟨_, rfl, own_of_blk b1 (Nat.le_refl _) (by omega) (by unfold maxLen; omega), bel⟩

set_option maxRecDepth 100000 in
set_option maxHeartbeats 1000000 in
theorem variantS_wrong (n : Nat) (use : Int) (ak : Option Addr) (ck : Nat) (w : World) (hn : n ≤ 1048576) (_hi : -9223372036854775808 ≤ use ∧ use ≤ 9223372036854775807) (h : ¬ (n = 16 ∧ (use = 1 ∨ use = 2))) :
    Calls Tryd.prog 29 #[.slice ak n ck, .int .i64 use] w fun e w' => e = .returned (.slice none 0 0) ∧ Below w.heap.size w w' := by
  by_cases h1 : n = 16
  · have h2 : (use != 1) = true := by rw [bne_iff_ne]; exact fun e => h ⟨h1, .inl e⟩
    have h3 : (use != 2) = true := by rw [bne_iff_ne]; exact fun e => h ⟨h1, .inr e⟩
    subst h1
    go_enter Tryd.func29, Tryd.ntmps29
    go_wp2
    go_ret
    exact ⟨rfl, Below.refl _ _⟩
  · have h2 : ((n : Int) != 16) = true := by rw [bne_iff_ne]; omega
    go_enter Tryd.func29, Tryd.ntmps29
    go_wp2
    go_ret
    exact ⟨rfl, Below.refl _ _⟩

theorem specVariant_all (key : List UInt8) (use : Int) (ak : Option Addr) (ck : Nat) (w : World) (hn : key.length ≤ 1048576) (hi : -9223372036854775808 ≤ use ∧ use ≤ 9223372036854775807) (_hc : key.length ≤ ck) (rk : RowAt w ak key) :
    Calls Tryd.prog 29 #[.slice ak key.length ck, .int .i64 use] w fun e w' => ∃ v, e = .returned v ∧ Own w' w.heap.size v (variantL key use) ∧ Below w.heap.size w w' := by
  unfold variantL
  by_cases h : key.length = 16 ∧ (use = 1 ∨ use = 2)
  · rw [if_pos h]
    have hs1 := fun ak rk => variantS_1 key ak ck w h.1 rk
    have hs2 := fun ak rk => variantS_2 key ak ck w h.1 rk
    rw [(outV_all key h.1).1] at hs1
    rw [(outV_all key h.1).2] at hs2
    rw [h.1]
    rcases h.2 with rfl | rfl
    · exact hs1 ak rk
    · exact hs2 ak rk
  · rw [if_neg h]
    refine (variantS_wrong _ use ak ck w hn hi h).mono ?_
    rintro e w' ⟨rfl, bel⟩
    exact ⟨_, rfl, ⟨5, World.ownsRow_nil _ _ _ _⟩, bel⟩
theorem variantL_le (key : List UInt8) (use : Int) (_ : key.length ≤ 1048576) : (variantL key use).length ≤ 1048576 := by
  unfold variantL
  split
  · rename_i h
    rw [xorL_length _ _ (by rw [List.length_append, maskL_length, h.1])]; omega
  · simp
end Go.Proofs.YtoajfbkblpaejaaDoor
