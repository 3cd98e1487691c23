/-
  spec.Variant; both at every argument.
-/
import Derived.Test.YthjnalbgnjbdnaaVariantImpl
namespace Go.Proofs.Ythjnalbgnjbdnaa
open Go.RowKit

def outV (key : List UInt8) (p : Nat) : Nat → List UInt8
  | 0 => key
  | k + 1 => (outV key p k).set (p + 8 * k) ((outV key p k).getD (p + 8 * k) 0 ^^^ 255)
theorem outV_length (key : List UInt8) (p k : Nat) : (outV key p k).length = key.length := by
  induction k with
  | zero => rfl
  | succ k ih => simp only [outV, List.length_set, ih]
theorem outV_all (key : List UInt8) (h : key.length = 16) : outV key 7 2 = xorL key (maskL 1 ++ maskL 1) ∧ outV key 6 2 = xorL key (maskL 2 ++ maskL 2) := by
  match key, h with
  | [a0, a1, a2, a3, a4, a5, a6, a7, a8, a9, a10, a11, a12, a13, a14, a15], _ => exact ⟨by simp [outV, xorL, maskL], by simp [outV, xorL, maskL]⟩

set_option maxRecDepth 100000 in
set_option maxHeartbeats 2000000 in
theorem variantS_1 (key : List UInt8) (ak : Option Addr) (ck : Nat) (w : World) (hk : key.length = 16) (rk : RowAt w ak key) :
    Calls Try.prog 35 #[.slice ak 16 ck, .int .i64 1] w fun e w' => ∃ v, e = .returned v ∧ Own w' w.heap.size v (outV key 7 2) ∧ Below w.heap.size w w' := by
  have hB := bytes_any ak ck key w (by omega) (by omega) rk
  rw [hk] at hB
  go_enter Try.func35, Try.ntmps35
  go_wp2_with (first | (go_at_call 50; refine hB.mono ?_; rintro e w1 ⟨rfl, own1, bel1⟩))
  have k1 : Blk w1 w.heap.size 5 (key.map byte) := own_blk (by have h := own1; unfold OwnB at h; rw [hk] at h; exact h)
  obtain ⟨I, hI⟩ : ∃ I, I = w1.heap.size := ⟨_, rfl⟩
  have hlt := k1.lt
  rw [← hI] at hlt
  have s1 := Blk.new w1 3 #[Value.int .i64 7, Value.int .i64 15]
  have s2 := k1.alloc (.cells #[Value.int .i64 7, Value.int .i64 15] 3)
  have s3 := bel1.alloc bel1.size (.cells #[Value.int .i64 7, Value.int .i64 15] 3)
  rw [← hI] at s1 ⊢
  clear own1 k1 bel1 hI hB
  go_loopw [7, 23] (fun _ i wr => ∃ k : Nat, k ≤ 2 ∧ i = .int .i64 k ∧ Blk wr w.heap.size 5 ((outV key 7 k).map byte) ∧ Blk wr I 3 [Value.int .i64 7, Value.int .i64 15] ∧ Below w.heap.size w wr) (fun _ i _ => 2 - (intOf i).toNat)
  case atStart => exact ⟨0, by omega, rfl, s2, s1, s3⟩
  case round =>
    clear s1 s2 s3
    obtain ⟨k, hk2, rfl, b1, b2, bel⟩ := hrel
    have hol := outV_length key 7 k
    by_cases hkl : k < 2
    · have hci : wr.cell? ⟨I, k, none⟩ = some (.int .i64 ((7 + 8 * k : Nat) : Int)) := by
        rw [b2.cell k (by simpa using hkl)]
        match k, hkl with
        | 0, _ => rfl
        | 1, _ => rfl
      obtain ⟨n, hn, Hn⟩ : ∃ n : Nat, 7 + 8 * k = n ∧ Hid (7 + 8 * k = n) := ⟨_, rfl, rfl⟩
      rw [hn] at hci
      clear hn
      obtain ⟨m, Hm⟩ : ∃ m : Nat, Hid (m = 7 + 8 * k) := ⟨_, rfl⟩
      obtain rfl : m = n := by have h1 := Hn.out; have h2 := Hm.out; omega
      have hm16 : m < 16 := by have := Hm.out; omega
      obtain ⟨x, hx, Hx⟩ : ∃ x, (outV key 7 k).getD m 0 = x ∧ Hid (x = (outV key 7 k).getD (7 + 8 * k) 0) := ⟨_, rfl, by show _ = _; rw [Hm.out]⟩
      have hcx : wr.cell? ⟨w.heap.size, m, none⟩ = some (.int .u8 (x.toNat : Int)) := by
        have hml : m < (outV key 7 k).length := by omega
        rw [b1.cell m (by simpa using hml), ← hx]
        simp [byte, hml]
      have hf := b1.free m
      have hst := b1.set m (byte (x ^^^ 255))
      have hos : ((outV key 7 k).map byte).set m (byte (x ^^^ 255)) = (outV key 7 (k + 1)).map byte := by
        rw [← List.map_set, Hx.out, Hm.out]; rfl
      rw [hos] at hst
      have HE : Hid (Value.int .u8 (bits BinOp.xor IntKind.u8 (x.toNat : Int) 255) = byte (x ^^^ 255)) := byte_xor x 255
      have hmI : (m : Int) < 16 := by omega
      have hkI : (k : Int) < 2 := by omega
      have hb2 := b2.other ⟨w.heap.size, m, none⟩ (byte (x ^^^ 255)) (by simp; omega)
      have hbe := bel.setCell (p := ⟨w.heap.size, m, none⟩) (Nat.le_refl _) (byte (x ^^^ 255))
      clear hos hx b1 hol
      go_wp2
      go_roundw
      case rel =>
        rw [HE.out]
        exact ⟨k + 1, by omega, by go_num, hst, hb2, hbe⟩
      case measure => simp [intOf]; omega
    · obtain rfl : k = 2 := by omega
      go_wp2
      go_ret
      exact ⟨_, rfl, own_of_blk b1 (Nat.le_refl _) (by omega) (by unfold maxLen; omega), bel⟩

set_option maxRecDepth 100000 in
set_option maxHeartbeats 2000000 in
theorem variantS_2 (key : List UInt8) (ak : Option Addr) (ck : Nat) (w : World) (hk : key.length = 16) (rk : RowAt w ak key) :
    Calls Try.prog 35 #[.slice ak 16 ck, .int .i64 2] w fun e w' => ∃ v, e = .returned v ∧ Own w' w.heap.size v (outV key 6 2) ∧ Below w.heap.size w w' := by
  have hB := bytes_any ak ck key w (by omega) (by omega) rk
  rw [hk] at hB
  go_enter Try.func35, Try.ntmps35
  go_wp2_with (first | (go_at_call 50; refine hB.mono ?_; rintro e w1 ⟨rfl, own1, bel1⟩))
  have k1 : Blk w1 w.heap.size 5 (key.map byte) := own_blk (by have h := own1; unfold OwnB at h; rw [hk] at h; exact h)
  obtain ⟨I, hI⟩ : ∃ I, I = w1.heap.size := ⟨_, rfl⟩
  have hlt := k1.lt
  rw [← hI] at hlt
  have s1 := Blk.new w1 3 #[Value.int .i64 7, Value.int .i64 15]
  have s2 := k1.alloc (.cells #[Value.int .i64 7, Value.int .i64 15] 3)
  have s3 := bel1.alloc bel1.size (.cells #[Value.int .i64 7, Value.int .i64 15] 3)
  rw [← hI] at s1 ⊢
  clear own1 k1 bel1 hI hB
  go_loopw [7, 23] (fun _ i wr => ∃ k : Nat, k ≤ 2 ∧ i = .int .i64 k ∧ Blk wr w.heap.size 5 ((outV key 6 k).map byte) ∧ Blk wr I 3 [Value.int .i64 7, Value.int .i64 15] ∧ Below w.heap.size w wr) (fun _ i _ => 2 - (intOf i).toNat)
  case atStart => exact ⟨0, by omega, rfl, s2, s1, s3⟩
  case round =>
    clear s1 s2 s3
    obtain ⟨k, hk2, rfl, b1, b2, bel⟩ := hrel
    have hol := outV_length key 6 k
    by_cases hkl : k < 2
    · have hci : wr.cell? ⟨I, k, none⟩ = some (.int .i64 ((7 + 8 * k : Nat) : Int)) := by
        rw [b2.cell k (by simpa using hkl)]
        match k, hkl with
        | 0, _ => rfl
        | 1, _ => rfl
      obtain ⟨n, hn, Hn⟩ : ∃ n : Nat, 7 + 8 * k = n ∧ Hid (7 + 8 * k = n) := ⟨_, rfl, rfl⟩
      rw [hn] at hci
      clear hn
      obtain ⟨m, hm, Hm⟩ : ∃ m : Nat, IntKind.i64.wrap ((n : Int) - 1) = (m : Int) ∧ Hid (m = 6 + 8 * k) := ⟨6 + 8 * k, by have := Hn.out; rw [IntKind.wrap_i64]; omega, rfl⟩
      have hm16 : m < 16 := by have := Hm.out; omega
      obtain ⟨x, hx, Hx⟩ : ∃ x, (outV key 6 k).getD m 0 = x ∧ Hid (x = (outV key 6 k).getD (6 + 8 * k) 0) := ⟨_, rfl, by show _ = _; rw [Hm.out]⟩
      have hcx : wr.cell? ⟨w.heap.size, m, none⟩ = some (.int .u8 (x.toNat : Int)) := by
        have hml : m < (outV key 6 k).length := by omega
        rw [b1.cell m (by simpa using hml), ← hx]
        simp [byte, hml]
      have hf := b1.free m
      have hst := b1.set m (byte (x ^^^ 255))
      have hos : ((outV key 6 k).map byte).set m (byte (x ^^^ 255)) = (outV key 6 (k + 1)).map byte := by
        rw [← List.map_set, Hx.out, Hm.out]; rfl
      rw [hos] at hst
      have HE : Hid (Value.int .u8 (bits BinOp.xor IntKind.u8 (x.toNat : Int) 255) = byte (x ^^^ 255)) := byte_xor x 255
      have hmI : (m : Int) < 16 := by omega
      have hkI : (k : Int) < 2 := by omega
      have hb2 := b2.other ⟨w.heap.size, m, none⟩ (byte (x ^^^ 255)) (by simp; omega)
      have hbe := bel.setCell (p := ⟨w.heap.size, m, none⟩) (Nat.le_refl _) (byte (x ^^^ 255))
      clear hos hx b1 hol
      go_wp2
      go_roundw
      case rel =>
        rw [HE.out]
        exact ⟨k + 1, by omega, by go_num, hst, hb2, hbe⟩
      case measure => simp [intOf]; omega
    · obtain rfl : k = 2 := by omega
      go_wp2
      go_ret
      exact ⟨_, rfl, own_of_blk b1 (Nat.le_refl _) (by omega) (by unfold maxLen; omega), bel⟩

set_option maxRecDepth 100000 in
set_option maxHeartbeats 1000000 in
theorem variant_wrong (n : Nat) (use : Int) (ak : Option Addr) (ck : Nat) (w : World) (hn : n ≤ 1048576) (_hi : -9223372036854775808 ≤ use ∧ use ≤ 9223372036854775807) (h : ¬ (n = 16 ∧ (use = 1 ∨ use = 2))) :
    Calls Try.prog 36 #[.slice ak n ck, .int .i64 use] w fun e w' => e = .returned (.slice none 0 0) ∧ Below w.heap.size w w' := by
  have hz := (zero_of_info Try.zero50).1
  by_cases h1 : n = 16
  · have h2 : ¬ use = 1 := fun e => h ⟨h1, .inl e⟩
    have h3 : ¬ use = 2 := fun e => h ⟨h1, .inr e⟩
    subst h1
    go_enter Try.func36, Try.ntmps36
    go_wp2
    go_ret
    exact ⟨rfl, below_new w _⟩
  · have h2 : ((n : Int) != 16) = true := by rw [bne_iff_ne]; omega
    go_enter Try.func36, Try.ntmps36
    go_wp2
    go_ret
    exact ⟨rfl, Below.refl _ _⟩

set_option maxRecDepth 100000 in
set_option maxHeartbeats 1000000 in
theorem variantS_wrong (n : Nat) (use : Int) (ak : Option Addr) (ck : Nat) (w : World) (hn : n ≤ 1048576) (_hi : -9223372036854775808 ≤ use ∧ use ≤ 9223372036854775807) (h : ¬ (n = 16 ∧ (use = 1 ∨ use = 2))) :
    Calls Try.prog 35 #[.slice ak n ck, .int .i64 use] w fun e w' => e = .returned (.slice none 0 0) ∧ Below w.heap.size w w' := by
  by_cases h1 : n = 16
  · have h2 : (use != 1) = true := by rw [bne_iff_ne]; exact fun e => h ⟨h1, .inl e⟩
    have h3 : (use != 2) = true := by rw [bne_iff_ne]; exact fun e => h ⟨h1, .inr e⟩
    subst h1
    go_enter Try.func35, Try.ntmps35
    go_wp2
    go_ret
    exact ⟨rfl, Below.refl _ _⟩
  · have h2 : ((n : Int) != 16) = true := by rw [bne_iff_ne]; omega
    go_enter Try.func35, Try.ntmps35
    go_wp2
    go_ret
    exact ⟨rfl, Below.refl _ _⟩

theorem variant_all (key : List UInt8) (use : Int) (ak : Option Addr) (ck : Nat) (w : World) (hn : key.length ≤ 1048576) (hi : -9223372036854775808 ≤ use ∧ use ≤ 9223372036854775807) (_hc : key.length ≤ ck) (rk : RowAt w ak key) :
    Calls Try.prog 36 #[.slice ak key.length ck, .int .i64 use] w fun e w' => ∃ v, e = .returned v ∧ Own w' w.heap.size v (variantL key use) ∧ Below w.heap.size w w' := by
  unfold variantL
  by_cases h : key.length = 16 ∧ (use = 1 ∨ use = 2)
  · rw [if_pos h]
    obtain ⟨kb, ko, rfl, hr⟩ := rk.range (by omega)
    rw [h.1]
    rcases h.2 with rfl | rfl
    · exact variant_1 key kb ko ck w h.1 hr
    · exact variant_2 key kb ko ck w h.1 hr
  · rw [if_neg h]
    refine (variant_wrong _ use ak ck w hn hi h).mono ?_
    rintro e w' ⟨rfl, bel⟩
    exact ⟨_, rfl, ⟨5, World.ownsRow_nil _ _ _ _⟩, bel⟩
theorem specVariant_all (key : List UInt8) (use : Int) (ak : Option Addr) (ck : Nat) (w : World) (hn : key.length ≤ 1048576) (hi : -9223372036854775808 ≤ use ∧ use ≤ 9223372036854775807) (_hc : key.length ≤ ck) (rk : RowAt w ak key) :
    Calls Try.prog 35 #[.slice ak key.length ck, .int .i64 use] w fun e w' => ∃ v, e = .returned v ∧ Own w' w.heap.size v (variantL key use) ∧ Below w.heap.size w w' := by
  unfold variantL
  by_cases h : key.length = 16 ∧ (use = 1 ∨ use = 2)
  · rw [if_pos h]
    have hs1 := fun ak rk => variantS_1 key ak ck w h.1 rk
    have hs2 := fun ak rk => variantS_2 key ak ck w h.1 rk
    rw [(outV_all key h.1).1] at hs1
    rw [(outV_all key h.1).2] at hs2
    rw [h.1]
    rcases h.2 with rfl | rfl
    · exact hs1 ak rk
    · exact hs2 ak rk
  · rw [if_neg h]
    refine (variantS_wrong _ use ak ck w hn hi h).mono ?_
    rintro e w' ⟨rfl, bel⟩
    exact ⟨_, rfl, ⟨5, World.ownsRow_nil _ _ _ _⟩, bel⟩
theorem variantL_le (key : List UInt8) (use : Int) (_ : key.length ≤ 1048576) : (variantL key use).length ≤ 1048576 := by
  unfold variantL
  split
  · rename_i h
    rw [xorL_length _ _ (by rw [List.length_append, maskL_length, h.1])]; omega
  · simp
end Go.Proofs.Ythjnalbgnjbdnaa
