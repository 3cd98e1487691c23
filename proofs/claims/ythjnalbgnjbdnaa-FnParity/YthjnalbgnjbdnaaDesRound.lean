/-
  impl: newRound and the round.
-/
import Derived.Test.YthjnalbgnjbdnaaDesMerged
namespace Go.Proofs.Ythjnalbgnjbdnaa
open Go.RowKit

/-- The group of six bits that goes into box k. -/
def groupN (half key k : Nat) : Nat := (rotN half (4 * k + 5) ^^^ key / 2 ^ (42 - 6 * k) % 4294967296) % 64
/-- What the boxes before k add. -/
def mixN (half key : Nat) : Nat → Nat
  | 0 => 0
  | k + 1 => mixN half key k ||| mergedN k (groupN half key k)

theorem mixN_lt (half key k : Nat) : mixN half key k < 4294967296 := by
  induction k with
  | zero => simp [mixN]
  | succ k ih => exact Nat.or_lt_two_pow (n := 32) ih (spreadN_lt _ _)

theorem rotN_lt (x k : Nat) (hx : x < 4294967296) : rotN x k < 4294967296 := by
  unfold rotN
  have hd : x / 2 ^ (32 - k % 32) ≤ x := Nat.div_le_self _ _
  exact Nat.or_lt_two_pow (n := 32) (by omega) (by omega)

theorem merged_cell {w : World} {S t k g : Nat} (h : Blk w S t mergedCells) (hk : k < 8) (hg : g < 64) : w.cell? ⟨S, k * 64 + g, none⟩ = some (.int .u32 (mergedN k g : Nat)) := by
  rw [h.cell (k * 64 + g) (by rw [mergedCells_length]; omega)]
  have : mergedCells[k * 64 + g]'(by rw [mergedCells_length]; omega) = mergedCell (k * 64 + g) := by simp [mergedCells]
  rw [this]
  unfold mergedCell word32
  rw [show (k * 64 + g) / 64 = k from by omega, show (k * 64 + g) % 64 = g from by omega]

theorem drewN_add (w : World) (a b : Nat) : (w.drewN a).drewN b = w.drewN (a + b) := by
  simp [World.drewN, Nat.add_assoc]

set_option maxHeartbeats 400000 in
theorem newRound_any (w : World) :
    Calls Try.prog 53 #[] w fun e w' => ∃ S, e = .returned (.func (.func 97) #[] #[.pointer (some ⟨S, 0, none⟩)]) ∧ w.heap.size ≤ S ∧ Blk w' S 93 mergedCells ∧ Below w.heap.size w w' := by
  have hz := (zero_of_info Try.zero93).1
  go_enter Try.func53, Try.ntmps53
  go_wp2_with (first | (go_at_call 96; refine (mergedBoxes_any _).mono ?_; rintro e w1 ⟨rfl, bel1⟩) | (refine store_blk rfl 93 _ _ rfl _ rfl rfl (Blk.new w1 _ _) (by rw [mergedCells_length]; kernel_rfl) (by rw [zerosOf_length, mergedCells_length]) allOne_merged ?_; intro w2 hb2 hg2 hs2))
  go_ret
  exact ⟨_, rfl, bel1.size, hb2, (bel1.alloc bel1.size _).grown hg2 (by have := bel1.size; simp; omega) (by intro k hk; cases hk; exact bel1.size)⟩

set_option maxHeartbeats 1000000 in
theorem round_any (half key S : Nat) (w : World) (hh : half < 4294967296) (_hk : key < 18446744073709551616) (hb : Blk w S 93 mergedCells) :
    Calls Try.prog 97 #[.int .u32 half, .int .u64 key, .pointer (some ⟨S, 0, none⟩)] w fun e w' => e = .returned (.int .u32 (mixN half key 8 : Nat)) ∧ ∃ m, w' = w.drewN m := by
  go_enter Try.func97, Try.ntmps97
  go_wp2
  go_loopw [6, 7, 8, 9] (fun t _ _ i wr => ∃ k m : Nat, k ≤ 8 ∧ i = .int .i64 k ∧ t = .int .u32 (mixN half key k : Nat) ∧ wr = w.drewN m) (fun _ _ _ i _ => 8 - (intOf i).toNat)
  case atStart => exact ⟨0, 0, Nat.zero_le _, rfl, rfl, rfl⟩
  case round =>
    obtain ⟨k, m, hk8, rfl, rfl, hwr⟩ := hrel
    have Hwr : Hid (wr = w.drewN m) := hwr
    have hbr : Blk wr S 93 mergedCells := by rw [hwr]; exact hb
    clear hwr hb
    by_cases hlt : k < 8
    · obtain ⟨m1, hm1, Hm1⟩ : ∃ m : Nat, IntKind.i64.wrap (4 * (k : Int)) = (m : Int) ∧ Hid (m = 4 * k) := ⟨4 * k, by rw [IntKind.wrap_i64]; omega, rfl⟩
      obtain ⟨m2, hm2, hm2b, Hm2⟩ : ∃ m : Nat, IntKind.i64.wrap ((m1 : Int) + 5) = (m : Int) ∧ m ≤ 64 ∧ Hid (m = 4 * k + 5) := ⟨4 * k + 5, by have := Hm1.out; rw [IntKind.wrap_i64]; omega, by omega, rfl⟩
      obtain ⟨m3, hm3, Hm3⟩ : ∃ m : Nat, IntKind.i64.wrap (6 * (k : Int)) = (m : Int) ∧ Hid (m = 6 * k) := ⟨6 * k, by rw [IntKind.wrap_i64]; omega, rfl⟩
      obtain ⟨m4, hm4, hm4b, Hm4⟩ : ∃ m : Nat, IntKind.i64.wrap (42 - (m3 : Int)) = (m : Int) ∧ m ≤ 42 ∧ Hid (m = 42 - 6 * k) := ⟨42 - 6 * k, by have := Hm3.out; rw [IntKind.wrap_i64]; omega, by omega, rfl⟩
      go_wp2
      go_quiet ((go_at_call 98; exact Calls.quiet_of_same (rotl_any _ _ _ hh hm2b)))
      obtain ⟨G, hG, hG32, HG⟩ : ∃ G : Nat, bits BinOp.xor IntKind.u32 ((rotN half m2 : Nat) : Int) ((key : Int) / 2 ^ m4 % 4294967296) = (G : Int) ∧ G < 4294967296 ∧ Hid (G = rotN half m2 ^^^ key / 2 ^ m4 % 4294967296) := by
        have h1 := rotN_lt half m2 hh
        have e : (key : Int) / 2 ^ m4 % 4294967296 = ((key / 2 ^ m4 % 4294967296 : Nat) : Int) := by simp
        exact ⟨_, by rw [e, u32_xor_nat _ _ h1 (by omega)], Nat.xor_lt_two_pow (n := 32) h1 (by omega), rfl⟩
      obtain ⟨gi, hgi, hgl, Hgi⟩ : ∃ g : Nat, bits BinOp.and IntKind.u32 (G : Int) 63 = (g : Int) ∧ g < 64 ∧ Hid (g = G % 64) := by
        have h := u32_and_nat G 63 hG32 (by omega)
        rw [nat_mask6] at h
        exact ⟨G % 64, h, by omega, rfl⟩
      have hcell := merged_cell hbr hlt hgl
      obtain ⟨M, hM, HM⟩ : ∃ M : Nat, bits BinOp.or IntKind.u32 ((mixN half key k : Nat) : Int) ((mergedN k gi : Nat) : Int) = (M : Int) ∧ Hid (M = mixN half key (k + 1)) := by
        refine ⟨mixN half key k ||| mergedN k gi, u32_or_nat _ _ (mixN_lt _ _ _) (spreadN_lt _ _), ?_⟩
        show _ = mixN half key k ||| mergedN k (groupN half key k)
        rw [Hgi.out, HG.out, Hm2.out, Hm4.out]
        rfl
      have hkI : (k : Int) < 8 := by omega
      have hgI : (gi : Int) < 64 := by omega
      go_wp2
      go_roundw
      case rel => exact ⟨k + 1, m + nq, by omega, by go_num, by rw [HM.out], by rw [Hwr.out, drewN_add]⟩
      case measure => simp [intOf]; omega
    · go_wp2
      go_ret
      obtain rfl : k = 8 := by omega
      exact ⟨rfl, m, Hwr.out⟩
end Go.Proofs.Ythjnalbgnjbdnaa
