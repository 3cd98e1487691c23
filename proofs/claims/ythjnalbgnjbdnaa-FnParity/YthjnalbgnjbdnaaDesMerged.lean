/-
  impl: mergedBoxes.
-/
import Derived.Test.YthjnalbgnjbdnaaDesBox
namespace Go.Proofs.Ythjnalbgnjbdnaa
open Go.RowKit

/-- The boxes, 64 digits each, as bytes. -/
def boxD : List UInt8 := [
  69, 52, 68, 49, 50, 70, 66, 56, 51, 65, 54, 67, 53, 57, 48, 55, 48, 70, 55, 52, 69, 50, 68, 49, 65, 54, 67, 66, 57, 53, 51, 56,
  52, 49, 69, 56, 68, 54, 50, 66, 70, 67, 57, 55, 51, 65, 53, 48, 70, 67, 56, 50, 52, 57, 49, 55, 53, 66, 51, 69, 65, 48, 54, 68,
  70, 49, 56, 69, 54, 66, 51, 52, 57, 55, 50, 68, 67, 48, 53, 65, 51, 68, 52, 55, 70, 50, 56, 69, 67, 48, 49, 65, 54, 57, 66, 53,
  48, 69, 55, 66, 65, 52, 68, 49, 53, 56, 67, 54, 57, 51, 50, 70, 68, 56, 65, 49, 51, 70, 52, 50, 66, 54, 55, 67, 48, 53, 69, 57,
  65, 48, 57, 69, 54, 51, 70, 53, 49, 68, 67, 55, 66, 52, 50, 56, 68, 55, 48, 57, 51, 52, 54, 65, 50, 56, 53, 69, 67, 66, 70, 49,
  68, 54, 52, 57, 56, 70, 51, 48, 66, 49, 50, 67, 53, 65, 69, 55, 49, 65, 68, 48, 54, 57, 56, 55, 52, 70, 69, 51, 66, 53, 50, 67,
  55, 68, 69, 51, 48, 54, 57, 65, 49, 50, 56, 53, 66, 67, 52, 70, 68, 56, 66, 53, 54, 70, 48, 51, 52, 55, 50, 67, 49, 65, 69, 57,
  65, 54, 57, 48, 67, 66, 55, 68, 70, 49, 51, 69, 53, 50, 56, 52, 51, 70, 48, 54, 65, 49, 68, 56, 57, 52, 53, 66, 67, 55, 50, 69,
  50, 67, 52, 49, 55, 65, 66, 54, 56, 53, 51, 70, 68, 48, 69, 57, 69, 66, 50, 67, 52, 55, 68, 49, 53, 48, 70, 65, 51, 57, 56, 54,
  52, 50, 49, 66, 65, 68, 55, 56, 70, 57, 67, 53, 54, 51, 48, 69, 66, 56, 67, 55, 49, 69, 50, 68, 54, 70, 48, 57, 65, 52, 53, 51,
  67, 49, 65, 70, 57, 50, 54, 56, 48, 68, 51, 52, 69, 55, 53, 66, 65, 70, 52, 50, 55, 67, 57, 53, 54, 49, 68, 69, 48, 66, 51, 56,
  57, 69, 70, 53, 50, 56, 67, 51, 55, 48, 52, 65, 49, 68, 66, 54, 52, 51, 50, 67, 57, 53, 70, 65, 66, 69, 49, 55, 54, 48, 56, 68,
  52, 66, 50, 69, 70, 48, 56, 68, 51, 67, 57, 55, 53, 65, 54, 49, 68, 48, 66, 55, 52, 57, 49, 65, 69, 51, 53, 67, 50, 70, 56, 54,
  49, 52, 66, 68, 67, 51, 55, 69, 65, 70, 54, 56, 48, 53, 57, 50, 54, 66, 68, 56, 49, 52, 65, 55, 57, 53, 48, 70, 69, 50, 51, 67,
  68, 50, 56, 52, 54, 70, 66, 49, 65, 57, 51, 69, 53, 48, 67, 55, 49, 70, 68, 56, 65, 51, 55, 52, 67, 53, 54, 66, 48, 69, 57, 50,
  55, 66, 52, 49, 57, 67, 69, 50, 48, 54, 65, 68, 70, 51, 53, 56, 50, 49, 69, 55, 52, 65, 56, 68, 70, 67, 57, 48, 51, 53, 54, 66]

/-- The digit of a box at a group of six bits. -/
def digN (box g : Nat) : Nat := hexN (boxD.getD (64 * box + 16 * (g / 32 * 2 + g % 2) + g / 2 % 16) 0).toNat
def mergedN (box g : Nat) : Nat := spreadN box (digN box g)
def mergedCell (j : Nat) : Value := word32 (mergedN (j / 64) (j % 64))

def mergedCells : List Value := (List.range 512).map mergedCell
theorem mergedCells_length : mergedCells.length = 512 := by simp [mergedCells]
theorem allOne_merged : mergedCells.toArray.all (·.oneCell') = true := allOne_map _ (fun _ => rfl) _

set_option maxRecDepth 100000 in
theorem boxD_hex : ∀ i : Nat, i < 512 → hexN (boxD.getD i 0).toNat < 16 := by decide +kernel

theorem Try.zero93 : (Try.prog.info? 93).map (fun i => (i.zero, i.size)) = some (some (.agg (zerosOf 512 .u32).toArray), 512) := by kernel_rfl

theorem g1 : ∀ g : Nat, g < 64 → bits BinOp.and IntKind.i64 ((g : Int) / 16) 2 = ((g / 32 * 2 : Nat) : Int) := by decide +kernel
theorem g2 : ∀ g : Nat, g < 64 → bits BinOp.and IntKind.i64 (g : Int) 1 = ((g % 2 : Nat) : Int) := by decide +kernel
theorem g3 : ∀ g : Nat, g < 64 → bits BinOp.or IntKind.i64 ((g / 32 * 2 : Nat) : Int) ((g % 2 : Nat) : Int) = ((g / 32 * 2 + g % 2 : Nat) : Int) := by decide +kernel
theorem g4 : ∀ g : Nat, g < 64 → bits BinOp.and IntKind.i64 ((g : Int) / 2) 15 = ((g / 2 % 16 : Nat) : Int) := by decide +kernel

theorem hex_lit (L : ByteArray) (x : Nat) (hx : x < L.size) (hL : L.data.toList = boxD) (hx5 : x < 512) (w : World) :
    Calls Try.prog 119 #[.int .u8 (L[x].toNat : Int)] w fun e w' => ∃ d : Nat, e = .returned (.int .u8 d) ∧ d < 16 ∧ (d : Int) < 16 ∧ Hid (d = hexN (boxD.getD x 0).toNat) ∧ w' = w := by
  have h := boxD_hex x hx5
  have e1 : L[x] = boxD.getD x 0 := by
    rw [← hL]
    have hl : x < L.data.toList.length := by simpa using hx
    rw [List.getD_eq_getElem?_getD, List.getElem?_eq_getElem hl]
    rfl
  rw [e1]
  refine (hexValue_any (boxD.getD x 0).toNat w (UInt8.toNat_lt _)).mono ?_
  rintro e w' ⟨rfl, rfl⟩
  exact ⟨_, rfl, h, by omega, rfl, rfl⟩

theorem spread_cell {w : World} {S t k d : Nat} (h : Blk w S t (spreadCells k)) (hd : d < 16) : w.cell? ⟨S, d, none⟩ = some (.int .u32 (spreadN k d : Nat)) := by
  rw [h.cell d (by rw [spreadCells_length]; exact hd), spreadCells_get k d hd]
  rfl

set_option maxRecDepth 100000 in
set_option maxHeartbeats 1000000 in
theorem mergedBoxes_any (w : World) :
    Calls Try.prog 96 #[] w fun e w' => e = .returned (.agg mergedCells.toArray) ∧ Below w.heap.size w w' := by
  have hz := (zero_of_info Try.zero93).1
  have hz2 := (zero_of_info Try.zero119).1
  go_enter Try.func96, Try.ntmps96
  go_wp2
  go_loopw [2, 3, 4, 5, 6, 7, 12] (fun _ _ _ _ _ i _ wr => ∃ k : Nat, k ≤ 8 ∧ i = .int .i64 k ∧ Blk wr (w.heap.size + 1) 93 (upTo mergedCell (.int .u32 0) 512 (64 * k)) ∧ Blk wr w.heap.size 93 (zerosOf 512 .u32) ∧ Below w.heap.size w wr) (fun _ _ _ _ _ i _ _ => 8 - (intOf i).toNat)
  case atStart => exact ⟨0, Nat.zero_le _, rfl, by rw [upTo_zero]; exact Blk.new2 w _ _ _, (Blk.new w _ _).alloc _, ((Below.refl _ _).alloc (Nat.le_refl _) _).alloc (by simp) _⟩
  case round =>
    obtain ⟨k, hk, rfl, hb1, hb0, hbel⟩ := hrel
    by_cases hlt : k < 8
    · go_wp2_with (first | (go_at_call 118; refine (spreadDigits_any k _ hlt).mono ?_; rintro e w1 ⟨rfl, bel1⟩) | (refine store_blk rfl 119 _ _ rfl _ rfl rfl (Blk.new w1 _ _) (by rw [spreadCells_length]; kernel_rfl) (by rw [zerosOf_length, spreadCells_length]) (allOne_spread _) ?_; intro w3 hb3 hg3 hs3))
      have L : Blk w3 (w.heap.size + 1) 93 (upTo mergedCell (.int .u32 0) 512 (64 * k)) ∧ Blk w3 w.heap.size 93 (zerosOf 512 .u32) ∧ Below w.heap.size w w3 ∧ w.heap.size + 1 < w1.heap.size := by
        have l1 := hb1.lt
        have l2 := bel1.size
        have q1 : Blk (w1.alloc (.cells (zerosOf 16 .u32).toArray 119)) (w.heap.size + 1) 93 (upTo mergedCell (.int .u32 0) 512 (64 * k)) := (hb1.below bel1 l1).alloc _
        have q0 : Blk (w1.alloc (.cells (zerosOf 16 .u32).toArray 119)) w.heap.size 93 (zerosOf 512 .u32) := (hb0.below bel1 (by omega)).alloc _
        refine ⟨?_, ?_, ?_, by omega⟩
        · unfold Blk; rw [hg3.block _ q1.lt (by simp; omega)]; exact q1
        · unfold Blk; rw [hg3.block _ q0.lt (by simp; omega)]; exact q0
        · exact (((hbel.trans (bel1.mono hbel.size))).alloc (by omega) _).grown hg3 (by simp; omega) (by intro j hj; cases hj; omega)
      obtain ⟨S, hS⟩ : ∃ S, S = w1.heap.size := ⟨_, rfl⟩
      rw [← hS] at hb3 L
      rw [← hS]
      clear hb1 hb0 hbel hg3 hs3 bel1 hS
      obtain ⟨hb1, hb0, hbel, hSl⟩ := L
      go_loopw [4, 5, 6, 12] (fun _ _ _ i wr => ∃ g : Nat, g ≤ 64 ∧ i = .int .i64 g ∧ Blk wr (w.heap.size + 1) 93 (upTo mergedCell (.int .u32 0) 512 (64 * k + g)) ∧ Blk wr w.heap.size 93 (zerosOf 512 .u32) ∧ Blk wr S 119 (spreadCells k) ∧ Below w.heap.size w wr) (fun _ _ _ i _ => 64 - (intOf i).toNat)
      case atStart => exact ⟨0, Nat.zero_le _, rfl, hb1, hb0, hb3, hbel⟩
      case round =>
        clear hb1 hb0 hbel hb3
        obtain ⟨g, hg, rfl, hb1, hb0, hb3, hbel⟩ := hrel
        by_cases hgl : g < 64
        · obtain ⟨a, ha, Ha⟩ : ∃ a : Nat, bits BinOp.and IntKind.i64 ((g : Int) / 16) 2 = (a : Int) ∧ Hid (a = g / 32 * 2) := ⟨_, g1 g hgl, Eq.refl (g / 32 * 2)⟩
          obtain ⟨b, hb, Hb⟩ : ∃ b : Nat, bits BinOp.and IntKind.i64 (g : Int) 1 = (b : Int) ∧ Hid (b = g % 2) := ⟨_, g2 g hgl, Eq.refl (g % 2)⟩
          obtain ⟨r, hr, hr4, Hr⟩ : ∃ r : Nat, bits BinOp.or IntKind.i64 (a : Int) (b : Int) = (r : Int) ∧ r < 4 ∧ Hid (r = g / 32 * 2 + g % 2) := ⟨g / 32 * 2 + g % 2, by rw [Ha.out, Hb.out]; exact g3 g hgl, by omega, rfl⟩
          obtain ⟨c, hc, hc16, Hc⟩ : ∃ c : Nat, bits BinOp.and IntKind.i64 ((g : Int) / 2) 15 = (c : Int) ∧ c < 16 ∧ Hid (c = g / 2 % 16) := ⟨_, g4 g hgl, by omega, Eq.refl (g / 2 % 16)⟩
          obtain ⟨m1, hm1, Hm1⟩ : ∃ m : Nat, IntKind.i64.wrap (64 * (k : Int)) = (m : Int) ∧ Hid (m = 64 * k) := ⟨64 * k, by rw [IntKind.wrap_i64]; omega, rfl⟩
          obtain ⟨m2, hm2, Hm2⟩ : ∃ m : Nat, IntKind.i64.wrap (16 * (r : Int)) = (m : Int) ∧ Hid (m = 16 * r) := ⟨16 * r, by rw [IntKind.wrap_i64]; omega, rfl⟩
          obtain ⟨m3, hm3, Hm3⟩ : ∃ m : Nat, IntKind.i64.wrap ((m1 : Int) + (m2 : Int)) = (m : Int) ∧ Hid (m = 64 * k + 16 * r) := ⟨64 * k + 16 * r, by have := Hm1.out; have := Hm2.out; rw [IntKind.wrap_i64]; omega, rfl⟩
          obtain ⟨x, hx, hx5, Hx⟩ : ∃ m : Nat, IntKind.i64.wrap ((m3 : Int) + (c : Int)) = (m : Int) ∧ m < 512 ∧ Hid (m = 64 * k + 16 * r + c) := ⟨64 * k + 16 * r + c, by have := Hm3.out; rw [IntKind.wrap_i64]; omega, by omega, rfl⟩
          have hfm : wr.frozen? ⟨w.heap.size + 1, k * 64 + g, none⟩ = false := hb1.free _
          obtain ⟨u, hu⟩ : ∃ u, wr.cell? ⟨w.heap.size + 1, k * 64 + g, none⟩ = some u := ⟨_, hb1.cell (k * 64 + g) (by rw [upTo_length]; omega)⟩
          have hxi : (x : Int) < 512 := by omega
          have hkI : (k : Int) < 8 := by omega
          have hgI : (g : Int) < 64 := by omega
          go_wp2
          go_region_with (go_at_call 119; refine (hex_lit _ x _ (by kernel_rfl) hx5 _).mono ?_; rintro e w' ⟨d, rfl, hd16, hdI, Hd, rfl⟩; have hcd := spread_cell hb3 hd16)
          have hval : Value.int IntKind.u32 (spreadN k d : Nat) = mergedCell (64 * k + g) := by
            unfold mergedCell word32 mergedN digN
            rw [show (64 * k + g) / 64 = k from by omega, show (64 * k + g) % 64 = g from by omega, ← Hr.out, ← Hc.out, ← Hx.out, ← Hd.out]
          have hst := hb1.set (64 * k + g) (mergedCell (64 * k + g))
          rw [upTo_set, show 64 * k + g + 1 = 64 * k + (g + 1) from by omega] at hst
          have HV : Hid (Value.int IntKind.u32 (spreadN k d : Nat) = mergedCell (64 * k + g)) := hval
          clear hval
          go_wp2
          go_roundw
          case rel =>
            rw [HV.out, show k * 64 + g = 64 * k + g from by omega]
            exact ⟨g + 1, by omega, by go_num, hst.drew1, (hb0.other _ _ (by simp)).drew1, (hb3.other _ _ (by simp; omega)).drew1, (hbel.setCell (by simp) _).drew⟩
          case measure => simp [intOf]; omega
        · obtain rfl : g = 64 := by omega
          go_wp2
          go_roundw
          case rel => exact ⟨k + 1, by omega, by go_num, by rw [show 64 * (k + 1) = 64 * k + 64 from by omega]; exact hb1, hb0, hbel⟩
          case measure => simp [intOf]; omega
    · obtain rfl : k = 8 := by omega
      have hb1' : Blk wr (w.heap.size + 1) 93 mergedCells := by rw [upTo_all] at hb1; exact hb1
      go_wp2_with (first | (refine load_blk rfl 93 _ rfl _ rfl hb1' Try.underlying93 rfl (by rw [mergedCells_length]; kernel_rfl) ?_) | (refine store_blk rfl 93 _ _ rfl _ rfl rfl hb0 (by rw [mergedCells_length]; kernel_rfl) (by rw [zerosOf_length, mergedCells_length]) allOne_merged ?_; intro w2 hb2 hg2 hs2))
      exact bodyPost_ret (v := .agg mergedCells.toArray) (results_blk Try.results96 _ _ rfl hb2 Try.underlying93 rfl (by rw [mergedCells_length]; kernel_rfl)) rfl ⟨rfl, hbel.grown hg2 hbel.size (by intro k hk; cases hk; exact Nat.le_refl _)⟩
end Go.Proofs.Ythjnalbgnjbdnaa
