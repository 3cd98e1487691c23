/-
  spec.Aes, forth.
-/
import Derived.Test.YthjnalbgnjbdnaaAesSpec3
namespace Go.Proofs.Ythjnalbgnjbdnaa
open Go.RowKit

set_option maxRecDepth 100000 in
set_option maxHeartbeats 4000000 in
theorem aesE_spec (key block : List UInt8) (ak : Option Addr) (bb bo ck cb : Nat) (w : World) (hk : key.length = 16) (hb : block.length = 16) (rk : RowAt w ak key) (rb : RowAt w (some ⟨bb, bo, none⟩) block) :
    Calls Try.prog 41 #[.slice ak 16 ck, .slice (some ⟨bb, bo, none⟩) 16 cb, .bool false] w fun e w' => ∃ v, e = .returned v ∧ OwnB w' w.heap.size v (encL (keyR key) block) ∧ Below w.heap.size w w' := by
  have HKl := hid_of (fun r => keyR_length key hk r)
  have HW := hid_of (words_any ak ck key w hk rk)
  go_enter Try.func41, Try.ntmps41
  go_wp2_with fail
  refine HW.out.mono ?_
  rintro e w1 ⟨v1, rfl, own1, bel1⟩
  obtain ⟨gW, cW, hcW, rfl, rW⟩ := own_at own1 (keysL_length key hk) (by omega)
  have rb1 := rb.below bel1
  have rK : Hid (∀ (wx : World), Below w1.heap.size w1 wx → ∀ r, r < 11 → RowAt wx (some ⟨gW, 16 * r, none⟩) (keyR key r)) := hid_of (fun wx h r hr => by
    have := (rW.below h).mid (n := 16) (16 * r)
    rwa [keysL_at key hk r hr] at this)
  have hcI : (16 : Int) ≤ (cW : Int) := by omega
  clear HW own1 rW rb rk
  go_wp2_with fail
  refine (xor16s block (keyR key 0) bb bo _ gW 0 _ w1 hb (HKl.out 0) rb1 (rK.out w1 (Below.refl _ _) 0 (by omega))).mono ?_
  rintro e w2 ⟨rfl, hb2, bel2⟩
  clear rb1
  go_wp2
  go_loopw [8, 9, 10, 35] (fun v r _ _ wr => ∃ k G : Nat, k ≤ 10 ∧ r = .int .i64 ((k + 1 : Nat) : Int) ∧ v = .slice (some ⟨G, 0, none⟩) 16 16 ∧ w1.heap.size ≤ G ∧ Blk wr G 5 ((stE (keyR key) block k).map byte) ∧ Below w1.heap.size w1 wr) (fun _ r _ _ _ => 11 - (intOf r).toNat)
  case atStart => exact ⟨0, w1.heap.size, by omega, rfl, rfl, Nat.le_refl _, hb2, bel2⟩
  case round =>
    clear hb2 bel2
    obtain ⟨k, G, hk10, rfl, rfl, hVG, hbG, bel⟩ := hrel
    have hsl := stE_length (keyR key) block hb HKl.out k
    by_cases hlt : k < 10
    · obtain ⟨R, hR, HR⟩ : ∃ R : Nat, k + 1 = R ∧ Hid (R = k + 1) := ⟨_, rfl, rfl⟩
      rw [hR]
      have hRI : (R : Int) ≤ 10 := by omega
      obtain ⟨s, hs⟩ : ∃ s, s = stE (keyR key) block k := ⟨_, rfl⟩
      have HS := hid_of hs
      rw [← hs] at hbG hsl
      clear hR hs
      go_wp2
      go_loopw [10, 35] (fun _ c wr => ∃ i : Nat, i ≤ 16 ∧ c = .int .i64 i ∧ Blk wr G 5 ((parM subB s i).map byte) ∧ Below w1.heap.size w1 wr) (fun _ c _ => 16 - (intOf c).toNat)
      case atStart => exact ⟨0, by omega, rfl, by rw [parM_zero]; exact hbG, bel⟩
      case round =>
        clear hbG bel
        obtain ⟨i, hi16, rfl, hbG, bel⟩ := hrel
        have hpl := parM_length subB s i (by omega)
        by_cases hil : i < 16
        · have hiI : (i : Int) < 16 := by omega
          obtain ⟨x, lx, X⟩ : ∃ y : Nat, y < 256 ∧ Hid (y = (s.getD i 0).toNat) := ⟨_, UInt8.toNat_lt _, rfl⟩
          have hc : wr.cell? ⟨G, i, none⟩ = some (.int .u8 (x : Int)) := by rw [map_cell hbG i (by omega), parM_at _ _ _ (by omega), X.out]
          have hf := hbG.free i
          have hst := hbG.set i (byte (subB (s.getD i 0)))
          rw [← List.map_set, parM_set _ _ _ (by omega)] at hst
          have HV : Hid (Value.int .u8 ((subI x : Nat) : Int) = byte (subB (s.getD i 0))) := hid_of (by rw [X.out]; rfl)
          clear hbG hpl
          go_wp2_with (go_at_call 82; refine (sub_I x _ lx).mono ?_; rintro e w' ⟨rfl, hw'⟩; subst w')
          go_roundw
          case rel =>
            rw [HV.out]
            exact ⟨i + 1, by omega, by go_num, hst, bel.setCell hVG _⟩
          case measure => simp [intOf]; omega
        · obtain rfl : i = 16 := by omega
          rw [parM_all subB s 16 hsl] at hbG
          have hml : (s.map subB).length = 16 := by rw [List.length_map, hsl]
          have HSh := hid_of (shift_any 1 1 (s.map subB) G 0 16 wr (.inl rfl) rfl hml (blk_cells hbG))
          go_wp2_with fail
          refine HSh.out.mono ?_
          rintro e w3 ⟨rfl, hb3, bel3⟩
          have b3 := bel.trans (bel3.mono bel.size)
          have hV3 := bel.size
          obtain ⟨G3, hG3⟩ : ∃ n, n = wr.heap.size := ⟨_, rfl⟩
          rw [← hG3] at hb3 hV3 ⊢
          clear HSh bel3 hbG bel hG3
          obtain ⟨a1, h1, H1⟩ : ∃ a : Nat, IntKind.i64.wrap (16 * (R : Int)) = (a : Int) ∧ Hid (a = 16 * (k + 1)) := ⟨16 * R, by rw [IntKind.wrap_i64]; omega, hid_of (by rw [HR.out])⟩
          obtain ⟨a2, h2, H2⟩ : ∃ a : Nat, IntKind.i64.wrap ((a1 : Int) + 16) = (a : Int) ∧ Hid (a = 16 * (k + 1) + 16) := ⟨16 * (k + 1) + 16, by have := H1.out; rw [IntKind.wrap_i64]; omega, rfl⟩
          have q1 : (a1 : Int) ≤ (a2 : Int) := by have := H1.out; have := H2.out; omega
          have q2 : (a2 : Int) ≤ (cW : Int) := by have := H2.out; omega
          have q3 : a2 - a1 = 16 := by have := H1.out; have := H2.out; omega
          have q4 : a1 ≤ a2 := by omega
          have q5 : a2 ≤ cW := by omega
          have hk1 := HKl.out (k + 1)
          by_cases h9 : k < 9
          · have hRJ : (R : Int) < 10 := by have := HR.out; omega
            have hbX : Blk (w3.alloc (.cells #[.int .u8 2, .int .u8 3, .int .u8 1, .int .u8 1] 5)) w3.heap.size 5 (rowE.map byte) := Blk.new w3 _ _
            have HM := hid_of (mixS_any rowE (turnL 1 (s.map subB)) G3 0 16 w3.heap.size 0 4 (w3.alloc (.cells #[.int .u8 2, .int .u8 3, .int .u8 1, .int .u8 1] 5)) (turnL_length _ _) rfl (blk_cells (hb3.alloc _)) (blk_cells hbX))
            have b3' := b3.alloc b3.size (.cells #[.int .u8 2, .int .u8 3, .int .u8 1, .int .u8 1] 5)
            go_wp2_with fail
            refine HM.out.mono ?_
            rintro e w5 ⟨rfl, hb5, bel5⟩
            have b5 := b3'.trans (bel5.mono b3'.size)
            have hV5 := b3'.size
            obtain ⟨G5, hG5⟩ : ∃ n, n = (w3.alloc (.cells #[.int .u8 2, .int .u8 3, .int .u8 1, .int .u8 1] 5)).heap.size := ⟨_, rfl⟩
            rw [← hG5] at hb5 hV5
            have HG5 := hid_of hG5
            have HX := hid_of (fun cb => xor16s (mixS rowE (turnL 1 (s.map subB))) (keyR key (k + 1)) G5 0 16 gW a1 cb w5 (mixS_length _ _) hk1 (rowAt_block hb5) (by rw [H1.out]; exact rK.out w5 b5 (k + 1) (by omega)))
            have HE : Hid (stE (keyR key) block (k + 1) = xorL (mixS rowE (turnL 1 (s.map subB))) (keyR key (k + 1))) := hid_of (by rw [stE_step (keyR key) block hb HKl.out k h9, HS.out])
            simp only [World.size_alloc] at hG5 ⊢
            rw [← hG5]
            clear hG5 HM hbX hb3 b3 b3' bel5
            go_wp2_with fail
            refine (HX.out _).mono ?_
            rintro e w6 ⟨rfl, hb6, bel6⟩
            rw [← HE.out] at hb6
            have b6 := b5.trans (bel6.mono b5.size)
            have hV6 := b5.size
            clear HX hb5 b5 bel6
            go_wp2
            go_roundw
            case rel => exact ⟨k + 1, w5.heap.size, by omega, by have := HR.out; go_num, rfl, hV6, hb6, b6⟩
            case measure => have := HR.out; simp [intOf]; omega
          · obtain rfl : k = 9 := by omega
            have hRJ : ¬ (R : Int) < 10 := by have := HR.out; omega
            have HX := hid_of (fun cb => xor16s (turnL 1 (s.map subB)) (keyR key (9 + 1)) G3 0 16 gW a1 cb w3 (turnL_length _ _) hk1 (rowAt_block hb3) (by rw [H1.out]; exact rK.out w3 b3 (9 + 1) (by omega)))
            have HE : Hid (stE (keyR key) block (9 + 1) = xorL (turnL 1 (s.map subB)) (keyR key (9 + 1))) := hid_of (by rw [show 9 + 1 = 10 from rfl, stE_last (keyR key) block hb HKl.out, HS.out])
            go_wp2_with fail
            refine (HX.out _).mono ?_
            rintro e w6 ⟨rfl, hb6, bel6⟩
            rw [← HE.out] at hb6
            have b6 := b3.trans (bel6.mono b3.size)
            have hV6 := b3.size
            clear HX hb3 b3 bel6
            go_wp2
            go_roundw
            case rel => exact ⟨9 + 1, w3.heap.size, by omega, by have := HR.out; go_num, rfl, hV6, hb6, b6⟩
            case measure => have := HR.out; simp [intOf]; omega
    · obtain rfl : k = 10 := by omega
      have HE : Hid (stE (keyR key) block 10 = encL (keyR key) block) := hid_of (by unfold stE; rw [if_neg (by omega)])
      have hbe := bel1.size
      go_wp2
      go_ret
      rw [HE.out] at hbG hsl
      refine ⟨_, rfl, ?_, bel1.trans (bel.mono hbe)⟩
      have := blk_own hbG (show w.heap.size ≤ G by omega) (by rw [hsl]; unfold maxLen; omega)
      rw [hsl] at this
      exact this
end Go.Proofs.Ythjnalbgnjbdnaa
