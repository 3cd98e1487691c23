/-
  spec.l1Unaes, spec.Aes.
-/
import Derived.Test.YthjnalbgnjbdnaaAesSpec4
namespace Go.Proofs.Ythjnalbgnjbdnaa
open Go.RowKit

set_option maxRecDepth 100000 in
set_option maxHeartbeats 4000000 in
theorem unaes_any (key block : List UInt8) (ab : Option Addr) (gW cW cb : Nat) (w : World) (hk : key.length = 16) (hb : block.length = 16) (hcW : 176 ≤ cW) (rW : RowAt w (some ⟨gW, 0, none⟩) (keysL key)) (rb : RowAt w ab block) :
    Calls Try.prog 81 #[.slice (some ⟨gW, 0, none⟩) 176 cW, .slice ab 16 cb] w fun e w' => ∃ v, e = .returned v ∧ OwnB w' w.heap.size v (decL (keyR key) block) ∧ Below w.heap.size w w' := by
  have HKl := hid_of (fun r => keyR_length key hk r)
  have HB := hid_of (fun (wx : World) (h : RowAt wx ab block) => bytes_any ab cb block wx (by omega) (by omega) h)
  rw [hb] at HB
  have hst := subTab_length
  go_enter Try.func81, Try.ntmps81
  go_wp2_with fail
  refine (subTableS_any _).mono ?_
  rintro e w1 ⟨v1, rfl, own1, bel1⟩
  obtain ⟨gT, cT, hcT, rfl, rowT⟩ := own_at own1 subTab_length (by omega)
  have rb1 := rb.below bel1
  have rW1 := rW.below bel1
  have rK : Hid (∀ (wx : World), Below w1.heap.size w1 wx → ∀ r, r < 11 → RowAt wx (some ⟨gW, 16 * r, none⟩) (keyR key r)) := hid_of (fun wx h r hr => by
    have := (rW1.below h).mid (n := 16) (16 * r)
    rwa [keysL_at key hk r hr] at this)
  have rT : Hid (∀ (wx : World), Below w1.heap.size w1 wx → ∀ i, i < 256 → wx.cell? ⟨gT, 0 + i, none⟩ = some (.int .u8 ((subTab.getD i 0).toNat : Int))) := hid_of (fun wx h i hi => by
    obtain ⟨b0, o0, e0, hc⟩ := (rowT.below h).at (show 0 < subTab.length by omega)
    cases e0
    exact hc i (by omega))
  clear own1 rowT rb rW rW1
  go_wp2_with fail
  refine (HB.out _ rb1).mono ?_
  rintro e w2 ⟨rfl, own2, bel2⟩
  have hb2 := own_blk (own_num own2 hb)
  clear HB rb1 own2
  go_wp2
  go_loopw [6, 7, 8, 34] (fun v r _ _ wr => ∃ k G : Nat, k ≤ 10 ∧ r = .int .i64 ((10 - k : Nat) : Int) ∧ v = .slice (some ⟨G, 0, none⟩) 16 16 ∧ w1.heap.size ≤ G ∧ Blk wr G 5 ((stD (keyR key) block k).map byte) ∧ Below w1.heap.size w1 wr) (fun _ r _ _ _ => (intOf r).toNat)
  case atStart => exact ⟨0, w1.heap.size, by omega, rfl, rfl, Nat.le_refl _, hb2, bel2⟩
  case round =>
    clear hb2 bel2
    obtain ⟨k, G, hk10, rfl, rfl, hVG, hbG, bel⟩ := hrel
    have hsl := stD_length (keyR key) block hb k
    by_cases hlt : k < 10
    · obtain ⟨R, hR, HR⟩ : ∃ R : Nat, 10 - k = R ∧ Hid (R = 10 - k) := ⟨_, rfl, rfl⟩
      rw [hR]
      have hRI : (1 : Int) ≤ (R : Int) := by omega
      obtain ⟨R1, hR1, HR1⟩ : ∃ r : Nat, IntKind.i64.wrap ((R : Int) - 1) = (r : Int) ∧ Hid (r = R - 1) := ⟨R - 1, by rw [IntKind.wrap_i64]; omega, rfl⟩
      obtain ⟨s, hs⟩ : ∃ s, s = stD (keyR key) block k := ⟨_, rfl⟩
      have HS := hid_of hs
      rw [← hs] at hbG hsl
      clear hR hs
      obtain ⟨a1, h1, H1⟩ : ∃ a : Nat, IntKind.i64.wrap (16 * (R : Int)) = (a : Int) ∧ Hid (a = 16 * R) := ⟨16 * R, by have := HR.out; rw [IntKind.wrap_i64]; omega, rfl⟩
      obtain ⟨a2, h2, H2⟩ : ∃ a : Nat, IntKind.i64.wrap ((a1 : Int) + 16) = (a : Int) ∧ Hid (a = 16 * R + 16) := ⟨16 * R + 16, by have := HR.out; have := H1.out; rw [IntKind.wrap_i64]; omega, rfl⟩
      have q1 : (a1 : Int) ≤ (a2 : Int) := by have := H1.out; have := H2.out; omega
      have q2 : (a2 : Int) ≤ (cW : Int) := by have := H2.out; have := HR.out; omega
      have q3 : a2 - a1 = 16 := by have := H1.out; have := H2.out; omega
      have q4 : a1 ≤ a2 := by omega
      have q5 : a2 ≤ cW := by omega
      have hkR := HKl.out R
      have HX := hid_of (fun cb => xor16s s (keyR key R) G 0 16 gW a1 cb wr hsl hkR (rowAt_block hbG) (by rw [H1.out]; exact rK.out wr bel R (by have := HR.out; omega)))
      go_wp2_with fail
      refine (HX.out _).mono ?_
      rintro e w3 ⟨rfl, hb3, bel3⟩
      have b3 := bel.trans (bel3.mono bel.size)
      have hV3 := bel.size
      obtain ⟨G3, hG3⟩ : ∃ n, n = wr.heap.size := ⟨_, rfl⟩
      rw [← hG3] at hb3 hV3 ⊢
      have hxl : (xorL s (keyR key R)).length = 16 := by rw [xorL_length _ _ (by omega), hsl]
      obtain ⟨X, hX⟩ : ∃ X, X = xorL s (keyR key R) := ⟨_, rfl⟩
      have HXX := hid_of hX
      rw [← hX] at hb3 hxl
      clear HX bel3 hbG bel hG3 hX
      by_cases h0 : k = 0
      · subst h0
        have hRJ : ¬ (R : Int) < 10 := by have := HR.out; omega
        have HSh := hid_of (shift_any 3 3 X G3 0 16 w3 (.inr rfl) rfl hxl (blk_cells hb3))
        have HE : Hid (stD (keyR key) block (0 + 1) = (turnL 3 X).map unsubB) := hid_of (by rw [show 0 + 1 = 1 from rfl, stD_first, HXX.out, HS.out, HR.out])
        go_wp2_with fail
        refine HSh.out.mono ?_
        rintro e w5 ⟨rfl, hb5, bel5⟩
        have b5 := b3.trans (bel5.mono b3.size)
        have hV5 := b3.size
        obtain ⟨G5, hG5⟩ : ∃ n, n = w3.heap.size := ⟨_, rfl⟩
        rw [← hG5] at hb5 hV5 ⊢
        obtain ⟨Z, hZ⟩ : ∃ Z, Z = turnL 3 X := ⟨_, rfl⟩
        have hZl : Z.length = 16 := by rw [hZ]; exact turnL_length _ _
        rw [← hZ] at hb5 HE
        clear HSh hb3 b3 bel5 hG5 hZ
        obtain ⟨KK, hKK⟩ : ∃ n, n = 0 + 1 := ⟨_, rfl⟩
        rw [← hKK] at HE
        have HK : Hid (KK = 0 + 1 ∧ KK ≤ 10 ∧ R = 10 - KK + 1) := hid_of ⟨hKK, by omega, by have := HR.out; omega⟩
        clear hKK
        go_wp2
        go_loopw [8, 34] (fun _ c wr => ∃ i : Nat, i ≤ 16 ∧ c = .int .i64 i ∧ Blk wr G5 5 ((parM unsubB Z i).map byte) ∧ Below w1.heap.size w1 wr) (fun _ c _ => 16 - (intOf c).toNat)
        case atStart => exact ⟨0, by omega, rfl, by rw [parM_zero]; exact hb5, b5⟩
        case round =>
          clear hb5 b5
          obtain ⟨i, hi16, rfl, hbG, bel⟩ := hrel
          have hpl := parM_length unsubB Z i (by omega)
          by_cases hil : i < 16
          · have hiI : (i : Int) < 16 := by omega
            obtain ⟨x, lx, XX⟩ : ∃ y : Nat, y < 256 ∧ Hid (y = (Z.getD i 0).toNat) := ⟨_, UInt8.toNat_lt _, rfl⟩
            have hc : wr.cell? ⟨G5, i, none⟩ = some (.int .u8 (x : Int)) := by rw [map_cell hbG i (by omega), parM_at _ _ _ (by omega), XX.out]
            have hf := hbG.free i
            have hst2 := hbG.set i (byte (unsubB (Z.getD i 0)))
            rw [← List.map_set, parM_set _ _ _ (by omega)] at hst2
            obtain ⟨y, hy, HY⟩ : ∃ y : Nat, (invTab.getD x 0).toNat = y ∧ Hid (Value.int .u8 (y : Int) = byte (unsubB (Z.getD i 0))) := ⟨_, rfl, hid_of (by rw [XX.out]; rfl)⟩
            have HU := hid_of (unsub_any gT 0 cT x wr lx (rT.out wr bel))
            rw [hy] at HU
            clear hbG hpl hy
            go_wp2_with (go_at_call 105; refine HU.out.mono ?_; rintro e w' ⟨rfl, hw'⟩; subst w')
            go_roundw
            case rel =>
              rw [HY.out]
              exact ⟨i + 1, by omega, by go_num, hst2, bel.setCell hV5 _⟩
            case measure => simp [intOf]; omega
          · obtain rfl : i = 16 := by omega
            rw [parM_all unsubB Z 16 hZl, ← HE.out] at hbG
            go_wp2
            go_roundw
            case rel => exact ⟨KK, G5, HK.out.2.1, by have := HK.out; have := HR1.out; go_num, rfl, hV5, hbG, bel⟩
            case measure => have := HK.out; have := HR1.out; simp [intOf]; omega
      · have hRJ : (R : Int) < 10 := by have := HR.out; omega
        have hbX : Blk (w3.alloc (.cells #[.int .u8 14, .int .u8 11, .int .u8 13, .int .u8 9] 5)) w3.heap.size 5 (rowD.map byte) := Blk.new w3 _ _
        have HM := hid_of (mixS_any rowD X G3 0 16 w3.heap.size 0 4 (w3.alloc (.cells #[.int .u8 14, .int .u8 11, .int .u8 13, .int .u8 9] 5)) hxl rfl (blk_cells (hb3.alloc _)) (blk_cells hbX))
        have b3' := b3.alloc b3.size (.cells #[.int .u8 14, .int .u8 11, .int .u8 13, .int .u8 9] 5)
        go_wp2_with fail
        refine HM.out.mono ?_
        rintro e w4 ⟨rfl, hb4, bel4⟩
        have b4 := b3'.trans (bel4.mono b3'.size)
        have hV4 := b3'.size
        obtain ⟨G4, hG4⟩ : ∃ n, n = (w3.alloc (.cells #[.int .u8 14, .int .u8 11, .int .u8 13, .int .u8 9] 5)).heap.size := ⟨_, rfl⟩
        rw [← hG4] at hb4 hV4
        have HSh := hid_of (shift_any 3 3 (mixS rowD X) G4 0 16 w4 (.inr rfl) rfl (mixS_length _ _) (blk_cells hb4))
        have HE : Hid (stD (keyR key) block (k + 1) = (turnL 3 (mixS rowD X)).map unsubB) := hid_of (by rw [stD_step (keyR key) block HKl.out k (by omega), HXX.out, HS.out, HR.out])
        simp only [World.size_alloc] at hG4 ⊢
        rw [← hG4]
        clear hG4 HM hbX hb3 b3 b3' bel4
        go_wp2_with fail
        refine HSh.out.mono ?_
        rintro e w5 ⟨rfl, hb5, bel5⟩
        have b5 := b4.trans (bel5.mono b4.size)
        have hV5 := b4.size
        obtain ⟨G5, hG5⟩ : ∃ n, n = w4.heap.size := ⟨_, rfl⟩
        rw [← hG5] at hb5 hV5 ⊢
        obtain ⟨Z, hZ⟩ : ∃ Z, Z = turnL 3 (mixS rowD X) := ⟨_, rfl⟩
        have hZl : Z.length = 16 := by rw [hZ]; exact turnL_length _ _
        rw [← hZ] at hb5 HE
        clear HSh hb4 b4 bel5 hG5 hZ
        obtain ⟨KK, hKK⟩ : ∃ n, n = k + 1 := ⟨_, rfl⟩
        rw [← hKK] at HE
        have HK : Hid (KK = k + 1 ∧ KK ≤ 10 ∧ R = 10 - KK + 1) := hid_of ⟨hKK, by omega, by have := HR.out; omega⟩
        clear hKK
        go_wp2
        go_loopw [8, 34] (fun _ c wr => ∃ i : Nat, i ≤ 16 ∧ c = .int .i64 i ∧ Blk wr G5 5 ((parM unsubB Z i).map byte) ∧ Below w1.heap.size w1 wr) (fun _ c _ => 16 - (intOf c).toNat)
        case atStart => exact ⟨0, by omega, rfl, by rw [parM_zero]; exact hb5, b5⟩
        case round =>
          clear hb5 b5
          obtain ⟨i, hi16, rfl, hbG, bel⟩ := hrel
          have hpl := parM_length unsubB Z i (by omega)
          by_cases hil : i < 16
          · have hiI : (i : Int) < 16 := by omega
            obtain ⟨x, lx, XX⟩ : ∃ y : Nat, y < 256 ∧ Hid (y = (Z.getD i 0).toNat) := ⟨_, UInt8.toNat_lt _, rfl⟩
            have hc : wr.cell? ⟨G5, i, none⟩ = some (.int .u8 (x : Int)) := by rw [map_cell hbG i (by omega), parM_at _ _ _ (by omega), XX.out]
            have hf := hbG.free i
            have hst2 := hbG.set i (byte (unsubB (Z.getD i 0)))
            rw [← List.map_set, parM_set _ _ _ (by omega)] at hst2
            obtain ⟨y, hy, HY⟩ : ∃ y : Nat, (invTab.getD x 0).toNat = y ∧ Hid (Value.int .u8 (y : Int) = byte (unsubB (Z.getD i 0))) := ⟨_, rfl, hid_of (by rw [XX.out]; rfl)⟩
            have HU := hid_of (unsub_any gT 0 cT x wr lx (rT.out wr bel))
            rw [hy] at HU
            clear hbG hpl hy
            go_wp2_with (go_at_call 105; refine HU.out.mono ?_; rintro e w' ⟨rfl, hw'⟩; subst w')
            go_roundw
            case rel =>
              rw [HY.out]
              exact ⟨i + 1, by omega, by go_num, hst2, bel.setCell hV5 _⟩
            case measure => simp [intOf]; omega
          · obtain rfl : i = 16 := by omega
            rw [parM_all unsubB Z 16 hZl, ← HE.out] at hbG
            go_wp2
            go_roundw
            case rel => exact ⟨KK, G5, HK.out.2.1, by have := HK.out; have := HR1.out; go_num, rfl, hV5, hbG, bel⟩
            case measure => have := HK.out; have := HR1.out; simp [intOf]; omega
    · obtain rfl : k = 10 := by omega
      have hc16 : (16 : Int) ≤ (cW : Int) := by omega
      have hk0 := HKl.out 0
      have HX := hid_of (fun cb => xor16s (stD (keyR key) block 10) (keyR key 0) G 0 16 gW 0 cb wr hsl hk0 (rowAt_block hbG) (rK.out wr bel 0 (by omega)))
      have HE : Hid (xorL (stD (keyR key) block 10) (keyR key 0) = decL (keyR key) block) := hid_of (by unfold stD; rw [if_neg (by omega)]; rfl)
      have hdl := decL_length (keyR key) block HKl.out
      have hbe := bel1.size
      have hsz := bel.size
      go_wp2_with fail
      refine (HX.out _).mono ?_
      rintro e w3 ⟨rfl, hb3, bel3⟩
      rw [HE.out] at hb3
      go_wp2_with fail
      go_ret
      refine ⟨_, rfl, ?_, bel1.trans ((bel.trans (bel3.mono hsz)).mono hbe)⟩
      have := blk_own hb3 (show w.heap.size ≤ wr.heap.size by omega) (by rw [hdl]; unfold maxLen; omega)
      rw [hdl] at this
      exact this

set_option maxRecDepth 100000 in
set_option maxHeartbeats 1000000 in
theorem aesD_spec (key block : List UInt8) (ak : Option Addr) (bb bo ck cb : Nat) (w : World) (hk : key.length = 16) (hb : block.length = 16) (rk : RowAt w ak key) (rb : RowAt w (some ⟨bb, bo, none⟩) block) :
    Calls Try.prog 41 #[.slice ak 16 ck, .slice (some ⟨bb, bo, none⟩) 16 cb, .bool true] w fun e w' => ∃ v, e = .returned v ∧ OwnB w' w.heap.size v (decL (keyR key) block) ∧ Below w.heap.size w w' := by
  have HW := hid_of (words_any ak ck key w hk rk)
  go_enter Try.func41, Try.ntmps41
  go_wp2_with fail
  refine HW.out.mono ?_
  rintro e w1 ⟨v1, rfl, own1, bel1⟩
  obtain ⟨gW, cW, hcW, rfl, rW⟩ := own_at own1 (keysL_length key hk) (by omega)
  have rb1 := rb.below bel1
  have HU := hid_of (unaes_any key block (some ⟨bb, bo, none⟩) gW cW cb w1 hk hb hcW rW rb1)
  clear HW own1
  go_wp2_with fail
  refine HU.out.mono ?_
  rintro e w2 ⟨v2, rfl, own2, bel2⟩
  go_wp2_with fail
  go_ret
  exact ⟨_, rfl, own2.mono bel1.size, bel1.trans (bel2.mono bel1.size)⟩

set_option maxHeartbeats 400000 in
theorem aesS_wrong (n m : Nat) (ak ab : Option Addr) (ck cb : Nat) (dec : Bool) (w : World) (hn : n ≤ 1048576) (_hm : m ≤ 1048576) (h : ¬ (n = 16 ∧ m = 16)) :
    Calls Try.prog 41 #[.slice ak n ck, .slice ab m cb, .bool dec] w fun e w' => e = .returned (.slice none 0 0) ∧ w' = w := by
  by_cases h1 : n = 16
  · have h2 : ((m : Int) != 16) = true := by rw [bne_iff_ne]; omega
    subst h1
    go_enter Try.func41, Try.ntmps41
    go_wp2
    go_ret
    exact ⟨rfl, rfl⟩
  · have h2 : ((n : Int) != 16) = true := by rw [bne_iff_ne]; omega
    go_enter Try.func41, Try.ntmps41
    go_wp2
    go_ret
    exact ⟨rfl, rfl⟩

/-- What Aes answers, whatever it is given. -/
def aesL (key block : List UInt8) (dec : Bool) : List UInt8 := if key.length = 16 ∧ block.length = 16 then (if dec then decL (keyR key) block else encL (keyR key) block) else []
theorem aesL_length (key block : List UInt8) (dec : Bool) : (aesL key block dec).length ≤ 16 := by
  unfold aesL
  split
  · rename_i h
    split
    · rw [decL_length _ _ (keyR_length key h.1)]; exact Nat.le_refl _
    · rw [encL_length _ _ (keyR_length key h.1)]; exact Nat.le_refl _
  · simp

theorem aesS_all (key block : List UInt8) (dec : Bool) (ak ab : Option Addr) (ck cb : Nat) (w : World) (hn : key.length ≤ 1048576) (hm : block.length ≤ 1048576) (_hck : key.length ≤ ck) (_hcb : block.length ≤ cb) (rk : RowAt w ak key) (rb : RowAt w ab block) :
    Calls Try.prog 41 #[.slice ak key.length ck, .slice ab block.length cb, .bool dec] w fun e w' => ∃ v, e = .returned v ∧ Own w' w.heap.size v (aesL key block dec) ∧ Below w.heap.size w w' := by
  unfold aesL
  by_cases h : key.length = 16 ∧ block.length = 16
  · rw [if_pos h, h.1, h.2]
    obtain ⟨bb, bo, rfl, -⟩ := rb.at (show 0 < block.length by omega)
    cases dec
    · refine (aesE_spec key block ak bb bo ck cb w h.1 h.2 rk rb).mono ?_
      rintro e w' ⟨v, rfl, own, bel⟩
      exact ⟨v, rfl, own.own, bel⟩
    · refine (aesD_spec key block ak bb bo ck cb w h.1 h.2 rk rb).mono ?_
      rintro e w' ⟨v, rfl, own, bel⟩
      exact ⟨v, rfl, own.own, bel⟩
  · rw [if_neg h]
    refine (aesS_wrong _ _ ak ab ck cb dec w hn hm h).mono ?_
    rintro e w' ⟨rfl, rfl⟩
    exact ⟨_, rfl, ⟨5, World.ownsRow_nil _ _ _ _⟩, Below.refl _ _⟩
end Go.Proofs.Ythjnalbgnjbdnaa
