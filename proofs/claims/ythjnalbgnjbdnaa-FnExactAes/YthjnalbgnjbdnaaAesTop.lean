/-
  impl.Aes.
-/
import Derived.Test.YthjnalbgnjbdnaaAesDec
import Derived.Test.YthjnalbgnjbdnaaAesSpec5
namespace Go.Proofs.Ythjnalbgnjbdnaa
open Go.RowKit

set_option maxHeartbeats 400000 in
theorem direction16 (a b : Value) (dec : Bool) (w : World) :
    Calls Try.prog 86 #[a, b, .bool dec] w fun e w' => e = .returned (if dec then b else a) ∧ w' = w := by
  cases dec
  all_goals
    go_enter Try.func86, Try.ntmps86
    go_wp2
    go_ret
    exact ⟨rfl, rfl⟩

def aesN (key block : List UInt8) (dec : Bool) : List UInt8 := if dec then decL (keyR key) block else encL (keyR key) block
theorem aesN_length (key block : List UInt8) (dec : Bool) (hk : key.length = 16) : (aesN key block dec).length = 16 := by
  unfold aesN
  cases dec
  · exact encL_length _ _ (keyR_length key hk)
  · exact decL_length _ _ (keyR_length key hk)
theorem aes_run (key block : List UInt8) (dec : Bool) (S1 S2 S3 S4 : Nat) (w : World) (hk : key.length = 16) (hb : block.length = 16) (h1 : Blk w S1 103 (subTab.map byte)) (h2 : Blk w S2 103 (invTab.map byte)) (h3 : Blk w S3 109 (tabCells mixT)) (h4 : Blk w S4 109 (tabCells unmixT)) :
    Calls Try.prog (if dec then 88 else 87) #[.agg (aesCells ((keysUpto key 11).map byte) S1 S2 S3 S4).toArray, .agg (block.map byte).toArray] w fun e w' => e = .returned (.agg ((aesN key block dec).map byte).toArray) ∧ Below w.heap.size w w' := by
  cases dec
  · exact aes_encrypt key block S1 S2 S3 S4 w hk hb h1 h3
  · exact aes_decrypt key block S1 S2 S3 S4 w hk hb h2 h4

structure Tabs (w : World) (S1 S2 S3 S4 : Nat) : Prop where
  t1 : Blk w S1 103 (subTab.map byte)
  t2 : Blk w S2 103 (invTab.map byte)
  t3 : Blk w S3 109 (tabCells mixT)
  t4 : Blk w S4 109 (tabCells unmixT)
theorem Tabs.below {w w' : World} {S1 S2 S3 S4 : Nat} (h : Tabs w S1 S2 S3 S4) (hb : Below w.heap.size w w') : Tabs w' S1 S2 S3 S4 := ⟨h.t1.below hb h.t1.lt, h.t2.below hb h.t2.lt, h.t3.below hb h.t3.lt, h.t4.below hb h.t4.lt⟩

set_option maxRecDepth 100000 in
set_option maxHeartbeats 1000000 in
theorem aes_some (key block : List UInt8) (kb ko bb bo ck cb : Nat) (dec : Bool) (w : World) (hk : key.length = 16) (hb : block.length = 16) (rk : w.rangeAt kb ko (key.map byte)) (rb : w.rangeAt bb bo (block.map byte)) :
    Calls Try.prog 42 #[.slice (some ⟨kb, ko, none⟩) 16 ck, .slice (some ⟨bb, bo, none⟩) 16 cb, .bool dec] w fun e w' =>
      ∃ v, e = .returned v ∧ Own w' w.heap.size v (aesN key block dec) ∧ Below w.heap.size w w' := by
  have hz := (zero_of_info Try.zero86).1
  have hz2 := (zero_of_info Try.z16).1
  have hkl : (key.map byte).length = 16 := by rw [List.length_map, hk]
  have hbl : (block.map byte).length = 16 := by rw [List.length_map, hb]
  have hks : ((keysUpto key 11).map byte).length = 176 := by rw [List.length_map, keysUpto_length key hk]
  have har := fun c (wx : World) => run_arrayAt (P := Try.prog) (w := wx) 57 5 16 (some ⟨kb, ko, none⟩) 16 c Try.underlying57 (Nat.le_refl _)
  have har2 := fun c (wx : World) => run_arrayAt (P := Try.prog) (w := wx) 57 5 16 (some ⟨bb, bo, none⟩) 16 c Try.underlying57 (Nat.le_refl _)
  have HR := hid_of' (fun S1 S2 S3 S4 wx (h : Tabs wx S1 S2 S3 S4) => aes_run key block dec S1 S2 S3 S4 wx hk hb h.t1 h.t2 h.t3 h.t4)
  have HNew := hid_of' (fun wx => newAes_any key wx hk)
  have hnl2 := aesN_length key block dec hk
  obtain ⟨N, hN⟩ : ∃ N, N = aesN key block dec := ⟨_, rfl⟩
  rw [← hN] at HR hnl2 ⊢
  have hnl : (N.map byte).length = 16 := by rw [List.length_map, hnl2]
  clear hN
  cases dec
  · replace HR : Hid (∀ S1 S2 S3 S4 wx, Tabs wx S1 S2 S3 S4 → Calls Try.prog 87 #[.agg (aesCells ((keysUpto key 11).map byte) S1 S2 S3 S4).toArray, .agg (block.map byte).toArray] wx fun e w' => e = .returned (.agg (N.map byte).toArray) ∧ Below wx.heap.size wx w') := HR
    go_enter Try.func42, Try.ntmps42
    go_wp2_with (first
      | (refine wpList_load_mid rfl 57 _ rfl kb ko rfl (key.map byte) _ rk Try.underlying57 rfl (by rw [hkl]; kernel_rfl) ?_)
      | (go_at_call 85; refine (HNew.out _).mono ?_; rintro e w1 ⟨S1, S2, S3, S4, rfl, g1, g2, g3, g4, bel1⟩; have htl := aesCells_length ((keysUpto key 11).map byte) S1 S2 S3 S4 hks)
      | (refine store_blk rfl 86 _ _ rfl _ rfl rfl (Blk.new w1 _ _) (by rw [htl]; kernel_rfl) (by rw [htl]; exact zeroAes_length) (allOne_aes _ _ _ _ _) ?_; intro w2 hb2 hg2 hs2)
      | (refine load_blk rfl 86 _ rfl _ rfl hb2 Try.underlying86 rfl (by rw [htl]; kernel_rfl) ?_)
      | (go_at_call 86; refine (direction16 _ _ _ _).mono ?_; rintro e wd ⟨rfl, rfl⟩; have l1 := bel1.size; have bx : Below w1.heap.size w1 wd := ((((Below.refl _ _).alloc (Nat.le_refl _) _).grown hg2 (by simp) (by intro k hk; cases hk; exact Nat.le_refl _))); have b2 : Below w.heap.size w wd := (bel1.trans (bx.mono l1)); have mS : Tabs wd S1 S2 S3 S4 := (Tabs.below ⟨g1, g2, g3, g4⟩ bx); have rb2 := range_below rb b2)
      | (refine wpList_load_mid rfl 57 _ rfl bb bo rfl (block.map byte) _ rb2 Try.underlying57 rfl (by rw [hbl]; kernel_rfl) ?_)
      | (go_at_call 87; refine (HR.out S1 S2 S3 S4 _ mS).mono ?_; rintro e w5 ⟨rfl, bel5⟩)
      | (refine store_blk rfl 57 _ _ rfl _ rfl rfl (Blk.new w5 _ _) (by rw [hnl]; kernel_rfl) (by rw [hnl]; exact zerosOf_length _ _) (allOne_bytes _) ?_; intro w6 hb6 hg6 hs6))
    go_ret
    have l3 := b2.size
    have l5 := bel5.size
    exact ⟨_, rfl, own_of_blk hb6 (by omega) hnl2 (by unfold maxLen; omega), ((b2.trans (bel5.mono l3)).alloc (by omega) _).grown hg6 (by simp; omega) (by intro k hk; cases hk; omega)⟩
  · replace HR : Hid (∀ S1 S2 S3 S4 wx, Tabs wx S1 S2 S3 S4 → Calls Try.prog 88 #[.agg (aesCells ((keysUpto key 11).map byte) S1 S2 S3 S4).toArray, .agg (block.map byte).toArray] wx fun e w' => e = .returned (.agg (N.map byte).toArray) ∧ Below wx.heap.size wx w') := HR
    go_enter Try.func42, Try.ntmps42
    go_wp2_with (first
      | (refine wpList_load_mid rfl 57 _ rfl kb ko rfl (key.map byte) _ rk Try.underlying57 rfl (by rw [hkl]; kernel_rfl) ?_)
      | (go_at_call 85; refine (HNew.out _).mono ?_; rintro e w1 ⟨S1, S2, S3, S4, rfl, g1, g2, g3, g4, bel1⟩; have htl := aesCells_length ((keysUpto key 11).map byte) S1 S2 S3 S4 hks)
      | (refine store_blk rfl 86 _ _ rfl _ rfl rfl (Blk.new w1 _ _) (by rw [htl]; kernel_rfl) (by rw [htl]; exact zeroAes_length) (allOne_aes _ _ _ _ _) ?_; intro w2 hb2 hg2 hs2)
      | (refine load_blk rfl 86 _ rfl _ rfl hb2 Try.underlying86 rfl (by rw [htl]; kernel_rfl) ?_)
      | (go_at_call 86; refine (direction16 _ _ _ _).mono ?_; rintro e wd ⟨rfl, rfl⟩; have l1 := bel1.size; have bx : Below w1.heap.size w1 wd := ((((Below.refl _ _).alloc (Nat.le_refl _) _).grown hg2 (by simp) (by intro k hk; cases hk; exact Nat.le_refl _))); have b2 : Below w.heap.size w wd := (bel1.trans (bx.mono l1)); have mS : Tabs wd S1 S2 S3 S4 := (Tabs.below ⟨g1, g2, g3, g4⟩ bx); have rb2 := range_below rb b2)
      | (refine wpList_load_mid rfl 57 _ rfl bb bo rfl (block.map byte) _ rb2 Try.underlying57 rfl (by rw [hbl]; kernel_rfl) ?_)
      | (go_at_call 88; refine (HR.out S1 S2 S3 S4 _ mS).mono ?_; rintro e w5 ⟨rfl, bel5⟩)
      | (refine store_blk rfl 57 _ _ rfl _ rfl rfl (Blk.new w5 _ _) (by rw [hnl]; kernel_rfl) (by rw [hnl]; exact zerosOf_length _ _) (allOne_bytes _) ?_; intro w6 hb6 hg6 hs6))
    go_ret
    have l3 := b2.size
    have l5 := bel5.size
    exact ⟨_, rfl, own_of_blk hb6 (by omega) hnl2 (by unfold maxLen; omega), ((b2.trans (bel5.mono l3)).alloc (by omega) _).grown hg6 (by simp; omega) (by intro k hk; cases hk; omega)⟩

set_option maxHeartbeats 400000 in
theorem aes_wrong (n m : Nat) (ak ab : Option Addr) (ck cb : Nat) (dec : Bool) (w : World) (hn : n ≤ 1048576) (_hm : m ≤ 1048576) (h : ¬ (n = 16 ∧ m = 16)) :
    Calls Try.prog 42 #[.slice ak n ck, .slice ab m cb, .bool dec] w fun e w' => e = .returned (.slice none 0 0) ∧ w' = w := by
  by_cases h1 : n = 16
  · have h2 : ((m : Int) != 16) = true := by rw [bne_iff_ne]; omega
    subst h1
    go_enter Try.func42, Try.ntmps42
    go_wp2
    go_ret
    exact ⟨rfl, rfl⟩
  · have h2 : ((n : Int) != 16) = true := by rw [bne_iff_ne]; omega
    go_enter Try.func42, Try.ntmps42
    go_wp2
    go_ret
    exact ⟨rfl, rfl⟩

theorem aes_all (key block : List UInt8) (dec : Bool) (ak ab : Option Addr) (ck cb : Nat) (w : World) (hn : key.length ≤ 1048576) (hm : block.length ≤ 1048576) (_hc : key.length ≤ ck) (_hd : block.length ≤ cb) (rk : RowAt w ak key) (rb : RowAt w ab block) :
    Calls Try.prog 42 #[.slice ak key.length ck, .slice ab block.length cb, .bool dec] w fun e w' =>
      ∃ v, e = .returned v ∧ Own w' w.heap.size v (aesL key block dec) ∧ Below w.heap.size w w' := by
  unfold aesL
  by_cases h : key.length = 16 ∧ block.length = 16
  · rw [if_pos h]
    obtain ⟨kb, ko, rfl, hk⟩ := rk.range (by omega)
    obtain ⟨bb, bo, rfl, hb⟩ := rb.range (by omega)
    have := aes_some key block kb ko bb bo ck cb dec w h.1 h.2 hk hb
    rw [h.1, h.2]
    exact this
  · rw [if_neg h]
    refine (aes_wrong _ _ ak ab ck cb dec w hn hm h).mono ?_
    rintro e w' ⟨rfl, rfl⟩
    exact ⟨_, rfl, ⟨5, World.ownsRow_nil _ _ _ _⟩, Below.refl _ _⟩
theorem aesL_le (key block : List UInt8) (dec : Bool) (_ : key.length ≤ 1048576) (_ : block.length ≤ 1048576) : (aesL key block dec).length ≤ 1048576 := Nat.le_trans (aesL_length key block dec) (by omega)
end Go.Proofs.Ythjnalbgnjbdnaa
