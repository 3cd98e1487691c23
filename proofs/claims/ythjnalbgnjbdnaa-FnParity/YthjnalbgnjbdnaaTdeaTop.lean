/-
  impl: Tdea.
-/
import Derived.Test.YthjnalbgnjbdnaaTdeaCipher
namespace Go.Proofs.Ythjnalbgnjbdnaa
open Go.RowKit

theorem row_range {w : World} {b off : Nat} {bs : List UInt8} (hc : ∀ i, i < bs.length → w.cell? ⟨b, off + i, none⟩ = some (.int .u8 ((bs.getD i 0).toNat : Int))) : w.rangeAt b off (bs.map byte) := by
  intro j v hv
  obtain ⟨hj, he⟩ := List.getElem?_eq_some_iff.1 hv
  rw [List.length_map] at hj
  rw [hc j hj, ← he]
  simp [byte, hj]
theorem range_below {w w' : World} {b off : Nat} {cs : List Value} (h : w.rangeAt b off cs) (hb : Below w.heap.size w w') : w'.rangeAt b off cs := by
  intro j v hv
  rw [hb.cell (p := ⟨b, off + j, none⟩) (World.block_lt_of_cell? w _ (h j v hv))]
  exact h j v hv
theorem range_alloc {w : World} {b off : Nat} {cs : List Value} (h : w.rangeAt b off cs) (o : Obj) : (w.alloc o).rangeAt b off cs := range_below h ((Below.refl _ _).alloc (Nat.le_refl _) o)
theorem RowAt.range {w : World} {ao : Option Addr} {bs : List UInt8} (h : RowAt w ao bs) (h0 : 0 < bs.length) : ∃ b off, ao = some ⟨b, off, none⟩ ∧ w.rangeAt b off (bs.map byte) := by
  obtain ⟨b, off, rfl, hc⟩ := h.at h0
  exact ⟨b, off, rfl, row_range hc⟩

/-- What Tdea answers. -/
def tdeaN (key block : List UInt8) (dec : Bool) : List UInt8 :=
  if dec then decN (key.take 8) (encN (key.drop 8) (decN (key.take 8) block)) else encN (key.take 8) (decN (key.drop 8) (encN (key.take 8) block))
theorem tdeaN_enc (key block : List UInt8) : tdeaN key block false = encN (key.take 8) (decN (key.drop 8) (encN (key.take 8) block)) := by unfold tdeaN; rw [if_neg (by decide)]
theorem tdeaN_dec (key block : List UInt8) : tdeaN key block true = decN (key.take 8) (encN (key.drop 8) (decN (key.take 8) block)) := by unfold tdeaN; rw [if_pos rfl]
theorem tdeaN_length (key block : List UInt8) (dec : Bool) : (tdeaN key block dec).length = 8 := by
  cases dec
  · rw [tdeaN_enc]; exact encN_length _ _
  · rw [tdeaN_dec]; exact decN_length _ _

theorem tdea_run (key block : List UInt8) (dec : Bool) (S : Nat) (w : World) (h8 : block.length = 8) (hS : Blk w S 93 mergedCells) :
    Calls Try.prog (if dec then 59 else 58) #[.agg (tdeaCells (key.take 8) (key.drop 8) S).toArray, .agg (block.map byte).toArray] w fun e w' => e = .returned (.agg ((tdeaN key block dec).map byte).toArray) ∧ Below w.heap.size w w' := by
  cases dec
  · rw [tdeaN_enc]; exact tdea_encrypt _ _ _ S w h8 hS
  · rw [tdeaN_dec]; exact tdea_decrypt _ _ _ S w h8 hS

set_option maxRecDepth 100000 in
set_option maxHeartbeats 1000000 in
theorem tdea_some (key block : List UInt8) (kb ko bb bo ck cb : Nat) (dec : Bool) (w : World) (hk : key.length = 16) (hb : block.length = 8) (rk : w.rangeAt kb ko (key.map byte)) (rb : w.rangeAt bb bo (block.map byte)) :
    Calls Try.prog 24 #[.slice (some ⟨kb, ko, none⟩) 16 ck, .slice (some ⟨bb, bo, none⟩) 8 cb, .bool dec] w fun e w' =>
      ∃ v, e = .returned v ∧ Own w' w.heap.size v (tdeaN key block dec) ∧ Below w.heap.size w w' := by
  have hz := (zero_of_info Try.zero55).1
  have hz2 := (zero_of_info Try.zero50).1
  have hkl : (key.map byte).length = 16 := by rw [List.length_map, hk]
  have hbl : (block.map byte).length = 8 := by rw [List.length_map, hb]
  have har := fun c (wx : World) => run_arrayAt (P := Try.prog) (w := wx) 57 5 16 (some ⟨kb, ko, none⟩) 16 c Try.underlying57 (Nat.le_refl _)
  have har2 := fun c (wx : World) => run_arrayAt (P := Try.prog) (w := wx) 50 5 8 (some ⟨bb, bo, none⟩) 8 c Try.underlying50 (Nat.le_refl _)
  have HR := fun S wx => tdea_run key block dec S wx hb
  have hnl : ((tdeaN key block dec).map byte).length = 8 := by rw [List.length_map, tdeaN_length]
  have hnl2 := tdeaN_length key block dec
  obtain ⟨N, hN⟩ : ∃ N, N = tdeaN key block dec := ⟨_, rfl⟩
  rw [← hN] at HR hnl hnl2 ⊢
  clear hN
  cases dec
  · replace HR : ∀ S wx, Blk wx S 93 mergedCells → Calls Try.prog 58 #[.agg (tdeaCells (key.take 8) (key.drop 8) S).toArray, .agg (block.map byte).toArray] wx fun e w' => e = .returned (.agg (N.map byte).toArray) ∧ Below wx.heap.size wx w' := HR
    go_enter Try.func24, Try.ntmps24
    go_wp2_with (first
      | (refine wpList_load_mid rfl 57 _ rfl kb ko rfl (key.map byte) _ rk Try.underlying57 rfl (by rw [hkl]; kernel_rfl) ?_)
      | (go_at_call 57; refine (newTdea_any key _ hk).mono ?_; rintro e w1 ⟨S, rfl, hS1, hS2, bel1⟩; have htl := tdeaCells_length (key.take 8) (key.drop 8) S)
      | (refine store_blk rfl 55 _ _ rfl _ rfl rfl (Blk.new w1 _ _) (by rw [htl]; kernel_rfl) (by rw [htl]; exact zeroTdea_length) (allOne_tdea _ _ _) ?_; intro w2 hb2 hg2 hs2)
      | (refine load_blk rfl 55 _ rfl _ rfl hb2 Try.underlying55 rfl (by rw [htl]; kernel_rfl) ?_)
      | (go_at_call 54; refine (direction_any _ _ _ _).mono ?_; rintro e wd ⟨rfl, rfl⟩; have l1 := bel1.size; have b2 : Below w.heap.size w wd := (((bel1.alloc l1 _).grown hg2 (by simp; omega) (by intro k hk; cases hk; omega))); have lS := hS2.lt; have mS : Blk wd S 93 mergedCells := ((hS2.alloc _).grown hg2 (by simp; omega)); have rb2 := range_below rb b2)
      | (refine wpList_load_mid rfl 50 _ rfl bb bo rfl (block.map byte) _ rb2 Try.underlying50 rfl (by rw [hbl]; kernel_rfl) ?_)
      | (go_at_call 58; refine (HR S _ mS).mono ?_; rintro e w5 ⟨rfl, bel5⟩)
      | (go_at_call 59; refine (HR S _ mS).mono ?_; rintro e w5 ⟨rfl, bel5⟩)
      | (refine store_blk rfl 50 _ _ rfl _ rfl rfl (Blk.new w5 _ _) (by rw [hnl]; kernel_rfl) (by rw [hnl]; exact zerosOf_length _ _) (allOne_bytes _) ?_; intro w6 hb6 hg6 hs6))
    go_ret
    have l3 := b2.size
    have l5 := bel5.size
    exact ⟨_, rfl, own_of_blk hb6 (by omega) hnl2 (by unfold maxLen; omega), ((b2.trans (bel5.mono l3)).alloc (by omega) _).grown hg6 (by simp; omega) (by intro k hk; cases hk; omega)⟩
  · replace HR : ∀ S wx, Blk wx S 93 mergedCells → Calls Try.prog 59 #[.agg (tdeaCells (key.take 8) (key.drop 8) S).toArray, .agg (block.map byte).toArray] wx fun e w' => e = .returned (.agg (N.map byte).toArray) ∧ Below wx.heap.size wx w' := HR
    go_enter Try.func24, Try.ntmps24
    go_wp2_with (first
      | (refine wpList_load_mid rfl 57 _ rfl kb ko rfl (key.map byte) _ rk Try.underlying57 rfl (by rw [hkl]; kernel_rfl) ?_)
      | (go_at_call 57; refine (newTdea_any key _ hk).mono ?_; rintro e w1 ⟨S, rfl, hS1, hS2, bel1⟩; have htl := tdeaCells_length (key.take 8) (key.drop 8) S)
      | (refine store_blk rfl 55 _ _ rfl _ rfl rfl (Blk.new w1 _ _) (by rw [htl]; kernel_rfl) (by rw [htl]; exact zeroTdea_length) (allOne_tdea _ _ _) ?_; intro w2 hb2 hg2 hs2)
      | (refine load_blk rfl 55 _ rfl _ rfl hb2 Try.underlying55 rfl (by rw [htl]; kernel_rfl) ?_)
      | (go_at_call 54; refine (direction_any _ _ _ _).mono ?_; rintro e wd ⟨rfl, rfl⟩; have l1 := bel1.size; have b2 : Below w.heap.size w wd := (((bel1.alloc l1 _).grown hg2 (by simp; omega) (by intro k hk; cases hk; omega))); have lS := hS2.lt; have mS : Blk wd S 93 mergedCells := ((hS2.alloc _).grown hg2 (by simp; omega)); have rb2 := range_below rb b2)
      | (refine wpList_load_mid rfl 50 _ rfl bb bo rfl (block.map byte) _ rb2 Try.underlying50 rfl (by rw [hbl]; kernel_rfl) ?_)
      | (go_at_call 58; refine (HR S _ mS).mono ?_; rintro e w5 ⟨rfl, bel5⟩)
      | (go_at_call 59; refine (HR S _ mS).mono ?_; rintro e w5 ⟨rfl, bel5⟩)
      | (refine store_blk rfl 50 _ _ rfl _ rfl rfl (Blk.new w5 _ _) (by rw [hnl]; kernel_rfl) (by rw [hnl]; exact zerosOf_length _ _) (allOne_bytes _) ?_; intro w6 hb6 hg6 hs6))
    go_ret
    have l3 := b2.size
    have l5 := bel5.size
    exact ⟨_, rfl, own_of_blk hb6 (by omega) hnl2 (by unfold maxLen; omega), ((b2.trans (bel5.mono l3)).alloc (by omega) _).grown hg6 (by simp; omega) (by intro k hk; cases hk; omega)⟩

set_option maxHeartbeats 400000 in
theorem tdea_wrong (n m : Nat) (ak ab : Option Addr) (ck cb : Nat) (dec : Bool) (w : World) (hn : n ≤ 1048576) (_hm : m ≤ 1048576) (h : ¬ (n = 16 ∧ m = 8)) :
    Calls Try.prog 24 #[.slice ak n ck, .slice ab m cb, .bool dec] w fun e w' => e = .returned (.slice none 0 0) ∧ w' = w := by
  by_cases h1 : n = 16
  · have h2 : ((m : Int) != 8) = true := by rw [bne_iff_ne]; omega
    subst h1
    go_enter Try.func24, Try.ntmps24
    go_wp2
    go_ret
    exact ⟨rfl, rfl⟩
  · have h2 : ((n : Int) != 16) = true := by rw [bne_iff_ne]; omega
    go_enter Try.func24, Try.ntmps24
    go_wp2
    go_ret
    exact ⟨rfl, rfl⟩

/-- What impl.Tdea answers, whatever it is given. -/
def tdeaL (key block : List UInt8) (dec : Bool) : List UInt8 := if key.length = 16 ∧ block.length = 8 then tdeaN key block dec else []

theorem tdea_all (key block : List UInt8) (dec : Bool) (ak ab : Option Addr) (ck cb : Nat) (w : World) (hn : key.length ≤ 1048576) (hm : block.length ≤ 1048576) (_hc : key.length ≤ ck) (_hd : block.length ≤ cb) (rk : RowAt w ak key) (rb : RowAt w ab block) :
    Calls Try.prog 24 #[.slice ak key.length ck, .slice ab block.length cb, .bool dec] w fun e w' =>
      ∃ v, e = .returned v ∧ Own w' w.heap.size v (tdeaL key block dec) ∧ Below w.heap.size w w' := by
  unfold tdeaL
  by_cases h : key.length = 16 ∧ block.length = 8
  · rw [if_pos h]
    obtain ⟨kb, ko, rfl, hk⟩ := rk.range (by omega)
    obtain ⟨bb, bo, rfl, hb⟩ := rb.range (by omega)
    have := tdea_some key block kb ko bb bo ck cb dec w h.1 h.2 hk hb
    rw [h.1, h.2]
    exact this
  · rw [if_neg h]
    refine (tdea_wrong _ _ ak ab ck cb dec w hn hm h).mono ?_
    rintro e w' ⟨rfl, rfl⟩
    exact ⟨_, rfl, ⟨5, World.ownsRow_nil _ _ _ _⟩, Below.refl _ _⟩
end Go.Proofs.Ythjnalbgnjbdnaa
