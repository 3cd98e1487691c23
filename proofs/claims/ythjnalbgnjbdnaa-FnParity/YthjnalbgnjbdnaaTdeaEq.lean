/-
  impl.Tdea and spec.Tdea answer alike.
-/
import Derived.Test.YthjnalbgnjbdnaaTdeaTop
import Derived.Test.YthjnalbgnjbdnaaSpecTdea
namespace Go.Proofs.Ythjnalbgnjbdnaa
open Go.RowKit

theorem take8 {key : List UInt8} (h : key.length = 16) : (key.take 8).length = 8 := by rw [List.length_take, h]; rfl
theorem drop8 {key : List UInt8} (h : key.length = 16) : (key.drop 8).length = 8 := by rw [List.length_drop, h]
theorem tdea_eq (key block : List UInt8) (dec : Bool) (hk : key.length = 16) (hb : block.length = 8) : tdeaN key block dec = tdeaS key block dec := by
  have h1 := take8 hk
  have h2 := drop8 hk
  cases dec
  · rw [tdeaN_enc, enc_eq _ _ h1 hb, dec_eq _ _ h2 (desS_length _ _ _), enc_eq _ _ h1 (desS_length _ _ _)]; rfl
  · rw [tdeaN_dec, dec_eq _ _ h1 hb, enc_eq _ _ h2 (desS_length _ _ _), dec_eq _ _ h1 (desS_length _ _ _)]; rfl

theorem tdea_spec_ok (key block : List UInt8) (dec : Bool) (ak ab : Option Addr) (ck cb : Nat) (w : World) (hk : key.length = 16) (hb : block.length = 8) (hc : key.length ≤ ck) (rk : RowAt w ak key) (rb : RowAt w ab block) :
    Calls Try.prog 23 #[.slice ak key.length ck, .slice ab block.length cb, .bool dec] w fun e w' =>
      ∃ v, e = .returned v ∧ OwnB w' w.heap.size v (tdeaN key block dec) ∧ Below w.heap.size w w' := by
  rw [tdea_eq key block dec hk hb]
  obtain ⟨kb, ko, rfl, -⟩ := rk.at (k := 0) (by omega)
  have := tdea_spec kb ko ck cb ab key block dec w hk (by omega) hb rk rb
  rw [hk, hb]
  exact this
theorem specTdea_all (key block : List UInt8) (dec : Bool) (ak ab : Option Addr) (ck cb : Nat) (w : World) (hn : key.length ≤ 1048576) (hm : block.length ≤ 1048576) (hc : key.length ≤ ck) (_hd : block.length ≤ cb) (rk : RowAt w ak key) (rb : RowAt w ab block) :
    Calls Try.prog 23 #[.slice ak key.length ck, .slice ab block.length cb, .bool dec] w fun e w' =>
      ∃ v, e = .returned v ∧ Own w' w.heap.size v (tdeaL key block dec) ∧ Below w.heap.size w w' := by
  unfold tdeaL
  by_cases h : key.length = 16 ∧ block.length = 8
  · rw [if_pos h]
    refine (tdea_spec_ok key block dec ak ab ck cb w h.1 h.2 hc rk rb).mono ?_
    rintro e w' ⟨v, rfl, own, bel⟩
    exact ⟨v, rfl, own.own, bel⟩
  · rw [if_neg h]
    refine (tdea_spec_wrong _ _ ak ab ck cb dec w hn hm h).mono ?_
    rintro e w' ⟨rfl, rfl⟩
    exact ⟨_, rfl, ⟨5, World.ownsRow_nil _ _ _ _⟩, Below.refl _ _⟩
theorem tdeaL_le (key block : List UInt8) (dec : Bool) (_ : key.length ≤ 1048576) (_ : block.length ≤ 1048576) : (tdeaL key block dec).length ≤ 1048576 := by
  unfold tdeaL
  split
  · rw [tdeaN_length]; omega
  · simp
end Go.Proofs.Ythjnalbgnjbdnaa
