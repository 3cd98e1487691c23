/-
  A block that Wrap made opens to what it was made of.
-/
import Derived.Test.YtdelidfigcgglaaDoorLawUnwrap
import Derived.Test.YtdelidfigcgglaaDoorAesInv
import Derived.Test.YtdelidfigcgglaaDoorLawBits
namespace Go.Proofs.YtdelidfigcgglaaDoor
open Go.RowKit

theorem wrap_open (master key : List UInt8) (u gen : Nat) (hm : master.length = 16) (hk : key.length = 16) (hu1 : 1 ≤ u) (hu3 : u ≤ 3) (hg : gen ≤ 255) :
    formOK master (wrapN master key u gen) = true ∧ tagOK master (wrapN master key u gen) = true ∧ uOf (wrapN master key u gen) = u ∧ gOf (wrapN master key u gen) = gen ∧ unkeyN master (wrapN master key u gen) = key := by
  obtain ⟨B, hB⟩ : ∃ B, B = wrapN master key u gen := ⟨_, rfl⟩
  have hl : B.length = 36 := by rw [hB]; exact wrapN_length _ _ _ _ hm
  have hTl : (tagN master key u gen).length = 16 := cmacN_length _ _ (cmacN_length master [77] hm)
  have hE : (sealK master).length = 16 := cmacN_length master [69] hm
  obtain ⟨T, hT⟩ : ∃ T, T = tagN master key u gen := ⟨_, rfl⟩
  have hB2 : B = 75 :: UInt8.ofNat u :: UInt8.ofNat gen :: 16 :: (T ++ aesN (sealK master) (xorL key T) false) := by
    rw [hB, hT]
    unfold wrapN headL
    simp
  rw [← hT] at hTl
  have hXl : (xorL key T).length = 16 := by rw [xorL_length _ _ (by omega), hk]
  have hu : uOf B = u := by
    rw [hB2]
    show (UInt8.ofNat u).toNat = u
    rw [UInt8.toNat_ofNat']
    omega
  have hgn : gOf B = gen := by
    rw [hB2]
    show (UInt8.ofNat gen).toNat = gen
    rw [UInt8.toNat_ofNat']
    omega
  have hkey : unkeyN master B = key := by
    have e1 : (B.drop 4).take 16 = T := by
      rw [hB2]
      show (T ++ aesN (sealK master) (xorL key T) false).take 16 = T
      rw [← hTl]
      exact List.take_left
    have e2 : B.drop 20 = aesN (sealK master) (xorL key T) false := by
      rw [hB2]
      show (T ++ aesN (sealK master) (xorL key T) false).drop 16 = _
      rw [← hTl]
      exact List.drop_left
    have e3 : aesN (sealK master) (aesN (sealK master) (xorL key T) false) true = xorL key T := aes_dec_enc (keyR (sealK master)) (xorL key T) hXl (fun r => keyR_length _ hE r)
    unfold unkeyN
    rw [e1, e2, e3]
    exact xorL_twice _ _ (by omega)
  rw [← hB]
  refine ⟨?_, ?_, hu, hgn, hkey⟩
  · have hh : headOK B = true := by
      unfold headOK
      rw [hu, hB2]
      simp
      omega
    unfold formOK
    rw [hh, decide_eq_true hm, decide_eq_true hl]
    rfl
  · unfold tagOK
    rw [hkey, hu, hgn, ← hB]
    exact decide_eq_true rfl
theorem open_vals {master block : List UInt8} (h1 : formOK master block = true) (h2 : tagOK master block = true) : opCode master block = 0 ∧ opU master block = (uOf block : Nat) ∧ opG master block = (gOf block : Nat) ∧ opKey master block = unkeyN master block := by
  unfold opCode opU opG opKey okO
  rw [h1, h2]
  exact ⟨rfl, rfl, rfl, rfl⟩
theorem open_zero {master block : List UInt8} (h : opCode master block = 0) : formOK master block = true ∧ tagOK master block = true := by
  unfold opCode at h
  cases h1 : formOK master block <;> cases h2 : tagOK master block <;> simp_all
end Go.Proofs.YtdelidfigcgglaaDoor
