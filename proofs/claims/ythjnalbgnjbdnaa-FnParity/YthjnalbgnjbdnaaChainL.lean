/-
  Chains of blocks, as lists.
-/
import Derived.Test.YthjnalbgnjbdnaaCut
import Derived.Test.YthjnalbgnjbdnaaXorImpl8
namespace Go.Proofs.Ythjnalbgnjbdnaa
open Go.RowKit

/-- The block before the k-th, encrypted. -/
def befL (f : List UInt8 → List UInt8) (iv : List UInt8) (bl : List (List UInt8)) : Nat → List UInt8
  | 0 => iv
  | k + 1 => f (xorL (bl.getD k []) (befL f iv bl k))
def outL (f : List UInt8 → List UInt8) (iv : List UInt8) (bl : List (List UInt8)) (k : Nat) : List (List UInt8) := (List.range k).map fun j => befL f iv bl (j + 1)
theorem outL_succ (f : List UInt8 → List UInt8) (iv : List UInt8) (bl : List (List UInt8)) (k : Nat) : outL f iv bl (k + 1) = outL f iv bl k ++ [befL f iv bl (k + 1)] := by simp [outL, List.range_succ]
theorem outL_length (f : List UInt8 → List UInt8) (iv : List UInt8) (bl : List (List UInt8)) (k : Nat) : (outL f iv bl k).length = k := by simp [outL]
theorem befL_length (f : List UInt8 → List UInt8) (hf : ∀ x, (f x).length = 8) (iv : List UInt8) (hiv : iv.length = 8) (bl : List (List UInt8)) (k : Nat) : (befL f iv bl k).length = 8 := by
  cases k with
  | zero => exact hiv
  | succ k => exact hf _

/-- Blocks in memory that are read. -/
def Blks (w : World) (ao : Option Addr) (bl : List (List UInt8)) : Prop := ∀ k, k < bl.length → ∃ g off, ao = some ⟨g, off, none⟩ ∧ w.rangeAt g (off + k * 8) ((bl.getD k []).map byte)
theorem Blks.below {w w' : World} {ao : Option Addr} {bl : List (List UInt8)} (h : Blks w ao bl) (hb : Below w.heap.size w w') : Blks w' ao bl := fun k hk => by
  obtain ⟨g, off, e, hr⟩ := h k hk
  exact ⟨g, off, e, range_below hr hb⟩
theorem flat_take8 (bl : List (List UInt8)) (h8 : ∀ b ∈ bl, b.length = 8) (k : Nat) (hk : k ≤ bl.length) : (bl.take k).flatten.length = k * 8 := by
  induction k with
  | zero => simp
  | succ k ih =>
    rw [flat_snoc bl k (by omega), List.length_append, ih (by omega)]
    have : (bl.getD k []).length = 8 := by
      rw [show bl.getD k [] = bl[k] from by simp [show k < bl.length from by omega]]
      exact h8 _ (List.getElem_mem _)
    omega
theorem OwnK.blks {w : World} {base : Nat} {v : Value} {bl : List (List UInt8)} (h : OwnK w base v bl) (h8 : ∀ b ∈ bl, b.length = 8) : ∃ ao cap, v = .slice ao bl.length cap ∧ bl.length ≤ cap ∧ Blks w ao bl := by
  rcases h.2 with ⟨rfl, hn⟩ | ⟨g, cap, cur, rfl, hb, hh, hn, hm, hs, ht⟩
  · exact ⟨none, 0, by rw [hn], by omega, fun k hk => by omega⟩
  · refine ⟨_, cap, rfl, hn, fun k hk => ⟨g, 0, rfl, ?_⟩⟩
    intro j v hv
    have hl : bl.getD k [] = bl[k] := by simp [hk]
    have hlen : (bl.getD k []).length = 8 := by rw [hl]; exact h8 _ (List.getElem_mem _)
    have hj : j < 8 := by have := (List.getElem?_eq_some_iff.1 hv).1; rw [List.length_map, hlen] at this; exact this
    have hcell := h.cells (g := g) rfl (k * 8 + j) v (by
      have e : bl.flatten = (bl.take k).flatten ++ (bl.getD k [] ++ (bl.drop (k + 1)).flatten) := by
        rw [← List.append_assoc, ← flat_snoc bl k hk, ← List.flatten_append, List.take_append_drop]
      rw [e, List.map_append, List.map_append, List.getElem?_append_right (by rw [List.length_map, flat_take8 bl h8 k (by omega)]; omega), List.length_map, flat_take8 bl h8 k (by omega), Nat.add_sub_cancel_left, List.getElem?_append_left (by rw [List.length_map, hlen]; exact hj)]
      exact hv)
    rw [Addr.add_mid] at hcell
    rw [Nat.zero_add] at hcell ⊢
    exact hcell
end Go.Proofs.Ythjnalbgnjbdnaa
