/-
  Words and blocks.
-/
import Derived.Test.YtlbcommolffneaaDoorPinPack
namespace Go.Proofs.YtlbcommolffneaaDoor
open Go.RowKit

/-- Eight bytes as a word, the first the highest. -/
def wordN (bs : List UInt8) : Nat := bs.foldl (fun t b => 256 * t + b.toNat) 0
theorem block_word (a b c d e f g h : UInt8) : blockN (wordN [a, b, c, d, e, f, g, h]) = [a, b, c, d, e, f, g, h] := by
  have ha := a.toNat_lt; have hb := b.toNat_lt; have hc := c.toNat_lt; have hd := d.toNat_lt
  have he := e.toNat_lt; have hf := f.toNat_lt; have hg := g.toNat_lt; have hh := h.toNat_lt
  have u : ∀ (x : UInt8) (n : Nat), n % 256 = x.toNat → UInt8.ofNat n = x := by
    intro x n hn
    apply UInt8.toNat.inj
    rw [UInt8.toNat_ofNat', hn]
  simp only [blockN, wordN, List.foldl_cons, List.foldl_nil, List.range, List.range.loop, List.map_cons, List.map_nil]
  simp only [List.cons.injEq, and_true]
  refine ⟨u _ _ ?_, u _ _ ?_, u _ _ ?_, u _ _ ?_, u _ _ ?_, u _ _ ?_, u _ _ ?_, u _ _ ?_⟩ <;> simp <;> omega
end Go.Proofs.YtlbcommolffneaaDoor
