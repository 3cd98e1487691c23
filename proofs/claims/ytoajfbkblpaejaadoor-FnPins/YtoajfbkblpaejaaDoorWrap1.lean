/-
  impl.isUse, impl.sealingCipher.
-/
import Derived.Test.YtoajfbkblpaejaaDoorCmacTop
namespace Go.Proofs.YtoajfbkblpaejaaDoor
open Go.RowKit

theorem Own.at' {w : World} {base n : Nat} {v : Value} {l : List UInt8} (h : Own w base v l) (hl : l.length = n) (h0 : 0 < n) : ∃ g cap, n ≤ cap ∧ v = .slice (some ⟨g, 0, none⟩) n cap ∧ w.rangeAt g 0 (l.map byte) ∧ base ≤ g ∧ g < w.heap.size := by
  subst hl
  have hq := h
  obtain ⟨t, h⟩ := h
  obtain ⟨ao, cap, rfl, row, hg, -, -⟩ := hq.shape
  rcases h.2 with ⟨-, hn⟩ | ⟨g, cap', cur, hv, hb, hh, hn, hm, hs, ht⟩
  · omega
  · simp only [Value.slice.injEq, true_and] at hv
    obtain ⟨rfl, rfl⟩ := hv
    obtain ⟨g', o', he, hr⟩ := row.range (by omega)
    cases he
    exact ⟨g, cap, hn, rfl, hr, hb, lt_of_block hh⟩

theorem Blk.apart {w : World} {g g' t t' : Nat} {cs cs' : List Value} (h : Blk w g t cs) (h' : Blk w g' t' cs') (hn : t ≠ t') : some g ≠ some g' := by
  intro he
  cases he
  unfold Blk at h h'
  rw [h] at h'
  simp only [Option.some.injEq, Obj.cells.injEq] at h'
  exact hn h'.2.1

/-- The key that seals. -/
def sealK (master : List UInt8) : List UInt8 := cmacN master [69]

end Go.Proofs.YtoajfbkblpaejaaDoor
