/-
  laws.FnExactUnwrap: the walk out of the contracts.
-/
import Derived.Test.YtjkofmomoljelaaGreatDoorUnwrapS
import Derived.Test.YtjkofmomoljelaaGreatDoorGrA
namespace Go.Proofs.YtjkofmomoljelaaGreatDoor
open Go.RowKit

theorem Sents.grown {w w' : World} {x0 x1 : Addr} {row : Option Nat} (h : Sents w x0 x1) (hg : w.grownBy w' row) {B : Nat} (hr : ∀ k, row = some k → B ≤ k) (hB : 0 < B ∧ 1 < B ∧ x0.block < B ∧ x1.block < B) : Sents w' x0 x1 := by
  obtain ⟨g0, g1, ne, ⟨c0, t0, b0⟩, ⟨c1, t1, b1⟩⟩ := h
  have ne' : ∀ k, k < B → some k ≠ row := by intro k hk e; have := hr k e.symm; omega
  exact ⟨hg.cell g0 (ne' 0 hB.1), hg.cell g1 (ne' 1 hB.2.1), ne, ⟨c0, t0, by rw [hg.block _ (lt_of_block b0) (ne' _ hB.2.2.1)]; exact b0⟩, ⟨c1, t1, by rw [hg.block _ (lt_of_block b1) (ne' _ hB.2.2.2)]; exact b1⟩⟩
theorem Sents.lt {w : World} {x0 x1 : Addr} (h : Sents w x0 x1) : 0 < w.heap.size ∧ 1 < w.heap.size ∧ x0.block < w.heap.size ∧ x1.block < w.heap.size := by
  obtain ⟨g0, g1, ne, ⟨c0, t0, b0⟩, ⟨c1, t1, b1⟩⟩ := h
  exact ⟨World.block_lt_of_cell? w _ g0, World.block_lt_of_cell? w _ g1, lt_of_block b0, lt_of_block b1⟩
theorem own_rowA {w : World} {base n c : Nat} {a : Option Addr} {l : List UInt8} (h : Own w base (.slice a n c) l) : RowAt w a l := by
  obtain ⟨ao, cap, hv, row, -⟩ := h.shape
  simp only [Value.slice.injEq] at hv
  obtain ⟨rfl, -, -⟩ := hv
  exact row
/-- spec.Unwrap. -/
theorem unwrapS_any (master block : List UInt8) (am ab : Option Addr) (cm cb : Nat) (w : World) (hn : master.length ≤ 1048576) (hcb : block.length ≤ cb) (rm : RowAt w am master) (rb : RowAt w ab block) :
    Calls Tryz.prog 87 #[.slice am master.length cm, .slice ab block.length cb] w fun e w' => ∃ v, e = .returned (.agg #[.int .i64 (opCode master block), .int .i64 (opU master block), .int .i64 (opG master block), v]) ∧ Own w' w.heap.size v (opKey master block) ∧ Below w.heap.size w w' := by
  by_cases hl : master.length = 16 ∧ block.length = 36
  · obtain ⟨h1, h2⟩ := hl
    obtain ⟨bb, bo, rfl, -⟩ := rb.range (by omega)
    have hc : 36 ≤ cb := by omega
    rw [h1, h2]
    refine (unwrapS_main master block am cm bb bo cb w h1 h2 hc rm rb).mono ?_
    have hf : formOK master block = headOK block := by unfold formOK; rw [decide_eq_true h1, decide_eq_true h2]; rfl
    rintro e w' ⟨⟨rfl, hh⟩ | ⟨rfl, hh, ht⟩ | ⟨g, rfl, hg, hk, hh, ht⟩, bel⟩
    · refine ⟨.slice none 0 0, ?_, ?_, bel⟩
      · unfold opCode opU opG okO
        rw [hf, hh]
        rfl
      · unfold opKey okO
        rw [hf, hh]
        exact own_nil _ _
    · refine ⟨.slice none 0 0, ?_, ?_, bel⟩
      · unfold opCode opU opG okO
        rw [hf, hh, ht]
        rfl
      · unfold opKey okO
        rw [hf, hh, ht]
        exact own_nil _ _
    · refine ⟨.slice (some ⟨g, 0, none⟩) 16 16, ?_, ?_, bel⟩
      · unfold opCode opU opG okO
        rw [hf, hh, ht]
        rfl
      · unfold opKey okO
        rw [hf, hh, ht]
        exact own_of_blk hk (Nat.le_of_lt hg) (unkeyN_length _ _ h1 h2) (by unfold maxLen; omega)
  · have hf : formOK master block = false := by
      cases hq : formOK master block with
      | false => rfl
      | true => exact absurd ⟨(formOK_parts hq).1, (formOK_parts hq).2.1⟩ hl
    refine (unwrapS_len _ _ am ab cm cb w hn hl).mono ?_
    rintro e w' ⟨rfl, bel⟩
    refine ⟨.slice none 0 0, ?_, ?_, bel⟩
    · unfold opCode opU opG okO
      rw [hf]
      rfl
    · unfold opKey okO
      rw [hf]
      exact own_nil _ _

end Go.Proofs.YtjkofmomoljelaaGreatDoor
