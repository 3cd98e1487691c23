/-
  laws.eqField, eqFieldS, eqMsg, eqDecoded.
-/
import Derived.Test.YtacgbajcdngokaaGreatDoorIsoDecS
namespace Go.Proofs.YtacgbajcdngokaaGreatDoor
open Go.RowKit

theorem fldCells_at (L : List (Nat × List UInt8)) : ∀ (vs : List Value), vs.length = L.length → ∀ i, i < L.length → (fldCells L vs)[i * 2]? = some (.int .i64 ((L.getD i (0, [])).1 : Nat)) ∧ (fldCells L vs)[i * 2 + 1]? = some (vs.getD i undef) := by
  induction L with
  | nil => intro vs _ i h; simp at h
  | cons p r ih =>
    intro vs h i hi
    cases vs with
    | nil => simp at h
    | cons v t =>
      cases i with
      | zero => exact ⟨rfl, rfl⟩
      | succ i =>
        have := ih t (by simpa using h) i (by simpa using hi)
        rw [show (i + 1) * 2 = i * 2 + 1 + 1 from by omega]
        exact this
theorem Fs.at {w : World} {lo : Nat} {v : Value} {L : List (Nat × List UInt8)} {vs : List Value} (h : Fs w lo v L vs) {i : Nat} (hi : i < L.length) :
    ∃ g c ai ci, v = .slice (some ⟨g, 0, none⟩) L.length c ∧ w.cell? ⟨g, i * 2, none⟩ = some (.int .i64 ((L.getD i (0, [])).1 : Nat)) ∧ w.cell? ⟨g, i * 2 + 1, none⟩ = some (.slice ai (L.getD i (0, [])).2.length ci) ∧ RowAt w ai (L.getD i (0, [])).2 ∧ vs.getD i undef = .slice ai (L.getD i (0, [])).2.length ci ∧ lo ≤ g ∧ (∀ j, w.frozen? ⟨g, j, none⟩ = false) := by
  have row := h.row
  obtain ⟨c1, c2⟩ := fldCells_at L vs h.len i hi
  obtain ⟨ai, ci, e, r, -, -, -⟩ := (h.own i hi).shape
  rcases row.2 with ⟨hv, hz⟩ | ⟨g, c, cur, hv, hg, hrest⟩
  · omega
  · subst hv
    refine ⟨g, c, ai, ci, rfl, ?_, ?_, r, e, hg, fun j => row.frozenAt j⟩
    · rw [row.cellAt (i * 2) (by omega), c1]
    · rw [row.cellAt (i * 2 + 1) (by omega), c2, e]
theorem Fs.shape {w : World} {lo : Nat} {v : Value} {L : List (Nat × List UInt8)} {vs : List Value} (h : Fs w lo v L vs) : ∃ a c, v = .slice a L.length c := ownR_shape h.row
theorem below_drewN (w : World) (m : Nat) : Below w.heap.size w (w.drewN m) := ⟨rfl, rfl, rfl, Nat.le_refl _, fun _ _ => rfl⟩
theorem beq_bytesI (a b : ByteArray) : (a == b) = decide (a = b) := by
  rw [Bool.eq_iff_iff, decide_eq_true_eq]
  cases a with | mk x => cases b with | mk y =>
  show ByteArray.beq ⟨x⟩ ⟨y⟩ = true ↔ _
  simp [ByteArray.beq]
theorem ne_selfB (s : ByteArray) : (s != s) = false := by
  have h : (s == s) = true := by rw [beq_bytesI]; exact decide_eq_true rfl
  unfold bne; rw [h]; rfl
end Go.Proofs.YtacgbajcdngokaaGreatDoor
