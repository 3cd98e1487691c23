/-
  spec: l1Unaes, Aes.
-/
import Derived.Test.YthjnalbgnjbdnaaAesWords
namespace Go.Proofs.Ythjnalbgnjbdnaa
open Go.RowKit

/-- The first i bytes are changed. -/
def parM (f : UInt8 → UInt8) (s : List UInt8) (i : Nat) : List UInt8 := (s.take i).map f ++ s.drop i
theorem parM_zero (f : UInt8 → UInt8) (s : List UInt8) : parM f s 0 = s := by simp [parM]
theorem parM_all (f : UInt8 → UInt8) (s : List UInt8) (n : Nat) (h : s.length = n) : parM f s n = s.map f := by
  unfold parM
  rw [List.take_of_length_le (by omega), List.drop_of_length_le (by omega), List.append_nil]
theorem parM_length (f : UInt8 → UInt8) (s : List UInt8) (i : Nat) (h : i ≤ s.length) : (parM f s i).length = s.length := by
  simp [parM]; omega
theorem parM_at (f : UInt8 → UInt8) (s : List UInt8) (i : Nat) (h : i < s.length) : (parM f s i).getD i 0 = s.getD i 0 := by
  unfold parM
  rw [List.getD_eq_getElem?_getD, List.getD_eq_getElem?_getD, List.getElem?_append_right (by simp; omega), List.getElem?_drop]
  congr 2
  simp
  omega
theorem parM_set (f : UInt8 → UInt8) (s : List UInt8) (i : Nat) (h : i < s.length) : (parM f s i).set i (f (s.getD i 0)) = parM f s (i + 1) := by
  unfold parM
  have hl : ((s.take i).map f).length = i := by simp; omega
  have hg : s.getD i 0 = s[i] := by simp [h]
  rw [List.set_append_right _ _ (by omega), hl, Nat.sub_self, List.drop_eq_getElem_cons h, List.set_cons_zero, take_snoc s i h, List.map_append, List.append_assoc, hg]
  rfl
theorem blk_cells {w : World} {g t : Nat} {l : List UInt8} (h : Blk w g t (l.map byte)) : ∀ i, i < l.length → w.cell? ⟨g, 0 + i, none⟩ = some (.int .u8 ((l.getD i 0).toNat : Int)) := fun i hi => by
  rw [Nat.zero_add]; exact map_cell h i hi
theorem xor16s (x y : List UInt8) (g o1 c b o cb : Nat) (w : World) (hx : x.length = 16) (hy : y.length = 16) (h1 : RowAt w (some ⟨g, o1, none⟩) x) (h2 : RowAt w (some ⟨b, o, none⟩) y) :
    Calls Try.prog 48 #[.slice (some ⟨g, o1, none⟩) 16 c, .slice (some ⟨b, o, none⟩) 16 cb] w fun e w' => e = .returned (.slice (some ⟨w.heap.size, 0, none⟩) 16 16) ∧ Blk w' w.heap.size 5 ((xorL x y).map byte) ∧ Below w.heap.size w w' := by
  have h := xor_any (some ⟨g, o1, none⟩) (some ⟨b, o, none⟩) c cb x y w (by omega) (by omega) h1 h2
  rw [hx, hy] at h
  refine h.mono ?_
  rintro e w' ⟨rfl, own, bel⟩
  refine ⟨rfl, ?_, bel⟩
  have own' := own_num own (show (xorL x y).length = 16 by rw [xorL_length _ _ (by omega), hx])
  exact own_blk own'
/-- The states of the rounds. -/
def stE (K : Nat → List UInt8) (b : List UInt8) (k : Nat) : List UInt8 := if k ≤ 9 then encGo K b k else encL K b
def stD (K : Nat → List UInt8) (b : List UInt8) (k : Nat) : List UInt8 := if k = 0 then b else decGo K b (k - 1)
theorem stE_length (K : Nat → List UInt8) (b : List UInt8) (hb : b.length = 16) (hK : ∀ r, (K r).length = 16) (k : Nat) : (stE K b k).length = 16 := by
  unfold stE
  split
  · exact encGo_length K b hb hK k
  · exact encL_length K b hK
theorem stD_length (K : Nat → List UInt8) (b : List UInt8) (hb : b.length = 16) (k : Nat) : (stD K b k).length = 16 := by
  unfold stD
  split
  · exact hb
  · exact decGo_length K b _
theorem stE_step (K : Nat → List UInt8) (b : List UInt8) (hb : b.length = 16) (hK : ∀ r, (K r).length = 16) (k : Nat) (hk : k < 9) : stE K b (k + 1) = xorL (mixS rowE (turnL 1 ((stE K b k).map subB))) (K (k + 1)) := by
  unfold stE
  rw [if_pos (by omega), if_pos (by omega), encGo_step K b hb hK k]
theorem stE_last (K : Nat → List UInt8) (b : List UInt8) (hb : b.length = 16) (hK : ∀ r, (K r).length = 16) : stE K b 10 = xorL (turnL 1 ((stE K b 9).map subB)) (K 10) := by
  unfold stE
  rw [if_neg (by omega), if_pos (by omega), encL_step K b hb hK]
theorem stD_first (K : Nat → List UInt8) (b : List UInt8) : stD K b 1 = (turnL 3 (xorL (stD K b 0) (K 10))).map unsubB := by
  unfold stD
  rw [if_neg (by omega), if_pos rfl]
  rfl
theorem stD_step (K : Nat → List UInt8) (b : List UInt8) (hK : ∀ r, (K r).length = 16) (k : Nat) (h1 : 1 ≤ k) : stD K b (k + 1) = (turnL 3 (mixS rowD (xorL (stD K b k) (K (10 - k))))).map unsubB := by
  unfold stD
  rw [if_neg (by omega), if_neg (by omega), show k + 1 - 1 = k - 1 + 1 from by omega, decGo_step K b hK (k - 1), show 9 - (k - 1) = 10 - k from by omega]
end Go.Proofs.Ythjnalbgnjbdnaa
