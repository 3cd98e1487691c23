/-
  impl: the cells of a tdeaCipher.
-/
import Derived.Test.YthjnalbgnjbdnaaDesTop
namespace Go.Proofs.Ythjnalbgnjbdnaa
open Go.RowKit

def tdeaCells (k1 k2 : List UInt8) (S : Nat) : List Value := cipherCells k1 S ++ cipherCells k2 S
theorem tdeaCells_length (k1 k2 : List UInt8) (S : Nat) : (tdeaCells k1 k2 S).length = 34 := by simp [tdeaCells, cipherCells_length]
theorem allOne_tdea (k1 k2 : List UInt8) (S : Nat) : (tdeaCells k1 k2 S).toArray.all (·.oneCell') = true := by
  rw [Array.all_eq_true_iff_forall_mem]
  intro v hv
  simp only [tdeaCells, List.mem_toArray, List.mem_append] at hv
  rcases hv with hv | hv
  · exact (Array.all_eq_true_iff_forall_mem.1 (allOne_cipher k1 S)) v (by simpa using hv)
  · exact (Array.all_eq_true_iff_forall_mem.1 (allOne_cipher k2 S)) v (by simpa using hv)
def zeroTdea : List Value := zeroCipher ++ zeroCipher
theorem zeroTdea_length : zeroTdea.length = 34 := rfl
theorem Try.zero55 : (Try.prog.info? 55).map (fun i => (i.zero, i.size)) = some (some (.agg zeroTdea.toArray), 34) := by kernel_rfl
theorem of17 {l : List Value} (h : l.length = 17) : ∃ a0 a1 a2 a3 a4 a5 a6 a7 a8 a9 a10 a11 a12 a13 a14 a15 a16, l = [a0, a1, a2, a3, a4, a5, a6, a7, a8, a9, a10, a11, a12, a13, a14, a15, a16] := by
  match l, h with
  | [a0, a1, a2, a3, a4, a5, a6, a7, a8, a9, a10, a11, a12, a13, a14, a15, a16], _ => exact ⟨a0, a1, a2, a3, a4, a5, a6, a7, a8, a9, a10, a11, a12, a13, a14, a15, a16, rfl⟩
theorem built_two {a b : List Value} (ha : a.length = 17) (hb : b.length = 17) : Try.prog.built 55 [(0, .agg a.toArray), (1, .agg b.toArray)] = some (a ++ b).toArray := by
  obtain ⟨a0, a1, a2, a3, a4, a5, a6, a7, a8, a9, a10, a11, a12, a13, a14, a15, a16, rfl⟩ := of17 ha
  obtain ⟨b0, b1, b2, b3, b4, b5, b6, b7, b8, b9, b10, b11, b12, b13, b14, b15, b16, rfl⟩ := of17 hb
  kernel_rfl
theorem build_tdea (k1 k2 : List UInt8) (S : Nat) (w : World) : (Instr.build 55 #[(0, .agg (cipherCells k1 S).toArray), (1, .agg (cipherCells k2 S).toArray)]).run Try.prog w = .ok (.agg (tdeaCells k1 k2 S).toArray) w :=
  run_build w _ _ _ (built_two (cipherCells_length _ _) (cipherCells_length _ _))
theorem store_all {w : World} {g t : Nat} {old cs : List Value} (h : Blk w g t old) (hl : cs.length = old.length) (ho : cs.toArray.all (·.oneCell') = true) : (storeCells ⟨g, 0, none⟩ cs 0).run Try.prog w = .ok () (w.setRow g cs.toArray) := by
  have := run_storeCells_from (P := Try.prog) g t cs 0 old.toArray w h (by rw [List.size_toArray, Nat.zero_add]; exact hl) (fun v hv => (Array.all_eq_true_iff_forall_mem.1 ho) v (by simpa using hv))
  rw [List.take_zero, List.nil_append] at this
  exact this
theorem store_tdea (k1 k2 : List UInt8) (S : Nat) {w : World} {g t : Nat} (h : Blk w g t zeroTdea) : (storeCells ⟨g, 0, none⟩ (tdeaCells k1 k2 S) 0).run Try.prog w = .ok () (w.setRow g (tdeaCells k1 k2 S).toArray) :=
  store_all h ((tdeaCells_length _ _ _).trans zeroTdea_length.symm) (allOne_tdea _ _ _)

theorem eight_blk {w : World} {g t n : Nat} {l : List UInt8} {k0 k1 k2 k3 k4 k5 k6 k7 : UInt8} (h : Blk w g t (l.map byte)) (hl : (l.drop n).take 8 = [k0, k1, k2, k3, k4, k5, k6, k7]) : Eight w g n k0 k1 k2 k3 k4 k5 k6 k7 := by
  have hc : ∀ j, j < 8 → w.cell? ⟨g, n + j, none⟩ = some (byte ([k0, k1, k2, k3, k4, k5, k6, k7].getD j 0)) := by
    intro j hj
    have hlen : n + j < l.length := by
      have := congrArg List.length hl
      simp at this
      omega
    rw [h.cell (n + j) (by simpa using hlen), ← hl]
    simp [hj, hlen]
  exact ⟨hc 0 (by omega), hc 1 (by omega), hc 2 (by omega), hc 3 (by omega), hc 4 (by omega), hc 5 (by omega), hc 6 (by omega), hc 7 (by omega)⟩

theorem sixteen {w : World} {g t : Nat} {k0 k1 k2 k3 k4 k5 k6 k7 j0 j1 j2 j3 j4 j5 j6 j7 : UInt8} (h : Blk w g t ([k0, k1, k2, k3, k4, k5, k6, k7, j0, j1, j2, j3, j4, j5, j6, j7].map byte)) : w.cell? ⟨g, 0, none⟩ = some (byte k0) ∧ w.cell? ⟨g, 1, none⟩ = some (byte k1) ∧ w.cell? ⟨g, 2, none⟩ = some (byte k2) ∧ w.cell? ⟨g, 3, none⟩ = some (byte k3) ∧ w.cell? ⟨g, 4, none⟩ = some (byte k4) ∧ w.cell? ⟨g, 5, none⟩ = some (byte k5) ∧ w.cell? ⟨g, 6, none⟩ = some (byte k6) ∧ w.cell? ⟨g, 7, none⟩ = some (byte k7) ∧ w.cell? ⟨g, 8, none⟩ = some (byte j0) ∧ w.cell? ⟨g, 9, none⟩ = some (byte j1) ∧ w.cell? ⟨g, 10, none⟩ = some (byte j2) ∧ w.cell? ⟨g, 11, none⟩ = some (byte j3) ∧ w.cell? ⟨g, 12, none⟩ = some (byte j4) ∧ w.cell? ⟨g, 13, none⟩ = some (byte j5) ∧ w.cell? ⟨g, 14, none⟩ = some (byte j6) ∧ w.cell? ⟨g, 15, none⟩ = some (byte j7) :=
  ⟨h.cell 0 (by simp), h.cell 1 (by simp), h.cell 2 (by simp), h.cell 3 (by simp), h.cell 4 (by simp), h.cell 5 (by simp), h.cell 6 (by simp), h.cell 7 (by simp), h.cell 8 (by simp), h.cell 9 (by simp), h.cell 10 (by simp), h.cell 11 (by simp), h.cell 12 (by simp), h.cell 13 (by simp), h.cell 14 (by simp), h.cell 15 (by simp)⟩
theorem Blk.setRow_other {w : World} {g g' t : Nat} {l : List Value} {cs : Array Value} (h : Blk w g t l) (hne : ¬ g = g') : Blk (w.setRow g' cs) g t l := by
  unfold Blk; rw [_root_.Go.setRow_other w g' g _ hne]; exact h


/-- The first half laid, the second still zero. -/
def halfCells (k1 : List UInt8) (S : Nat) : List Value := cipherCells k1 S ++ zeroCipher
theorem halfCells_length (k1 : List UInt8) (S : Nat) : (halfCells k1 S).length = 34 := by unfold halfCells; rw [List.length_append, cipherCells_length, zeroCipher_length]
theorem fold_first {a : List Value} (ha : a.length = 17) : List.foldl (fun (cs : Array Value) (x : Value × Nat) => cs.setIfInBounds x.snd x.fst) #[Value.int IntKind.u64 0, Value.int IntKind.u64 0, Value.int IntKind.u64 0, Value.int IntKind.u64 0, Value.int IntKind.u64 0, Value.int IntKind.u64 0, Value.int IntKind.u64 0, Value.int IntKind.u64 0, Value.int IntKind.u64 0, Value.int IntKind.u64 0, Value.int IntKind.u64 0, Value.int IntKind.u64 0, Value.int IntKind.u64 0, Value.int IntKind.u64 0, Value.int IntKind.u64 0, Value.int IntKind.u64 0, Value.nilFunc, Value.int IntKind.u64 0, Value.int IntKind.u64 0, Value.int IntKind.u64 0, Value.int IntKind.u64 0, Value.int IntKind.u64 0, Value.int IntKind.u64 0, Value.int IntKind.u64 0, Value.int IntKind.u64 0, Value.int IntKind.u64 0, Value.int IntKind.u64 0, Value.int IntKind.u64 0, Value.int IntKind.u64 0, Value.int IntKind.u64 0, Value.int IntKind.u64 0, Value.int IntKind.u64 0, Value.int IntKind.u64 0, Value.nilFunc] a.zipIdx = (a ++ zeroCipher).toArray := by
  obtain ⟨a0, a1, a2, a3, a4, a5, a6, a7, a8, a9, a10, a11, a12, a13, a14, a15, a16, rfl⟩ := of17 ha
  kernel_rfl
theorem fold_second {a b : List Value} (ha : a.length = 17) (hb : b.length = 17) : List.foldl (fun (cs : Array Value) (x : Value × Nat) => cs.setIfInBounds (17 + x.snd) x.fst) (a ++ zeroCipher).toArray b.zipIdx = (a ++ b).toArray := by
  obtain ⟨a0, a1, a2, a3, a4, a5, a6, a7, a8, a9, a10, a11, a12, a13, a14, a15, a16, rfl⟩ := of17 ha
  obtain ⟨b0, b1, b2, b3, b4, b5, b6, b7, b8, b9, b10, b11, b12, b13, b14, b15, b16, rfl⟩ := of17 hb
  kernel_rfl
theorem fold_half (k1 : List UInt8) (S : Nat) : List.foldl (fun (cs : Array Value) (x : Value × Nat) => cs.setIfInBounds x.snd x.fst) #[Value.int IntKind.u64 0, Value.int IntKind.u64 0, Value.int IntKind.u64 0, Value.int IntKind.u64 0, Value.int IntKind.u64 0, Value.int IntKind.u64 0, Value.int IntKind.u64 0, Value.int IntKind.u64 0, Value.int IntKind.u64 0, Value.int IntKind.u64 0, Value.int IntKind.u64 0, Value.int IntKind.u64 0, Value.int IntKind.u64 0, Value.int IntKind.u64 0, Value.int IntKind.u64 0, Value.int IntKind.u64 0, Value.nilFunc, Value.int IntKind.u64 0, Value.int IntKind.u64 0, Value.int IntKind.u64 0, Value.int IntKind.u64 0, Value.int IntKind.u64 0, Value.int IntKind.u64 0, Value.int IntKind.u64 0, Value.int IntKind.u64 0, Value.int IntKind.u64 0, Value.int IntKind.u64 0, Value.int IntKind.u64 0, Value.int IntKind.u64 0, Value.int IntKind.u64 0, Value.int IntKind.u64 0, Value.int IntKind.u64 0, Value.int IntKind.u64 0, Value.nilFunc] (cipherCells k1 S).zipIdx = (halfCells k1 S).toArray := fold_first (cipherCells_length _ _)
theorem fold_tdea (k1 k2 : List UInt8) (S : Nat) : List.foldl (fun (cs : Array Value) (x : Value × Nat) => cs.setIfInBounds (17 + x.snd) x.fst) (halfCells k1 S).toArray (cipherCells k2 S).zipIdx = (tdeaCells k1 k2 S).toArray := fold_second (cipherCells_length _ _) (cipherCells_length _ _)
end Go.Proofs.Ythjnalbgnjbdnaa
