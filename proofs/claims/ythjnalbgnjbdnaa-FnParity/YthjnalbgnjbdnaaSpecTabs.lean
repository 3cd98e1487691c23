/-
  spec: tables of numbers, bits of bytes.
-/
import Derived.Test.YthjnalbgnjbdnaaDesTop
namespace Go.Proofs.Ythjnalbgnjbdnaa
open Go.RowKit

def num (n : Nat) : Value := .int .i64 (n : Int)

/-- From the address on lie these ints. -/
def RowI (w : World) (ao : Option Addr) (ns : List Nat) : Prop :=
  ns = [] ∨ ∃ b off, ao = some ⟨b, off, none⟩ ∧ ∀ i, i < ns.length → w.cell? ⟨b, off + i, none⟩ = some (.int .i64 ((ns.getD i 0 : Nat) : Int))
theorem RowI.at {w : World} {ao : Option Addr} {ns : List Nat} (h : RowI w ao ns) {k : Nat} (hk : k < ns.length) :
    ∃ b off, ao = some ⟨b, off, none⟩ ∧ ∀ i, i < ns.length → w.cell? ⟨b, off + i, none⟩ = some (.int .i64 ((ns.getD i 0 : Nat) : Int)) := by
  rcases h with rfl | h
  · simp at hk
  · exact h
theorem RowI.lt {w : World} {b off : Nat} {ns : List Nat} (h : ∀ i, i < ns.length → w.cell? ⟨b, off + i, none⟩ = some (.int .i64 ((ns.getD i 0 : Nat) : Int))) {k : Nat} (hk : k < ns.length) : b < w.heap.size :=
  World.block_lt_of_cell? w _ (h k hk)
theorem RowI.below {w w' : World} {ao : Option Addr} {ns : List Nat} (h : RowI w ao ns) (hb : Below w.heap.size w w') : RowI w' ao ns := by
  rcases h with rfl | ⟨b, off, rfl, hc⟩
  · exact .inl rfl
  · exact .inr ⟨b, off, rfl, fun i hi => by rw [hb.cell (p := ⟨b, off + i, none⟩) (RowI.lt hc hi)]; exact hc i hi⟩
def OwnI (w : World) (base : Nat) (v : Value) (ns : List Nat) : Prop := w.ownsRow base 3 1 v ns.length (ns.map num)
theorem OwnI.shape {w : World} {base : Nat} {v : Value} {ns : List Nat} (h : OwnI w base v ns) : ∃ ao cap, v = .slice ao ns.length cap ∧ RowI w ao ns := by
  rcases h.2 with ⟨hv, hn⟩ | ⟨g, cap, cur, hv, hb, hh, hn, hm, hs, ht⟩
  · exact ⟨none, 0, by rw [hv, hn], .inl (List.length_eq_zero_iff.1 hn)⟩
  · subst hv
    refine ⟨some ⟨g, 0, none⟩, cap, rfl, .inr ⟨g, 0, rfl, ?_⟩⟩
    intro i hi
    have h' : w.ownsRow base 3 1 (.slice (some ⟨g, 0, none⟩) ns.length cap) ns.length (ns.map num) := h
    rw [Nat.zero_add, h'.cellAt i (by omega)]
    simp [hi, num]

def ints (l : List UInt8) : List Nat := l.map (·.toNat)

theorem own_lit (w : World) (ns : List Nat) (hm : ns.length ≤ maxLen) : OwnI (w.alloc (.cells (ns.map num).toArray 3)) w.heap.size (.slice (some ⟨w.heap.size, 0, none⟩) ns.length ns.length) ns := by
  have := World.ownsRow_lit (base := w.heap.size) (e := 3) (size := 1) w (ns.map num).toArray ns.length (Nat.le_refl _) hm (by simp)
  exact this

set_option maxRecDepth 100000 in
set_option maxHeartbeats 1000000 in
theorem pc1_any (w : World) : Calls Try.prog 89 #[] w fun e w' => ∃ v, e = .returned v ∧ OwnI w' w.heap.size v (ints pc1Tab) ∧ Below w.heap.size w w' := by
  go_enter Try.func89, Try.ntmps89
  go_wp2
  go_ret
  exact ⟨_, rfl, own_lit w (ints pc1Tab) (by decide), (Below.refl _ _).alloc (Nat.le_refl _) _⟩

set_option maxRecDepth 100000 in
set_option maxHeartbeats 1000000 in
theorem pc2_any (w : World) : Calls Try.prog 90 #[] w fun e w' => ∃ v, e = .returned v ∧ OwnI w' w.heap.size v (ints pc2Tab) ∧ Below w.heap.size w w' := by
  go_enter Try.func90, Try.ntmps90
  go_wp2
  go_ret
  exact ⟨_, rfl, own_lit w (ints pc2Tab) (by decide), (Below.refl _ _).alloc (Nat.le_refl _) _⟩

set_option maxRecDepth 100000 in
set_option maxHeartbeats 1000000 in
theorem p_any (w : World) : Calls Try.prog 94 #[] w fun e w' => ∃ v, e = .returned v ∧ OwnI w' w.heap.size v (ints pTab) ∧ Below w.heap.size w w' := by
  go_enter Try.func94, Try.ntmps94
  go_wp2
  go_ret
  exact ⟨_, rfl, own_lit w (ints pTab) (by decide), (Below.refl _ _).alloc (Nat.le_refl _) _⟩

end Go.Proofs.Ythjnalbgnjbdnaa
