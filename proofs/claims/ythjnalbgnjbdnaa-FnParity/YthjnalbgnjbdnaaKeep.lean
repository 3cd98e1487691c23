/-
  Rows and what the call owns, kept over calls.
-/
import Derived.Test.YthjnalbgnjbdnaaMark
namespace Go.Proofs.Ythjnalbgnjbdnaa
open Go.RowKit

theorem RowAt.drew {w : World} {ao : Option Addr} {bs : List UInt8} (h : RowAt w ao bs) (m : Nat) : RowAt (w.drewN m) ao bs := h
theorem Own.drew {w : World} {base : Nat} {v : Value} {bs : List UInt8} (h : Own w base v bs) (m : Nat) : Own (w.drewN m) base v bs := h
theorem Own.below {w w' : World} {base : Nat} {v : Value} {bs : List UInt8} (h : Own w base v bs) (hb : Below w.heap.size w w') : Own w' base v bs :=
  h.grown (grown_of_below hb none) (by cases hv : v.ownBlock <;> simp)
/-- A row and what is written away from it. -/
theorem RowAt.away {w w' : World} {g : Nat} {ao : Option Addr} {bs : List UInt8} (h : RowAt w ao bs) {v : Value} (hg : w.grownBy w' v.ownBlock) (hv : ∀ b, v.ownBlock = some b → b = g) (hne : ∀ a, ao = some a → a.block ≠ g) : RowAt w' ao bs :=
  h.grown hg (fun a ha e => hne a ha (hv _ e))
end Go.Proofs.Ythjnalbgnjbdnaa
