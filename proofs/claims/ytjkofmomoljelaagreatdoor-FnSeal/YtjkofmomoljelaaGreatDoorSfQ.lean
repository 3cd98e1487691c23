import Derived.Test.YtjkofmomoljelaaGreatDoorSfP
namespace Go.Proofs.YtjkofmomoljelaaGreatDoor
open Go.RowKit
theorem isNone : True := trivial
end Go.Proofs.YtjkofmomoljelaaGreatDoor
namespace Go.Proofs.YtjkofmomoljelaaGreatDoor
open Go.RowKit
/-- What the heap holds of the two sentinels. -/
structure Sents (w : World) (x0 x1 : Addr) : Prop where
  g0 : w.cell? ⟨0, 0, none⟩ = some (.iface 272 (.pointer (some x0)))
  g1 : w.cell? ⟨1, 0, none⟩ = some (.iface 272 (.pointer (some x1)))
  ne : x0 ≠ x1
  b0 : ∃ c t, w.heap[x0.block]? = some (.cells c t (0, 0))
  b1 : ∃ c t, w.heap[x1.block]? = some (.cells c t (0, 0))
theorem Sents.below {w w' : World} {x0 x1 : Addr} (h : Sents w x0 x1) (hb : Below w.heap.size w w') : Sents w' x0 x1 := by
  obtain ⟨g0, g1, ne, ⟨c0, t0, b0⟩, ⟨c1, t1, b1⟩⟩ := h
  exact ⟨(hb.cell (p := ⟨0, 0, none⟩) (World.block_lt_of_cell? w _ g0)).trans g0, (hb.cell (p := ⟨1, 0, none⟩) (World.block_lt_of_cell? w _ g1)).trans g1, ne, ⟨c0, t0, by rw [hb.block _ (lt_of_block b0)]; exact b0⟩, ⟨c1, t1, by rw [hb.block _ (lt_of_block b1)]; exact b1⟩⟩
def okO (master block : List UInt8) : Bool := formOK master block && tagOK master block
def opCode (master block : List UInt8) : Int := if formOK master block then (if tagOK master block then 0 else 2) else 1
def opU (master block : List UInt8) : Int := if okO master block then (uOf block : Nat) else 0
def opG (master block : List UInt8) : Int := if okO master block then (gOf block : Nat) else 0
def opKey (master block : List UInt8) : List UInt8 := if okO master block then unkeyN master block else []
def opErr (x0 x1 : Addr) (master block : List UInt8) : Value := if formOK master block then (if tagOK master block then .nilIface else .iface 272 (.pointer (some x1))) else .iface 272 (.pointer (some x0))
theorem formOK_parts {master block : List UInt8} (h : formOK master block = true) : master.length = 16 ∧ block.length = 36 ∧ headOK block = true := by
  unfold formOK at h
  simpa [and_assoc] using h
theorem unkeyN_length (master block : List UInt8) (hm : master.length = 16) (hb : block.length = 36) : (unkeyN master block).length = 16 := by
  unfold unkeyN
  rw [xorL_length _ _ (by rw [aesN_length _ _ _ (show (sealK master).length = 16 from cmacN_length master [69] hm), List.length_take, List.length_drop, hb]; rfl), aesN_length _ _ _ (show (sealK master).length = 16 from cmacN_length master [69] hm)]
theorem own_nil (w : World) (base : Nat) : Own w base (.slice none 0 0) [] := ⟨5, World.ownsRow_nil _ _ _ _⟩
theorem own_base {w : World} {B base : Nat} {v : Value} {l : List UInt8} (h : Own w base v l) (hB : B ≤ base) : Own w B v l := by
  obtain ⟨t, h1, h2⟩ := h
  refine ⟨t, h1, ?_⟩
  rcases h2 with h2 | ⟨g, cap, cur, hv, hb, rest⟩
  · exact .inl h2
  · exact .inr ⟨g, cap, cur, hv, by omega, rest⟩
theorem own_not {w : World} {base g : Nat} {v : Value} {l : List UInt8} (h : Own w base v l) (hg : g < base) : v.ownBlock = none ∨ v.ownBlock ≠ some g := by
  obtain ⟨ao, cap, rfl, -, hs, -⟩ := h.shape
  cases ha : ao with
  | none => exact .inl rfl
  | some a =>
    obtain ⟨k, rfl, hk, -⟩ := hs a ha
    right
    simp only [Value.ownBlock, ne_eq, Option.some.injEq]
    omega
/-- impl.openBlock. -/
theorem open_any (master block : List UInt8) (am ab : Option Addr) (cm cb : Nat) (x0 x1 : Addr) (w : World) (hcb : block.length ≤ cb) (hs : Sents w x0 x1) (rm : RowAt w am master) (rb : RowAt w ab block) :
    Calls Tryz.prog 107 #[.slice am master.length cm, .slice ab block.length cb] w fun e w' => ∃ v, e = .returned (.tuple #[.agg #[.int .i64 (opU master block), .int .i64 (opG master block), v], opErr x0 x1 master block]) ∧ Own w' w.heap.size v (opKey master block) ∧ Below w.heap.size w w' := by
  cases hf : formOK master block with
  | false =>
    refine (open_form master block am ab cm cb _ _ w hs.g0 rb hf).mono ?_
    rintro e w' ⟨rfl, bel⟩
    refine ⟨.slice none 0 0, ?_, ?_, bel⟩
    · unfold opU opG opErr okO
      rw [hf]
      rfl
    · unfold opKey okO
      rw [hf]
      exact own_nil _ _
  | true =>
    obtain ⟨h1, h2, h3⟩ := formOK_parts hf
    obtain ⟨kb, ko, rfl, rk⟩ := rm.range (by omega)
    obtain ⟨bb, bo, rfl, rbb⟩ := rb.range (by omega)
    have hc : 36 ≤ cb := by omega
    rw [h1, h2]
    refine (open_main master block kb ko cm bb bo cb _ _ w h1 h2 hc h3 hs.g1 rk rbb).mono ?_
    rintro e w' ⟨⟨g, rfl, hg, hk, ht⟩ | ⟨rfl, ht⟩, bel⟩
    · refine ⟨.slice (some ⟨g, 0, none⟩) 16 16, ?_, ?_, bel⟩
      · unfold opU opG opErr okO
        rw [hf, ht]
        rfl
      · unfold opKey okO
        rw [hf, ht]
        exact own_of_blk hk (Nat.le_of_lt hg) (unkeyN_length _ _ h1 h2) (by unfold maxLen; omega)
    · refine ⟨.slice none 0 0, ?_, ?_, bel⟩
      · unfold opU opG opErr okO
        rw [hf, ht]
        rfl
      · unfold opKey okO
        rw [hf, ht]
        exact own_nil _ _
end Go.Proofs.YtjkofmomoljelaaGreatDoor
