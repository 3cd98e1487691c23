/-
  What MakePin makes is read back.
-/
import Derived.Test.YtoajfbkblpaejaaDoorTransDef
namespace Go.Proofs.YtoajfbkblpaejaaDoor
open Go.RowKit

theorem xorL_zer : ∀ (l : List UInt8), xorL (List.replicate l.length 0) l = l := by
  intro l
  induction l with
  | nil => rfl
  | cons a l ih => unfold xorL at ih ⊢; simp [List.replicate_succ, ih]
theorem nib_zeros (n : Nat) : nibL (List.replicate n 0) = List.replicate (2 * n) 0 := by
  induction n with
  | zero => rfl
  | succ n ih =>
    rw [List.replicate_succ, show 2 * (n + 1) = 2 * n + 1 + 1 from by omega, List.replicate_succ, List.replicate_succ, ← ih]
    simp [nibL]
theorem ofN_inj16 : ∀ a : Nat, a < 16 → ∀ b : Nat, b < 16 → ofN a = ofN b → a = b := by decide +kernel
theorem map_ofN_inj : ∀ (a b : List Nat), (∀ d ∈ a, d < 16) → (∀ d ∈ b, d < 16) → a.map ofN = b.map ofN → a = b := by
  intro a
  induction a with
  | nil => intro b _ _ h; cases b with | nil => rfl | cons x y => simp at h
  | cons x y ih =>
    intro b ha hb h
    cases b with
    | nil => simp at h
    | cons z t =>
      simp only [List.map_cons, List.cons.injEq] at h
      rw [ofN_inj16 x (ha x (by simp)) z (hb z (by simp)) h.1, ih t (fun d hd => ha d (by simp [hd])) (fun d hd => hb d (by simp [hd])) h.2]
theorem nib_block (es : List Nat) (he : es.length = 16) (hel : ∀ d ∈ es, d < 16) : nibL (blockN (wordH es)) = es := by
  have h := nib_eq (List.replicate 8 0) es (by simp) he hel
  have e1 : xorL (List.replicate 8 0) (blockN (wordH es)) = blockN (wordH es) := by
    have := xorL_zer (blockN (wordH es))
    rwa [blockN_length] at this
  have e2 : xorL ((nibL (List.replicate 8 0)).map ofN) (es.map ofN) = es.map ofN := by
    have := xorL_zer (es.map ofN)
    rw [List.length_map, he] at this
    rw [nib_zeros, List.map_replicate]
    exact this
  rw [e1, e2] at h
  exact (map_ofN_inj _ _ hel (nibL_lt _) h).symm
theorem xorL_twice (a b : List UInt8) (h : a.length = b.length) : xorL (xorL a b) b = a := by
  induction a generalizing b with
  | nil => rfl
  | cons x y ih =>
    cases b with
    | nil => simp at h
    | cons z t =>
      have h2 := ih t (by simpa using h)
      unfold xorL at h2 ⊢
      simp only [List.zipWith_cons_cons, h2, List.cons.injEq, and_true]
      rw [UInt8.xor_assoc, UInt8.xor_self, UInt8.xor_zero]
theorem readD_pinL (f : Nat) (pin pan : ByteArray) (draws : List UInt8) (hf : f < 16) (h12 : pin.size ≤ 12) (hd : f = 3 → 14 - pin.size ≤ draws.length) (hp : digs pin = true) : readD (pinL f pin pan draws) pan = pinN f pin draws := by
  unfold readD pinL
  rw [xorL_twice _ _ (by rw [blockN_length, blockN_length]), nib_block _ (pinN_length _ _ _ h12 hd) (pinN_lt _ _ _ hf h12 hp)]
theorem pinD_pinN (f : Nat) (pin : ByteArray) (draws : List UInt8) : pinD (pinN f pin draws) = pin.data.toList.map pdigN ∧ fillD (pinN f pin draws) = fillN f pin draws := by
  have hl : (pin.data.toList.map pdigN).length = pin.size := by rw [List.length_map]; rfl
  unfold pinD fillD pinN
  show ((pin.data.toList.map pdigN ++ fillN f pin draws).take pin.size = _) ∧ ((pin.data.toList.map pdigN ++ fillN f pin draws).drop pin.size = _)
  exact ⟨by rw [← hl]; exact List.take_left, by rw [← hl]; exact List.drop_left⟩
theorem fillN_ok (f : Nat) (pin : ByteArray) (draws : List UInt8) : (fillN f pin draws).all (fillOK f) = true := by
  rw [List.all_eq_true]
  intro d hd
  unfold fillN at hd
  split at hd
  · rename_i h3
    obtain ⟨b, -, rfl⟩ := List.mem_map.1 hd
    subst h3
    unfold fillOK
    simp
  · have := List.eq_of_mem_replicate hd
    unfold fillOK
    simp [this]
theorem digs_lt (pin : ByteArray) (hp : digs pin = true) : (pin.data.toList.map pdigN).all (fun d => decide (d < 10)) = true := by
  rw [List.all_eq_true]
  intro d hd
  obtain ⟨b, hb, rfl⟩ := List.mem_map.1 hd
  unfold digs at hp
  rw [List.all_eq_true] at hp
  have := dig_to (hp b hb)
  unfold pdigN
  simp only [decide_eq_true_eq]
  omega
theorem text_pin (pin : ByteArray) (hp : digs pin = true) : textOf (pin.data.toList.map pdigN) = pin := by
  unfold textOf
  rw [digs_text pin hp]
/-- What MakePin made: read in its own format it is the PIN, in the other it is refused. -/
theorem read_made (f : Nat) (pin pan : ByteArray) (draws : List UInt8) (hg : goodPin f pin pan = true) (hd : f = 3 → 14 - pin.size ≤ draws.length) :
    readOK f (mkL f pin pan draws) pan = true ∧ textOf (pinD (readD (mkL f pin pan draws) pan)) = pin ∧ (∀ g : Nat, g ≠ f → readOK g (mkL f pin pan draws) pan = false) := by
  obtain ⟨hf, h4, h12, hp, h13, h19, hq⟩ := good_parts hg
  have e : mkL f pin pan draws = pinL f pin pan draws := by
    unfold mkL
    rw [if_pos hg, if_neg (by rintro ⟨h, h2⟩; have := hd (by omega); omega)]
    rfl
  have hr := readD_pinL f pin pan draws (by omega) h12 hd hp
  have h0 : (pinN f pin draws).getD 0 0 = f := rfl
  have h1 : (pinN f pin draws).getD 1 0 = pin.size := rfl
  rw [e, hr, (pinD_pinN f pin draws).1, text_pin pin hp]
  refine ⟨?_, rfl, fun g hgf => ?_⟩
  · unfold readOK clearOK
    rw [hr, Int.toNat_natCast, h0, h1, (pinD_pinN f pin draws).1, (pinD_pinN f pin draws).2, fillN_ok, digs_lt pin hp, pinL_length]
    have hf' : (decide ((f : Int) = 0) || decide ((f : Int) = 3)) = true := by simpa using hf
    rw [hf']
    simp [h4, h12, h13, h19, hq]
  · unfold readOK clearOK
    rw [hr, Int.toNat_natCast, h0, decide_eq_false (show ¬ f = g from fun h => hgf h.symm)]
    simp
end Go.Proofs.YtoajfbkblpaejaaDoor
