/-
  laws.FnExactRouteOf: from the walk to the given statement.
-/
import Derived.Test.YtnkiodjboicljaaRows
import Derived.Test.YtnkiodjboicljaaLawRouteOf
import Derived.WalkKit
import Derived.ProofKit
import Derived.OpenShut
import Derived.ShutString
import Derived.ChangeOld
import Derived.Below
import Derived.Deep.SlicePairs
namespace Go.Proofs.Ytnkiodjboicljaa.fnExactRouteOf
open Go.ChangeShapes Go.WideShapes Go.ChangeAt Go.RowKit
open Go.ChangeMaps (open_string shut_string)
set_option linter.unusedVariables false

theorem own : ownKnob Try.prog.godebug = none := by kernel_rfl
theorem laidOut : laidOutB Try.prog = true := by kernel_rfl

/-- The routes that came in. -/
theorem routes_of {H : Type} {enc : TypeId × Value → H} {W : World} {a0 : Option Addr} {len0 cap0 : Nat} {x : DataW H × List MemPlace} {fuel : Nat} (h : DataW.trod enc Try.prog W 0 (fun _ => true) true fuel 22 (Value.slice a0 len0 cap0).cells.toList = some x) :
    ∃ rs : List Rt, len0 = rs.length ∧ rs.length ≤ maxLen ∧ (∀ r ∈ rs, r.1.size ≤ maxLen) ∧ RtsAt W a0 rs := by
  rcases Go.Deep.open_slice_pairs Try.underlying22 Try.underlying31 (by kernel_rfl) rfl rfl (by kernel_rfl) (by kernel_rfl) h with ⟨hcs, _⟩ | ⟨a, len, cap, m, n, V0, V1, D0, D1, P0, P1, hcs, _, hl, hm, hmm, _, hx⟩
  · simp [Value.cells] at hcs
    obtain ⟨rfl, rfl, rfl⟩ := hcs
    exact ⟨[], rfl, Nat.zero_le _, by simp, .inl rfl⟩
  · simp [Value.cells] at hcs
    obtain ⟨rfl, rfl, rfl⟩ := hcs
    simp only [if_true] at hmm
    subst hmm
    have each : ∀ i, i < len0 → ∃ r : Rt, V0 i = .string r.1 ∧ V1 i = .int .i64 r.2 ∧ r.1.size ≤ maxLen := by
      intro i hi
      obtain ⟨-, -, h1, h2⟩ := hx i (by omega)
      obtain ⟨s, hs, -, hsz⟩ := DataW.trod_string Try.underlying9 h1
      obtain ⟨z, hz, -, -⟩ := DataW.trod_int Try.underlying3 h2
      simp at hs hz
      exact ⟨(s, z), hs, hz, hsz⟩
    obtain ⟨f, hf⟩ := Go.Deep.choose_lt each
    refine ⟨(List.range len0).map f, by simp, by simp; omega, ?_, ?_⟩
    · intro r hr
      simp at hr
      obtain ⟨i, hi, rfl⟩ := hr
      exact (hf i hi).2.2
    · by_cases h0 : len0 = 0
      · subst h0; exact .inl rfl
      · obtain ⟨b, off, spot⟩ := a
        have hspot : spot = none := by simpa [Addr.add] using World.cell?_spot (hx 0 (by omega)).1
        subst hspot
        refine .inr ⟨b, off, rfl, fun i r hr => ?_⟩
        have hi : i < len0 := by have := (List.getElem?_eq_some_iff.1 hr).1; simpa using this
        simp [hi] at hr
        subst hr
        obtain ⟨e1, e2, -⟩ := hf i hi
        obtain ⟨c1, c2, -, -⟩ := hx i (by omega)
        rw [add_plain, e1] at c1
        rw [add_plain, e2] at c2
        exact ⟨c1, by rw [Nat.add_assoc]; exact c2⟩

theorem walk (a0 : Option Addr) (cap0 : Nat) (rs : List Rt) (pan : ByteArray) (w : World) (hn : rs.length ≤ maxLen) (hpz : pan.size ≤ maxLen) (hs : ∀ r ∈ rs, r.1.size ≤ maxLen) (hr : RtsAt w a0 rs) :
    Calls Try.prog 3 #[.slice a0 rs.length cap0, .string pan] w fun e w' => e = .returned (.bool true) ∧ Below w.heap.size w w' := lawRouteOf a0 cap0 rs pan w hn hpz hs hr

set_option maxRecDepth 100000 in
theorem lifted (os : Os) (started : os.Started) (H : Type) (enc : TypeId × Value → H) :
    ReturnsInHanded {} Try.checked os 3 .any (Rows.fnExactRouteOfSpec.pre6 enc Try.prog Try.f3 Rows.fnExactRouteOfRow.domain false) (Rows.fnExactRouteOfSpec.post enc Try.prog Try.f3 false true false false) := by
  refine returnsInHanded_of_change (C := Try.checked) own started (by kernel_rfl) Try.func3
    (ChangeSpec.witness6 (enc := enc) (C := Try.checked) false ⟨#[], #[.slice none 0 0, .string ByteArray.empty], []⟩ 8 (by kernel_rfl) (by kernel_rfl) (by kernel_rfl) (by kernel_rfl)) ?_
  intro W base args ds gs before hval0 hW hcnd _
  have hval : ∀ (j : Nat) t v, Try.f3.params[j]? = some t → args[j]? = some v → Value.okWide Try.prog W .any base t v := hval0
  have hW' := hW
  obtain ⟨p, q, hA0, hV, rfl, hfz, hnd⟩ := hW
  have hA : DataW.TrodAll enc Try.prog W 0 (fun _ => true) true Try.f3.params.toList args.toList ds p := hA0
  rw [Try.params3] at hA hval
  obtain ⟨v0, vs0, d0, ds0, p0, q0, hargs, rfl, rfl, h0, r0⟩ := trodAll_cons hA
  obtain ⟨v1, vs1, d1, ds1, p1, q1, rfl, rfl, rfl, h1, r1⟩ := trodAll_cons r0
  obtain ⟨rfl, rfl, rfl⟩ := trodAll_nil r1
  obtain rfl : args = #[v0, v1] := by cases args; simp_all
  obtain ⟨rfl, rfl⟩ := trodVars_none hV
  obtain ⟨a0, len0, cap0, rfl⟩ := okWide_slice Try.underlying22 (hval 0 22 v0 rfl rfl)
  have k0 := h0
  have k1 := h1
  have lt0 : ∀ x ∈ p0, x.block < W.heap.size := by obtain ⟨m, hm⟩ := k0; exact DataW.trod_lt m _ _ _ hm
  have lt1 : ∀ x ∈ p1, x.block < W.heap.size := by obtain ⟨m, hm⟩ := k1; exact DataW.trod_lt m _ _ _ hm
  obtain ⟨pan, rfl, -, -, hpz⟩ := open_string Try.underlying9 (hval 1 9 v1 rfl rfl) h1
  obtain ⟨rs, rfl, hn, hs, hr⟩ : ∃ rs : List Rt, len0 = rs.length ∧ rs.length ≤ maxLen ∧ (∀ r ∈ rs, r.1.size ≤ maxLen) ∧ RtsAt W a0 rs := by
    obtain ⟨fuel, hf⟩ := h0
    exact routes_of hf
  clear hA0 hval0
  refine (walk a0 cap0 rs pan W hn hpz hs hr).mono fun e W' ⟨he, bel⟩ => ?_
  subst he
  exact ⟨_, rfl, _, _, _, [], _, [], hW', trodAll_mk1 (shut_bool Try.underlying4 _), (trodAll_cons_mk (Below.trod laidOut (by kernel_rfl) (of_decide_eq_true (by kernel_rfl)) k0 bel lt0) (trodAll_cons_mk (Below.trod laidOut (by kernel_rfl) (of_decide_eq_true (by kernel_rfl)) k1 bel lt1) trodAll_mk0)), rfl, bel.frame _, fun h => by cases h⟩

theorem over : Rows.fnExactRouteOfRow.holds Try.pinned (OpenSpec.ofChange Rows.fnExactRouteOfSpec) :=
  OpenClaim.holds_of_wide 3 Try.f3 rfl rfl rfl rfl rfl rfl rfl ⟨rfl, rfl, rfl, rfl, rfl⟩ rfl rfl rfl rfl rfl (by kernel_rfl) Try.func3 (by kernel_rfl)
    (of_decide_eq_true (by kernel_rfl)) (by unfold Func.isWrapper; first | (rw [if_pos (by decide +kernel)]; kernel_rfl) | (rw [if_neg (by decide +kernel)]; exact ⟨rfl, rfl⟩))
    (fun os started H enc _ => lifted os started H enc)

theorem proved : Rows.FnExactRouteOfSaid := over
#print axioms proved
end Go.Proofs.Ytnkiodjboicljaa.fnExactRouteOf
namespace Go.Proofs.Ytnkiodjboicljaa
theorem fnExactRouteOf_holds : Rows.FnExactRouteOfSaid := fnExactRouteOf.proved
end Go.Proofs.Ytnkiodjboicljaa
