/-
  laws.FnExactWrap: from the walk to the given statement.
-/
import Derived.Test.YtdelidfigcgglaaRows
import Derived.Test.YtdelidfigcgglaaLawWrap
import Derived.WalkKit
import Derived.ProofKit
import Derived.OpenShut
import Derived.ShutString
import Derived.ChangeOld
import Derived.Below
import Derived.Deep.Strs
namespace Go.Proofs.Ytdelidfigcgglaa.fnExactWrap
open Go.ChangeShapes Go.WideShapes Go.ChangeAt Go.RowKit
set_option linter.unusedVariables false

theorem own : ownKnob Try.prog.godebug = none := by kernel_rfl
theorem laidOut : laidOutB Try.prog = true := by kernel_rfl

/-- A slice of integers that came in: nil, or a row of numbers that fit their kind. -/
def IsRow (k : IntKind) (w : World) (a : Option Addr) (len cap : Nat) (zs : List Int) : Prop :=
  (a = none ∧ len = 0 ∧ cap = 0 ∧ zs = []) ∨
  ∃ x, a = some x ∧ len ≤ cap ∧ cap ≤ maxLen ∧ zs.length = cap ∧ (∀ i, i < zs.length → w.cell? (x.add i) = some (.int k (zs.getD i 0))) ∧ ∀ n ∈ zs, (Lit.int k n).wf = true

theorem isRow_le {k : IntKind} {w : World} {a : Option Addr} {len cap : Nat} {zs : List Int} (h : IsRow k w a len cap zs) : len ≤ maxLen := by
  rcases h with ⟨-, h, -, -⟩ | ⟨x, -, h1, h2, -⟩ <;> omega

/-- The bytes of a row that came in. -/
theorem isRow_row {w : World} {a : Option Addr} {len cap : Nat} {zs : List Int} (h : IsRow .u8 w a len cap zs) : ∃ bs : List UInt8, len = bs.length ∧ RowAt w a bs := by
  rcases h with ⟨-, rfl, -, -⟩ | ⟨x, rfl, h1, h2, h3, hc, hw⟩
  · exact ⟨[], rfl, .inl rfl⟩
  · by_cases h0 : len = 0
    · subst h0; exact ⟨[], rfl, .inl rfl⟩
    · obtain ⟨b, off, rfl, hc'⟩ := ints_at hc (by omega)
      have hl : ((zs.take len).map fun z => UInt8.ofNat z.toNat).length = len := by simp; omega
      refine ⟨(zs.take len).map fun z => UInt8.ofNat z.toNat, hl.symm, .inr ⟨b, off, rfl, ?_⟩⟩
      intro i hi
      rw [hl] at hi
      have hz : i < zs.length := by omega
      have hb := bounds_u8 (hw zs[i] (List.getElem_mem hz))
      rw [hc' i hz]
      have e1 : zs.getD i 0 = zs[i] := by simp [hz]
      have e2 : ((zs.take len).map fun z => UInt8.ofNat z.toNat).getD i 0 = UInt8.ofNat zs[i].toNat := by simp [hi, hz]
      rw [e1, e2, UInt8.toNat_ofNat']
      congr 2
      omega


set_option maxHeartbeats 1000000 in
theorem far1 (u gen : Int) (am ay : Option Addr) (n m cm cy : Nat) (w : World) (hn : 1048576 < n) (hx : n ≤ maxLen) :
    Calls Try.prog 6 #[.slice am n cm, .agg #[.int .i64 u, .int .i64 gen, .slice ay m cy]] w fun e w' => e = .returned (.bool true) ∧ Below w.heap.size w w' := by
  have hb : Below w.heap.size w (w.alloc (.cells #[.int .i64 u, .int .i64 gen, .slice ay m cy] 32)) := below_new _ _
  have hn' : (1048576 : Int) < (n : Int) := by omega
  go_enter Try.func6, Try.ntmps6
  go_wp2
  go_ret
  exact ⟨rfl, hb⟩
set_option maxHeartbeats 1000000 in
theorem far2 (u gen : Int) (am ay : Option Addr) (n m cm cy : Nat) (w : World) (hn : n ≤ 1048576) (hm : 1048576 < m) (hx : m ≤ maxLen) :
    Calls Try.prog 6 #[.slice am n cm, .agg #[.int .i64 u, .int .i64 gen, .slice ay m cy]] w fun e w' => e = .returned (.bool true) ∧ Below w.heap.size w w' := by
  have hb : Below w.heap.size w (w.alloc (.cells #[.int .i64 u, .int .i64 gen, .slice ay m cy] 32)) := below_new _ _
  have hn' : ¬ ((1048576 : Int) < (n : Int)) := by omega
  have HZ := hid_of' (fun (wx : World) => szKI_any u gen m ay cy 1048576 wx hx (by omega) (by omega))
  rw [if_pos (show ((1048576 : Int) - (m : Int) < 0) by omega)] at HZ
  go_enter Try.func6, Try.ntmps6
  go_wp2_with fail
  refine (HZ.out _).mono ?_
  rintro e w1 ⟨rfl, bel1⟩
  have b1 := below_step hb bel1
  clear hb bel1
  go_wp2
  go_ret
  exact ⟨rfl, b1⟩

set_option maxRecDepth 100000 in
theorem lifted (os : Os) (started : os.Started) (H : Type) (enc : TypeId × Value → H) :
    ReturnsInHanded {} Try.checked os 6 .any (Rows.fnExactWrapSpec.pre6 enc Try.prog Try.f6 Rows.fnExactWrapRow.domain false) (Rows.fnExactWrapSpec.post enc Try.prog Try.f6 false true false false) := by
  refine returnsInHanded_of_change (C := Try.checked) own started (by kernel_rfl) Try.func6
    (ChangeSpec.witness6 (enc := enc) (C := Try.checked) false ⟨#[], #[.slice none 0 0, .agg #[.int .i64 0, .int .i64 0, .slice none 0 0]], []⟩ 8 (by kernel_rfl) (by kernel_rfl) (by kernel_rfl) (by kernel_rfl)) ?_
  intro W base args ds gs before hval0 hW hcnd _
  have hval : ∀ (j : Nat) t v, Try.f6.params[j]? = some t → args[j]? = some v → Value.okWide Try.prog W .any base t v := hval0
  have hW' := hW
  obtain ⟨p, q, hA0, hV, rfl, hfz, hnd⟩ := hW
  have hA : DataW.TrodAll enc Try.prog W 0 (fun _ => true) true Try.f6.params.toList args.toList ds p := hA0
  rw [Try.params6] at hA hval
  obtain ⟨v0, vs0, d0, ds0, p0, q0, hargs, rfl, rfl, h0, r0⟩ := trodAll_cons hA
  obtain ⟨v1, vs1, d1, ds1, p1, q1, rfl, rfl, rfl, h1, r1⟩ := trodAll_cons r0
  obtain ⟨rfl, rfl, rfl⟩ := trodAll_nil r1
  obtain rfl : args = #[v0, v1] := by cases args; simp_all
  obtain ⟨rfl, rfl⟩ := trodVars_none hV
  obtain ⟨a0, len0, cap0, rfl⟩ := okWide_slice Try.underlying22 (hval 0 22 v0 rfl rfl)
  have k0 := h0
  have k1 := h1
  have lt0 : ∀ x ∈ p0, x.block < W.heap.size := by obtain ⟨m, hm⟩ := k0; exact DataW.trod_lt m _ _ _ hm
  have lt1 : ∀ x ∈ p1, x.block < W.heap.size := by obtain ⟨m, hm⟩ := k1; exact DataW.trod_lt m _ _ _ hm
  obtain ⟨z0, w0⟩ : ∃ zs, IsRow .u8 W a0 len0 cap0 zs := by
    obtain ⟨fuel, hf⟩ := h0
    rcases open_ints Try.underlying22 Try.underlying5 (by kernel_rfl) hf with ⟨hcs, _⟩ | ⟨x, l, c, zs, hcs, _, hl, hm, hz, _, hcell, hwz⟩
    · simp [Value.cells] at hcs
      obtain ⟨rfl, rfl, rfl⟩ := hcs
      exact ⟨[], .inl ⟨rfl, rfl, rfl, rfl⟩⟩
    · simp [Value.cells] at hcs
      obtain ⟨rfl, rfl, rfl⟩ := hcs
      exact ⟨zs, .inr ⟨_, rfl, hl, hm, by simpa using hz, hcell, hwz⟩⟩
  obtain ⟨u, gen, a1, len1, cap1, z1, rfl, w1⟩ : ∃ u gen a1 len1 cap1 zs, v1 = .agg #[.int .i64 u, .int .i64 gen, .slice a1 len1 cap1] ∧ IsRow .u8 W a1 len1 cap1 zs := by
    obtain ⟨cs, rfl, hsz⟩ := okWide_struct Try.underlying32 (hval 1 32 v1 rfl rfl)
    obtain ⟨fuel, hf⟩ := h1
    have hsz3 : cs.size = 3 := by rw [hsz]; kernel_rfl
    obtain ⟨c0, c1, c2, rfl⟩ : ∃ c0 c1 c2, cs = #[c0, c1, c2] := ⟨cs[0], cs[1], cs[2], by
      apply Array.ext
      · simp [hsz3]
      · intro i hi1 hi2
        match i, hi2 with
        | 0, _ => rfl
        | 1, _ => rfl
        | 2, _ => rfl⟩
    obtain ⟨y0, y1, y2, n, -, -, t0, t1, t2⟩ := Go.Deep.trod_struct3 Try.underlying32 hf
    have e3 : Try.prog.cellsOf 3 = 1 := by kernel_rfl
    have e22 : Try.prog.cellsOf 22 = 1 := by kernel_rfl
    obtain ⟨u, hu, -, -⟩ := DataW.trod_int Try.underlying3 t0
    obtain ⟨gen, hg, -, -⟩ := DataW.trod_int Try.underlying3 t1
    have hu' : c0 = .int .i64 u := by simpa [e3, Value.cells] using hu
    have hg' : c1 = .int .i64 gen := by simpa [e3, Value.cells] using hg
    subst hu' hg'
    rcases open_ints Try.underlying22 Try.underlying5 (by kernel_rfl) t2 with ⟨hcs, _⟩ | ⟨x, l, c, zs, hcs, _, hl, hm, hz, _, hcell, hwz⟩
    · have hc' : c2 = .slice none 0 0 := by simpa [e22, Value.cells] using hcs
      subst hc'
      exact ⟨u, gen, none, 0, 0, [], rfl, .inl ⟨rfl, rfl, rfl, rfl⟩⟩
    · have hc' : c2 = .slice (some x) l c := by simpa [e22, Value.cells] using hcs
      subst hc'
      exact ⟨u, gen, some x, l, c, zs, rfl, .inr ⟨_, rfl, hl, hm, by simpa using hz, hcell, hwz⟩⟩
  have hle0 := isRow_le w0
  have hle1 := isRow_le w1
  clear hA0 hval0
  have key : Calls Try.prog 6 #[.slice a0 len0 cap0, .agg #[.int .i64 u, .int .i64 gen, .slice a1 len1 cap1]] W fun e w' => e = .returned (.bool true) ∧ Below W.heap.size W w' := by
    by_cases hl0 : len0 ≤ 1048576
    · by_cases hl1 : len1 ≤ 1048576
      · obtain ⟨bs0, rfl, hr0⟩ := isRow_row w0
        obtain ⟨bs1, rfl, hr1⟩ := isRow_row w1
        exact lawWrap u gen a0 a1 cap0 cap1 bs0 bs1 W hl0 hl1 hr0 hr1
      · exact far2 u gen a0 a1 len0 len1 cap0 cap1 W hl0 (by omega) hle1
    · exact far1 u gen a0 a1 len0 len1 cap0 cap1 W (by omega) hle0
  refine key.mono fun e W' ⟨he, bel⟩ => ?_
  subst he
  exact ⟨_, rfl, _, _, _, [], _, [], hW', trodAll_mk1 (shut_bool Try.underlying4 _), (trodAll_cons_mk (Below.trod laidOut (by kernel_rfl) (of_decide_eq_true (by kernel_rfl)) k0 bel lt0) (trodAll_cons_mk (Below.trod laidOut (by kernel_rfl) (of_decide_eq_true (by kernel_rfl)) k1 bel lt1) trodAll_mk0)), rfl, bel.frame _, fun h => by cases h⟩

theorem over : Rows.fnExactWrapRow.holds Try.pinned (OpenSpec.ofChange Rows.fnExactWrapSpec) :=
  OpenClaim.holds_of_wide 6 Try.f6 rfl rfl rfl rfl rfl rfl rfl ⟨rfl, rfl, rfl, rfl, rfl⟩ rfl rfl rfl rfl rfl (by kernel_rfl) Try.func6 (by kernel_rfl)
    (of_decide_eq_true (by kernel_rfl)) (by unfold Func.isWrapper; first | (rw [if_pos (by decide +kernel)]; kernel_rfl) | (rw [if_neg (by decide +kernel)]; exact ⟨rfl, rfl⟩))
    (fun os started H enc _ => lifted os started H enc)

theorem proved : Rows.FnExactWrapSaid := over
#print axioms proved
end Go.Proofs.Ytdelidfigcgglaa.fnExactWrap
namespace Go.Proofs.Ytdelidfigcgglaa
theorem fnExactWrap_holds : Rows.FnExactWrapSaid := fnExactWrap.proved
end Go.Proofs.Ytdelidfigcgglaa
