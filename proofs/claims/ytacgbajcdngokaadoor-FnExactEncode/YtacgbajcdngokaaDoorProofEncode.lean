/-
  laws.FnExactEncode: from the walk to the given card.
-/
import Derived.Test.YtacgbajcdngokaaDoorRows
import Derived.Test.YtacgbajcdngokaaDoorTie
import Derived.Test.YtacgbajcdngokaaDoorCards
import Derived.Test.YtacgbajcdngokaaDoorLawEncode
import Derived.Lib.LaidTab
import Derived.Deep.SlicePairs
import Derived.Stop.LaidErr
import Derived.Stop.LaidTwo
import Derived.LaidMore
import Derived.ChangeVars
import Derived.SevenTiedAt
import Derived.Stop.Joined
import Derived.WalkKit
import Derived.ProofKit
import Derived.OpenShut
import Derived.ShutString
import Derived.ChangeOld
import Derived.Below
namespace Go.Proofs.YtacgbajcdngokaaDoor.fnExactEncode
open Go.ChangeShapes Go.WideShapes Go.ChangeAt Go.RowKit
open Go.ChangeMaps (open_string shut_string)
set_option linter.unusedVariables false

theorem own : ownKnob Tryd.prog.godebug = none := by kernel_rfl
theorem laidOut : laidOutB Tryd.prog = true := by kernel_rfl

/-- A slice of integers that came in: nil, or a row of numbers that fit their kind. -/
def IsRow (k : IntKind) (w : World) (a : Option Addr) (len cap : Nat) (zs : List Int) : Prop :=
  (a = none ∧ len = 0 ∧ cap = 0 ∧ zs = []) ∨
  ∃ x, a = some x ∧ len ≤ cap ∧ cap ≤ maxLen ∧ zs.length = cap ∧ (∀ i, i < zs.length → w.cell? (x.add i) = some (.int k (zs.getD i 0))) ∧ ∀ n ∈ zs, (Lit.int k n).wf = true


theorem var_below {P : Program} {W W' : World} {n : String} {g : Nat} {cs : Array Value} (hg : P.globalNamed n = some g) (h : W.var? P n = some cs) (hb : Below W.heap.size W W') : W'.var? P n = some cs := by
  unfold World.var? at h ⊢
  simp only [hg, Option.bind_some] at h ⊢
  have hlt : g < W.heap.size := by
    cases hq : W.heap[g]? with
    | none => simp [hq] at h
    | some o => exact lt_of_block hq
  rw [hb.block g hlt]
  exact h
/-- The door's own heap meets the condition. -/
theorem door_met (os : Os) (args : Array Value) : laidMetH Tryd.prog Rows.fnExactEncodeRow.laid ((World.doorLaid Tryd.prog 400 os).forCall (fun _ _ => 0) ⟨#[], args, []⟩).memory :=
  laidMetH_of_parts3 (fuel := 8) (laidMet_of_run' 8 (by kernel_rfl) (by kernel_rfl)) (by kernel_rfl) (by kernel_rfl)
theorem isRow_le {k : IntKind} {w : World} {a : Option Addr} {len cap : Nat} {zs : List Int} (h : IsRow k w a len cap zs) : len ≤ maxLen := by
  rcases h with ⟨-, h, -, -⟩ | ⟨x, -, h1, h2, -⟩ <;> omega

/-- The bytes of a row that came in. -/
theorem isRow_row {w : World} {a : Option Addr} {len cap : Nat} {zs : List Int} (h : IsRow .u8 w a len cap zs) : ∃ bs : List UInt8, len = bs.length ∧ RowAt w a bs := by
  rcases h with ⟨-, rfl, -, -⟩ | ⟨x, rfl, h1, h2, h3, hc, hw⟩
  · exact ⟨[], rfl, .inl rfl⟩
  · by_cases h0 : len = 0
    · subst h0; exact ⟨[], rfl, .inl rfl⟩
    · obtain ⟨b, off, rfl, hc'⟩ := ints_at hc (by omega)
      have hl : ((zs.take len).map fun z => UInt8.ofNat z.toNat).length = len := by simp; omega
      refine ⟨(zs.take len).map fun z => UInt8.ofNat z.toNat, hl.symm, .inr ⟨b, off, rfl, ?_⟩⟩
      intro i hi
      rw [hl] at hi
      have hz : i < zs.length := by omega
      have hb := bounds_u8 (hw zs[i] (List.getElem_mem hz))
      rw [hc' i hz]
      have e1 : zs.getD i 0 = zs[i] := by simp [hz]
      have e2 : ((zs.take len).map fun z => UInt8.ofNat z.toNat).getD i 0 = UInt8.ofNat zs[i].toNat := by simp [hi, hz]
      rw [e1, e2, UInt8.toNat_ofNat']
      congr 2
      omega

theorem row_in {H : Type} {enc : TypeId × Value → H} {W : World} {n : Nat} {c : Value} {y : DataW H × List MemPlace} (h : DataW.trod enc Tryd.prog W 0 (fun _ => true) true n 26 [c] = some y) : ∃ a l k zs, c = .slice a l k ∧ IsRow .u8 W a l k zs := by
  rcases open_ints Tryd.underlying26 Tryd.underlying5 (by kernel_rfl) h with ⟨hcs, _⟩ | ⟨x, l, c, zs, hcs, _, hl, hm, hz, _, hcell, hwz⟩
  · exact ⟨none, 0, 0, [], by simpa [Value.cells] using hcs, .inl ⟨rfl, rfl, rfl, rfl⟩⟩
  · exact ⟨some x, l, c, zs, by simpa [Value.cells] using hcs, .inr ⟨_, rfl, hl, hm, by simpa using hz, hcell, hwz⟩⟩
theorem str_in {H : Type} {enc : TypeId × Value → H} {W : World} {n : Nat} {c : Value} {y : DataW H × List MemPlace} (h : DataW.trod enc Tryd.prog W 0 (fun _ => true) true n 9 [c] = some y) : ∃ s : ByteArray, c = .string s ∧ s.size ≤ maxLen := by
  obtain ⟨s, hs, -, hl⟩ := DataW.trod_string Tryd.underlying9 h
  exact ⟨s, by simpa using hs, hl⟩
/-- The fields that came in. -/
theorem fields_of {H : Type} {enc : TypeId × Value → H} {W : World} {c : Value} {x : DataW H × List MemPlace} {fuel : Nat} (h : DataW.trod enc Tryd.prog W 0 (fun _ => true) true fuel 22 [c] = some x) :
    ∃ L : List (Int × List UInt8), Fr W c L ∧ L.length ≤ maxLen ∧ ∀ p ∈ L, p.2.length ≤ maxLen := by
  rcases Go.Deep.open_slice_pairs Tryd.underlying22 Tryd.underlying86 (by kernel_rfl) rfl rfl (by kernel_rfl) (by kernel_rfl) h with ⟨hcs, _⟩ | ⟨a, len, cap, m, n, V0, V1, D0, D1, P0, P1, hcs, _, hl, hm, hmm, _, hx⟩
  · simp at hcs
    subst hcs
    exact ⟨[], ⟨⟨none, 0, rfl⟩, fun i h => absurd h (Nat.not_lt_zero i)⟩, Nat.zero_le _, fun p h => by cases h⟩
  · simp at hcs
    subst hcs
    simp only [if_true] at hmm
    subst hmm
    have each : ∀ i, i < len → ∃ r : Int × List UInt8, V0 i = .int .i64 r.1 ∧ r.2.length ≤ maxLen ∧ ∃ ai ci, V1 i = .slice ai r.2.length ci ∧ RowAt W ai r.2 := by
      intro i hi
      obtain ⟨-, -, h1, h2⟩ := hx i (by omega)
      obtain ⟨z, hz, -, -⟩ := DataW.trod_int Tryd.underlying3 h1
      obtain ⟨ai, l, ci, zs, hv, hrow⟩ := row_in h2
      obtain ⟨bs, rfl, hr⟩ := isRow_row hrow
      simp at hz
      exact ⟨(z, bs), hz, isRow_le hrow, ai, ci, hv, hr⟩
    obtain ⟨f, hf⟩ := Go.Deep.choose_lt each
    have hgd : ∀ i, i < len → ((List.range len).map f).getD i (0, []) = f i := fun i hi => by simp [List.getD_eq_getElem?_getD, hi]
    refine ⟨(List.range len).map f, ⟨⟨some a, m, by simp⟩, fun i hi => ?_⟩, by simp; omega, ?_⟩
    · have hi2 : i < len := by simpa using hi
      obtain ⟨b, off, spot⟩ := a
      have hspot : spot = none := by simpa [Addr.add] using World.cell?_spot (hx 0 (by omega)).1
      subst hspot
      obtain ⟨e1, -, ai, ci, e2, hr⟩ := hf i hi2
      obtain ⟨c1, c2, -, -⟩ := hx i (by omega)
      rw [add_plain, e1] at c1
      rw [add_plain, e2] at c2
      rw [hgd i hi2]
      exact ⟨b, off, m, ai, ci, by simp, c1, by rw [Nat.add_assoc]; exact c2, hr⟩
    · intro p hp
      simp at hp
      obtain ⟨i, hi, rfl⟩ := hp
      exact (hf i hi).2.1
set_option maxRecDepth 100000 in
theorem msg_in {H : Type} {enc : TypeId × Value → H} {W : World} {base : Nat} {v0 : Value} {y : DataW H × List MemPlace} (hv : Value.okWide Tryd.prog W .any base 24 v0) (h0 : ∃ fuel, DataW.trod enc Tryd.prog W 0 (fun _ => true) true fuel 24 v0.cells.toList = some y) :
    ∃ (s : ByteArray) (c1 : Value) (L : List (Int × List UInt8)), v0 = .agg #[.string s, c1] ∧ s.size ≤ maxLen ∧ Fr W c1 L ∧ L.length ≤ maxLen ∧ ∀ p ∈ L, p.2.length ≤ maxLen := by
  obtain ⟨cs, rfl, hsz⟩ := okWide_struct Tryd.underlying24 hv
  obtain ⟨fuel, hf⟩ := h0
  have hsz2 : cs.size = 2 := by rw [hsz]; kernel_rfl
  obtain ⟨c0, c1, rfl⟩ : ∃ c0 c1, cs = #[c0, c1] := by
    obtain ⟨l⟩ := cs
    match l, hsz2 with
    | [c0, c1], _ => exact ⟨c0, c1, rfl⟩
  obtain ⟨xs, n, -, -, -, hlen, hfs⟩ := DataW.trod_struct Tryd.underlying24 hf
  have e22 : Tryd.prog.cellsOf 22 = 1 := by kernel_rfl
  have e9 : Tryd.prog.cellsOf 9 = 1 := by kernel_rfl
  have hlen2 : xs.length = 2 := hlen
  obtain ⟨y0, y1, rfl⟩ : ∃ y0 y1, xs = [y0, y1] := by
    match xs, hlen2 with
    | [y0, y1], _ => exact ⟨y0, y1, rfl⟩
  have t0' := hfs 0 _ rfl
  obtain ⟨s, rfl, hs⟩ : ∃ s : ByteArray, c0 = .string s ∧ s.size ≤ maxLen := str_in (c := c0) (n := n) (y := y0) (by simpa [e9, Value.cells] using t0')
  have t1' := hfs 1 _ rfl
  obtain ⟨L, hF, hn, hz⟩ := fields_of (c := c1) (fuel := n) (x := y1) (by simpa [e9, e22, Value.cells] using t1')
  exact ⟨s, c1, L, rfl, hs, hF, hn, hz⟩
theorem gTab : Tryd.prog.globalNamed "internal/strconv.uint64pow10" = some 2 := by kernel_rfl
theorem tTab : (Tryd.prog.globals[2]?).map (·.type) = some 166 := by kernel_rfl
theorem tab_in {W : World} (h : laidMet Tryd.prog Rows.fnExactEncodeRow.laid W) : Lib.TabIs Tryd.prog W "internal/strconv.uint64pow10" .u64 Lib.pow10Tab :=
  Lib.tabIs_of_head (k := .u64) (zs := Lib.pow10Tab) gTab tTab Tryd.underlying166 Tryd.underlying140 (by kernel_rfl) (by kernel_rfl) (laidMet.tail (laidMet.tail h))
theorem tab_below {W W' : World} (h : Lib.TabIs Tryd.prog W "internal/strconv.uint64pow10" .u64 Lib.pow10Tab) (hb : Below W.heap.size W W') : Lib.TabIs Tryd.prog W' "internal/strconv.uint64pow10" .u64 Lib.pow10Tab := by
  unfold Lib.TabIs at h ⊢
  exact var_below gTab h hb

set_option maxRecDepth 100000 in
set_option maxHeartbeats 2000000 in
theorem lifted (os : Os) (started : os.Started) (H : Type) (enc : TypeId × Value → H) :
    ReturnsInHanded {} Tryd.checked os 3 .any (fun w args => (Rows.fnExactEncodeSpec.pre enc Tryd.prog Tryd.f3 [] false w args ∧ laidMetH Tryd.prog Rows.fnExactEncodeRow.laid w) ∧ sizedMet enc Tryd.prog Tryd.f3 (OpenSpec.ofChange Rows.fnExactEncodeSpec) false w args) (Rows.fnExactEncodeSpec.post enc Tryd.prog Tryd.f3 false true false false) := by
  refine returnsInHanded_of_change_and (C := Tryd.checked) (X := fun w _ => laidMetH Tryd.prog Rows.fnExactEncodeRow.laid w) (fun _ _ _ hh h => h.of_heap hh) own started (by kernel_rfl) Tryd.func3
    (ChangeSpec.witness_shaped (enc := enc) (C := Tryd.checked) (os := os) (X := fun w _ => laidMetH Tryd.prog Rows.fnExactEncodeRow.laid w) false (World.doorLaid Tryd.prog 400 os) #[.agg #[.string ByteArray.empty, .slice none 0 0]] 8 rfl (World.shaped_of_RefB (by kernel_rfl) (by kernel_rfl)) (by kernel_rfl) (by kernel_rfl) (by kernel_rfl) (door_met os _)) ?_
  intro W base args ds gs before hval0 hW _ _ hL _
  have hval : ∀ (j : Nat) t v, Tryd.f3.params[j]? = some t → args[j]? = some v → Value.okWide Tryd.prog W .any base t v := hval0
  have hW' := hW
  obtain ⟨p, q, hA0, hV, rfl, hfz, hnd⟩ := hW
  have hA : DataW.TrodAll enc Tryd.prog W 0 (fun _ => true) true Tryd.f3.params.toList args.toList ds p := hA0
  rw [Tryd.params3] at hA hval
  obtain ⟨v0, vs0, d0, ds0, p0, q0, hargs, rfl, rfl, h0, r0⟩ := trodAll_cons hA
  obtain ⟨rfl, rfl, rfl⟩ := trodAll_nil r0
  obtain rfl : args = #[v0] := by cases args; simp_all
  rw [MakeChecks.laidMetH_plain _ _ _ (by kernel_rfl)] at hL
  obtain ⟨rfl, rfl⟩ := trodVars_none hV
  have hTb := tab_in hL
  have k0 := h0
  have lt0 : ∀ x ∈ p0, x.block < W.heap.size := by obtain ⟨m, hm⟩ := k0; exact DataW.trod_lt m _ _ _ hm
  obtain ⟨s, c1, L, rfl, hs, hF, hn, hz⟩ := msg_in (hval 0 24 v0 rfl rfl) h0
  clear hA0 hval0
  refine (lawEncode s L c1 W hF hs hn hz (fun w' hb => tab_below hTb hb)).mono fun e W' ⟨he, bel⟩ => ?_
  subst he
  exact ⟨_, rfl, _, _, _, [], _, _, hW', trodAll_mk1 (shut_bool Tryd.underlying4 _), (trodAll_cons_mk (Below.trod laidOut (by kernel_rfl) (of_decide_eq_true (by kernel_rfl)) k0 bel lt0) trodAll_mk0), rfl, bel.frame _, fun h => by cases h⟩

theorem over : Rows.fnExactEncodeRow.holds Tryd.pinned (OpenSpec.ofChange Rows.fnExactEncodeSpec) :=
  OpenClaim.holds_of_wide 3 Tryd.f3 rfl rfl rfl rfl rfl rfl rfl ⟨rfl, rfl, rfl, rfl, rfl⟩ rfl rfl rfl rfl rfl (by kernel_rfl) Tryd.func3 (by kernel_rfl)
    (of_decide_eq_true (by kernel_rfl)) (by unfold Func.isWrapper; first | (rw [if_pos (by decide +kernel)]; kernel_rfl) | (rw [if_neg (by decide +kernel)]; exact ⟨rfl, rfl⟩))
    (fun os started H enc _ => lifted os started H enc)

theorem proved : Rows.FnExactEncodeSaid := over
theorem card_holds : Claim7.holds Tryd.pinned (.plain (OpenSpec.ofChange Rows.fnExactEncodeSpec)) Rows.fnExactEncodeCard :=
  Claim7.holds_tied_plain_at .later [] [.data, .data, .data] true (true, "709d380496db3a109cea7a31e4257e143a1c557aa40957dca34140364a396584") true
    proved (fun _ h => by cases h) (by kernel_rfl) (fun _ h => by cases h) fnExactEncode_row_tie rfl ⟨rfl, rfl⟩ (by kernel_rfl) rfl
    (fun f fn hf hfn => by
      obtain rfl : f = 3 := Option.some.inj ((show Tryd.prog.funcNamed "loop.example/s01728/laws.FnExactEncode" = some 3 by kernel_rfl).symm.trans hf) |>.symm
      obtain rfl : fn = Tryd.f3 := (Option.some.inj (Tryd.func3.symm.trans hfn)).symm
      exact ⟨by kernel_rfl, fun j t ht => by
        rw [Tryd.params3] at ht
        have hm : t ∈ [24] := by simpa using Array.mem_of_getElem? ht
        have hall : ([24].all fun u => !Tryd.prog.wantsStandIn u) = true := by kernel_rfl
        exact (show Tryd.prog.wantsStandIn t = false by simpa using List.all_eq_true.1 hall t hm)⟩)
    (by kernel_rfl)
end Go.Proofs.YtacgbajcdngokaaDoor.fnExactEncode
namespace Go.Proofs.YtacgbajcdngokaaDoor
theorem fnExactEncode_holds : Rows.FnExactEncodeCardSaid := fnExactEncode.card_holds
end Go.Proofs.YtacgbajcdngokaaDoor
