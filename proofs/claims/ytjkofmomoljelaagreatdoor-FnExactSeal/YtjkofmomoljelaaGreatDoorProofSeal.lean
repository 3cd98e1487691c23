/-
  laws.FnExactSeal: from the walk to the given card.
-/
import Derived.Test.YtjkofmomoljelaaGreatDoorRows
import Derived.Test.YtjkofmomoljelaaGreatDoorTie
import Derived.Test.YtjkofmomoljelaaGreatDoorCards
import Derived.Test.YtjkofmomoljelaaGreatDoorSgM
import Derived.Lib.LaidTab
import Derived.Deep.SlicePairs
import Derived.Stop.LaidErr
import Derived.Stop.LaidTwo
import Derived.LaidMore
import Derived.ChangeVars
import Derived.SevenTiedAt
import Derived.Stop.Joined
import Derived.WalkKit
import Derived.ProofKit
import Derived.OpenShut
import Derived.ShutString
import Derived.ChangeOld
import Derived.Below
namespace Go.Proofs.YtjkofmomoljelaaGreatDoor.fnExactSeal
open Go.ChangeShapes Go.WideShapes Go.ChangeAt Go.RowKit
open Go.ChangeMaps (open_string shut_string)
set_option linter.unusedVariables false

theorem own : ownKnob Tryz.prog.godebug = none := by kernel_rfl
theorem laidOut : laidOutB Tryz.prog = true := by kernel_rfl

/-- A slice of integers that came in: nil, or a row of numbers that fit their kind. -/
def IsRow (k : IntKind) (w : World) (a : Option Addr) (len cap : Nat) (zs : List Int) : Prop :=
  (a = none ∧ len = 0 ∧ cap = 0 ∧ zs = []) ∨
  ∃ x, a = some x ∧ len ≤ cap ∧ cap ≤ maxLen ∧ zs.length = cap ∧ (∀ i, i < zs.length → w.cell? (x.add i) = some (.int k (zs.getD i 0))) ∧ ∀ n ∈ zs, (Lit.int k n).wf = true

theorem g0 : Tryz.prog.globalNamed "loop.example/s01728/impl.errBlockForm" = some 0 := by kernel_rfl
theorem t0 : (Tryz.prog.globals[0]?).map (·.type) = some 177 := by kernel_rfl
theorem g1 : Tryz.prog.globalNamed "loop.example/s01728/impl.errBlockTag" = some 1 := by kernel_rfl
theorem t1 : (Tryz.prog.globals[1]?).map (·.type) = some 177 := by kernel_rfl
theorem cE : Tryz.prog.cellsOf 274 = 1 := by kernel_rfl
theorem cS : Tryz.prog.cellsOf 9 = 1 := by kernel_rfl
theorem star : "*" ++ "errors.errorString" = "*errors.errorString" := by decide
theorem rowP (u : TypeId) (h : Tryz.prog.typeName? 3 u = some "*errors.errorString") : u = 272 :=
  typeName_ptr_named (nm := "errors.errorString") (by rw [star]; kernel_rfl) (by kernel_rfl) (by decide) u (by rw [star]; exact h)
theorem var_below {P : Program} {W W' : World} {n : String} {g : Nat} {cs : Array Value} (hg : P.globalNamed n = some g) (h : W.var? P n = some cs) (hb : Below W.heap.size W W') : W'.var? P n = some cs := by
  unfold World.var? at h ⊢
  simp only [hg, Option.bind_some] at h ⊢
  have hlt : g < W.heap.size := by
    cases hq : W.heap[g]? with
    | none => simp [hq] at h
    | some o => exact lt_of_block hq
  rw [hb.block g hlt]
  exact h
/-- The door's own heap meets the condition. -/
theorem door_met (os : Os) (args : Array Value) : laidMetH Tryz.prog Rows.fnExactSealRow.laid ((World.doorLaid Tryz.prog 400 os).forCall (fun _ _ => 0) ⟨#[], args, []⟩).memory :=
  laidMetH_of_parts3 (fuel := 8) (laidMet_of_run' 8 (by kernel_rfl) (by kernel_rfl)) (by kernel_rfl) (by kernel_rfl)
theorem isRow_le {k : IntKind} {w : World} {a : Option Addr} {len cap : Nat} {zs : List Int} (h : IsRow k w a len cap zs) : len ≤ maxLen := by
  rcases h with ⟨-, h, -, -⟩ | ⟨x, -, h1, h2, -⟩ <;> omega

/-- The bytes of a row that came in. -/
theorem isRow_row {w : World} {a : Option Addr} {len cap : Nat} {zs : List Int} (h : IsRow .u8 w a len cap zs) : ∃ bs : List UInt8, len = bs.length ∧ RowAt w a bs := by
  rcases h with ⟨-, rfl, -, -⟩ | ⟨x, rfl, h1, h2, h3, hc, hw⟩
  · exact ⟨[], rfl, .inl rfl⟩
  · by_cases h0 : len = 0
    · subst h0; exact ⟨[], rfl, .inl rfl⟩
    · obtain ⟨b, off, rfl, hc'⟩ := ints_at hc (by omega)
      have hl : ((zs.take len).map fun z => UInt8.ofNat z.toNat).length = len := by simp; omega
      refine ⟨(zs.take len).map fun z => UInt8.ofNat z.toNat, hl.symm, .inr ⟨b, off, rfl, ?_⟩⟩
      intro i hi
      rw [hl] at hi
      have hz : i < zs.length := by omega
      have hb := bounds_u8 (hw zs[i] (List.getElem_mem hz))
      rw [hc' i hz]
      have e1 : zs.getD i 0 = zs[i] := by simp [hz]
      have e2 : ((zs.take len).map fun z => UInt8.ofNat z.toNat).getD i 0 = UInt8.ofNat zs[i].toNat := by simp [hi, hz]
      rw [e1, e2, UInt8.toNat_ofNat']
      congr 2
      omega

theorem row_in {H : Type} {enc : TypeId × Value → H} {W : World} {n : Nat} {c : Value} {y : DataW H × List MemPlace} (h : DataW.trod enc Tryz.prog W 0 (fun _ => true) true n 22 [c] = some y) : ∃ a l k zs, c = .slice a l k ∧ IsRow .u8 W a l k zs := by
  rcases open_ints Tryz.underlying22 Tryz.underlying5 (by kernel_rfl) h with ⟨hcs, _⟩ | ⟨x, l, c, zs, hcs, _, hl, hm, hz, _, hcell, hwz⟩
  · exact ⟨none, 0, 0, [], by simpa [Value.cells] using hcs, .inl ⟨rfl, rfl, rfl, rfl⟩⟩
  · exact ⟨some x, l, c, zs, by simpa [Value.cells] using hcs, .inr ⟨_, rfl, hl, hm, by simpa using hz, hcell, hwz⟩⟩
theorem str_in {H : Type} {enc : TypeId × Value → H} {W : World} {n : Nat} {c : Value} {y : DataW H × List MemPlace} (h : DataW.trod enc Tryz.prog W 0 (fun _ => true) true n 9 [c] = some y) : ∃ s : ByteArray, c = .string s ∧ s.size ≤ maxLen := by
  obtain ⟨s, hs, -, hl⟩ := DataW.trod_string Tryz.underlying9 h
  exact ⟨s, by simpa using hs, hl⟩
/-- The fields that came in. -/
theorem fields_of {H : Type} {enc : TypeId × Value → H} {W : World} {c : Value} {x : DataW H × List MemPlace} {fuel : Nat} (h : DataW.trod enc Tryz.prog W 0 (fun _ => true) true fuel 44 [c] = some x) :
    ∃ L : List (Int × List UInt8), Fr W c L ∧ L.length ≤ maxLen ∧ ∀ p ∈ L, p.2.length ≤ maxLen := by
  rcases Go.Deep.open_slice_pairs Tryz.underlying44 Tryz.underlying133 (by kernel_rfl) rfl rfl (by kernel_rfl) (by kernel_rfl) h with ⟨hcs, _⟩ | ⟨a, len, cap, m, n, V0, V1, D0, D1, P0, P1, hcs, _, hl, hm, hmm, _, hx⟩
  · simp at hcs
    subst hcs
    exact ⟨[], ⟨⟨none, 0, rfl⟩, fun i h => absurd h (Nat.not_lt_zero i)⟩, Nat.zero_le _, fun p h => by cases h⟩
  · simp at hcs
    subst hcs
    simp only [if_true] at hmm
    subst hmm
    have each : ∀ i, i < len → ∃ r : Int × List UInt8, V0 i = .int .i64 r.1 ∧ r.2.length ≤ maxLen ∧ ∃ ai ci, V1 i = .slice ai r.2.length ci ∧ RowAt W ai r.2 := by
      intro i hi
      obtain ⟨-, -, h1, h2⟩ := hx i (by omega)
      obtain ⟨z, hz, -, -⟩ := DataW.trod_int Tryz.underlying3 h1
      obtain ⟨ai, l, ci, zs, hv, hrow⟩ := row_in h2
      obtain ⟨bs, rfl, hr⟩ := isRow_row hrow
      simp at hz
      exact ⟨(z, bs), hz, isRow_le hrow, ai, ci, hv, hr⟩
    obtain ⟨f, hf⟩ := Go.Deep.choose_lt each
    have hgd : ∀ i, i < len → ((List.range len).map f).getD i (0, []) = f i := fun i hi => by simp [List.getD_eq_getElem?_getD, hi]
    refine ⟨(List.range len).map f, ⟨⟨some a, m, by simp⟩, fun i hi => ?_⟩, by simp; omega, ?_⟩
    · have hi2 : i < len := by simpa using hi
      obtain ⟨b, off, spot⟩ := a
      have hspot : spot = none := by simpa [Addr.add] using World.cell?_spot (hx 0 (by omega)).1
      subst hspot
      obtain ⟨e1, -, ai, ci, e2, hr⟩ := hf i hi2
      obtain ⟨c1, c2, -, -⟩ := hx i (by omega)
      rw [add_plain, e1] at c1
      rw [add_plain, e2] at c2
      rw [hgd i hi2]
      exact ⟨b, off, m, ai, ci, by simp, c1, by rw [Nat.add_assoc]; exact c2, hr⟩
    · intro p hp
      simp at hp
      obtain ⟨i, hi, rfl⟩ := hp
      exact (hf i hi).2.1
set_option maxRecDepth 100000 in
theorem msg_in {H : Type} {enc : TypeId × Value → H} {W : World} {base : Nat} {v0 : Value} {y : DataW H × List MemPlace} (hv : Value.okWide Tryz.prog W .any base 46 v0) (h0 : ∃ fuel, DataW.trod enc Tryz.prog W 0 (fun _ => true) true fuel 46 v0.cells.toList = some y) :
    ∃ (s : ByteArray) (c1 : Value) (L : List (Int × List UInt8)), v0 = .agg #[.string s, c1] ∧ s.size ≤ maxLen ∧ Fr W c1 L ∧ L.length ≤ maxLen ∧ ∀ p ∈ L, p.2.length ≤ maxLen := by
  obtain ⟨cs, rfl, hsz⟩ := okWide_struct Tryz.underlying46 hv
  obtain ⟨fuel, hf⟩ := h0
  have hsz2 : cs.size = 2 := by rw [hsz]; kernel_rfl
  obtain ⟨c0, c1, rfl⟩ : ∃ c0 c1, cs = #[c0, c1] := by
    obtain ⟨l⟩ := cs
    match l, hsz2 with
    | [c0, c1], _ => exact ⟨c0, c1, rfl⟩
  obtain ⟨xs, n, -, -, -, hlen, hfs⟩ := DataW.trod_struct Tryz.underlying46 hf
  have e22 : Tryz.prog.cellsOf 44 = 1 := by kernel_rfl
  have e9 : Tryz.prog.cellsOf 9 = 1 := by kernel_rfl
  have hlen2 : xs.length = 2 := hlen
  obtain ⟨y0, y1, rfl⟩ : ∃ y0 y1, xs = [y0, y1] := by
    match xs, hlen2 with
    | [y0, y1], _ => exact ⟨y0, y1, rfl⟩
  have t0' := hfs 0 _ rfl
  obtain ⟨s, rfl, hs⟩ : ∃ s : ByteArray, c0 = .string s ∧ s.size ≤ maxLen := str_in (c := c0) (n := n) (y := y0) (by simpa [e9, Value.cells] using t0')
  have t1' := hfs 1 _ rfl
  obtain ⟨L, hF, hn, hz⟩ := fields_of (c := c1) (fuel := n) (x := y1) (by simpa [e9, e22, Value.cells] using t1')
  exact ⟨s, c1, L, rfl, hs, hF, hn, hz⟩
theorem gTab : Tryz.prog.globalNamed "internal/strconv.uint64pow10" = some 4 := by kernel_rfl
theorem tTab : (Tryz.prog.globals[4]?).map (·.type) = some 277 := by kernel_rfl
theorem tab_in {W : World} (h : laidMet Tryz.prog Rows.fnExactSealRow.laid W) : Lib.TabIs Tryz.prog W "internal/strconv.uint64pow10" .u64 Lib.pow10Tab :=
  Lib.tabIs_of_head (k := .u64) (zs := Lib.pow10Tab) gTab tTab Tryz.underlying277 Tryz.underlying180 (by kernel_rfl) (by kernel_rfl) (laidMet.tail (laidMet.tail h))
theorem tab_below {W W' : World} (h : Lib.TabIs Tryz.prog W "internal/strconv.uint64pow10" .u64 Lib.pow10Tab) (hb : Below W.heap.size W W') : Lib.TabIs Tryz.prog W' "internal/strconv.uint64pow10" .u64 Lib.pow10Tab := by
  unfold Lib.TabIs at h ⊢
  exact var_below gTab h hb

set_option maxRecDepth 100000 in
set_option maxHeartbeats 2000000 in
theorem lifted (os : Os) (started : os.Started) (H : Type) (enc : TypeId × Value → H) :
    ReturnsInHanded {} Tryz.checked os 5 .any (fun w args => (Rows.fnExactSealSpec.pre enc Tryz.prog Tryz.f5 [] false w args ∧ laidMetH Tryz.prog Rows.fnExactSealRow.laid w) ∧ sizedMet enc Tryz.prog Tryz.f5 (OpenSpec.ofChange Rows.fnExactSealSpec) false w args) (Rows.fnExactSealSpec.post enc Tryz.prog Tryz.f5 false true false false) := by
  refine returnsInHanded_of_change_and (C := Tryz.checked) (X := fun w _ => laidMetH Tryz.prog Rows.fnExactSealRow.laid w) (fun _ _ _ hh h => h.of_heap hh) own started (by kernel_rfl) Tryz.func5
    (ChangeSpec.witness_shaped (enc := enc) (C := Tryz.checked) (os := os) (X := fun w _ => laidMetH Tryz.prog Rows.fnExactSealRow.laid w) false (World.doorLaid Tryz.prog 400 os) #[.slice none 0 0, .slice none 0 0, .agg #[.string ByteArray.empty, .slice none 0 0]] 8 rfl (World.shaped_of_RefB (by kernel_rfl) (by kernel_rfl)) (by kernel_rfl) (by kernel_rfl) (by kernel_rfl) (door_met os _)) ?_
  intro W base args ds gs before hval0 hW _ _ hL _
  have hval : ∀ (j : Nat) t v, Tryz.f5.params[j]? = some t → args[j]? = some v → Value.okWide Tryz.prog W .any base t v := hval0
  have hW' := hW
  obtain ⟨p, q, hA0, hV, rfl, hfz, hnd⟩ := hW
  have hA : DataW.TrodAll enc Tryz.prog W 0 (fun _ => true) true Tryz.f5.params.toList args.toList ds p := hA0
  rw [Tryz.params5] at hA hval
  obtain ⟨v0, vs0, d0, ds0, p0, q0, hargs, rfl, rfl, h0, r0⟩ := trodAll_cons hA
  obtain ⟨v1, vs1, d1, ds1, p1, q1, rfl, rfl, rfl, h1, r1⟩ := trodAll_cons r0
  obtain ⟨v2, vs2, d2, ds2, p2, q2, rfl, rfl, rfl, h2, r2⟩ := trodAll_cons r1
  obtain ⟨rfl, rfl, rfl⟩ := trodAll_nil r2
  obtain rfl : args = #[v0, v1, v2] := by cases args; simp_all
  rw [MakeChecks.laidMetH_plain _ _ _ (by kernel_rfl)] at hL
  obtain ⟨x0, x1, s0, s1, bc0, bc1, bt0, bt1, hv0, hv1, -, -, -, -, -, -, hne, hb0, hb1⟩ := laid_sentinels2 (P := Tryz.prog) (laidMet.tail (laidMet.tail (laidMet.tail hL))) g0 t0 g1 t1 Tryz.underlying177 rowP Tryz.underlying272 Tryz.underlying274 rfl rfl Tryz.underlying9 cE cS
  have hs : Sents W x0 x1 := ⟨by simpa using World.var?_cell g0 hv0 0, by simpa using World.var?_cell g1 hv1 0, hne, ⟨bc0, bt0, hb0⟩, ⟨bc1, bt1, hb1⟩⟩
  have hV' : DataW.TrodVars enc Tryz.prog W (fun _ => true) ["loop.example/s01728/impl.errBlockForm", "loop.example/s01728/impl.errBlockTag"] gs q := hV
  obtain ⟨rfl, rfl⟩ := hV'.unique (vars_read2 enc g0 t0 Tryz.underlying177 hv0 trivial g1 t1 Tryz.underlying177 hv1 trivial _)
  obtain ⟨a0, len0, cap0, rfl⟩ := okWide_slice Tryz.underlying22 (hval 0 22 v0 rfl rfl)
  have k0 := h0
  have lt0 : ∀ x ∈ p0, x.block < W.heap.size := by obtain ⟨m, hm⟩ := k0; exact DataW.trod_lt m _ _ _ hm
  obtain ⟨z0, w0⟩ : ∃ zs, IsRow .u8 W a0 len0 cap0 zs := by
    obtain ⟨fuel, hf⟩ := h0
    rcases open_ints Tryz.underlying22 Tryz.underlying5 (by kernel_rfl) hf with ⟨hcs, _⟩ | ⟨x, l, c, zs, hcs, _, hl, hm, hz, _, hcell, hwz⟩
    · simp [Value.cells] at hcs
      obtain ⟨rfl, rfl, rfl⟩ := hcs
      exact ⟨[], .inl ⟨rfl, rfl, rfl, rfl⟩⟩
    · simp [Value.cells] at hcs
      obtain ⟨rfl, rfl, rfl⟩ := hcs
      exact ⟨zs, .inr ⟨_, rfl, hl, hm, by simpa using hz, hcell, hwz⟩⟩
  obtain ⟨a1, len1, cap1, rfl⟩ := okWide_slice Tryz.underlying22 (hval 1 22 v1 rfl rfl)
  have k1 := h1
  have lt1 : ∀ x ∈ p1, x.block < W.heap.size := by obtain ⟨m, hm⟩ := k1; exact DataW.trod_lt m _ _ _ hm
  obtain ⟨z1, w1⟩ : ∃ zs, IsRow .u8 W a1 len1 cap1 zs := by
    obtain ⟨fuel, hf⟩ := h1
    rcases open_ints Tryz.underlying22 Tryz.underlying5 (by kernel_rfl) hf with ⟨hcs, _⟩ | ⟨x, l, c, zs, hcs, _, hl, hm, hz, _, hcell, hwz⟩
    · simp [Value.cells] at hcs
      obtain ⟨rfl, rfl, rfl⟩ := hcs
      exact ⟨[], .inl ⟨rfl, rfl, rfl, rfl⟩⟩
    · simp [Value.cells] at hcs
      obtain ⟨rfl, rfl, rfl⟩ := hcs
      exact ⟨zs, .inr ⟨_, rfl, hl, hm, by simpa using hz, hcell, hwz⟩⟩
  have hTb := tab_in hL
  have k2 := h2
  have lt2 : ∀ x ∈ p2, x.block < W.heap.size := by obtain ⟨m, hm⟩ := k2; exact DataW.trod_lt m _ _ _ hm
  obtain ⟨s, c1, L, rfl, hz, hF, hn, hsz⟩ := msg_in (hval 2 46 v2 rfl rfl) h2
  clear hA0 hval0
  obtain ⟨bs0, rfl, hr0⟩ := isRow_row w0
  obtain ⟨bs1, rfl, hr1⟩ := isRow_row w1
  refine (lawSeal bs0 bs1 s L a0 a1 cap0 cap1 c1 x0 x1 W (isRow_le w0) (isRow_le w1) hs hr0 hr1 hF hz hn hsz (fun w' hb => tab_below hTb hb)).mono fun e W' ⟨he, bel⟩ => ?_
  subst he
  exact ⟨_, rfl, _, _, _, [], _, _, hW', trodAll_mk1 (shut_bool Tryz.underlying4 _), (trodAll_cons_mk (Below.trod laidOut (by kernel_rfl) (of_decide_eq_true (by kernel_rfl)) k0 bel lt0) (trodAll_cons_mk (Below.trod laidOut (by kernel_rfl) (of_decide_eq_true (by kernel_rfl)) k1 bel lt1) (trodAll_cons_mk (Below.trod laidOut (by kernel_rfl) (of_decide_eq_true (by kernel_rfl)) k2 bel lt2) trodAll_mk0))), vars_read2 enc g0 t0 Tryz.underlying177 (var_below g0 hv0 bel) trivial g1 t1 Tryz.underlying177 (var_below g1 hv1 bel) trivial _, bel.frame _, fun h => by cases h⟩

theorem over : Rows.fnExactSealRow.holds Tryz.pinned (OpenSpec.ofChange Rows.fnExactSealSpec) :=
  OpenClaim.holds_of_wide 5 Tryz.f5 rfl rfl rfl rfl rfl rfl rfl ⟨rfl, rfl, rfl, rfl, rfl⟩ rfl rfl rfl rfl rfl (by kernel_rfl) Tryz.func5 (by kernel_rfl)
    (of_decide_eq_true (by kernel_rfl)) (by unfold Func.isWrapper; first | (rw [if_pos (by decide +kernel)]; kernel_rfl) | (rw [if_neg (by decide +kernel)]; exact ⟨rfl, rfl⟩))
    (fun os started H enc _ => lifted os started H enc)

theorem proved : Rows.FnExactSealSaid := over
theorem card_holds : Claim7.holds Tryz.pinned (.plain (OpenSpec.ofChange Rows.fnExactSealSpec)) Rows.fnExactSealCard :=
  Claim7.holds_tied_plain_at .later [] [.data, .data, .data, .sentinel, .sentinel] true (true, "a7e9b62a2162e12c9169fd3e337c76ddc84be5cf5ac8be3f91386e9a0bd2965c") true
    proved (fun _ h => by cases h) (by kernel_rfl) (fun _ h => by cases h) fnExactSeal_row_tie rfl ⟨rfl, rfl⟩ (by kernel_rfl) rfl
    (fun f fn hf hfn => by
      obtain rfl : f = 5 := Option.some.inj ((show Tryz.prog.funcNamed "loop.example/s01728/laws.FnExactSeal" = some 5 by kernel_rfl).symm.trans hf) |>.symm
      obtain rfl : fn = Tryz.f5 := (Option.some.inj (Tryz.func5.symm.trans hfn)).symm
      exact ⟨by kernel_rfl, fun j t ht => by
        rw [Tryz.params5] at ht
        have hm : t ∈ [22, 22, 46] := by simpa using Array.mem_of_getElem? ht
        have hall : ([22, 22, 46].all fun u => !Tryz.prog.wantsStandIn u) = true := by kernel_rfl
        exact (show Tryz.prog.wantsStandIn t = false by simpa using List.all_eq_true.1 hall t hm)⟩)
    (by kernel_rfl)
end Go.Proofs.YtjkofmomoljelaaGreatDoor.fnExactSeal
namespace Go.Proofs.YtjkofmomoljelaaGreatDoor
theorem fnExactSeal_holds : Rows.FnExactSealCardSaid := fnExactSeal.card_holds
end Go.Proofs.YtjkofmomoljelaaGreatDoor
