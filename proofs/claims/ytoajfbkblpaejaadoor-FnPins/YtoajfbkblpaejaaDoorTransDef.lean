/-
  What MakePin, move and Translate answer, as lists; MakePin at every argument.
-/
import Derived.Test.YtoajfbkblpaejaaDoorReadM
import Derived.Laws.BytesString
import Derived.Laws.BytesArg
import Derived.Lib.SlBytesConst
import Derived.Test.YtoajfbkblpaejaaDoorMakePinS2
import Derived.Test.YtoajfbkblpaejaaDoorWrapTop
namespace Go.Proofs.YtoajfbkblpaejaaDoor
open Go.RowKit

theorem results_blk_tmp {P : Program} {fn : Func} {p q ty : Nat} (h : fn.results = #[.cell p ty, .tmp q]) (tmps : Array Value) (w : World) {g t : Nat} {cs : List Value} {d : TypeDesc} (hp : tmps.getD p undef = .pointer (some ⟨g, 0, none⟩)) (hb : Blk w g t cs)
    (hu : P.underlying ty = some d) (hd : (match d with | .struct _ | .array _ _ => true | _ => false) = true) (hi : (P.info? ty).map (·.size) = some cs.length) : (results fn tmps).run P w = .ok (.tuple #[.agg cs.toArray, tmps.getD q undef]) w := by
  have hp' : tmps[p]?.getD undef = .pointer (some ⟨g, 0, none⟩) := by simpa using hp
  simp [results, h, hp', asAddr, run_loadVar_row w g t ty cs.toArray (0, 0) d hb hu hd (by simpa using hi)]
theorem conv_nil' (n c : Nat) (w : World) (h : n = 0) : (convert 22 9 (.slice none n c)).run Tryd.prog w = .ok (.string ByteArray.empty) w := by
  subst h
  exact run_convert_bytes_nil w 22 5 Tryd.underlying22 Tryd.underlying5 0 c _ Tryd.underlying9
/-- A row of bytes as a text. -/
def strOf (A : List UInt8) : ByteArray := (A.map fun b => (b.toNat : Int)).foldl (fun r n => r.push (UInt8.ofNat n.toNat)) ByteArray.empty
theorem strOf_eq (A : List UInt8) : strOf A = ⟨A.toArray⟩ := by
  have h : ∀ (l : List UInt8) (r : ByteArray), ((l.map fun b => (b.toNat : Int)).foldl (fun r n => r.push (UInt8.ofNat n.toNat)) r).data.toList = r.data.toList ++ l := by
    intro l
    induction l with
    | nil => intro r; simp
    | cons a l ih =>
      intro r
      rw [List.map_cons, List.foldl_cons, ih]
      simp [ByteArray.push]
  apply ByteArray.ext
  have := h A ByteArray.empty
  unfold strOf
  rw [← Array.toList_inj, this]
  simp [ByteArray.empty, ByteArray.emptyWithCapacity]
  try rfl
theorem conv_any (A : List UInt8) (ao : Option Addr) (n c : Nat) (w : World) (hn : A.length = n) (h : RowAt w ao A) : (convert 22 9 (.slice ao n c)).run Tryd.prog w = .ok (.string ⟨A.toArray⟩) w := by
  by_cases h0 : A = []
  · subst h0
    subst hn
    cases ao with
    | none => exact conv_nil' 0 c w rfl
    | some x =>
      rw [run_convert_bytes_string w 22 9 5 _ _ _ Tryd.underlying22 Tryd.underlying5 Tryd.underlying9]
      exact run_bytesToString w x 0 c [] (by have hl := run_loadCells_list (P := Tryd.prog) w x [] (by intro j u h; simp at h); exact hl)
  · rw [← strOf_eq]
    obtain ⟨b, off, rfl, hr⟩ := h.range (by have := List.length_pos_iff.2 h0; omega)
    rw [run_convert_bytes_string w 22 9 5 _ _ _ Tryd.underlying22 Tryd.underlying5 Tryd.underlying9]
    refine run_bytesToString w ⟨b, off, none⟩ n c (A.map fun b => (b.toNat : Int)) ?_
    have hl := run_loadCells_list (P := Tryd.prog) w ⟨b, off, none⟩ (A.map byte) (by intro j u hu; rw [Addr.add_mid]; exact hr j u hu)
    rw [List.length_map, hn] at hl
    rw [hl, List.map_map]
    rfl
theorem own_shape2 {w : World} {base : Nat} {v : Value} {bs : List UInt8} (h : Own w base v bs) : ∃ ao cap, v = .slice ao bs.length cap ∧ RowAt w ao bs ∧ bs.length ≤ cap := by
  obtain ⟨ao, cap, hv, row, -, -, -⟩ := h.shape
  by_cases h0 : bs.length = 0
  · exact ⟨ao, cap, hv, row, by omega⟩
  · obtain ⟨g, c, hc, hv2, -⟩ := h.at' rfl (by omega)
    rw [hv] at hv2
    simp only [Value.slice.injEq] at hv2
    obtain ⟨-, -, rfl⟩ := hv2
    exact ⟨ao, cap, hv, row, hc⟩
def mkC (f : Int) (pin pan : ByteArray) (n : Nat) : Int := if goodPin f pin pan then (if f = 3 ∧ n < 14 - pin.size then 2 else 0) else 1
def mkU (f : Int) (pin pan : ByteArray) (n : Nat) : Int := if goodPin f pin pan then (if f = 3 ∧ ¬ n < 14 - pin.size then ((14 - pin.size : Nat) : Int) else 0) else 0
def mkL (f : Int) (pin pan : ByteArray) (draws : List UInt8) : List UInt8 := if goodPin f pin pan then (if f = 3 ∧ draws.length < 14 - pin.size then [] else pinL f.toNat pin pan draws) else []
theorem mkC_cases (f : Int) (pin pan : ByteArray) (n : Nat) : mkC f pin pan n = 0 ∨ mkC f pin pan n = 1 ∨ mkC f pin pan n = 2 := by
  unfold mkC; split
  · split
    · exact .inr (.inr rfl)
    · exact .inl rfl
  · exact .inr (.inl rfl)
theorem mkL_le (f : Int) (pin pan : ByteArray) (draws : List UInt8) : (mkL f pin pan draws).length ≤ 8 := by
  unfold mkL; split
  · split
    · simp
    · rw [pinL_length]; omega
  · simp
theorem mkL_ok (f : Int) (pin pan : ByteArray) (draws : List UInt8) (h : mkC f pin pan draws.length = 0) : (mkL f pin pan draws).length = 8 := by
  unfold mkC at h; unfold mkL
  split
  · rename_i hg
    rw [if_pos hg] at h
    split
    · rename_i h2
      rw [if_pos h2] at h
      exact absurd h (by decide)
    · exact pinL_length _ _ _ _
  · rename_i hg
    rw [if_neg hg] at h
    exact absurd h (by decide)

/-- What MakePin answers: a code, a block, how many draws were used. -/
def AnsP (fn : Nat) (f : Int) (pin pan : ByteArray) (draws : List UInt8) (C U : Int) (L : List UInt8) : Prop :=
  ∀ (ao : Option Addr) (cap : Nat) (w : World), draws.length ≤ cap → RowAt w ao draws →
    Calls Tryd.prog fn #[.int .i64 f, .string pin, .string pan, .slice ao draws.length cap] w fun e w' => ∃ v, e = .returned (.agg #[.int .i64 C, v, .int .i64 U]) ∧ Own w' w.heap.size v L ∧ Below w.heap.size w w'
theorem make_any (f : Int) (pin pan : ByteArray) (draws : List UInt8) (hp : pin.size ≤ maxLen) (hq : pan.size ≤ maxLen) (hn : draws.length ≤ 1048576) :
    AnsP 6 f pin pan draws (mkC f pin pan draws.length) (mkU f pin pan draws.length) (mkL f pin pan draws) ∧ AnsP 33 f pin pan draws (mkC f pin pan draws.length) (mkU f pin pan draws.length) (mkL f pin pan draws) := by
  unfold mkC mkU mkL
  cases hg : goodPin f pin pan
  · simp only [Bool.false_eq_true, if_false]
    refine ⟨fun ao cap w _ _ => ?_, fun ao cap w _ _ => ?_⟩
    · refine (makeI_bad f pin pan ao _ cap w hp hq hg).mono ?_
      rintro e w' ⟨rfl, bel⟩
      exact ⟨_, rfl, ⟨5, World.ownsRow_nil _ _ _ _⟩, bel⟩
    · refine (makeS_bad f pin pan ao _ cap w hp hq hg).mono ?_
      rintro e w' ⟨rfl, bel⟩
      exact ⟨_, rfl, ⟨5, World.ownsRow_nil _ _ _ _⟩, bel⟩
  · simp only [if_true]
    rcases (good_parts hg).1 with rfl | rfl
    · rw [if_neg (by rintro ⟨h, -⟩; exact absurd h (by decide)), if_neg (by rintro ⟨h, -⟩; exact absurd h (by decide)), if_neg (by rintro ⟨h, -⟩; exact absurd h (by decide))]
      refine ⟨fun ao cap w hc hr => ?_, fun ao cap w _ hr => ?_⟩
      · refine (makeI_good0 pin pan draws ao cap w hg hn hc hr).mono ?_
        rintro e w' ⟨g, rfl, own, bel⟩
        exact ⟨_, rfl, own, bel⟩
      · exact makeS_good0 pin pan draws ao cap w hg hn hr
    · by_cases hen : 14 - pin.size ≤ draws.length
      · rw [if_neg (by rintro ⟨-, h⟩; omega), if_pos ⟨rfl, by omega⟩, if_neg (by rintro ⟨-, h⟩; omega)]
        refine ⟨fun ao cap w hc hr => ?_, fun ao cap w _ hr => ?_⟩
        · refine (makeI_good3 pin pan draws ao cap w hg hn hc hr hen).mono ?_
          rintro e w' ⟨g, rfl, own, bel⟩
          exact ⟨_, rfl, own, bel⟩
        · exact makeS_good3 pin pan draws ao cap w hg hn hr hen
      · rw [if_pos ⟨rfl, by omega⟩, if_neg (by rintro ⟨-, h⟩; omega), if_pos ⟨rfl, by omega⟩]
        refine ⟨fun ao cap w _ _ => ?_, fun ao cap w _ hr => ?_⟩
        · refine (makeI_short pin pan ao _ cap w hg hn (by omega)).mono ?_
          rintro e w' ⟨rfl, bel⟩
          exact ⟨_, rfl, ⟨5, World.ownsRow_nil _ _ _ _⟩, bel⟩
        · refine (makeS_short pin pan draws ao cap w hg hn hr (by omega)).mono ?_
          rintro e w' ⟨rfl, bel⟩
          exact ⟨_, rfl, ⟨5, World.ownsRow_nil _ _ _ _⟩, bel⟩

end Go.Proofs.YtoajfbkblpaejaaDoor
