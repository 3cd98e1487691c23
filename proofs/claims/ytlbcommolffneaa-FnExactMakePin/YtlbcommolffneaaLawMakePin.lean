/-
  laws.FnExactMakePin: the walk out of the contracts.
-/
import Derived.Test.YtlbcommolffneaaMakePinS2
import Derived.Test.YtlbcommolffneaaKeep
namespace Go.Proofs.Ytlbcommolffneaa
open Go.RowKit

theorem Blk.three {w : World} {g t : Nat} {a b c : Value} (h : Blk w g t [a, b, c]) : w.cell? ⟨g, 0, none⟩ = some a ∧ w.cell? ⟨g, 1, none⟩ = some b ∧ w.cell? ⟨g, 2, none⟩ = some c :=
  ⟨h.cell 0 (by simp), h.cell 1 (by simp), h.cell 2 (by simp)⟩

/-- What MakePin answers: a code, a block, how many draws were used. -/
def AnsP (fn : Nat) (f : Int) (pin pan : ByteArray) (draws : List UInt8) (C U : Int) (L : List UInt8) : Prop :=
  ∀ (ao : Option Addr) (cap : Nat) (w : World), draws.length ≤ cap → RowAt w ao draws →
    Calls Try.prog fn #[.int .i64 f, .string pin, .string pan, .slice ao draws.length cap] w fun e w' => ∃ v, e = .returned (.agg #[.int .i64 C, v, .int .i64 U]) ∧ Own w' w.heap.size v L ∧ Below w.heap.size w w'

theorem make_same (f : Int) (pin pan : ByteArray) (draws : List UInt8) (hp : pin.size ≤ maxLen) (hq : pan.size ≤ maxLen) (hn : draws.length ≤ 1048576) :
    ∃ C U L, L.length ≤ 8 ∧ AnsP 6 f pin pan draws C U L ∧ AnsP 4 f pin pan draws C U L := by
  cases hg : goodPin f pin pan
  · refine ⟨1, 0, [], by simp, fun ao cap w _ _ => ?_, fun ao cap w _ _ => ?_⟩
    · refine (makeI_bad f pin pan ao _ cap w hp hq hg).mono ?_
      rintro e w' ⟨rfl, bel⟩
      exact ⟨_, rfl, ⟨5, World.ownsRow_nil _ _ _ _⟩, bel⟩
    · refine (makeS_bad f pin pan ao _ cap w hp hq hg).mono ?_
      rintro e w' ⟨rfl, bel⟩
      exact ⟨_, rfl, ⟨5, World.ownsRow_nil _ _ _ _⟩, bel⟩
  · rcases (good_parts hg).1 with rfl | rfl
    · refine ⟨0, 0, pinL 0 pin pan draws, by rw [pinL_length]; omega, fun ao cap w hc hr => ?_, fun ao cap w _ hr => ?_⟩
      · refine (makeI_good0 pin pan draws ao cap w hg hn hc hr).mono ?_
        rintro e w' ⟨g, rfl, own, bel⟩
        exact ⟨_, rfl, own, bel⟩
      · exact makeS_good0 pin pan draws ao cap w hg hn hr
    · by_cases hen : 14 - pin.size ≤ draws.length
      · refine ⟨0, (14 - pin.size : Nat), pinL 3 pin pan draws, by rw [pinL_length]; omega, fun ao cap w hc hr => ?_, fun ao cap w _ hr => ?_⟩
        · refine (makeI_good3 pin pan draws ao cap w hg hn hc hr hen).mono ?_
          rintro e w' ⟨g, rfl, own, bel⟩
          exact ⟨_, rfl, own, bel⟩
        · exact makeS_good3 pin pan draws ao cap w hg hn hr hen
      · refine ⟨2, 0, [], by simp, fun ao cap w _ _ => ?_, fun ao cap w _ hr => ?_⟩
        · refine (makeI_short pin pan ao _ cap w hg hn (by omega)).mono ?_
          rintro e w' ⟨rfl, bel⟩
          exact ⟨_, rfl, ⟨5, World.ownsRow_nil _ _ _ _⟩, bel⟩
        · refine (makeS_short pin pan draws ao cap w hg hn hr (by omega)).mono ?_
          rintro e w' ⟨rfl, bel⟩
          exact ⟨_, rfl, ⟨5, World.ownsRow_nil _ _ _ _⟩, bel⟩

set_option maxHeartbeats 1000000 in
theorem eqPB_any (C U : Int) (L : List UInt8) (a1 a2 : Option Addr) (c1 c2 : Nat) (w : World) (hn : L.length ≤ 1048576) (r1 : RowAt w a1 L) (r2 : RowAt w a2 L) :
    Calls Try.prog 7 #[.agg #[.int .i64 C, .slice a1 L.length c1, .int .i64 U], .agg #[.int .i64 C, .slice a2 L.length c2, .int .i64 U]] w fun e w' => e = .returned (.bool true) ∧ Below w.heap.size w w' := by
  obtain ⟨n, hnl⟩ : ∃ n, n = L.length := ⟨_, rfl⟩
  have hE := fun (wx : World) (h1 : RowAt wx a1 L) (h2 : RowAt wx a2 L) => eqByteS_any a1 a2 c1 c2 L wx hn h1 h2
  rw [← hnl] at hE ⊢
  have HE := hid_eq hE
  clear hE
  obtain ⟨wb, hwb⟩ : ∃ x, x = (w.alloc (.cells #[.int .i64 C, .slice a1 n c1, .int .i64 U] 24)).alloc (.cells #[.int .i64 C, .slice a2 n c2, .int .i64 U] 24) := ⟨_, rfl⟩
  have b1 : Below w.heap.size w wb := by rw [hwb]; exact ((Below.refl _ w).alloc (Nat.le_refl _) _).alloc (by simp) _
  have k1 : Blk wb w.heap.size 24 [.int .i64 C, .slice a1 n c1, .int .i64 U] := by rw [hwb]; exact (Blk.new w _ _).alloc _
  have k2 : Blk wb (w.heap.size + 1) 24 [.int .i64 C, .slice a2 n c2, .int .i64 U] := by rw [hwb]; exact Blk.new2 w _ _ _
  have q1 := r1.below b1
  have q2 := r2.below b1
  clear hnl
  go_enter Try.func7, Try.ntmps7
  go_wp2_with fail
  rw [← hwb]
  refine (HE.out wb q1 q2).mono ?_
  rintro e w2 ⟨rfl, m2, rfl⟩
  have s0 := (k1.cell 2 (by simp) : (wb.drewN m2).cell? ⟨w.heap.size, 2, none⟩ = some (.int .i64 U))
  have s1 := (k2.cell 2 (by simp) : (wb.drewN m2).cell? ⟨w.heap.size + 1, 2, none⟩ = some (.int .i64 U))
  clear hwb
  go_wp2_with fail
  go_ret
  exact ⟨rfl, below_drewN b1 m2⟩

set_option maxHeartbeats 1000000 in
theorem markPB_any (C U : Int) (L : List UInt8) (base : Nat) (a1 : Option Addr) (c1 : Nat) (w : World) (hn : L.length ≤ 8) (ho : Own w base (.slice a1 L.length c1) L) :
    Calls Try.prog 10 #[.agg #[.int .i64 C, .slice a1 L.length c1, .int .i64 U], .int .i64 1] w fun e w' => e = .returned (.int .i64 ((1 + L.length : Nat) : Int)) ∧ Own w' base (.slice a1 L.length c1) (marks 1 L.length) ∧ (w.alloc (.cells #[.int .i64 C, .slice a1 L.length c1, .int .i64 U] 24)).grownBy w' (Value.slice a1 L.length c1).ownBlock := by
  have hM := fun (wx : World) (h : Own wx base (.slice a1 L.length c1) L) => markByteS_any base a1 c1 L 1 wx (by omega) (by omega) h
  have ho1 := ho.below (below_new w (.cells #[.int .i64 C, .slice a1 L.length c1, .int .i64 U] 24))
  obtain ⟨n, hnl⟩ : ∃ n, n = L.length := ⟨_, rfl⟩
  rw [← hnl] at hM ho1 hn ⊢
  have HM := hid_eq hM
  clear hM hnl ho
  go_enter Try.func10, Try.ntmps10
  go_wp2_with fail
  refine (HM.out _ ho1).mono ?_
  rintro e w2 ⟨rfl, own2, gr2⟩
  have HO := hid_eq own2
  have HG := hid_eq gr2
  clear own2 gr2
  go_wp2_with fail
  go_ret
  exact ⟨rfl, HO.out, HG.out⟩

set_option maxHeartbeats 1000000 in
theorem heldPB_any (C U : Int) (n : Nat) (a1 : Option Addr) (c1 : Nat) (w : World) (hn : n ≤ 8) (hr : RowAt w a1 (marks 1 n)) :
    Calls Try.prog 11 #[.agg #[.int .i64 C, .slice a1 n c1, .int .i64 U], .int .i64 1] w fun e w' => e = .returned (.int .i64 ((1 + n : Nat) : Int)) ∧ Below w.heap.size w w' := by
  have hH := fun (wx : World) (h : RowAt wx a1 (marks 1 n)) => heldByteS_any a1 c1 n 1 wx (by omega) (by omega) h
  have HH := hid_eq hH
  have hr1 := hr.below (below_new w (.cells #[.int .i64 C, .slice a1 n c1, .int .i64 U] 24))
  have hneg : ¬ (((1 + n : Nat) : Int) < 0) := by omega
  clear hH hr
  go_enter Try.func11, Try.ntmps11
  go_wp2_with fail
  refine (HH.out _ hr1).mono ?_
  rintro e w2 ⟨rfl, rfl⟩
  go_wp2_with fail
  go_ret
  exact ⟨rfl, below_new _ _⟩

theorem Own.row {w : World} {base n c : Nat} {a : Option Addr} {l : List UInt8} (h : Own w base (.slice a n c) l) : RowAt w a l := by
  obtain ⟨ao, cap, hv, row, -⟩ := h.shape
  simp only [Value.slice.injEq] at hv
  obtain ⟨rfl, -, -⟩ := hv
  exact row
theorem row_away {w w' : World} {ao : Option Addr} {l : List UInt8} {r : Option Nat} (h : RowAt w ao l) (hg : w.grownBy w' r) (hne : ∀ a, ao = some a → r ≠ some a.block) : RowAt w' ao l := h.grown hg hne

set_option maxRecDepth 100000 in
set_option maxHeartbeats 4000000 in
theorem lawMakePin_main (f : Int) (pin pan : ByteArray) (draws : List UInt8) (ao : Option Addr) (cap : Nat) (w : World) (hp : pin.size ≤ 1048576) (hq : pan.size ≤ 1048576) (hn : draws.length ≤ 1048576) (hr : RowAt w ao draws) :
    Calls Try.prog 3 #[.int .i64 f, .string pin, .string pan, .slice ao draws.length cap] w fun e w' => e = .returned (.bool true) ∧ Below w.heap.size w w' := by
  obtain ⟨C, U, L, hL, AI, AS⟩ := make_same f pin pan draws (by unfold maxLen; omega) (by unfold maxLen; omega) hn
  have HI := hid_eq AI
  have HS := hid_eq AS
  have HT := hid_eq (fun (wx : World) (h : RowAt wx ao draws) => toByteS_any ao cap draws wx hn h)
  have HR := hid_eq hr
  have hp' : ¬ ((1048576 : Int) < (pin.size : Int)) := by omega
  have hq' : ¬ ((1048576 : Int) < (pan.size : Int)) := by omega
  have hn' : ¬ ((1048576 : Int) < (draws.length : Int)) := by omega
  unfold AnsP at HI HS
  clear AI AS hr
  go_enter Try.func3, Try.ntmps3
  go_wp2_with fail
  refine (HT.out _ HR.out).mono ?_
  rintro e w1 ⟨rfl, own1, bel1⟩
  obtain ⟨_, _, hv1, row1, -⟩ := own1.shape
  cases hv1
  go_wp2_with fail
  refine (HS.out _ _ w1 (Nat.le_refl _) row1).mono ?_
  rintro e w2 ⟨vS, rfl, ownS, bel2⟩
  obtain ⟨aS, cS, rfl, rowS, gS, -, -⟩ := ownS.shape
  have bz2 := bel1.trans (bel2.mono bel1.size)
  obtain ⟨l, hl⟩ : ∃ l, l = L.length := ⟨_, rfl⟩
  have Hl := hid_eq hl
  rw [← hl] at hL ownS ⊢
  have hS2 := bz2.size
  have lS : ∀ a, aS = some a → a.block < w2.heap.size := by intro a h; obtain ⟨g, rfl, -, h2⟩ := gS a h; exact h2
  obtain ⟨wA, hwA⟩ : ∃ x, x = w2.alloc (.cells #[.int .i64 C, .slice aS l cS, .int .i64 U] 24) := ⟨_, rfl⟩
  have bzA : Below w.heap.size w wA := by rw [hwA]; exact bz2.alloc hS2 _
  have rSA : RowAt wA aS L := by rw [hwA]; exact rowS.below (below_new _ _)
  have kW : Blk wA w2.heap.size 24 [.int .i64 C, .slice aS l cS, .int .i64 U] := by rw [hwA]; exact Blk.new w2 _ _
  have hsA : Hid (wA.heap.size = w2.heap.size + 1) := by show _ = _; rw [hwA]; simp
  have HWA := hid_eq hwA
  clear own1 row1 bel1 bel2 ownS rowS gS bz2 hl
  go_wp2_with fail
  rw [← hwA]
  clear hwA HWA
  refine (HT.out _ (HR.out.below bzA)).mono ?_
  rintro e w3 ⟨rfl, own3, bel3⟩
  obtain ⟨_, _, hv3, row3, g3, -⟩ := own3.shape
  cases hv3
  have bz3 := bzA.trans (bel3.mono bzA.size)
  have rS3 := rSA.below bel3
  have kW3 := kW.below bel3 kW.lt
  obtain ⟨X, hX⟩ : ∃ X, X = wA.heap.size := ⟨_, rfl⟩
  have HXA := hid_eq (hX.trans hsA.out)
  rw [← hX] at own3 row3 g3 ⊢
  have HX3 : Hid (X < w3.heap.size) := by
    show X < w3.heap.size
    obtain ⟨g, hg, -, h⟩ := g3 _ rfl
    cases hg
    exact h
  clear hX rSA kW bzA bel3 g3 hsA
  go_wp2_with fail
  refine (HI.out _ _ w3 (Nat.le_refl _) row3).mono ?_
  rintro e w4 ⟨vI, rfl, ownI, bel4⟩
  obtain ⟨aI, cI, rfl, rowI, gI, -, -⟩ := ownI.shape
  rw [← Hl.out] at ownI ⊢
  have bz4 := bz3.trans (bel4.mono bz3.size)
  have lI : Hid (∀ a, aI = some a → ∃ g, a = ⟨g, 0, none⟩ ∧ w3.heap.size ≤ g ∧ g < w4.heap.size) := gI
  obtain ⟨wB, hwB⟩ : ∃ x, x = w4.alloc (.cells #[.int .i64 C, .slice aI l cI, .int .i64 U] 24) := ⟨_, rfl⟩
  have bzB : Below w.heap.size w wB := by rw [hwB]; exact bz4.alloc bz4.size _
  have b4B : Below w4.heap.size w4 wB := by rw [hwB]; exact below_new _ _
  have rSB := (rS3.below bel4).below b4B
  have kWB := (kW3.below bel4 kW3.lt).below b4B (by have := bel4.size; have := kW3.lt; omega)
  have rIB := rowI.below b4B
  have oIB := ownI.below b4B
  have oXB := (own3.below bel4).below b4B
  have kGB : Blk wB w4.heap.size 24 [.int .i64 C, .slice aI l cI, .int .i64 U] := by rw [hwB]; exact Blk.new w4 _ _
  obtain ⟨G, hG⟩ : ∃ G, G = w4.heap.size := ⟨_, rfl⟩
  have HG4 := hid_eq hG
  have lGB := kGB.lt
  rw [← hG] at kGB lGB
  have h34 := bel4.size
  clear rS3 kW3 bz4 own3 row3 bel4 ownI rowI gI bz3 b4B
  go_upto_region 10 with fail
  rw [← hwB, ← hG]
  clear hwB hG
  obtain ⟨W, hW⟩ : ∃ W, W = w2.heap.size := ⟨_, rfl⟩
  rw [← hW] at kWB lS hS2 ⊢
  have HW := hid_eq hW
  have HAW : Hid (X = W + 1) := by show _ = _; rw [hW]; exact HXA.out
  clear hW HXA
  have LS := hid_eq lS
  have HS2 := hid_eq hS2
  have HGX : Hid (X < G ∧ W < X) := by
    have h1 := HAW.out
    have h2 := HX3.out
    have h3 := HG4.out
    exact ⟨by omega, by omega⟩
  have LI : Hid (∀ a, aI = some a → ∃ g, a = ⟨g, 0, none⟩ ∧ X < g ∧ g < G) := by
    show ∀ a, aI = some a → ∃ g, a = ⟨g, 0, none⟩ ∧ X < g ∧ g < G
    intro a ha
    obtain ⟨g, h1, h2, h3⟩ := lI.out a ha
    have h4 := HX3.out
    have h5 := HG4.out
    exact ⟨g, h1, by omega, by omega⟩
  have HEQ := hid_eq (fun (a2 : Option Addr) (c2 : Nat) (wx : World) (h1 : RowAt wx a2 L) (h2 : RowAt wx aS L) => eqPB_any C U L a2 aS c2 cS wx (by rw [← Hl.out]; omega) h1 h2)
  have HMK := hid_eq (fun (wx : World) (h : Own wx w3.heap.size (.slice aI l cI) L) => markPB_any C U L w3.heap.size aI cI wx (by rw [← Hl.out]; exact hL) (by rw [← Hl.out]; exact h))
  have HHD := hid_eq (fun (wx : World) (h : RowAt wx aI (marks 1 l)) => heldPB_any C U l aI cI wx hL h)
  rw [← Hl.out] at HEQ HMK
  clear lS lI hS2 HX3 HG4 h34
  have t1 := kGB.three
  have t2 := kWB.three
  obtain ⟨p0, p1, p2⟩ := t1
  obtain ⟨q0, q1, q2⟩ := t2
  go_wp2_with fail
  refine (HEQ.out _ _ wB rIB rSB).mono ?_
  rintro e w5 ⟨rfl, bel5⟩
  have bz5 := bzB.trans (bel5.mono bzB.size)
  have rS5 := rSB.below bel5
  have kW5 := kWB.below bel5 kWB.lt
  have kG5 := kGB.below bel5 kGB.lt
  have oI5 := oIB.below bel5
  have oX5 := oXB.below bel5
  clear rSB kWB kGB oIB oXB rIB bzB bel5 p0 p1 p2 q0 q1 q2 lGB
  go_wp2_with fail
  refine (HT.out _ (HR.out.below bz5)).mono ?_
  rintro e w6 ⟨rfl, own6, bel6⟩
  obtain ⟨_, _, hv6, row6, -⟩ := own6.shape
  cases hv6
  have bz6 := bz5.trans (bel6.mono bz5.size)
  have rS6 := rS5.below bel6
  have kW6 := kW5.below bel6 kW5.lt
  have kG6 := kG5.below bel6 kG5.lt
  have oI6 := oI5.below bel6
  have oX6 := oX5.below bel6
  obtain ⟨_, _, hvX, rX6, -⟩ := oX6.shape
  cases hvX
  clear rS5 kW5 kG5 oI5 oX5 bz5 bel6 own6
  go_wp2_with fail
  refine (eqByteS_any _ _ _ _ draws w6 hn rX6 row6).mono ?_
  rintro e w7 ⟨rfl, m7, rfl⟩
  have bz7 := below_drewN bz6 m7
  have oX7 := oX6.drew m7
  have hs7 := bz7.size
  clear rX6 row6 oX6 bz6
  go_wp2_with fail
  refine (markByteS_any _ _ _ draws 1 (w6.drewN m7) hn (by omega) oX7).mono ?_
  rintro e w8 ⟨rfl, own8, gr8⟩
  have hXW := HGX.out
  have rS8 := row_away (w := w6.drewN m7) rS6 gr8 (by intro a ha hc; have h1 := LS.out a ha; simp only [Value.ownBlock, Option.some.injEq] at hc; omega)
  have kW8 := Blk.grown (w := w6.drewN m7) kW6 gr8 (by simp only [Value.ownBlock, ne_eq, Option.some.injEq]; omega)
  have kG8 := Blk.grown (w := w6.drewN m7) kG6 gr8 (by simp only [Value.ownBlock, ne_eq, Option.some.injEq]; omega)
  have neI : (Value.slice aI l cI).ownBlock = none ∨ (Value.slice aI l cI).ownBlock ≠ some X := by
    cases haI : aI with
    | none => exact .inl rfl
    | some a => obtain ⟨g, rfl, h, -⟩ := LI.out a haI; right; simp only [Value.ownBlock, ne_eq, Option.some.injEq]; omega
  have oI8 := Own.grown (w := w6.drewN m7) oI6 gr8 neI
  have bz8 : Below w.heap.size w w8 := bz7.grown gr8 hs7 (by intro k hk; have h1 := HS2.out; simp only [Value.ownBlock, Option.some.injEq] at hk; omega)
  have hk8 : ¬ (((1 + draws.length : Nat) : Int) < 0) := by omega
  have rI8 := oI8.row
  obtain ⟨p0, p1, p2⟩ := kG8.three
  obtain ⟨q0, q1, q2⟩ := kW8.three
  clear rS6 kW6 kG6 oI6 oX7 bz7 hs7 own8 gr8
  go_wp2_with fail
  refine (HEQ.out _ _ w8 rI8 rS8).mono ?_
  rintro e w9 ⟨rfl, bel9⟩
  have bz9 := bz8.trans (bel9.mono bz8.size)
  have rS9 := rS8.below bel9
  have kW9 := kW8.below bel9 kW8.lt
  have kG9 := kG8.below bel9 kG8.lt
  have oI9 := oI8.below bel9
  clear rS8 kW8 kG8 oI8 rI8 bz8 bel9 p0 p1 p2 q0 q1 q2
  obtain ⟨p0, p1, p2⟩ := kG9.three
  go_wp2_with fail
  refine (HMK.out w9 oI9).mono ?_
  rintro e w10 ⟨rfl, own10, gr10⟩
  have hG9 := kG9.lt
  have hW9 := kW9.lt
  have bI9 : ∀ k, (Value.slice aI l cI).ownBlock = some k → X < k ∧ k < G := by
    intro k hk
    cases haI : aI with
    | none => rw [haI] at hk; cases hk
    | some a =>
      obtain ⟨g, rfl, h1, h2⟩ := LI.out a haI
      rw [haI] at hk
      simp only [Value.ownBlock, Option.some.injEq] at hk
      omega
  have rS10 := row_away (rS9.below (below_new w9 _)) gr10 (by intro a ha hc; have h1 := LS.out a ha; have h2 := (bI9 _ hc).1; omega)
  have kW10 := (kW9.alloc (.cells #[.int .i64 C, .slice aI l cI, .int .i64 U] 24)).grown gr10 (by intro hc; have h2 := (bI9 _ hc.symm).1; omega)
  have kG10 := (kG9.alloc (.cells #[.int .i64 C, .slice aI l cI, .int .i64 U] 24)).grown gr10 (by intro hc; have h2 := (bI9 _ hc.symm).2; omega)
  have bz10 : Below w.heap.size w w10 := (bz9.alloc bz9.size _).grown gr10 (by have := bz9.size; simp; omega) (by intro k hk; have h1 := HS2.out; have h2 := (bI9 _ hk).1; omega)
  have rI10 := own10.row
  clear own10 gr10 rS9 kW9 kG9 oI9 bz9 bI9 p0 p1 p2 hG9 hW9
  obtain ⟨p0, p1, p2⟩ := kG10.three
  have hml : ¬ (((1 + l : Nat) : Int) < 0) := by omega
  go_wp2_with fail
  refine (HHD.out w10 rI10).mono ?_
  rintro e w11 ⟨rfl, bel11⟩
  have bz11 := bz10.trans (bel11.mono bz10.size)
  have rS11 := rS10.below bel11
  have kW11 := kW10.below bel11 kW10.lt
  have kG11 := kG10.below bel11 kG10.lt
  have rI11 := rI10.below bel11
  clear rS10 kW10 kG10 rI10 bz10 bel11 p0 p1 p2
  go_wp2_with fail
  refine (HT.out _ (HR.out.below bz11)).mono ?_
  rintro e w12 ⟨rfl, own12, bel12⟩
  obtain ⟨_, _, hv12, row12, -⟩ := own12.shape
  cases hv12
  have bz12 := bz11.trans (bel12.mono bz11.size)
  have rS12 := rS11.below bel12
  have kW12 := kW11.below bel12 kW11.lt
  have kG12 := kG11.below bel12 kG11.lt
  have rI12 := rI11.below bel12
  clear rS11 kW11 kG11 rI11 bz11 bel12 own12
  go_wp2_with fail
  refine (HI.out _ _ w12 (Nat.le_refl _) row12).mono ?_
  rintro e w13 ⟨vH, rfl, ownH, bel13⟩
  obtain ⟨aH, cH, rfl, rowH, -, -, -⟩ := ownH.shape
  rw [← Hl.out]
  have bz13 := bz12.trans (bel13.mono bz12.size)
  obtain ⟨wC, hwC⟩ : ∃ x, x = w13.alloc (.cells #[.int .i64 C, .slice aH l cH, .int .i64 U] 24) := ⟨_, rfl⟩
  have bC : Below w13.heap.size w13 wC := by rw [hwC]; exact below_new _ _
  have bzC := bz13.trans (bC.mono bz13.size)
  have rSC := (rS12.below bel13).below bC
  have kW13 := kW12.below bel13 kW12.lt
  have kG13 := kG12.below bel13 kG12.lt
  have kWC := kW13.below bC kW13.lt
  have kGC := kG13.below bC kG13.lt
  have rIC := (rI12.below bel13).below bC
  have rHC := rowH.below bC
  have kHC : Blk wC w13.heap.size 24 [.int .i64 C, .slice aH l cH, .int .i64 U] := by rw [hwC]; exact Blk.new w13 _ _
  obtain ⟨H, hH⟩ : ∃ H, H = w13.heap.size := ⟨_, rfl⟩
  rw [← hH] at kHC
  clear rS12 kW12 kG12 rI12 bz12 bel13 ownH rowH row12 bz13 kW13 kG13 bC
  go_upto_region 27 with fail
  rw [← hwC, ← hH]
  clear hwC hH
  obtain ⟨p0, p1, p2⟩ := kHC.three
  obtain ⟨q0, q1, q2⟩ := kWC.three
  go_wp2_with fail
  refine (HEQ.out _ _ wC rHC rSC).mono ?_
  rintro e w14 ⟨rfl, bel14⟩
  have bz14 := bzC.trans (bel14.mono bzC.size)
  have kG14 := kGC.below bel14 kGC.lt
  have rI14 := rIC.below bel14
  clear rSC kWC kGC rIC rHC kHC bzC bel14 p0 p1 p2 q0 q1 q2
  obtain ⟨p0, p1, p2⟩ := kG14.three
  go_wp2_with fail
  refine (HHD.out w14 rI14).mono ?_
  rintro e w15 ⟨rfl, bel15⟩
  have bz15 := bz14.trans (bel15.mono bz14.size)
  clear kG14 rI14 p0 p1 p2
  go_wp2_with fail
  go_ret
  exact ⟨rfl, bz15⟩

set_option maxHeartbeats 1000000 in
theorem lawMakePin (f : Int) (pin pan : ByteArray) (draws : List UInt8) (ao : Option Addr) (cap : Nat) (w : World) (hp : pin.size ≤ maxLen) (hq : pan.size ≤ maxLen) (hn : draws.length ≤ maxLen) (hr : RowAt w ao draws) :
    Calls Try.prog 3 #[.int .i64 f, .string pin, .string pan, .slice ao draws.length cap] w fun e w' => e = .returned (.bool true) ∧ Below w.heap.size w w' := by
  unfold maxLen at hp hq hn
  by_cases h1 : pin.size ≤ 1048576
  · by_cases h2 : pan.size ≤ 1048576
    · by_cases h3 : draws.length ≤ 1048576
      · exact lawMakePin_main f pin pan draws ao cap w h1 h2 h3 hr
      · go_enter Try.func3, Try.ntmps3
        go_wp2_with fail
        go_ret
        exact ⟨rfl, Below.refl _ _⟩
    · go_enter Try.func3, Try.ntmps3
      go_wp2_with fail
      go_ret
      exact ⟨rfl, Below.refl _ _⟩
  · go_enter Try.func3, Try.ntmps3
    go_wp2_with fail
    go_ret
    exact ⟨rfl, Below.refl _ _⟩
end Go.Proofs.Ytlbcommolffneaa
