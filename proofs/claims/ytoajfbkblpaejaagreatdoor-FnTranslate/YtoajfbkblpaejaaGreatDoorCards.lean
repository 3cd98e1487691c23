/-
  DERIVED. GIVEN WITH THE SEED: THE CARDS: each row of YtoajfbkblpaejaaGreatDoorRows.lean that lists a variable, with what it lists TIED to the program's text (the seventh form; the later family's looks); each row that meets fmt, with fmt's text TOLD by the authors' own Lean function (tested against real Go, not proved from fmt's source: count such statements apart). THE CARD IS WHAT COUNTS. Prove the row's statement (the work); the ties are given (YtoajfbkblpaejaaGreatDoorTie.lean); close each card by the builder's one call (the guide's Derived/Test/ToyasCard.lean, 'card_holds'). Laid BY PROGRAM, IN A SANDBOX (cutbox-door.mjs). By AI agents, Wed Nov 11 2026. No macro, syntax, notation, axiom, sorry.
-/
import Derived.Test.YtoajfbkblpaejaaGreatDoorRows
import GoSem.ClaimSeven
namespace Go.Proofs.YtoajfbkblpaejaaGreatDoor
namespace Rows

/-- THE TIED CARD OF 'laws.FnTranslate'. -/
def fnTranslateCard : Claim7 := { stood := { row := fnTranslateRow, standIns := [], harness := (true, "1d6f124431ae185254a18b4aefda150a8eac64829ea765339c7c0c3892739add"), looks := true }, kinds := [], alts := [], laidByText := true, laidKinds := [.sentinel, .sentinel, .sentinel], laidTests := true, laidLooks := .later }
def FnTranslateCardSaid : Prop := Claim7.holds Tryz.pinned (.plain (OpenSpec.ofChange fnTranslateSpec)) fnTranslateCard

/-- THE TIED CARD OF 'laws.FnExactTranslate'. -/
def fnExactTranslateCard : Claim7 := { stood := { row := fnExactTranslateRow, standIns := [], harness := (true, "1d6f124431ae185254a18b4aefda150a8eac64829ea765339c7c0c3892739add"), looks := true }, kinds := [], alts := [], laidByText := true, laidKinds := [.sentinel, .sentinel, .sentinel], laidTests := true, laidLooks := .later }
def FnExactTranslateCardSaid : Prop := Claim7.holds Tryz.pinned (.plain (OpenSpec.ofChange fnExactTranslateSpec)) fnExactTranslateCard

/-- THE SECOND FORM's CARD OF 'laws.FnTranslate'. -/
def fnTranslateUptoCard : Claim7 := { stood := { row := fnTranslateUptoRow, standIns := [], harness := (true, "1d6f124431ae185254a18b4aefda150a8eac64829ea765339c7c0c3892739add"), looks := true }, kinds := [], alts := [], laidByText := true, laidKinds := [.sentinel, .sentinel, .sentinel], laidTests := true, laidLooks := .later }
def FnTranslateUptoCardSaid : Prop := Claim7.holds Tryz.pinned (.plain (OpenSpec.upto fnTranslateSpec)) fnTranslateUptoCard

/-- THE SECOND FORM's CARD OF 'laws.FnExactTranslate'. -/
def fnExactTranslateUptoCard : Claim7 := { stood := { row := fnExactTranslateUptoRow, standIns := [], harness := (true, "1d6f124431ae185254a18b4aefda150a8eac64829ea765339c7c0c3892739add"), looks := true }, kinds := [], alts := [], laidByText := true, laidKinds := [.sentinel, .sentinel, .sentinel], laidTests := true, laidLooks := .later }
def FnExactTranslateUptoCardSaid : Prop := Claim7.holds Tryz.pinned (.plain (OpenSpec.upto fnExactTranslateSpec)) fnExactTranslateUptoCard
end Rows
end Go.Proofs.YtoajfbkblpaejaaGreatDoor
