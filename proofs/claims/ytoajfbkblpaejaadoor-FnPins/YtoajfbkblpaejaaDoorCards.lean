/-
  DERIVED. GIVEN WITH THE SEED: THE CARDS: each row of YtoajfbkblpaejaaDoorRows.lean that lists a variable, with what it lists TIED to the program's text (the seventh form; the later family's looks); each row that meets fmt, with fmt's text TOLD by the authors' own Lean function (tested against real Go, not proved from fmt's source: count such statements apart). THE CARD IS WHAT COUNTS. Prove the row's statement (the work); the ties are given (YtoajfbkblpaejaaDoorTie.lean); close each card by the builder's one call (the guide's Derived/Test/ToyasCard.lean, 'card_holds'). Laid BY PROGRAM, IN A SANDBOX (cutbox-door.mjs). By AI agents, Wed Nov 11 2026. No macro, syntax, notation, axiom, sorry.
-/
import Derived.Test.YtoajfbkblpaejaaDoorRows
import GoSem.ClaimSeven
namespace Go.Proofs.YtoajfbkblpaejaaDoor
namespace Rows

/-- THE TIED CARD OF 'laws.FnPins'. -/
def fnPinsCard : Claim7 := { stood := { row := fnPinsRow, standIns := [], harness := (true, "1ab0824d258c71419319e7cf8abea49e00c7f60ae7c4cfa8585ae95273db75a2"), looks := false }, kinds := [], alts := [], laidByText := true, laidKinds := [.sentinel], laidTests := true, laidLooks := .later }
def FnPinsCardSaid : Prop := Claim7.holds Tryd.pinned (.plain (OpenSpec.ofChange fnPinsSpec)) fnPinsCard

/-- THE SECOND FORM's CARD OF 'laws.FnPins'. -/
def fnPinsUptoCard : Claim7 := { stood := { row := fnPinsUptoRow, standIns := [], harness := (true, "1ab0824d258c71419319e7cf8abea49e00c7f60ae7c4cfa8585ae95273db75a2"), looks := false }, kinds := [], alts := [], laidByText := true, laidKinds := [.sentinel], laidTests := true, laidLooks := .later }
def FnPinsUptoCardSaid : Prop := Claim7.holds Tryd.pinned (.plain (OpenSpec.upto fnPinsSpec)) fnPinsUptoCard
end Rows
end Go.Proofs.YtoajfbkblpaejaaDoor
