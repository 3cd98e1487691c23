/-
  DERIVED. GIVEN WITH THE SEED: THE CARDS: each row of YtacgbajcdngokaaGreatDoorRows.lean that lists a variable, with what it lists TIED to the program's text (the seventh form; the later family's looks); each row that meets fmt, with fmt's text TOLD by the authors' own Lean function (tested against real Go, not proved from fmt's source: count such statements apart). THE CARD IS WHAT COUNTS. Prove the row's statement (the work); the ties are given (YtacgbajcdngokaaGreatDoorTie.lean); close each card by the builder's one call (the guide's Derived/Test/ToyasCard.lean, 'card_holds'). Laid BY PROGRAM, IN A SANDBOX (cutbox-door.mjs). By AI agents, Wed Nov 11 2026. No macro, syntax, notation, axiom, sorry.
-/
import Derived.Test.YtacgbajcdngokaaGreatDoorRows
import GoSem.ClaimSeven
namespace Go.Proofs.YtacgbajcdngokaaGreatDoor
namespace Rows

/-- THE TIED CARD OF 'laws.FnIso'. -/
def fnIsoCard : Claim7 := { stood := { row := fnIsoRow, standIns := [], harness := (true, "9cc04f146237c620d28f1cd4e6bb1e77c954b799db2d2b7b76094005bc3a795b"), looks := true }, kinds := [], alts := [], laidByText := true, laidKinds := [.data, .data, .data, .sentinel, .sentinel], laidTests := true, laidLooks := .later }
def FnIsoCardSaid : Prop := Claim7.holds Tryz.pinned (.plain (OpenSpec.ofChange fnIsoSpec)) fnIsoCard

/-- THE SECOND FORM's CARD OF 'laws.FnIso'. -/
def fnIsoUptoCard : Claim7 := { stood := { row := fnIsoUptoRow, standIns := [], harness := (true, "9cc04f146237c620d28f1cd4e6bb1e77c954b799db2d2b7b76094005bc3a795b"), looks := true }, kinds := [], alts := [], laidByText := true, laidKinds := [.data, .data, .data, .sentinel, .sentinel], laidTests := true, laidLooks := .later }
def FnIsoUptoCardSaid : Prop := Claim7.holds Tryz.pinned (.plain (OpenSpec.upto fnIsoSpec)) fnIsoUptoCard
end Rows
end Go.Proofs.YtacgbajcdngokaaGreatDoor
