/-
  DERIVED. GIVEN WITH THE SEED: THE CARDS: each row of YtdelidfigcgglaaGreatDoorRows.lean that lists a variable, with what it lists TIED to the program's text (the seventh form; the later family's looks); each row that meets fmt, with fmt's text TOLD by the authors' own Lean function (tested against real Go, not proved from fmt's source: count such statements apart). THE CARD IS WHAT COUNTS. Prove the row's statement (the work); the ties are given (YtdelidfigcgglaaGreatDoorTie.lean); close each card by the builder's one call (the guide's Derived/Test/ToyasCard.lean, 'card_holds'). Laid BY PROGRAM, IN A SANDBOX (cutbox-door.mjs). By AI agents, Wed Nov 11 2026. No macro, syntax, notation, axiom, sorry.
-/
import Derived.Test.YtdelidfigcgglaaGreatDoorRows
import GoSem.ClaimSeven
namespace Go.Proofs.YtdelidfigcgglaaGreatDoor
namespace Rows

/-- THE TIED CARD OF 'laws.FnExactMakeMac'. -/
def fnExactMakeMacCard : Claim7 := { stood := { row := fnExactMakeMacRow, standIns := [], harness := (true, "d8e1d856a8b5063a8f89c61a6b203bf7649a7fac845471846596b59e19623e5c"), looks := false }, kinds := [], alts := [], laidByText := true, laidKinds := [.sentinel, .sentinel], laidTests := true, laidLooks := .later }
def FnExactMakeMacCardSaid : Prop := Claim7.holds Tryz.pinned (.plain (OpenSpec.ofChange fnExactMakeMacSpec)) fnExactMakeMacCard

/-- THE SECOND FORM's CARD OF 'laws.FnExactMakeMac'. -/
def fnExactMakeMacUptoCard : Claim7 := { stood := { row := fnExactMakeMacUptoRow, standIns := [], harness := (true, "d8e1d856a8b5063a8f89c61a6b203bf7649a7fac845471846596b59e19623e5c"), looks := false }, kinds := [], alts := [], laidByText := true, laidKinds := [.sentinel, .sentinel], laidTests := true, laidLooks := .later }
def FnExactMakeMacUptoCardSaid : Prop := Claim7.holds Tryz.pinned (.plain (OpenSpec.upto fnExactMakeMacSpec)) fnExactMakeMacUptoCard
end Rows
end Go.Proofs.YtdelidfigcgglaaGreatDoor
