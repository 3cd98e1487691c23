/-
  DERIVED. GIVEN WITH THE SEED: THE CARDS: each row of YtjkofmomoljelaaGreatDoorRows.lean that lists a variable, with what it lists TIED to the program's text (the seventh form; the later family's looks); each row that meets fmt, with fmt's text TOLD by the authors' own Lean function (tested against real Go, not proved from fmt's source: count such statements apart). THE CARD IS WHAT COUNTS. Prove the row's statement (the work); the ties are given (YtjkofmomoljelaaGreatDoorTie.lean); close each card by the builder's one call (the guide's Derived/Test/ToyasCard.lean, 'card_holds'). Laid BY PROGRAM, IN A SANDBOX (cutbox-door.mjs). By AI agents, Wed Nov 11 2026. No macro, syntax, notation, axiom, sorry.
-/
import Derived.Test.YtjkofmomoljelaaGreatDoorRows
import GoSem.ClaimSeven
namespace Go.Proofs.YtjkofmomoljelaaGreatDoor
namespace Rows

/-- THE TIED CARD OF 'laws.FnSeal'. -/
def fnSealCard : Claim7 := { stood := { row := fnSealRow, standIns := [], harness := (true, "a7e9b62a2162e12c9169fd3e337c76ddc84be5cf5ac8be3f91386e9a0bd2965c"), looks := true }, kinds := [], alts := [], laidByText := true, laidKinds := [.data, .data, .data, .sentinel, .sentinel, .sentinel, .sentinel], laidTests := true, laidLooks := .later }
def FnSealCardSaid : Prop := Claim7.holds Tryz.pinned (.plain (OpenSpec.ofChange fnSealSpec)) fnSealCard

/-- THE TIED CARD OF 'laws.FnExactOpens'. -/
def fnExactOpensCard : Claim7 := { stood := { row := fnExactOpensRow, standIns := [], harness := (true, "a7e9b62a2162e12c9169fd3e337c76ddc84be5cf5ac8be3f91386e9a0bd2965c"), looks := true }, kinds := [], alts := [], laidByText := true, laidKinds := [.data, .data, .data, .sentinel, .sentinel, .sentinel, .sentinel], laidTests := true, laidLooks := .later }
def FnExactOpensCardSaid : Prop := Claim7.holds Tryz.pinned (.plain (OpenSpec.ofChange fnExactOpensSpec)) fnExactOpensCard

/-- THE TIED CARD OF 'laws.FnExactSeal'. -/
def fnExactSealCard : Claim7 := { stood := { row := fnExactSealRow, standIns := [], harness := (true, "a7e9b62a2162e12c9169fd3e337c76ddc84be5cf5ac8be3f91386e9a0bd2965c"), looks := true }, kinds := [], alts := [], laidByText := true, laidKinds := [.data, .data, .data, .sentinel, .sentinel], laidTests := true, laidLooks := .later }
def FnExactSealCardSaid : Prop := Claim7.holds Tryz.pinned (.plain (OpenSpec.ofChange fnExactSealSpec)) fnExactSealCard

/-- THE SECOND FORM's CARD OF 'laws.FnSeal'. -/
def fnSealUptoCard : Claim7 := { stood := { row := fnSealUptoRow, standIns := [], harness := (true, "a7e9b62a2162e12c9169fd3e337c76ddc84be5cf5ac8be3f91386e9a0bd2965c"), looks := true }, kinds := [], alts := [], laidByText := true, laidKinds := [.data, .data, .data, .sentinel, .sentinel, .sentinel, .sentinel], laidTests := true, laidLooks := .later }
def FnSealUptoCardSaid : Prop := Claim7.holds Tryz.pinned (.plain (OpenSpec.upto fnSealSpec)) fnSealUptoCard

/-- THE SECOND FORM's CARD OF 'laws.FnExactOpens'. -/
def fnExactOpensUptoCard : Claim7 := { stood := { row := fnExactOpensUptoRow, standIns := [], harness := (true, "a7e9b62a2162e12c9169fd3e337c76ddc84be5cf5ac8be3f91386e9a0bd2965c"), looks := true }, kinds := [], alts := [], laidByText := true, laidKinds := [.data, .data, .data, .sentinel, .sentinel, .sentinel, .sentinel], laidTests := true, laidLooks := .later }
def FnExactOpensUptoCardSaid : Prop := Claim7.holds Tryz.pinned (.plain (OpenSpec.upto fnExactOpensSpec)) fnExactOpensUptoCard

/-- THE SECOND FORM's CARD OF 'laws.FnExactSeal'. -/
def fnExactSealUptoCard : Claim7 := { stood := { row := fnExactSealUptoRow, standIns := [], harness := (true, "a7e9b62a2162e12c9169fd3e337c76ddc84be5cf5ac8be3f91386e9a0bd2965c"), looks := true }, kinds := [], alts := [], laidByText := true, laidKinds := [.data, .data, .data, .sentinel, .sentinel], laidTests := true, laidLooks := .later }
def FnExactSealUptoCardSaid : Prop := Claim7.holds Tryz.pinned (.plain (OpenSpec.upto fnExactSealSpec)) fnExactSealUptoCard
end Rows
end Go.Proofs.YtjkofmomoljelaaGreatDoor
