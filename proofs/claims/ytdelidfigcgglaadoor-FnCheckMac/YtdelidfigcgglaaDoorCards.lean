/-
  DERIVED. GIVEN WITH THE SEED: THE CARDS: each row of YtdelidfigcgglaaDoorRows.lean that lists a variable, with what it lists TIED to the program's text (the seventh form; the later family's looks); each row that meets fmt, with fmt's text TOLD by the authors' own Lean function (tested against real Go, not proved from fmt's source: count such statements apart). THE CARD IS WHAT COUNTS. Prove the row's statement (the work); the ties are given (YtdelidfigcgglaaDoorTie.lean); close each card by the builder's one call (the guide's Derived/Test/ToyasCard.lean, 'card_holds'). Laid BY PROGRAM, IN A SANDBOX (cutbox-door.mjs). By AI agents, Wed Nov 11 2026. No macro, syntax, notation, axiom, sorry.
-/
import Derived.Test.YtdelidfigcgglaaDoorRows
import GoSem.ClaimSeven
namespace Go.Proofs.YtdelidfigcgglaaDoor
namespace Rows

/-- THE TIED CARD OF 'laws.FnWrap'. -/
def fnWrapCard : Claim7 := { stood := { row := fnWrapRow, standIns := [], harness := (true, "078298289d496150c298188d91aea98f0eec7923d94f6c3ae4f1d9a4a22bb028"), looks := true }, kinds := [], alts := [], laidByText := true, laidKinds := [.sentinel, .sentinel], laidTests := true, laidLooks := .later }
def FnWrapCardSaid : Prop := Claim7.holds Tryd.pinned (.plain (OpenSpec.ofChange fnWrapSpec)) fnWrapCard

/-- THE TIED CARD OF 'laws.FnExactUnwrap'. -/
def fnExactUnwrapCard : Claim7 := { stood := { row := fnExactUnwrapRow, standIns := [], harness := (true, "078298289d496150c298188d91aea98f0eec7923d94f6c3ae4f1d9a4a22bb028"), looks := true }, kinds := [], alts := [], laidByText := true, laidKinds := [.sentinel, .sentinel], laidTests := true, laidLooks := .later }
def FnExactUnwrapCardSaid : Prop := Claim7.holds Tryd.pinned (.plain (OpenSpec.ofChange fnExactUnwrapSpec)) fnExactUnwrapCard

/-- THE TIED CARD OF 'laws.FnCheckMac'. -/
def fnCheckMacCard : Claim7 := { stood := { row := fnCheckMacRow, standIns := [], harness := (true, "078298289d496150c298188d91aea98f0eec7923d94f6c3ae4f1d9a4a22bb028"), looks := true }, kinds := [], alts := [], laidByText := true, laidKinds := [.sentinel, .sentinel], laidTests := true, laidLooks := .later }
def FnCheckMacCardSaid : Prop := Claim7.holds Tryd.pinned (.plain (OpenSpec.ofChange fnCheckMacSpec)) fnCheckMacCard

/-- THE TIED CARD OF 'laws.FnExactCheckMac'. -/
def fnExactCheckMacCard : Claim7 := { stood := { row := fnExactCheckMacRow, standIns := [], harness := (true, "078298289d496150c298188d91aea98f0eec7923d94f6c3ae4f1d9a4a22bb028"), looks := true }, kinds := [], alts := [], laidByText := true, laidKinds := [.sentinel, .sentinel], laidTests := true, laidLooks := .later }
def FnExactCheckMacCardSaid : Prop := Claim7.holds Tryd.pinned (.plain (OpenSpec.ofChange fnExactCheckMacSpec)) fnExactCheckMacCard

/-- THE SECOND FORM's CARD OF 'laws.FnWrap'. -/
def fnWrapUptoCard : Claim7 := { stood := { row := fnWrapUptoRow, standIns := [], harness := (true, "078298289d496150c298188d91aea98f0eec7923d94f6c3ae4f1d9a4a22bb028"), looks := true }, kinds := [], alts := [], laidByText := true, laidKinds := [.sentinel, .sentinel], laidTests := true, laidLooks := .later }
def FnWrapUptoCardSaid : Prop := Claim7.holds Tryd.pinned (.plain (OpenSpec.upto fnWrapSpec)) fnWrapUptoCard

/-- THE SECOND FORM's CARD OF 'laws.FnExactUnwrap'. -/
def fnExactUnwrapUptoCard : Claim7 := { stood := { row := fnExactUnwrapUptoRow, standIns := [], harness := (true, "078298289d496150c298188d91aea98f0eec7923d94f6c3ae4f1d9a4a22bb028"), looks := true }, kinds := [], alts := [], laidByText := true, laidKinds := [.sentinel, .sentinel], laidTests := true, laidLooks := .later }
def FnExactUnwrapUptoCardSaid : Prop := Claim7.holds Tryd.pinned (.plain (OpenSpec.upto fnExactUnwrapSpec)) fnExactUnwrapUptoCard

/-- THE SECOND FORM's CARD OF 'laws.FnCheckMac'. -/
def fnCheckMacUptoCard : Claim7 := { stood := { row := fnCheckMacUptoRow, standIns := [], harness := (true, "078298289d496150c298188d91aea98f0eec7923d94f6c3ae4f1d9a4a22bb028"), looks := true }, kinds := [], alts := [], laidByText := true, laidKinds := [.sentinel, .sentinel], laidTests := true, laidLooks := .later }
def FnCheckMacUptoCardSaid : Prop := Claim7.holds Tryd.pinned (.plain (OpenSpec.upto fnCheckMacSpec)) fnCheckMacUptoCard

/-- THE SECOND FORM's CARD OF 'laws.FnExactCheckMac'. -/
def fnExactCheckMacUptoCard : Claim7 := { stood := { row := fnExactCheckMacUptoRow, standIns := [], harness := (true, "078298289d496150c298188d91aea98f0eec7923d94f6c3ae4f1d9a4a22bb028"), looks := true }, kinds := [], alts := [], laidByText := true, laidKinds := [.sentinel, .sentinel], laidTests := true, laidLooks := .later }
def FnExactCheckMacUptoCardSaid : Prop := Claim7.holds Tryd.pinned (.plain (OpenSpec.upto fnExactCheckMacSpec)) fnExactCheckMacUptoCard
end Rows
end Go.Proofs.YtdelidfigcgglaaDoor
