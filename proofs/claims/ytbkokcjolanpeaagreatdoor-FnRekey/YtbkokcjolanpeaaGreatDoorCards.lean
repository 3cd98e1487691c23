/-
  DERIVED. GIVEN WITH THE SEED: THE CARDS: each row of YtbkokcjolanpeaaGreatDoorRows.lean that lists a variable, with what it lists TIED to the program's text (the seventh form; the later family's looks); each row that meets fmt, with fmt's text TOLD by the authors' own Lean function (tested against real Go, not proved from fmt's source: count such statements apart). THE CARD IS WHAT COUNTS. Prove the row's statement (the work); the ties are given (YtbkokcjolanpeaaGreatDoorTie.lean); close each card by the builder's one call (the guide's Derived/Test/ToyasCard.lean, 'card_holds'). Laid BY PROGRAM, IN A SANDBOX (cutbox-door.mjs). By AI agents, Wed Nov 11 2026. No macro, syntax, notation, axiom, sorry.
-/
import Derived.Test.YtbkokcjolanpeaaGreatDoorRows
import GoSem.ClaimSeven
namespace Go.Proofs.YtbkokcjolanpeaaGreatDoor
namespace Rows

/-- THE TIED CARD OF 'laws.FnRoom'. -/
def fnRoomCard : Claim7 := { stood := { row := fnRoomRow, standIns := [], harness := (true, "7463e1918d070ed26d593f04b3b958a5385559dbd50fccfac7136d3280ffd364"), looks := true }, kinds := [], alts := [], laidByText := true, laidKinds := [.data, .data, .data, .sentinel, .sentinel, .sentinel, .sentinel, .sentinel, .sentinel], laidTests := true, laidLooks := .later }
def FnRoomCardSaid : Prop := Claim7.holds Tryz.pinned (.plain (OpenSpec.ofChange fnRoomSpec)) fnRoomCard

/-- THE TIED CARD OF 'laws.FnRekey'. -/
def fnRekeyCard : Claim7 := { stood := { row := fnRekeyRow, standIns := [], harness := (true, "7463e1918d070ed26d593f04b3b958a5385559dbd50fccfac7136d3280ffd364"), looks := true }, kinds := [], alts := [], laidByText := true, laidKinds := [.data, .data, .data, .sentinel, .sentinel, .sentinel, .sentinel, .sentinel, .sentinel], laidTests := true, laidLooks := .later }
def FnRekeyCardSaid : Prop := Claim7.holds Tryz.pinned (.plain (OpenSpec.ofChange fnRekeySpec)) fnRekeyCard

/-- THE SECOND FORM's CARD OF 'laws.FnRoom'. -/
def fnRoomUptoCard : Claim7 := { stood := { row := fnRoomUptoRow, standIns := [], harness := (true, "7463e1918d070ed26d593f04b3b958a5385559dbd50fccfac7136d3280ffd364"), looks := true }, kinds := [], alts := [], laidByText := true, laidKinds := [.data, .data, .data, .sentinel, .sentinel, .sentinel, .sentinel, .sentinel, .sentinel], laidTests := true, laidLooks := .later }
def FnRoomUptoCardSaid : Prop := Claim7.holds Tryz.pinned (.plain (OpenSpec.upto fnRoomSpec)) fnRoomUptoCard

/-- THE SECOND FORM's CARD OF 'laws.FnRekey'. -/
def fnRekeyUptoCard : Claim7 := { stood := { row := fnRekeyUptoRow, standIns := [], harness := (true, "7463e1918d070ed26d593f04b3b958a5385559dbd50fccfac7136d3280ffd364"), looks := true }, kinds := [], alts := [], laidByText := true, laidKinds := [.data, .data, .data, .sentinel, .sentinel, .sentinel, .sentinel, .sentinel, .sentinel], laidTests := true, laidLooks := .later }
def FnRekeyUptoCardSaid : Prop := Claim7.holds Tryz.pinned (.plain (OpenSpec.upto fnRekeySpec)) fnRekeyUptoCard
end Rows
end Go.Proofs.YtbkokcjolanpeaaGreatDoor
