/-
  No cell of these rows narrows 'for every input' (looked for: loops, veiled, ifaces, maps, wideKeys, modest, calm, conditions, laid).
  DERIVED. THE GIVEN ROWS OF THIS SEAT. 11 by the template 'for every input the law returns true; each argument reads behind the call as it read before'; 0 by the template 'total and deterministic' (their statements: YtdfpjnbcemmbpaaTotals.lean).
  GIVEN WITH THE SEED: the statements are not yours to turn. If you find one false, say at which input.
  Laid BY PROGRAM, IN A SANDBOX (cutbox-rows.mjs): the forced cells as the released guide's own fill.sh prints them over the translation 266cd4d6a32255b5… (all of the seat's roots in one cut). By AI agents, Wed Nov 11 2026. No macro, syntax, notation, axiom, sorry.
-/
import Derived.Test.YtdfpjnbcemmbpaaChecked
import GoSem.Claim
import GoSem.ClaimJoined
import GoSem.ClaimMapViews
import Derived.JoinedTies
import Derived.KernelRfl
namespace Go.Proofs.Ytdfpjnbcemmbpaa
/- THE CELL 'sum', in the pinned program and in every row, IS THE sha256 OF THE DUMP (.gsa) THAT YtdfpjnbcemmbpaaProg.lean LOADS. Nothing in Lean hashes anything: it is a label: what it is worth is what the hold of that sum in a sandbox is worth. -/
noncomputable def Try.pinned : Pinned := { name := "ytdfpjnbcemmbpaa", sum := "266cd4d6a32255b527508c12ef3afd89aa5fb011fd6c7614f7b913e0a7064537", checked := Try.checked }
namespace Rows
def none {H : Type} : Left H := { results := [], args := [] }

/-- 'laws.FnExactOddParity': WHATEVER THE INPUT: true; the input reads as it did. -/
def fnExactOddParitySpec : ChangeSpec := { name := "fnExactOddParity", fn := fun _ => fun
  | [d] => { results := [.lit (.bool true)], args := [d] }
  | _ => none }
def fnExactOddParityRow : OpenClaim := { program := "ytdfpjnbcemmbpaa", sum := "266cd4d6a32255b527508c12ef3afd89aa5fb011fd6c7614f7b913e0a7064537", func := "loop.example/s01728/laws.FnExactOddParity", spec := "fnExactOddParity", apart := false }
def FnExactOddParitySaid : Prop := fnExactOddParityRow.holds Try.pinned (OpenSpec.ofChange fnExactOddParitySpec)

/-- ITS FALSE NEIGHBOUR: 'it returns false'. Refute it at one input. -/
def fnExactOddParityWrong : ChangeSpec := { name := "fnExactOddParity", fn := fun _ => fun
  | [d] => { results := [.lit (.bool false)], args := [d] }
  | _ => none }
def FnExactOddParityWrongFalsely : Prop := fnExactOddParityRow.holds Try.pinned (OpenSpec.ofChange fnExactOddParityWrong)

/-- 'laws.FnParity': WHATEVER THE INPUT: true; the input reads as it did. -/
def fnParitySpec : ChangeSpec := { name := "fnParity", fn := fun _ => fun
  | [d] => { results := [.lit (.bool true)], args := [d] }
  | _ => none }
def fnParityRow : OpenClaim := { program := "ytdfpjnbcemmbpaa", sum := "266cd4d6a32255b527508c12ef3afd89aa5fb011fd6c7614f7b913e0a7064537", func := "loop.example/s01728/laws.FnParity", spec := "fnParity", unfollowed := true, recurses := true, apart := false }
def FnParitySaid : Prop := fnParityRow.holds Try.pinned (OpenSpec.ofChange fnParitySpec)

/-- ITS FALSE NEIGHBOUR: 'it returns false'. Refute it at one input. -/
def fnParityWrong : ChangeSpec := { name := "fnParity", fn := fun _ => fun
  | [d] => { results := [.lit (.bool false)], args := [d] }
  | _ => none }
def FnParityWrongFalsely : Prop := fnParityRow.holds Try.pinned (OpenSpec.ofChange fnParityWrong)

/-- 'laws.FnExactAes': WHATEVER THE INPUT: true; the input reads as it did. -/
def fnExactAesSpec : ChangeSpec := { name := "fnExactAes", fn := fun _ => fun
  | [d1, d2, d3] => { results := [.lit (.bool true)], args := [d1, d2, d3] }
  | _ => none }
def fnExactAesRow : OpenClaim := { program := "ytdfpjnbcemmbpaa", sum := "266cd4d6a32255b527508c12ef3afd89aa5fb011fd6c7614f7b913e0a7064537", func := "loop.example/s01728/laws.FnExactAes", spec := "fnExactAes", unfollowed := true, recurses := true, apart := false }
def FnExactAesSaid : Prop := fnExactAesRow.holds Try.pinned (OpenSpec.ofChange fnExactAesSpec)

/-- ITS FALSE NEIGHBOUR: 'it returns false'. Refute it at one input. -/
def fnExactAesWrong : ChangeSpec := { name := "fnExactAes", fn := fun _ => fun
  | [d1, d2, d3] => { results := [.lit (.bool false)], args := [d1, d2, d3] }
  | _ => none }
def FnExactAesWrongFalsely : Prop := fnExactAesRow.holds Try.pinned (OpenSpec.ofChange fnExactAesWrong)

/-- 'laws.FnExactDes': WHATEVER THE INPUT: true; the input reads as it did. -/
def fnExactDesSpec : ChangeSpec := { name := "fnExactDes", fn := fun _ => fun
  | [d1, d2, d3] => { results := [.lit (.bool true)], args := [d1, d2, d3] }
  | _ => none }
def fnExactDesRow : OpenClaim := { program := "ytdfpjnbcemmbpaa", sum := "266cd4d6a32255b527508c12ef3afd89aa5fb011fd6c7614f7b913e0a7064537", func := "loop.example/s01728/laws.FnExactDes", spec := "fnExactDes", unfollowed := true, recurses := true, apart := false }
def FnExactDesSaid : Prop := fnExactDesRow.holds Try.pinned (OpenSpec.ofChange fnExactDesSpec)

/-- ITS FALSE NEIGHBOUR: 'it returns false'. Refute it at one input. -/
def fnExactDesWrong : ChangeSpec := { name := "fnExactDes", fn := fun _ => fun
  | [d1, d2, d3] => { results := [.lit (.bool false)], args := [d1, d2, d3] }
  | _ => none }
def FnExactDesWrongFalsely : Prop := fnExactDesRow.holds Try.pinned (OpenSpec.ofChange fnExactDesWrong)

/-- 'laws.FnMacs': WHATEVER THE INPUT: true; the input reads as it did. -/
def fnMacsSpec : ChangeSpec := { name := "fnMacs", fn := fun _ => fun
  | [d] => { results := [.lit (.bool true)], args := [d] }
  | _ => none }
def fnMacsRow : OpenClaim := { program := "ytdfpjnbcemmbpaa", sum := "266cd4d6a32255b527508c12ef3afd89aa5fb011fd6c7614f7b913e0a7064537", func := "loop.example/s01728/laws.FnMacs", spec := "fnMacs", unfollowed := true, recurses := true, apart := false }
def FnMacsSaid : Prop := fnMacsRow.holds Try.pinned (OpenSpec.ofChange fnMacsSpec)

/-- ITS FALSE NEIGHBOUR: 'it returns false'. Refute it at one input. -/
def fnMacsWrong : ChangeSpec := { name := "fnMacs", fn := fun _ => fun
  | [d] => { results := [.lit (.bool false)], args := [d] }
  | _ => none }
def FnMacsWrongFalsely : Prop := fnMacsRow.holds Try.pinned (OpenSpec.ofChange fnMacsWrong)

/-- 'laws.FnExactTdea': WHATEVER THE INPUT: true; the input reads as it did. -/
def fnExactTdeaSpec : ChangeSpec := { name := "fnExactTdea", fn := fun _ => fun
  | [d1, d2, d3] => { results := [.lit (.bool true)], args := [d1, d2, d3] }
  | _ => none }
def fnExactTdeaRow : OpenClaim := { program := "ytdfpjnbcemmbpaa", sum := "266cd4d6a32255b527508c12ef3afd89aa5fb011fd6c7614f7b913e0a7064537", func := "loop.example/s01728/laws.FnExactTdea", spec := "fnExactTdea", unfollowed := true, recurses := true, apart := false }
def FnExactTdeaSaid : Prop := fnExactTdeaRow.holds Try.pinned (OpenSpec.ofChange fnExactTdeaSpec)

/-- ITS FALSE NEIGHBOUR: 'it returns false'. Refute it at one input. -/
def fnExactTdeaWrong : ChangeSpec := { name := "fnExactTdea", fn := fun _ => fun
  | [d1, d2, d3] => { results := [.lit (.bool false)], args := [d1, d2, d3] }
  | _ => none }
def FnExactTdeaWrongFalsely : Prop := fnExactTdeaRow.holds Try.pinned (OpenSpec.ofChange fnExactTdeaWrong)

/-- 'laws.FnExactCbc': WHATEVER THE INPUT: true; the input reads as it did. -/
def fnExactCbcSpec : ChangeSpec := { name := "fnExactCbc", fn := fun _ => fun
  | [d1, d2, d3, d4] => { results := [.lit (.bool true)], args := [d1, d2, d3, d4] }
  | _ => none }
def fnExactCbcRow : OpenClaim := { program := "ytdfpjnbcemmbpaa", sum := "266cd4d6a32255b527508c12ef3afd89aa5fb011fd6c7614f7b913e0a7064537", func := "loop.example/s01728/laws.FnExactCbc", spec := "fnExactCbc", unfollowed := true, recurses := true, apart := false }
def FnExactCbcSaid : Prop := fnExactCbcRow.holds Try.pinned (OpenSpec.ofChange fnExactCbcSpec)

/-- ITS FALSE NEIGHBOUR: 'it returns false'. Refute it at one input. -/
def fnExactCbcWrong : ChangeSpec := { name := "fnExactCbc", fn := fun _ => fun
  | [d1, d2, d3, d4] => { results := [.lit (.bool false)], args := [d1, d2, d3, d4] }
  | _ => none }
def FnExactCbcWrongFalsely : Prop := fnExactCbcRow.holds Try.pinned (OpenSpec.ofChange fnExactCbcWrong)

/-- 'laws.FnExactRetailMac': WHATEVER THE INPUT: true; the input reads as it did. -/
def fnExactRetailMacSpec : ChangeSpec := { name := "fnExactRetailMac", fn := fun _ => fun
  | [d1, d2] => { results := [.lit (.bool true)], args := [d1, d2] }
  | _ => none }
def fnExactRetailMacRow : OpenClaim := { program := "ytdfpjnbcemmbpaa", sum := "266cd4d6a32255b527508c12ef3afd89aa5fb011fd6c7614f7b913e0a7064537", func := "loop.example/s01728/laws.FnExactRetailMac", spec := "fnExactRetailMac", unfollowed := true, recurses := true, apart := false }
def FnExactRetailMacSaid : Prop := fnExactRetailMacRow.holds Try.pinned (OpenSpec.ofChange fnExactRetailMacSpec)

/-- ITS FALSE NEIGHBOUR: 'it returns false'. Refute it at one input. -/
def fnExactRetailMacWrong : ChangeSpec := { name := "fnExactRetailMac", fn := fun _ => fun
  | [d1, d2] => { results := [.lit (.bool false)], args := [d1, d2] }
  | _ => none }
def FnExactRetailMacWrongFalsely : Prop := fnExactRetailMacRow.holds Try.pinned (OpenSpec.ofChange fnExactRetailMacWrong)

/-- 'laws.FnExactCmac': WHATEVER THE INPUT: true; the input reads as it did. -/
def fnExactCmacSpec : ChangeSpec := { name := "fnExactCmac", fn := fun _ => fun
  | [d1, d2] => { results := [.lit (.bool true)], args := [d1, d2] }
  | _ => none }
def fnExactCmacRow : OpenClaim := { program := "ytdfpjnbcemmbpaa", sum := "266cd4d6a32255b527508c12ef3afd89aa5fb011fd6c7614f7b913e0a7064537", func := "loop.example/s01728/laws.FnExactCmac", spec := "fnExactCmac", unfollowed := true, recurses := true, apart := false }
def FnExactCmacSaid : Prop := fnExactCmacRow.holds Try.pinned (OpenSpec.ofChange fnExactCmacSpec)

/-- ITS FALSE NEIGHBOUR: 'it returns false'. Refute it at one input. -/
def fnExactCmacWrong : ChangeSpec := { name := "fnExactCmac", fn := fun _ => fun
  | [d1, d2] => { results := [.lit (.bool false)], args := [d1, d2] }
  | _ => none }
def FnExactCmacWrongFalsely : Prop := fnExactCmacRow.holds Try.pinned (OpenSpec.ofChange fnExactCmacWrong)

/-- 'laws.FnExactCheckValue': WHATEVER THE INPUT: true; the input reads as it did. -/
def fnExactCheckValueSpec : ChangeSpec := { name := "fnExactCheckValue", fn := fun _ => fun
  | [d] => { results := [.lit (.bool true)], args := [d] }
  | _ => none }
def fnExactCheckValueRow : OpenClaim := { program := "ytdfpjnbcemmbpaa", sum := "266cd4d6a32255b527508c12ef3afd89aa5fb011fd6c7614f7b913e0a7064537", func := "loop.example/s01728/laws.FnExactCheckValue", spec := "fnExactCheckValue", unfollowed := true, recurses := true, apart := false }
def FnExactCheckValueSaid : Prop := fnExactCheckValueRow.holds Try.pinned (OpenSpec.ofChange fnExactCheckValueSpec)

/-- ITS FALSE NEIGHBOUR: 'it returns false'. Refute it at one input. -/
def fnExactCheckValueWrong : ChangeSpec := { name := "fnExactCheckValue", fn := fun _ => fun
  | [d] => { results := [.lit (.bool false)], args := [d] }
  | _ => none }
def FnExactCheckValueWrongFalsely : Prop := fnExactCheckValueRow.holds Try.pinned (OpenSpec.ofChange fnExactCheckValueWrong)

/-- 'laws.FnInverse': WHATEVER THE INPUT: true; the input reads as it did. -/
def fnInverseSpec : ChangeSpec := { name := "fnInverse", fn := fun _ => fun
  | [d] => { results := [.lit (.bool true)], args := [d] }
  | _ => none }
def fnInverseRow : OpenClaim := { program := "ytdfpjnbcemmbpaa", sum := "266cd4d6a32255b527508c12ef3afd89aa5fb011fd6c7614f7b913e0a7064537", func := "loop.example/s01728/laws.FnInverse", spec := "fnInverse", unfollowed := true, recurses := true, apart := false }
def FnInverseSaid : Prop := fnInverseRow.holds Try.pinned (OpenSpec.ofChange fnInverseSpec)

/-- ITS FALSE NEIGHBOUR: 'it returns false'. Refute it at one input. -/
def fnInverseWrong : ChangeSpec := { name := "fnInverse", fn := fun _ => fun
  | [d] => { results := [.lit (.bool false)], args := [d] }
  | _ => none }
def FnInverseWrongFalsely : Prop := fnInverseRow.holds Try.pinned (OpenSpec.ofChange fnInverseWrong)

/- THE SECOND FORM. 'bulk': how many values and letters a reading holds, each counted each time it is reached (what is shared counts as often as it is met; a slice's spare places count too). A statement '..UptoSaid' is the law's where the arguments, and the package variables that the reading takes, are together of bulk at most 1048576: NARROWER than '..Said'. Prove '..Said' where nothing that the law and all that it calls make is longer than what came in: it says more and counts as full. Else prove '..UptoSaid'. A law counts once. -/
mutual
def uptoBulk {H : Type} : DataW H → Nat
  | .lit (.string bytes) => bytes.length + 1
  | .lit _ => 1
  | .nil => 1
  | .ptr d => uptoBulk d + 1
  | .slice elems spare => uptoBulkAll elems + uptoBulkAll spare + 1
  | .agg parts => uptoBulkAll parts + 1
  | .iface _ d => uptoBulk d + 1
  | .map entries => uptoBulkEntries entries + 1
  | .held _ => 1
def uptoBulkAll {H : Type} : List (DataW H) → Nat
  | [] => 0
  | d :: r => uptoBulk d + uptoBulkAll r
def uptoBulkEntries {H : Type} : List (Lit × DataW H) → Nat
  | [] => 0
  | x :: r => uptoBulkEntry x + uptoBulkEntries r
def uptoBulkEntry {H : Type} : Lit × DataW H → Nat
  | (.string bytes, d) => bytes.length + uptoBulk d + 1
  | (_, d) => uptoBulk d + 1
 end
def uptoSmall : (H : Type) → List (DataW H) → Bool := fun _ ds => decide (uptoBulkAll ds ≤ 1048576)
def OpenSpec.upto (s : _root_.Go.ChangeSpec) : _root_.Go.OpenSpec := { _root_.Go.OpenSpec.ofChange s with cond := some uptoSmall }

/-- 'laws.FnExactOddParity', WHERE WHAT IT READS IS OF BULK AT MOST 1048576: true; the input reads as it did. -/
def fnExactOddParityUptoRow : OpenClaim := { program := "ytdfpjnbcemmbpaa", sum := "266cd4d6a32255b527508c12ef3afd89aa5fb011fd6c7614f7b913e0a7064537", func := "loop.example/s01728/laws.FnExactOddParity", spec := "fnExactOddParity", apart := false, narrowed := true }
def FnExactOddParityUptoSaid : Prop := fnExactOddParityUptoRow.holds Try.pinned (OpenSpec.upto fnExactOddParitySpec)

/-- 'laws.FnParity', WHERE WHAT IT READS IS OF BULK AT MOST 1048576: true; the input reads as it did. -/
def fnParityUptoRow : OpenClaim := { program := "ytdfpjnbcemmbpaa", sum := "266cd4d6a32255b527508c12ef3afd89aa5fb011fd6c7614f7b913e0a7064537", func := "loop.example/s01728/laws.FnParity", spec := "fnParity", unfollowed := true, recurses := true, apart := false, narrowed := true }
def FnParityUptoSaid : Prop := fnParityUptoRow.holds Try.pinned (OpenSpec.upto fnParitySpec)

/-- 'laws.FnExactAes', WHERE WHAT IT READS IS OF BULK AT MOST 1048576: true; the input reads as it did. -/
def fnExactAesUptoRow : OpenClaim := { program := "ytdfpjnbcemmbpaa", sum := "266cd4d6a32255b527508c12ef3afd89aa5fb011fd6c7614f7b913e0a7064537", func := "loop.example/s01728/laws.FnExactAes", spec := "fnExactAes", unfollowed := true, recurses := true, apart := false, narrowed := true }
def FnExactAesUptoSaid : Prop := fnExactAesUptoRow.holds Try.pinned (OpenSpec.upto fnExactAesSpec)

/-- 'laws.FnExactDes', WHERE WHAT IT READS IS OF BULK AT MOST 1048576: true; the input reads as it did. -/
def fnExactDesUptoRow : OpenClaim := { program := "ytdfpjnbcemmbpaa", sum := "266cd4d6a32255b527508c12ef3afd89aa5fb011fd6c7614f7b913e0a7064537", func := "loop.example/s01728/laws.FnExactDes", spec := "fnExactDes", unfollowed := true, recurses := true, apart := false, narrowed := true }
def FnExactDesUptoSaid : Prop := fnExactDesUptoRow.holds Try.pinned (OpenSpec.upto fnExactDesSpec)

/-- 'laws.FnMacs', WHERE WHAT IT READS IS OF BULK AT MOST 1048576: true; the input reads as it did. -/
def fnMacsUptoRow : OpenClaim := { program := "ytdfpjnbcemmbpaa", sum := "266cd4d6a32255b527508c12ef3afd89aa5fb011fd6c7614f7b913e0a7064537", func := "loop.example/s01728/laws.FnMacs", spec := "fnMacs", unfollowed := true, recurses := true, apart := false, narrowed := true }
def FnMacsUptoSaid : Prop := fnMacsUptoRow.holds Try.pinned (OpenSpec.upto fnMacsSpec)

/-- 'laws.FnExactTdea', WHERE WHAT IT READS IS OF BULK AT MOST 1048576: true; the input reads as it did. -/
def fnExactTdeaUptoRow : OpenClaim := { program := "ytdfpjnbcemmbpaa", sum := "266cd4d6a32255b527508c12ef3afd89aa5fb011fd6c7614f7b913e0a7064537", func := "loop.example/s01728/laws.FnExactTdea", spec := "fnExactTdea", unfollowed := true, recurses := true, apart := false, narrowed := true }
def FnExactTdeaUptoSaid : Prop := fnExactTdeaUptoRow.holds Try.pinned (OpenSpec.upto fnExactTdeaSpec)

/-- 'laws.FnExactCbc', WHERE WHAT IT READS IS OF BULK AT MOST 1048576: true; the input reads as it did. -/
def fnExactCbcUptoRow : OpenClaim := { program := "ytdfpjnbcemmbpaa", sum := "266cd4d6a32255b527508c12ef3afd89aa5fb011fd6c7614f7b913e0a7064537", func := "loop.example/s01728/laws.FnExactCbc", spec := "fnExactCbc", unfollowed := true, recurses := true, apart := false, narrowed := true }
def FnExactCbcUptoSaid : Prop := fnExactCbcUptoRow.holds Try.pinned (OpenSpec.upto fnExactCbcSpec)

/-- 'laws.FnExactRetailMac', WHERE WHAT IT READS IS OF BULK AT MOST 1048576: true; the input reads as it did. -/
def fnExactRetailMacUptoRow : OpenClaim := { program := "ytdfpjnbcemmbpaa", sum := "266cd4d6a32255b527508c12ef3afd89aa5fb011fd6c7614f7b913e0a7064537", func := "loop.example/s01728/laws.FnExactRetailMac", spec := "fnExactRetailMac", unfollowed := true, recurses := true, apart := false, narrowed := true }
def FnExactRetailMacUptoSaid : Prop := fnExactRetailMacUptoRow.holds Try.pinned (OpenSpec.upto fnExactRetailMacSpec)

/-- 'laws.FnExactCmac', WHERE WHAT IT READS IS OF BULK AT MOST 1048576: true; the input reads as it did. -/
def fnExactCmacUptoRow : OpenClaim := { program := "ytdfpjnbcemmbpaa", sum := "266cd4d6a32255b527508c12ef3afd89aa5fb011fd6c7614f7b913e0a7064537", func := "loop.example/s01728/laws.FnExactCmac", spec := "fnExactCmac", unfollowed := true, recurses := true, apart := false, narrowed := true }
def FnExactCmacUptoSaid : Prop := fnExactCmacUptoRow.holds Try.pinned (OpenSpec.upto fnExactCmacSpec)

/-- 'laws.FnExactCheckValue', WHERE WHAT IT READS IS OF BULK AT MOST 1048576: true; the input reads as it did. -/
def fnExactCheckValueUptoRow : OpenClaim := { program := "ytdfpjnbcemmbpaa", sum := "266cd4d6a32255b527508c12ef3afd89aa5fb011fd6c7614f7b913e0a7064537", func := "loop.example/s01728/laws.FnExactCheckValue", spec := "fnExactCheckValue", unfollowed := true, recurses := true, apart := false, narrowed := true }
def FnExactCheckValueUptoSaid : Prop := fnExactCheckValueUptoRow.holds Try.pinned (OpenSpec.upto fnExactCheckValueSpec)

/-- 'laws.FnInverse', WHERE WHAT IT READS IS OF BULK AT MOST 1048576: true; the input reads as it did. -/
def fnInverseUptoRow : OpenClaim := { program := "ytdfpjnbcemmbpaa", sum := "266cd4d6a32255b527508c12ef3afd89aa5fb011fd6c7614f7b913e0a7064537", func := "loop.example/s01728/laws.FnInverse", spec := "fnInverse", unfollowed := true, recurses := true, apart := false, narrowed := true }
def FnInverseUptoSaid : Prop := fnInverseUptoRow.holds Try.pinned (OpenSpec.upto fnInverseSpec)

end Rows
end Go.Proofs.Ytdfpjnbcemmbpaa
