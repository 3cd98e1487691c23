/-
  No cell of these rows narrows 'for every input' (looked for: loops, veiled, ifaces, maps, wideKeys, modest, calm, conditions, laid).
  DERIVED. THE GIVEN ROWS OF THIS SEAT. 12 by the template 'for every input the law returns true; each argument reads behind the call as it read before'; 0 by the template 'total and deterministic' (their statements: YthjnalbgnjbdnaaTotals.lean).
  GIVEN WITH THE SEED: the statements are not yours to turn. If you find one false, say at which input.
  Laid BY PROGRAM, IN A SANDBOX (cutbox-rows.mjs): the forced cells as the released guide's own fill.sh prints them over the translation 485af777ed2391f1… (all of the seat's roots in one cut). By AI agents, Wed Nov 11 2026. No macro, syntax, notation, axiom, sorry.
-/
import Derived.Test.YthjnalbgnjbdnaaChecked
import GoSem.Claim
import GoSem.ClaimJoined
import GoSem.ClaimMapViews
import Derived.JoinedTies
import Derived.KernelRfl
namespace Go.Proofs.Ythjnalbgnjbdnaa
/- THE CELL 'sum', in the pinned program and in every row, IS THE sha256 OF THE DUMP (.gsa) THAT YthjnalbgnjbdnaaProg.lean LOADS. Nothing in Lean hashes anything: it is a label: what it is worth is what the hold of that sum in a sandbox is worth. -/
noncomputable def Try.pinned : Pinned := { name := "ythjnalbgnjbdnaa", sum := "485af777ed2391f10870fb1a2f32426c81364d5a2627d0bcc9911affc1e7e255", checked := Try.checked }
namespace Rows
def none {H : Type} : Left H := { results := [], args := [] }

/-- 'laws.FnExactOddParity': WHATEVER THE INPUT: true; the input reads as it did. -/
def fnExactOddParitySpec : ChangeSpec := { name := "fnExactOddParity", fn := fun _ => fun
  | [d] => { results := [.lit (.bool true)], args := [d] }
  | _ => none }
def fnExactOddParityRow : OpenClaim := { program := "ythjnalbgnjbdnaa", sum := "485af777ed2391f10870fb1a2f32426c81364d5a2627d0bcc9911affc1e7e255", func := "loop.example/s01728/laws.FnExactOddParity", spec := "fnExactOddParity", apart := false }
def FnExactOddParitySaid : Prop := fnExactOddParityRow.holds Try.pinned (OpenSpec.ofChange fnExactOddParitySpec)

/-- ITS FALSE NEIGHBOUR: 'it returns false'. Refute it at one input. -/
def fnExactOddParityWrong : ChangeSpec := { name := "fnExactOddParity", fn := fun _ => fun
  | [d] => { results := [.lit (.bool false)], args := [d] }
  | _ => none }
def FnExactOddParityWrongFalsely : Prop := fnExactOddParityRow.holds Try.pinned (OpenSpec.ofChange fnExactOddParityWrong)

/-- 'laws.FnExactDes': WHATEVER THE INPUT: true; the input reads as it did. -/
def fnExactDesSpec : ChangeSpec := { name := "fnExactDes", fn := fun _ => fun
  | [d1, d2, d3] => { results := [.lit (.bool true)], args := [d1, d2, d3] }
  | _ => none }
def fnExactDesRow : OpenClaim := { program := "ythjnalbgnjbdnaa", sum := "485af777ed2391f10870fb1a2f32426c81364d5a2627d0bcc9911affc1e7e255", func := "loop.example/s01728/laws.FnExactDes", spec := "fnExactDes", unfollowed := true, recurses := true, apart := false }
def FnExactDesSaid : Prop := fnExactDesRow.holds Try.pinned (OpenSpec.ofChange fnExactDesSpec)

/-- ITS FALSE NEIGHBOUR: 'it returns false'. Refute it at one input. -/
def fnExactDesWrong : ChangeSpec := { name := "fnExactDes", fn := fun _ => fun
  | [d1, d2, d3] => { results := [.lit (.bool false)], args := [d1, d2, d3] }
  | _ => none }
def FnExactDesWrongFalsely : Prop := fnExactDesRow.holds Try.pinned (OpenSpec.ofChange fnExactDesWrong)

/-- 'laws.FnExactTdea': WHATEVER THE INPUT: true; the input reads as it did. -/
def fnExactTdeaSpec : ChangeSpec := { name := "fnExactTdea", fn := fun _ => fun
  | [d1, d2, d3] => { results := [.lit (.bool true)], args := [d1, d2, d3] }
  | _ => none }
def fnExactTdeaRow : OpenClaim := { program := "ythjnalbgnjbdnaa", sum := "485af777ed2391f10870fb1a2f32426c81364d5a2627d0bcc9911affc1e7e255", func := "loop.example/s01728/laws.FnExactTdea", spec := "fnExactTdea", unfollowed := true, recurses := true, apart := false }
def FnExactTdeaSaid : Prop := fnExactTdeaRow.holds Try.pinned (OpenSpec.ofChange fnExactTdeaSpec)

/-- ITS FALSE NEIGHBOUR: 'it returns false'. Refute it at one input. -/
def fnExactTdeaWrong : ChangeSpec := { name := "fnExactTdea", fn := fun _ => fun
  | [d1, d2, d3] => { results := [.lit (.bool false)], args := [d1, d2, d3] }
  | _ => none }
def FnExactTdeaWrongFalsely : Prop := fnExactTdeaRow.holds Try.pinned (OpenSpec.ofChange fnExactTdeaWrong)

/-- 'laws.FnExactCbc': WHATEVER THE INPUT: true; the input reads as it did. -/
def fnExactCbcSpec : ChangeSpec := { name := "fnExactCbc", fn := fun _ => fun
  | [d1, d2, d3, d4] => { results := [.lit (.bool true)], args := [d1, d2, d3, d4] }
  | _ => none }
def fnExactCbcRow : OpenClaim := { program := "ythjnalbgnjbdnaa", sum := "485af777ed2391f10870fb1a2f32426c81364d5a2627d0bcc9911affc1e7e255", func := "loop.example/s01728/laws.FnExactCbc", spec := "fnExactCbc", unfollowed := true, recurses := true, apart := false }
def FnExactCbcSaid : Prop := fnExactCbcRow.holds Try.pinned (OpenSpec.ofChange fnExactCbcSpec)

/-- ITS FALSE NEIGHBOUR: 'it returns false'. Refute it at one input. -/
def fnExactCbcWrong : ChangeSpec := { name := "fnExactCbc", fn := fun _ => fun
  | [d1, d2, d3, d4] => { results := [.lit (.bool false)], args := [d1, d2, d3, d4] }
  | _ => none }
def FnExactCbcWrongFalsely : Prop := fnExactCbcRow.holds Try.pinned (OpenSpec.ofChange fnExactCbcWrong)

/-- 'laws.FnExactRetailMac': WHATEVER THE INPUT: true; the input reads as it did. -/
def fnExactRetailMacSpec : ChangeSpec := { name := "fnExactRetailMac", fn := fun _ => fun
  | [d1, d2] => { results := [.lit (.bool true)], args := [d1, d2] }
  | _ => none }
def fnExactRetailMacRow : OpenClaim := { program := "ythjnalbgnjbdnaa", sum := "485af777ed2391f10870fb1a2f32426c81364d5a2627d0bcc9911affc1e7e255", func := "loop.example/s01728/laws.FnExactRetailMac", spec := "fnExactRetailMac", unfollowed := true, recurses := true, apart := false }
def FnExactRetailMacSaid : Prop := fnExactRetailMacRow.holds Try.pinned (OpenSpec.ofChange fnExactRetailMacSpec)

/-- ITS FALSE NEIGHBOUR: 'it returns false'. Refute it at one input. -/
def fnExactRetailMacWrong : ChangeSpec := { name := "fnExactRetailMac", fn := fun _ => fun
  | [d1, d2] => { results := [.lit (.bool false)], args := [d1, d2] }
  | _ => none }
def FnExactRetailMacWrongFalsely : Prop := fnExactRetailMacRow.holds Try.pinned (OpenSpec.ofChange fnExactRetailMacWrong)

/-- 'laws.FnExactCheckValue': WHATEVER THE INPUT: true; the input reads as it did. -/
def fnExactCheckValueSpec : ChangeSpec := { name := "fnExactCheckValue", fn := fun _ => fun
  | [d] => { results := [.lit (.bool true)], args := [d] }
  | _ => none }
def fnExactCheckValueRow : OpenClaim := { program := "ythjnalbgnjbdnaa", sum := "485af777ed2391f10870fb1a2f32426c81364d5a2627d0bcc9911affc1e7e255", func := "loop.example/s01728/laws.FnExactCheckValue", spec := "fnExactCheckValue", unfollowed := true, recurses := true, apart := false }
def FnExactCheckValueSaid : Prop := fnExactCheckValueRow.holds Try.pinned (OpenSpec.ofChange fnExactCheckValueSpec)

/-- ITS FALSE NEIGHBOUR: 'it returns false'. Refute it at one input. -/
def fnExactCheckValueWrong : ChangeSpec := { name := "fnExactCheckValue", fn := fun _ => fun
  | [d] => { results := [.lit (.bool false)], args := [d] }
  | _ => none }
def FnExactCheckValueWrongFalsely : Prop := fnExactCheckValueRow.holds Try.pinned (OpenSpec.ofChange fnExactCheckValueWrong)

/-- 'laws.FnExactDukptInitial': WHATEVER THE INPUT: true; the input reads as it did. -/
def fnExactDukptInitialSpec : ChangeSpec := { name := "fnExactDukptInitial", fn := fun _ => fun
  | [d1, d2] => { results := [.lit (.bool true)], args := [d1, d2] }
  | _ => none }
def fnExactDukptInitialRow : OpenClaim := { program := "ythjnalbgnjbdnaa", sum := "485af777ed2391f10870fb1a2f32426c81364d5a2627d0bcc9911affc1e7e255", func := "loop.example/s01728/laws.FnExactDukptInitial", spec := "fnExactDukptInitial", unfollowed := true, recurses := true, apart := false }
def FnExactDukptInitialSaid : Prop := fnExactDukptInitialRow.holds Try.pinned (OpenSpec.ofChange fnExactDukptInitialSpec)

/-- ITS FALSE NEIGHBOUR: 'it returns false'. Refute it at one input. -/
def fnExactDukptInitialWrong : ChangeSpec := { name := "fnExactDukptInitial", fn := fun _ => fun
  | [d1, d2] => { results := [.lit (.bool false)], args := [d1, d2] }
  | _ => none }
def FnExactDukptInitialWrongFalsely : Prop := fnExactDukptInitialRow.holds Try.pinned (OpenSpec.ofChange fnExactDukptInitialWrong)

/-- 'laws.FnExactDukptKey': WHATEVER THE INPUT: true; the input reads as it did. -/
def fnExactDukptKeySpec : ChangeSpec := { name := "fnExactDukptKey", fn := fun _ => fun
  | [d1, d2] => { results := [.lit (.bool true)], args := [d1, d2] }
  | _ => none }
def fnExactDukptKeyRow : OpenClaim := { program := "ythjnalbgnjbdnaa", sum := "485af777ed2391f10870fb1a2f32426c81364d5a2627d0bcc9911affc1e7e255", func := "loop.example/s01728/laws.FnExactDukptKey", spec := "fnExactDukptKey", unfollowed := true, recurses := true, apart := false }
def FnExactDukptKeySaid : Prop := fnExactDukptKeyRow.holds Try.pinned (OpenSpec.ofChange fnExactDukptKeySpec)

/-- ITS FALSE NEIGHBOUR: 'it returns false'. Refute it at one input. -/
def fnExactDukptKeyWrong : ChangeSpec := { name := "fnExactDukptKey", fn := fun _ => fun
  | [d1, d2] => { results := [.lit (.bool false)], args := [d1, d2] }
  | _ => none }
def FnExactDukptKeyWrongFalsely : Prop := fnExactDukptKeyRow.holds Try.pinned (OpenSpec.ofChange fnExactDukptKeyWrong)

/-- 'laws.FnExactVariant': WHATEVER THE INPUT: true; the input reads as it did. -/
def fnExactVariantSpec : ChangeSpec := { name := "fnExactVariant", fn := fun _ => fun
  | [d1, d2] => { results := [.lit (.bool true)], args := [d1, d2] }
  | _ => none }
def fnExactVariantRow : OpenClaim := { program := "ythjnalbgnjbdnaa", sum := "485af777ed2391f10870fb1a2f32426c81364d5a2627d0bcc9911affc1e7e255", func := "loop.example/s01728/laws.FnExactVariant", spec := "fnExactVariant", apart := false }
def FnExactVariantSaid : Prop := fnExactVariantRow.holds Try.pinned (OpenSpec.ofChange fnExactVariantSpec)

/-- ITS FALSE NEIGHBOUR: 'it returns false'. Refute it at one input. -/
def fnExactVariantWrong : ChangeSpec := { name := "fnExactVariant", fn := fun _ => fun
  | [d1, d2] => { results := [.lit (.bool false)], args := [d1, d2] }
  | _ => none }
def FnExactVariantWrongFalsely : Prop := fnExactVariantRow.holds Try.pinned (OpenSpec.ofChange fnExactVariantWrong)

/-- 'laws.FnParity': WHATEVER THE INPUT: true; the input reads as it did. -/
def fnParitySpec : ChangeSpec := { name := "fnParity", fn := fun _ => fun
  | [d] => { results := [.lit (.bool true)], args := [d] }
  | _ => none }
def fnParityRow : OpenClaim := { program := "ythjnalbgnjbdnaa", sum := "485af777ed2391f10870fb1a2f32426c81364d5a2627d0bcc9911affc1e7e255", func := "loop.example/s01728/laws.FnParity", spec := "fnParity", unfollowed := true, recurses := true, apart := false }
def FnParitySaid : Prop := fnParityRow.holds Try.pinned (OpenSpec.ofChange fnParitySpec)

/-- ITS FALSE NEIGHBOUR: 'it returns false'. Refute it at one input. -/
def fnParityWrong : ChangeSpec := { name := "fnParity", fn := fun _ => fun
  | [d] => { results := [.lit (.bool false)], args := [d] }
  | _ => none }
def FnParityWrongFalsely : Prop := fnParityRow.holds Try.pinned (OpenSpec.ofChange fnParityWrong)

/-- 'laws.FnDukpt': WHATEVER THE INPUT: true; the input reads as it did. -/
def fnDukptSpec : ChangeSpec := { name := "fnDukpt", fn := fun _ => fun
  | [d] => { results := [.lit (.bool true)], args := [d] }
  | _ => none }
def fnDukptRow : OpenClaim := { program := "ythjnalbgnjbdnaa", sum := "485af777ed2391f10870fb1a2f32426c81364d5a2627d0bcc9911affc1e7e255", func := "loop.example/s01728/laws.FnDukpt", spec := "fnDukpt", unfollowed := true, recurses := true, apart := false }
def FnDukptSaid : Prop := fnDukptRow.holds Try.pinned (OpenSpec.ofChange fnDukptSpec)

/-- ITS FALSE NEIGHBOUR: 'it returns false'. Refute it at one input. -/
def fnDukptWrong : ChangeSpec := { name := "fnDukpt", fn := fun _ => fun
  | [d] => { results := [.lit (.bool false)], args := [d] }
  | _ => none }
def FnDukptWrongFalsely : Prop := fnDukptRow.holds Try.pinned (OpenSpec.ofChange fnDukptWrong)

/-- 'laws.FnExactAes': WHATEVER THE INPUT: true; the input reads as it did. -/
def fnExactAesSpec : ChangeSpec := { name := "fnExactAes", fn := fun _ => fun
  | [d1, d2, d3] => { results := [.lit (.bool true)], args := [d1, d2, d3] }
  | _ => none }
def fnExactAesRow : OpenClaim := { program := "ythjnalbgnjbdnaa", sum := "485af777ed2391f10870fb1a2f32426c81364d5a2627d0bcc9911affc1e7e255", func := "loop.example/s01728/laws.FnExactAes", spec := "fnExactAes", unfollowed := true, recurses := true, apart := false }
def FnExactAesSaid : Prop := fnExactAesRow.holds Try.pinned (OpenSpec.ofChange fnExactAesSpec)

/-- ITS FALSE NEIGHBOUR: 'it returns false'. Refute it at one input. -/
def fnExactAesWrong : ChangeSpec := { name := "fnExactAes", fn := fun _ => fun
  | [d1, d2, d3] => { results := [.lit (.bool false)], args := [d1, d2, d3] }
  | _ => none }
def FnExactAesWrongFalsely : Prop := fnExactAesRow.holds Try.pinned (OpenSpec.ofChange fnExactAesWrong)

/- THE SECOND FORM. 'bulk': how many values and letters a reading holds, each counted each time it is reached (what is shared counts as often as it is met; a slice's spare places count too). A statement '..UptoSaid' is the law's where the arguments, and the package variables that the reading takes, are together of bulk at most 1048576: NARROWER than '..Said'. Prove '..Said' where nothing that the law and all that it calls make is longer than what came in: it says more and counts as full. Else prove '..UptoSaid'. A law counts once. -/
mutual
def uptoBulk {H : Type} : DataW H → Nat
  | .lit (.string bytes) => bytes.length + 1
  | .lit _ => 1
  | .nil => 1
  | .ptr d => uptoBulk d + 1
  | .slice elems spare => uptoBulkAll elems + uptoBulkAll spare + 1
  | .agg parts => uptoBulkAll parts + 1
  | .iface _ d => uptoBulk d + 1
  | .map entries => uptoBulkEntries entries + 1
  | .held _ => 1
def uptoBulkAll {H : Type} : List (DataW H) → Nat
  | [] => 0
  | d :: r => uptoBulk d + uptoBulkAll r
def uptoBulkEntries {H : Type} : List (Lit × DataW H) → Nat
  | [] => 0
  | x :: r => uptoBulkEntry x + uptoBulkEntries r
def uptoBulkEntry {H : Type} : Lit × DataW H → Nat
  | (.string bytes, d) => bytes.length + uptoBulk d + 1
  | (_, d) => uptoBulk d + 1
 end
def uptoSmall : (H : Type) → List (DataW H) → Bool := fun _ ds => decide (uptoBulkAll ds ≤ 1048576)
def OpenSpec.upto (s : _root_.Go.ChangeSpec) : _root_.Go.OpenSpec := { _root_.Go.OpenSpec.ofChange s with cond := some uptoSmall }

/-- 'laws.FnExactOddParity', WHERE WHAT IT READS IS OF BULK AT MOST 1048576: true; the input reads as it did. -/
def fnExactOddParityUptoRow : OpenClaim := { program := "ythjnalbgnjbdnaa", sum := "485af777ed2391f10870fb1a2f32426c81364d5a2627d0bcc9911affc1e7e255", func := "loop.example/s01728/laws.FnExactOddParity", spec := "fnExactOddParity", apart := false, narrowed := true }
def FnExactOddParityUptoSaid : Prop := fnExactOddParityUptoRow.holds Try.pinned (OpenSpec.upto fnExactOddParitySpec)

/-- 'laws.FnExactDes', WHERE WHAT IT READS IS OF BULK AT MOST 1048576: true; the input reads as it did. -/
def fnExactDesUptoRow : OpenClaim := { program := "ythjnalbgnjbdnaa", sum := "485af777ed2391f10870fb1a2f32426c81364d5a2627d0bcc9911affc1e7e255", func := "loop.example/s01728/laws.FnExactDes", spec := "fnExactDes", unfollowed := true, recurses := true, apart := false, narrowed := true }
def FnExactDesUptoSaid : Prop := fnExactDesUptoRow.holds Try.pinned (OpenSpec.upto fnExactDesSpec)

/-- 'laws.FnExactTdea', WHERE WHAT IT READS IS OF BULK AT MOST 1048576: true; the input reads as it did. -/
def fnExactTdeaUptoRow : OpenClaim := { program := "ythjnalbgnjbdnaa", sum := "485af777ed2391f10870fb1a2f32426c81364d5a2627d0bcc9911affc1e7e255", func := "loop.example/s01728/laws.FnExactTdea", spec := "fnExactTdea", unfollowed := true, recurses := true, apart := false, narrowed := true }
def FnExactTdeaUptoSaid : Prop := fnExactTdeaUptoRow.holds Try.pinned (OpenSpec.upto fnExactTdeaSpec)

/-- 'laws.FnExactCbc', WHERE WHAT IT READS IS OF BULK AT MOST 1048576: true; the input reads as it did. -/
def fnExactCbcUptoRow : OpenClaim := { program := "ythjnalbgnjbdnaa", sum := "485af777ed2391f10870fb1a2f32426c81364d5a2627d0bcc9911affc1e7e255", func := "loop.example/s01728/laws.FnExactCbc", spec := "fnExactCbc", unfollowed := true, recurses := true, apart := false, narrowed := true }
def FnExactCbcUptoSaid : Prop := fnExactCbcUptoRow.holds Try.pinned (OpenSpec.upto fnExactCbcSpec)

/-- 'laws.FnExactRetailMac', WHERE WHAT IT READS IS OF BULK AT MOST 1048576: true; the input reads as it did. -/
def fnExactRetailMacUptoRow : OpenClaim := { program := "ythjnalbgnjbdnaa", sum := "485af777ed2391f10870fb1a2f32426c81364d5a2627d0bcc9911affc1e7e255", func := "loop.example/s01728/laws.FnExactRetailMac", spec := "fnExactRetailMac", unfollowed := true, recurses := true, apart := false, narrowed := true }
def FnExactRetailMacUptoSaid : Prop := fnExactRetailMacUptoRow.holds Try.pinned (OpenSpec.upto fnExactRetailMacSpec)

/-- 'laws.FnExactCheckValue', WHERE WHAT IT READS IS OF BULK AT MOST 1048576: true; the input reads as it did. -/
def fnExactCheckValueUptoRow : OpenClaim := { program := "ythjnalbgnjbdnaa", sum := "485af777ed2391f10870fb1a2f32426c81364d5a2627d0bcc9911affc1e7e255", func := "loop.example/s01728/laws.FnExactCheckValue", spec := "fnExactCheckValue", unfollowed := true, recurses := true, apart := false, narrowed := true }
def FnExactCheckValueUptoSaid : Prop := fnExactCheckValueUptoRow.holds Try.pinned (OpenSpec.upto fnExactCheckValueSpec)

/-- 'laws.FnExactDukptInitial', WHERE WHAT IT READS IS OF BULK AT MOST 1048576: true; the input reads as it did. -/
def fnExactDukptInitialUptoRow : OpenClaim := { program := "ythjnalbgnjbdnaa", sum := "485af777ed2391f10870fb1a2f32426c81364d5a2627d0bcc9911affc1e7e255", func := "loop.example/s01728/laws.FnExactDukptInitial", spec := "fnExactDukptInitial", unfollowed := true, recurses := true, apart := false, narrowed := true }
def FnExactDukptInitialUptoSaid : Prop := fnExactDukptInitialUptoRow.holds Try.pinned (OpenSpec.upto fnExactDukptInitialSpec)

/-- 'laws.FnExactDukptKey', WHERE WHAT IT READS IS OF BULK AT MOST 1048576: true; the input reads as it did. -/
def fnExactDukptKeyUptoRow : OpenClaim := { program := "ythjnalbgnjbdnaa", sum := "485af777ed2391f10870fb1a2f32426c81364d5a2627d0bcc9911affc1e7e255", func := "loop.example/s01728/laws.FnExactDukptKey", spec := "fnExactDukptKey", unfollowed := true, recurses := true, apart := false, narrowed := true }
def FnExactDukptKeyUptoSaid : Prop := fnExactDukptKeyUptoRow.holds Try.pinned (OpenSpec.upto fnExactDukptKeySpec)

/-- 'laws.FnExactVariant', WHERE WHAT IT READS IS OF BULK AT MOST 1048576: true; the input reads as it did. -/
def fnExactVariantUptoRow : OpenClaim := { program := "ythjnalbgnjbdnaa", sum := "485af777ed2391f10870fb1a2f32426c81364d5a2627d0bcc9911affc1e7e255", func := "loop.example/s01728/laws.FnExactVariant", spec := "fnExactVariant", apart := false, narrowed := true }
def FnExactVariantUptoSaid : Prop := fnExactVariantUptoRow.holds Try.pinned (OpenSpec.upto fnExactVariantSpec)

/-- 'laws.FnParity', WHERE WHAT IT READS IS OF BULK AT MOST 1048576: true; the input reads as it did. -/
def fnParityUptoRow : OpenClaim := { program := "ythjnalbgnjbdnaa", sum := "485af777ed2391f10870fb1a2f32426c81364d5a2627d0bcc9911affc1e7e255", func := "loop.example/s01728/laws.FnParity", spec := "fnParity", unfollowed := true, recurses := true, apart := false, narrowed := true }
def FnParityUptoSaid : Prop := fnParityUptoRow.holds Try.pinned (OpenSpec.upto fnParitySpec)

/-- 'laws.FnDukpt', WHERE WHAT IT READS IS OF BULK AT MOST 1048576: true; the input reads as it did. -/
def fnDukptUptoRow : OpenClaim := { program := "ythjnalbgnjbdnaa", sum := "485af777ed2391f10870fb1a2f32426c81364d5a2627d0bcc9911affc1e7e255", func := "loop.example/s01728/laws.FnDukpt", spec := "fnDukpt", unfollowed := true, recurses := true, apart := false, narrowed := true }
def FnDukptUptoSaid : Prop := fnDukptUptoRow.holds Try.pinned (OpenSpec.upto fnDukptSpec)

/-- 'laws.FnExactAes', WHERE WHAT IT READS IS OF BULK AT MOST 1048576: true; the input reads as it did. -/
def fnExactAesUptoRow : OpenClaim := { program := "ythjnalbgnjbdnaa", sum := "485af777ed2391f10870fb1a2f32426c81364d5a2627d0bcc9911affc1e7e255", func := "loop.example/s01728/laws.FnExactAes", spec := "fnExactAes", unfollowed := true, recurses := true, apart := false, narrowed := true }
def FnExactAesUptoSaid : Prop := fnExactAesUptoRow.holds Try.pinned (OpenSpec.upto fnExactAesSpec)

end Rows
end Go.Proofs.Ythjnalbgnjbdnaa
