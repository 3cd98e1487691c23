/-
  No cell of these rows narrows 'for every input' (looked for: loops, veiled, ifaces, maps, wideKeys, modest, calm, conditions, laid).
  DERIVED. THE GIVEN ROWS OF THIS SEAT. 5 by the template 'for every input the law returns true; each argument reads behind the call as it read before'; 0 by the template 'total and deterministic' (their statements: YtdelidfigcgglaaTotals.lean).
  GIVEN WITH THE SEED: the statements are not yours to turn. If you find one false, say at which input.
  Laid BY PROGRAM, IN A SANDBOX (cutbox-rows.mjs): the forced cells as the released guide's own fill.sh prints them over the translation 426d1ee1342b1dd8… (all of the seat's roots in one cut). By AI agents, Wed Nov 11 2026. No macro, syntax, notation, axiom, sorry.
-/
import Derived.Test.YtdelidfigcgglaaChecked
import GoSem.Claim
import GoSem.ClaimJoined
import GoSem.ClaimMapViews
import Derived.JoinedTies
import Derived.KernelRfl
namespace Go.Proofs.Ytdelidfigcgglaa
/- THE CELL 'sum', in the pinned program and in every row, IS THE sha256 OF THE DUMP (.gsa) THAT YtdelidfigcgglaaProg.lean LOADS. Nothing in Lean hashes anything: it is a label: what it is worth is what the hold of that sum in a sandbox is worth. -/
noncomputable def Try.pinned : Pinned := { name := "ytdelidfigcgglaa", sum := "426d1ee1342b1dd8938221b52f6bd91cca644f942c6d62f85e717ce0a54c4b98", checked := Try.checked }
namespace Rows
def none {H : Type} : Left H := { results := [], args := [] }

/-- 'laws.FnExactAes': WHATEVER THE INPUT: true; the input reads as it did. -/
def fnExactAesSpec : ChangeSpec := { name := "fnExactAes", fn := fun _ => fun
  | [d1, d2, d3] => { results := [.lit (.bool true)], args := [d1, d2, d3] }
  | _ => none }
def fnExactAesRow : OpenClaim := { program := "ytdelidfigcgglaa", sum := "426d1ee1342b1dd8938221b52f6bd91cca644f942c6d62f85e717ce0a54c4b98", func := "loop.example/s01728/laws.FnExactAes", spec := "fnExactAes", unfollowed := true, recurses := true, apart := false }
def FnExactAesSaid : Prop := fnExactAesRow.holds Try.pinned (OpenSpec.ofChange fnExactAesSpec)

/-- ITS FALSE NEIGHBOUR: 'it returns false'. Refute it at one input. -/
def fnExactAesWrong : ChangeSpec := { name := "fnExactAes", fn := fun _ => fun
  | [d1, d2, d3] => { results := [.lit (.bool false)], args := [d1, d2, d3] }
  | _ => none }
def FnExactAesWrongFalsely : Prop := fnExactAesRow.holds Try.pinned (OpenSpec.ofChange fnExactAesWrong)

/-- 'laws.FnMacs': WHATEVER THE INPUT: true; the input reads as it did. -/
def fnMacsSpec : ChangeSpec := { name := "fnMacs", fn := fun _ => fun
  | [d] => { results := [.lit (.bool true)], args := [d] }
  | _ => none }
def fnMacsRow : OpenClaim := { program := "ytdelidfigcgglaa", sum := "426d1ee1342b1dd8938221b52f6bd91cca644f942c6d62f85e717ce0a54c4b98", func := "loop.example/s01728/laws.FnMacs", spec := "fnMacs", unfollowed := true, recurses := true, apart := false }
def FnMacsSaid : Prop := fnMacsRow.holds Try.pinned (OpenSpec.ofChange fnMacsSpec)

/-- ITS FALSE NEIGHBOUR: 'it returns false'. Refute it at one input. -/
def fnMacsWrong : ChangeSpec := { name := "fnMacs", fn := fun _ => fun
  | [d] => { results := [.lit (.bool false)], args := [d] }
  | _ => none }
def FnMacsWrongFalsely : Prop := fnMacsRow.holds Try.pinned (OpenSpec.ofChange fnMacsWrong)

/-- 'laws.FnExactCmac': WHATEVER THE INPUT: true; the input reads as it did. -/
def fnExactCmacSpec : ChangeSpec := { name := "fnExactCmac", fn := fun _ => fun
  | [d1, d2] => { results := [.lit (.bool true)], args := [d1, d2] }
  | _ => none }
def fnExactCmacRow : OpenClaim := { program := "ytdelidfigcgglaa", sum := "426d1ee1342b1dd8938221b52f6bd91cca644f942c6d62f85e717ce0a54c4b98", func := "loop.example/s01728/laws.FnExactCmac", spec := "fnExactCmac", unfollowed := true, recurses := true, apart := false }
def FnExactCmacSaid : Prop := fnExactCmacRow.holds Try.pinned (OpenSpec.ofChange fnExactCmacSpec)

/-- ITS FALSE NEIGHBOUR: 'it returns false'. Refute it at one input. -/
def fnExactCmacWrong : ChangeSpec := { name := "fnExactCmac", fn := fun _ => fun
  | [d1, d2] => { results := [.lit (.bool false)], args := [d1, d2] }
  | _ => none }
def FnExactCmacWrongFalsely : Prop := fnExactCmacRow.holds Try.pinned (OpenSpec.ofChange fnExactCmacWrong)

/-- 'laws.FnExactWrap': WHATEVER THE INPUT: true; the input reads as it did. -/
def fnExactWrapSpec : ChangeSpec := { name := "fnExactWrap", fn := fun _ => fun
  | [d1, d2] => { results := [.lit (.bool true)], args := [d1, d2] }
  | _ => none }
def fnExactWrapRow : OpenClaim := { program := "ytdelidfigcgglaa", sum := "426d1ee1342b1dd8938221b52f6bd91cca644f942c6d62f85e717ce0a54c4b98", func := "loop.example/s01728/laws.FnExactWrap", spec := "fnExactWrap", unfollowed := true, recurses := true, apart := false }
def FnExactWrapSaid : Prop := fnExactWrapRow.holds Try.pinned (OpenSpec.ofChange fnExactWrapSpec)

/-- ITS FALSE NEIGHBOUR: 'it returns false'. Refute it at one input. -/
def fnExactWrapWrong : ChangeSpec := { name := "fnExactWrap", fn := fun _ => fun
  | [d1, d2] => { results := [.lit (.bool false)], args := [d1, d2] }
  | _ => none }
def FnExactWrapWrongFalsely : Prop := fnExactWrapRow.holds Try.pinned (OpenSpec.ofChange fnExactWrapWrong)

/-- 'laws.FnInverse': WHATEVER THE INPUT: true; the input reads as it did. -/
def fnInverseSpec : ChangeSpec := { name := "fnInverse", fn := fun _ => fun
  | [d] => { results := [.lit (.bool true)], args := [d] }
  | _ => none }
def fnInverseRow : OpenClaim := { program := "ytdelidfigcgglaa", sum := "426d1ee1342b1dd8938221b52f6bd91cca644f942c6d62f85e717ce0a54c4b98", func := "loop.example/s01728/laws.FnInverse", spec := "fnInverse", unfollowed := true, recurses := true, apart := false }
def FnInverseSaid : Prop := fnInverseRow.holds Try.pinned (OpenSpec.ofChange fnInverseSpec)

/-- ITS FALSE NEIGHBOUR: 'it returns false'. Refute it at one input. -/
def fnInverseWrong : ChangeSpec := { name := "fnInverse", fn := fun _ => fun
  | [d] => { results := [.lit (.bool false)], args := [d] }
  | _ => none }
def FnInverseWrongFalsely : Prop := fnInverseRow.holds Try.pinned (OpenSpec.ofChange fnInverseWrong)

/- THE SECOND FORM. 'bulk': how many values and letters a reading holds, each counted each time it is reached (what is shared counts as often as it is met; a slice's spare places count too). A statement '..UptoSaid' is the law's where the arguments, and the package variables that the reading takes, are together of bulk at most 1048576: NARROWER than '..Said'. Prove '..Said' where nothing that the law and all that it calls make is longer than what came in: it says more and counts as full. Else prove '..UptoSaid'. A law counts once. -/
mutual
def uptoBulk {H : Type} : DataW H → Nat
  | .lit (.string bytes) => bytes.length + 1
  | .lit _ => 1
  | .nil => 1
  | .ptr d => uptoBulk d + 1
  | .slice elems spare => uptoBulkAll elems + uptoBulkAll spare + 1
  | .agg parts => uptoBulkAll parts + 1
  | .iface _ d => uptoBulk d + 1
  | .map entries => uptoBulkEntries entries + 1
  | .held _ => 1
def uptoBulkAll {H : Type} : List (DataW H) → Nat
  | [] => 0
  | d :: r => uptoBulk d + uptoBulkAll r
def uptoBulkEntries {H : Type} : List (Lit × DataW H) → Nat
  | [] => 0
  | x :: r => uptoBulkEntry x + uptoBulkEntries r
def uptoBulkEntry {H : Type} : Lit × DataW H → Nat
  | (.string bytes, d) => bytes.length + uptoBulk d + 1
  | (_, d) => uptoBulk d + 1
 end
def uptoSmall : (H : Type) → List (DataW H) → Bool := fun _ ds => decide (uptoBulkAll ds ≤ 1048576)
def OpenSpec.upto (s : _root_.Go.ChangeSpec) : _root_.Go.OpenSpec := { _root_.Go.OpenSpec.ofChange s with cond := some uptoSmall }

/-- 'laws.FnExactAes', WHERE WHAT IT READS IS OF BULK AT MOST 1048576: true; the input reads as it did. -/
def fnExactAesUptoRow : OpenClaim := { program := "ytdelidfigcgglaa", sum := "426d1ee1342b1dd8938221b52f6bd91cca644f942c6d62f85e717ce0a54c4b98", func := "loop.example/s01728/laws.FnExactAes", spec := "fnExactAes", unfollowed := true, recurses := true, apart := false, narrowed := true }
def FnExactAesUptoSaid : Prop := fnExactAesUptoRow.holds Try.pinned (OpenSpec.upto fnExactAesSpec)

/-- 'laws.FnMacs', WHERE WHAT IT READS IS OF BULK AT MOST 1048576: true; the input reads as it did. -/
def fnMacsUptoRow : OpenClaim := { program := "ytdelidfigcgglaa", sum := "426d1ee1342b1dd8938221b52f6bd91cca644f942c6d62f85e717ce0a54c4b98", func := "loop.example/s01728/laws.FnMacs", spec := "fnMacs", unfollowed := true, recurses := true, apart := false, narrowed := true }
def FnMacsUptoSaid : Prop := fnMacsUptoRow.holds Try.pinned (OpenSpec.upto fnMacsSpec)

/-- 'laws.FnExactCmac', WHERE WHAT IT READS IS OF BULK AT MOST 1048576: true; the input reads as it did. -/
def fnExactCmacUptoRow : OpenClaim := { program := "ytdelidfigcgglaa", sum := "426d1ee1342b1dd8938221b52f6bd91cca644f942c6d62f85e717ce0a54c4b98", func := "loop.example/s01728/laws.FnExactCmac", spec := "fnExactCmac", unfollowed := true, recurses := true, apart := false, narrowed := true }
def FnExactCmacUptoSaid : Prop := fnExactCmacUptoRow.holds Try.pinned (OpenSpec.upto fnExactCmacSpec)

/-- 'laws.FnExactWrap', WHERE WHAT IT READS IS OF BULK AT MOST 1048576: true; the input reads as it did. -/
def fnExactWrapUptoRow : OpenClaim := { program := "ytdelidfigcgglaa", sum := "426d1ee1342b1dd8938221b52f6bd91cca644f942c6d62f85e717ce0a54c4b98", func := "loop.example/s01728/laws.FnExactWrap", spec := "fnExactWrap", unfollowed := true, recurses := true, apart := false, narrowed := true }
def FnExactWrapUptoSaid : Prop := fnExactWrapUptoRow.holds Try.pinned (OpenSpec.upto fnExactWrapSpec)

/-- 'laws.FnInverse', WHERE WHAT IT READS IS OF BULK AT MOST 1048576: true; the input reads as it did. -/
def fnInverseUptoRow : OpenClaim := { program := "ytdelidfigcgglaa", sum := "426d1ee1342b1dd8938221b52f6bd91cca644f942c6d62f85e717ce0a54c4b98", func := "loop.example/s01728/laws.FnInverse", spec := "fnInverse", unfollowed := true, recurses := true, apart := false, narrowed := true }
def FnInverseUptoSaid : Prop := fnInverseUptoRow.holds Try.pinned (OpenSpec.upto fnInverseSpec)

end Rows
end Go.Proofs.Ytdelidfigcgglaa
