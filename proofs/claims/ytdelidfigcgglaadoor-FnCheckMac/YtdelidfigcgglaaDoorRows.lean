/-
  NARROWER THAN 'FOR EVERY INPUT', by the rows' own cells (each row's printed sentence says how): FnWrap: ifaces, laid · FnExactUnwrap: ifaces, laid · FnCheckMac: ifaces, laid · FnExactCheckMac: ifaces, laid.
  DERIVED. THE GIVEN ROWS OF THIS SEAT. 4 by the template 'for every input the law returns true; each argument reads behind the call as it read before'; 0 by the template 'total and deterministic' (their statements: YtdelidfigcgglaaDoorTotals.lean).
  GIVEN WITH THE SEED: the statements are not yours to turn. If you find one false, say at which input.
  Laid BY PROGRAM, IN A SANDBOX (cutbox-rows.mjs): the forced cells as the released guide's own fill.sh prints them over the translation 5cfebd3b37e296b1… (all of the seat's roots in one cut). By AI agents, Wed Nov 11 2026. No macro, syntax, notation, axiom, sorry.
-/
import Derived.Test.YtdelidfigcgglaaDoorChecked
import GoSem.Claim
import GoSem.ClaimJoined
import GoSem.ClaimMapViews
import Derived.JoinedTies
import Derived.KernelRfl
namespace Go.Proofs.YtdelidfigcgglaaDoor
/- THE CELL 'sum', in the pinned program and in every row, IS THE sha256 OF THE DUMP (.gsa) THAT YtdelidfigcgglaaDoorProg.lean LOADS. Nothing in Lean hashes anything: it is a label: what it is worth is what the hold of that sum in a sandbox is worth. -/
noncomputable def Tryd.pinned : Pinned := { name := "ytdelidfigcgglaadoor", sum := "5cfebd3b37e296b12ac83c0f9289e0c61a6adf14f8e60e95cce5413c23f50843", checked := Tryd.checked }
namespace Rows
def none {H : Type} : Left H := { results := [], args := [] }

/- WHAT THE LISTED PACKAGE-LEVEL VARIABLES READ AS WHEN THE CALL BEGINS. Each datum BY PROGRAM (the guide's laid-datum.mjs) off the statement by which the dump's own 'gosem.cut.vars' lays the variable. In a bare row this is a premise. The card (YtdelidfigcgglaaDoorCards.lean) ties it to the program's text. -/
def laid_loop_example_s01728_impl_errBlockForm {H : Type} : DataW H := .iface "*errors.errorString" (.ptr (.agg [.lit (.string [116, 104, 101, 32, 107, 101, 121, 32, 98, 108, 111, 99, 107, 32, 104, 97, 115, 32, 97, 110, 111, 116, 104, 101, 114, 32, 102, 111, 114, 109])]))
def laid_loop_example_s01728_impl_errBlockTag {H : Type} : DataW H := .iface "*errors.errorString" (.ptr (.agg [.lit (.string [116, 104, 101, 32, 107, 101, 121, 32, 98, 108, 111, 99, 107, 32, 105, 115, 32, 110, 111, 116, 32, 116, 104, 101, 32, 111, 110, 101, 32, 111, 102, 32, 105, 116, 115, 32, 116, 97, 103])]))

/-- 'laws.FnWrap': WHATEVER THE INPUT: true; the input reads as it did. -/
def fnWrapSpec : ChangeSpec := { name := "fnWrap", vars := ["loop.example/s01728/impl.errBlockForm", "loop.example/s01728/impl.errBlockTag"], fn := fun _ => fun
  | [d, g1, g2] => { results := [.lit (.bool true)], args := [d], vars := [g1, g2] }
  | _ => none }
def fnWrapRow : OpenClaim := { program := "ytdelidfigcgglaadoor", sum := "5cfebd3b37e296b12ac83c0f9289e0c61a6adf14f8e60e95cce5413c23f50843", func := "loop.example/s01728/laws.FnWrap", spec := "fnWrap", inPlace := ["internal/reflectlite.TypeOf"], unfollowed := true, recurses := true, named := ["loop.example/s01728/impl.errBlockForm", "loop.example/s01728/impl.errBlockTag"], ifaces := true, plainKeys := false, apart := false, laid := [("loop.example/s01728/impl.errBlockForm", laid_loop_example_s01728_impl_errBlockForm), ("loop.example/s01728/impl.errBlockTag", laid_loop_example_s01728_impl_errBlockTag)] }
def FnWrapSaid : Prop := fnWrapRow.holds Tryd.pinned (OpenSpec.ofChange fnWrapSpec)

/-- ITS FALSE NEIGHBOUR: 'it returns false'. Refute it at one input. -/
def fnWrapWrong : ChangeSpec := { name := "fnWrap", vars := ["loop.example/s01728/impl.errBlockForm", "loop.example/s01728/impl.errBlockTag"], fn := fun _ => fun
  | [d, g1, g2] => { results := [.lit (.bool false)], args := [d], vars := [g1, g2] }
  | _ => none }
def FnWrapWrongFalsely : Prop := fnWrapRow.holds Tryd.pinned (OpenSpec.ofChange fnWrapWrong)

/-- 'laws.FnExactUnwrap': WHATEVER THE INPUT: true; the input reads as it did. -/
def fnExactUnwrapSpec : ChangeSpec := { name := "fnExactUnwrap", vars := ["loop.example/s01728/impl.errBlockForm", "loop.example/s01728/impl.errBlockTag"], fn := fun _ => fun
  | [d1, d2, g1, g2] => { results := [.lit (.bool true)], args := [d1, d2], vars := [g1, g2] }
  | _ => none }
def fnExactUnwrapRow : OpenClaim := { program := "ytdelidfigcgglaadoor", sum := "5cfebd3b37e296b12ac83c0f9289e0c61a6adf14f8e60e95cce5413c23f50843", func := "loop.example/s01728/laws.FnExactUnwrap", spec := "fnExactUnwrap", inPlace := ["internal/reflectlite.TypeOf"], unfollowed := true, recurses := true, named := ["loop.example/s01728/impl.errBlockForm", "loop.example/s01728/impl.errBlockTag"], ifaces := true, plainKeys := false, apart := false, laid := [("loop.example/s01728/impl.errBlockForm", laid_loop_example_s01728_impl_errBlockForm), ("loop.example/s01728/impl.errBlockTag", laid_loop_example_s01728_impl_errBlockTag)] }
def FnExactUnwrapSaid : Prop := fnExactUnwrapRow.holds Tryd.pinned (OpenSpec.ofChange fnExactUnwrapSpec)

/-- ITS FALSE NEIGHBOUR: 'it returns false'. Refute it at one input. -/
def fnExactUnwrapWrong : ChangeSpec := { name := "fnExactUnwrap", vars := ["loop.example/s01728/impl.errBlockForm", "loop.example/s01728/impl.errBlockTag"], fn := fun _ => fun
  | [d1, d2, g1, g2] => { results := [.lit (.bool false)], args := [d1, d2], vars := [g1, g2] }
  | _ => none }
def FnExactUnwrapWrongFalsely : Prop := fnExactUnwrapRow.holds Tryd.pinned (OpenSpec.ofChange fnExactUnwrapWrong)

/-- 'laws.FnCheckMac': WHATEVER THE INPUT: true; the input reads as it did. -/
def fnCheckMacSpec : ChangeSpec := { name := "fnCheckMac", vars := ["loop.example/s01728/impl.errBlockForm", "loop.example/s01728/impl.errBlockTag"], fn := fun _ => fun
  | [d, g1, g2] => { results := [.lit (.bool true)], args := [d], vars := [g1, g2] }
  | _ => none }
def fnCheckMacRow : OpenClaim := { program := "ytdelidfigcgglaadoor", sum := "5cfebd3b37e296b12ac83c0f9289e0c61a6adf14f8e60e95cce5413c23f50843", func := "loop.example/s01728/laws.FnCheckMac", spec := "fnCheckMac", unfollowed := true, recurses := true, named := ["loop.example/s01728/impl.errBlockForm", "loop.example/s01728/impl.errBlockTag"], ifaces := true, plainKeys := false, apart := false, laid := [("loop.example/s01728/impl.errBlockForm", laid_loop_example_s01728_impl_errBlockForm), ("loop.example/s01728/impl.errBlockTag", laid_loop_example_s01728_impl_errBlockTag)] }
def FnCheckMacSaid : Prop := fnCheckMacRow.holds Tryd.pinned (OpenSpec.ofChange fnCheckMacSpec)

/-- ITS FALSE NEIGHBOUR: 'it returns false'. Refute it at one input. -/
def fnCheckMacWrong : ChangeSpec := { name := "fnCheckMac", vars := ["loop.example/s01728/impl.errBlockForm", "loop.example/s01728/impl.errBlockTag"], fn := fun _ => fun
  | [d, g1, g2] => { results := [.lit (.bool false)], args := [d], vars := [g1, g2] }
  | _ => none }
def FnCheckMacWrongFalsely : Prop := fnCheckMacRow.holds Tryd.pinned (OpenSpec.ofChange fnCheckMacWrong)

/-- 'laws.FnExactCheckMac': WHATEVER THE INPUT: true; the input reads as it did. -/
def fnExactCheckMacSpec : ChangeSpec := { name := "fnExactCheckMac", vars := ["loop.example/s01728/impl.errBlockForm", "loop.example/s01728/impl.errBlockTag"], fn := fun _ => fun
  | [d1, d2, d3, d4, g1, g2] => { results := [.lit (.bool true)], args := [d1, d2, d3, d4], vars := [g1, g2] }
  | _ => none }
def fnExactCheckMacRow : OpenClaim := { program := "ytdelidfigcgglaadoor", sum := "5cfebd3b37e296b12ac83c0f9289e0c61a6adf14f8e60e95cce5413c23f50843", func := "loop.example/s01728/laws.FnExactCheckMac", spec := "fnExactCheckMac", unfollowed := true, recurses := true, named := ["loop.example/s01728/impl.errBlockForm", "loop.example/s01728/impl.errBlockTag"], ifaces := true, plainKeys := false, apart := false, laid := [("loop.example/s01728/impl.errBlockForm", laid_loop_example_s01728_impl_errBlockForm), ("loop.example/s01728/impl.errBlockTag", laid_loop_example_s01728_impl_errBlockTag)] }
def FnExactCheckMacSaid : Prop := fnExactCheckMacRow.holds Tryd.pinned (OpenSpec.ofChange fnExactCheckMacSpec)

/-- ITS FALSE NEIGHBOUR: 'it returns false'. Refute it at one input. -/
def fnExactCheckMacWrong : ChangeSpec := { name := "fnExactCheckMac", vars := ["loop.example/s01728/impl.errBlockForm", "loop.example/s01728/impl.errBlockTag"], fn := fun _ => fun
  | [d1, d2, d3, d4, g1, g2] => { results := [.lit (.bool false)], args := [d1, d2, d3, d4], vars := [g1, g2] }
  | _ => none }
def FnExactCheckMacWrongFalsely : Prop := fnExactCheckMacRow.holds Tryd.pinned (OpenSpec.ofChange fnExactCheckMacWrong)

/- THE SECOND FORM. 'bulk': how many values and letters a reading holds, each counted each time it is reached (what is shared counts as often as it is met; a slice's spare places count too). A statement '..UptoSaid' is the law's where the arguments, and the package variables that the reading takes, are together of bulk at most 1048576: NARROWER than '..Said'. Prove '..Said' where nothing that the law and all that it calls make is longer than what came in: it says more and counts as full. Else prove '..UptoSaid'. A law counts once. -/
mutual
def uptoBulk {H : Type} : DataW H → Nat
  | .lit (.string bytes) => bytes.length + 1
  | .lit _ => 1
  | .nil => 1
  | .ptr d => uptoBulk d + 1
  | .slice elems spare => uptoBulkAll elems + uptoBulkAll spare + 1
  | .agg parts => uptoBulkAll parts + 1
  | .iface _ d => uptoBulk d + 1
  | .map entries => uptoBulkEntries entries + 1
  | .held _ => 1
def uptoBulkAll {H : Type} : List (DataW H) → Nat
  | [] => 0
  | d :: r => uptoBulk d + uptoBulkAll r
def uptoBulkEntries {H : Type} : List (Lit × DataW H) → Nat
  | [] => 0
  | x :: r => uptoBulkEntry x + uptoBulkEntries r
def uptoBulkEntry {H : Type} : Lit × DataW H → Nat
  | (.string bytes, d) => bytes.length + uptoBulk d + 1
  | (_, d) => uptoBulk d + 1
 end
def uptoSmall : (H : Type) → List (DataW H) → Bool := fun _ ds => decide (uptoBulkAll ds ≤ 1048576)
def OpenSpec.upto (s : _root_.Go.ChangeSpec) : _root_.Go.OpenSpec := { _root_.Go.OpenSpec.ofChange s with cond := some uptoSmall }

/-- 'laws.FnWrap', WHERE WHAT IT READS IS OF BULK AT MOST 1048576: true; the input reads as it did. -/
def fnWrapUptoRow : OpenClaim := { program := "ytdelidfigcgglaadoor", sum := "5cfebd3b37e296b12ac83c0f9289e0c61a6adf14f8e60e95cce5413c23f50843", func := "loop.example/s01728/laws.FnWrap", spec := "fnWrap", inPlace := ["internal/reflectlite.TypeOf"], unfollowed := true, recurses := true, named := ["loop.example/s01728/impl.errBlockForm", "loop.example/s01728/impl.errBlockTag"], ifaces := true, plainKeys := false, apart := false, laid := [("loop.example/s01728/impl.errBlockForm", laid_loop_example_s01728_impl_errBlockForm), ("loop.example/s01728/impl.errBlockTag", laid_loop_example_s01728_impl_errBlockTag)], narrowed := true }
def FnWrapUptoSaid : Prop := fnWrapUptoRow.holds Tryd.pinned (OpenSpec.upto fnWrapSpec)

/-- 'laws.FnExactUnwrap', WHERE WHAT IT READS IS OF BULK AT MOST 1048576: true; the input reads as it did. -/
def fnExactUnwrapUptoRow : OpenClaim := { program := "ytdelidfigcgglaadoor", sum := "5cfebd3b37e296b12ac83c0f9289e0c61a6adf14f8e60e95cce5413c23f50843", func := "loop.example/s01728/laws.FnExactUnwrap", spec := "fnExactUnwrap", inPlace := ["internal/reflectlite.TypeOf"], unfollowed := true, recurses := true, named := ["loop.example/s01728/impl.errBlockForm", "loop.example/s01728/impl.errBlockTag"], ifaces := true, plainKeys := false, apart := false, laid := [("loop.example/s01728/impl.errBlockForm", laid_loop_example_s01728_impl_errBlockForm), ("loop.example/s01728/impl.errBlockTag", laid_loop_example_s01728_impl_errBlockTag)], narrowed := true }
def FnExactUnwrapUptoSaid : Prop := fnExactUnwrapUptoRow.holds Tryd.pinned (OpenSpec.upto fnExactUnwrapSpec)

/-- 'laws.FnCheckMac', WHERE WHAT IT READS IS OF BULK AT MOST 1048576: true; the input reads as it did. -/
def fnCheckMacUptoRow : OpenClaim := { program := "ytdelidfigcgglaadoor", sum := "5cfebd3b37e296b12ac83c0f9289e0c61a6adf14f8e60e95cce5413c23f50843", func := "loop.example/s01728/laws.FnCheckMac", spec := "fnCheckMac", unfollowed := true, recurses := true, named := ["loop.example/s01728/impl.errBlockForm", "loop.example/s01728/impl.errBlockTag"], ifaces := true, plainKeys := false, apart := false, laid := [("loop.example/s01728/impl.errBlockForm", laid_loop_example_s01728_impl_errBlockForm), ("loop.example/s01728/impl.errBlockTag", laid_loop_example_s01728_impl_errBlockTag)], narrowed := true }
def FnCheckMacUptoSaid : Prop := fnCheckMacUptoRow.holds Tryd.pinned (OpenSpec.upto fnCheckMacSpec)

/-- 'laws.FnExactCheckMac', WHERE WHAT IT READS IS OF BULK AT MOST 1048576: true; the input reads as it did. -/
def fnExactCheckMacUptoRow : OpenClaim := { program := "ytdelidfigcgglaadoor", sum := "5cfebd3b37e296b12ac83c0f9289e0c61a6adf14f8e60e95cce5413c23f50843", func := "loop.example/s01728/laws.FnExactCheckMac", spec := "fnExactCheckMac", unfollowed := true, recurses := true, named := ["loop.example/s01728/impl.errBlockForm", "loop.example/s01728/impl.errBlockTag"], ifaces := true, plainKeys := false, apart := false, laid := [("loop.example/s01728/impl.errBlockForm", laid_loop_example_s01728_impl_errBlockForm), ("loop.example/s01728/impl.errBlockTag", laid_loop_example_s01728_impl_errBlockTag)], narrowed := true }
def FnExactCheckMacUptoSaid : Prop := fnExactCheckMacUptoRow.holds Tryd.pinned (OpenSpec.upto fnExactCheckMacSpec)

end Rows
end Go.Proofs.YtdelidfigcgglaaDoor
