/-
  NARROWER THAN 'FOR EVERY INPUT', by the rows' own cells (each row's printed sentence says how): FnTranslate: ifaces, laid · FnExactTranslate: ifaces, laid.
  DERIVED. THE GIVEN ROWS OF THIS SEAT. 2 by the template 'for every input the law returns true; each argument reads behind the call as it read before'; 0 by the template 'total and deterministic' (their statements: YtoajfbkblpaejaaGreatDoorTotals.lean).
  GIVEN WITH THE SEED: the statements are not yours to turn. If you find one false, say at which input.
  Laid BY PROGRAM, IN A SANDBOX (cutbox-rows.mjs): the forced cells as the released guide's own fill.sh prints them over the translation 34f0c7e679760afb… (all of the seat's roots in one cut). By AI agents, Wed Nov 11 2026. No macro, syntax, notation, axiom, sorry.
-/
import Derived.Test.YtoajfbkblpaejaaGreatDoorChecked
import GoSem.Claim
import GoSem.ClaimJoined
import GoSem.ClaimMapViews
import Derived.JoinedTies
import Derived.KernelRfl
namespace Go.Proofs.YtoajfbkblpaejaaGreatDoor
/- THE CELL 'sum', in the pinned program and in every row, IS THE sha256 OF THE DUMP (.gsa) THAT YtoajfbkblpaejaaGreatDoorProg.lean LOADS. Nothing in Lean hashes anything: it is a label: what it is worth is what the hold of that sum in a sandbox is worth. -/
noncomputable def Tryz.pinned : Pinned := { name := "ytoajfbkblpaejaagreatdoor", sum := "34f0c7e679760afb0d90a4329f045e384a764d1d2fd4330685d15c3009cde1a1", checked := Tryz.checked }
namespace Rows
def none {H : Type} : Left H := { results := [], args := [] }

/- WHAT THE LISTED PACKAGE-LEVEL VARIABLES READ AS WHEN THE CALL BEGINS. Each datum BY PROGRAM (the guide's laid-datum.mjs) off the statement by which the dump's own 'gosem.cut.vars' lays the variable. In a bare row this is a premise. The card (YtoajfbkblpaejaaGreatDoorCards.lean) ties it to the program's text. -/
def laid_loop_example_s01728_impl_errBlockForm {H : Type} : DataW H := .iface "*errors.errorString" (.ptr (.agg [.lit (.string [116, 104, 101, 32, 107, 101, 121, 32, 98, 108, 111, 99, 107, 32, 104, 97, 115, 32, 97, 110, 111, 116, 104, 101, 114, 32, 102, 111, 114, 109])]))
def laid_loop_example_s01728_impl_errBlockTag {H : Type} : DataW H := .iface "*errors.errorString" (.ptr (.agg [.lit (.string [116, 104, 101, 32, 107, 101, 121, 32, 98, 108, 111, 99, 107, 32, 105, 115, 32, 110, 111, 116, 32, 116, 104, 101, 32, 111, 110, 101, 32, 111, 102, 32, 105, 116, 115, 32, 116, 97, 103])]))
def laid_loop_example_s01728_impl_errNotClear {H : Type} : DataW H := .iface "*errors.errorString" (.ptr (.agg [.lit (.string [110, 111, 32, 99, 108, 101, 97, 114, 32, 98, 108, 111, 99, 107, 32, 111, 102, 32, 116, 104, 101, 32, 102, 111, 114, 109, 97, 116])]))

/-- 'laws.FnTranslate': WHATEVER THE INPUT: true; the input reads as it did. -/
def fnTranslateSpec : ChangeSpec := { name := "fnTranslate", vars := ["loop.example/s01728/impl.errBlockForm", "loop.example/s01728/impl.errBlockTag", "loop.example/s01728/impl.errNotClear"], fn := fun _ => fun
  | [d, g1, g2, g3] => { results := [.lit (.bool true)], args := [d], vars := [g1, g2, g3] }
  | _ => none }
def fnTranslateRow : OpenClaim := { program := "ytoajfbkblpaejaagreatdoor", sum := "34f0c7e679760afb0d90a4329f045e384a764d1d2fd4330685d15c3009cde1a1", func := "loop.example/s01728/laws.FnTranslate", spec := "fnTranslate", inPlace := ["internal/abi.NoEscape", "internal/bytealg.MakeNoZero", "internal/reflectlite.TypeOf"], unfollowed := true, recurses := true, named := ["loop.example/s01728/impl.errBlockForm", "loop.example/s01728/impl.errBlockTag", "loop.example/s01728/impl.errNotClear"], ifaces := true, plainKeys := false, apart := false, laid := [("loop.example/s01728/impl.errBlockForm", laid_loop_example_s01728_impl_errBlockForm), ("loop.example/s01728/impl.errBlockTag", laid_loop_example_s01728_impl_errBlockTag), ("loop.example/s01728/impl.errNotClear", laid_loop_example_s01728_impl_errNotClear)] }
def FnTranslateSaid : Prop := fnTranslateRow.holds Tryz.pinned (OpenSpec.ofChange fnTranslateSpec)

/-- ITS FALSE NEIGHBOUR: 'it returns false'. Refute it at one input. -/
def fnTranslateWrong : ChangeSpec := { name := "fnTranslate", vars := ["loop.example/s01728/impl.errBlockForm", "loop.example/s01728/impl.errBlockTag", "loop.example/s01728/impl.errNotClear"], fn := fun _ => fun
  | [d, g1, g2, g3] => { results := [.lit (.bool false)], args := [d], vars := [g1, g2, g3] }
  | _ => none }
def FnTranslateWrongFalsely : Prop := fnTranslateRow.holds Tryz.pinned (OpenSpec.ofChange fnTranslateWrong)

/-- 'laws.FnExactTranslate': WHATEVER THE INPUT: true; the input reads as it did. -/
def fnExactTranslateSpec : ChangeSpec := { name := "fnExactTranslate", vars := ["loop.example/s01728/impl.errBlockForm", "loop.example/s01728/impl.errBlockTag", "loop.example/s01728/impl.errNotClear"], fn := fun _ => fun
  | [d1, d2, g1, g2, g3] => { results := [.lit (.bool true)], args := [d1, d2], vars := [g1, g2, g3] }
  | _ => none }
def fnExactTranslateRow : OpenClaim := { program := "ytoajfbkblpaejaagreatdoor", sum := "34f0c7e679760afb0d90a4329f045e384a764d1d2fd4330685d15c3009cde1a1", func := "loop.example/s01728/laws.FnExactTranslate", spec := "fnExactTranslate", inPlace := ["internal/abi.NoEscape", "internal/bytealg.MakeNoZero"], unfollowed := true, recurses := true, named := ["loop.example/s01728/impl.errBlockForm", "loop.example/s01728/impl.errBlockTag", "loop.example/s01728/impl.errNotClear"], ifaces := true, plainKeys := false, apart := false, laid := [("loop.example/s01728/impl.errBlockForm", laid_loop_example_s01728_impl_errBlockForm), ("loop.example/s01728/impl.errBlockTag", laid_loop_example_s01728_impl_errBlockTag), ("loop.example/s01728/impl.errNotClear", laid_loop_example_s01728_impl_errNotClear)] }
def FnExactTranslateSaid : Prop := fnExactTranslateRow.holds Tryz.pinned (OpenSpec.ofChange fnExactTranslateSpec)

/-- ITS FALSE NEIGHBOUR: 'it returns false'. Refute it at one input. -/
def fnExactTranslateWrong : ChangeSpec := { name := "fnExactTranslate", vars := ["loop.example/s01728/impl.errBlockForm", "loop.example/s01728/impl.errBlockTag", "loop.example/s01728/impl.errNotClear"], fn := fun _ => fun
  | [d1, d2, g1, g2, g3] => { results := [.lit (.bool false)], args := [d1, d2], vars := [g1, g2, g3] }
  | _ => none }
def FnExactTranslateWrongFalsely : Prop := fnExactTranslateRow.holds Tryz.pinned (OpenSpec.ofChange fnExactTranslateWrong)

/- THE SECOND FORM. 'bulk': how many values and letters a reading holds, each counted each time it is reached (what is shared counts as often as it is met; a slice's spare places count too). A statement '..UptoSaid' is the law's where the arguments, and the package variables that the reading takes, are together of bulk at most 1048576: NARROWER than '..Said'. Prove '..Said' where nothing that the law and all that it calls make is longer than what came in: it says more and counts as full. Else prove '..UptoSaid'. A law counts once. -/
mutual
def uptoBulk {H : Type} : DataW H → Nat
  | .lit (.string bytes) => bytes.length + 1
  | .lit _ => 1
  | .nil => 1
  | .ptr d => uptoBulk d + 1
  | .slice elems spare => uptoBulkAll elems + uptoBulkAll spare + 1
  | .agg parts => uptoBulkAll parts + 1
  | .iface _ d => uptoBulk d + 1
  | .map entries => uptoBulkEntries entries + 1
  | .held _ => 1
def uptoBulkAll {H : Type} : List (DataW H) → Nat
  | [] => 0
  | d :: r => uptoBulk d + uptoBulkAll r
def uptoBulkEntries {H : Type} : List (Lit × DataW H) → Nat
  | [] => 0
  | x :: r => uptoBulkEntry x + uptoBulkEntries r
def uptoBulkEntry {H : Type} : Lit × DataW H → Nat
  | (.string bytes, d) => bytes.length + uptoBulk d + 1
  | (_, d) => uptoBulk d + 1
 end
def uptoSmall : (H : Type) → List (DataW H) → Bool := fun _ ds => decide (uptoBulkAll ds ≤ 1048576)
def OpenSpec.upto (s : _root_.Go.ChangeSpec) : _root_.Go.OpenSpec := { _root_.Go.OpenSpec.ofChange s with cond := some uptoSmall }

/-- 'laws.FnTranslate', WHERE WHAT IT READS IS OF BULK AT MOST 1048576: true; the input reads as it did. -/
def fnTranslateUptoRow : OpenClaim := { program := "ytoajfbkblpaejaagreatdoor", sum := "34f0c7e679760afb0d90a4329f045e384a764d1d2fd4330685d15c3009cde1a1", func := "loop.example/s01728/laws.FnTranslate", spec := "fnTranslate", inPlace := ["internal/abi.NoEscape", "internal/bytealg.MakeNoZero", "internal/reflectlite.TypeOf"], unfollowed := true, recurses := true, named := ["loop.example/s01728/impl.errBlockForm", "loop.example/s01728/impl.errBlockTag", "loop.example/s01728/impl.errNotClear"], ifaces := true, plainKeys := false, apart := false, laid := [("loop.example/s01728/impl.errBlockForm", laid_loop_example_s01728_impl_errBlockForm), ("loop.example/s01728/impl.errBlockTag", laid_loop_example_s01728_impl_errBlockTag), ("loop.example/s01728/impl.errNotClear", laid_loop_example_s01728_impl_errNotClear)], narrowed := true }
def FnTranslateUptoSaid : Prop := fnTranslateUptoRow.holds Tryz.pinned (OpenSpec.upto fnTranslateSpec)

/-- 'laws.FnExactTranslate', WHERE WHAT IT READS IS OF BULK AT MOST 1048576: true; the input reads as it did. -/
def fnExactTranslateUptoRow : OpenClaim := { program := "ytoajfbkblpaejaagreatdoor", sum := "34f0c7e679760afb0d90a4329f045e384a764d1d2fd4330685d15c3009cde1a1", func := "loop.example/s01728/laws.FnExactTranslate", spec := "fnExactTranslate", inPlace := ["internal/abi.NoEscape", "internal/bytealg.MakeNoZero"], unfollowed := true, recurses := true, named := ["loop.example/s01728/impl.errBlockForm", "loop.example/s01728/impl.errBlockTag", "loop.example/s01728/impl.errNotClear"], ifaces := true, plainKeys := false, apart := false, laid := [("loop.example/s01728/impl.errBlockForm", laid_loop_example_s01728_impl_errBlockForm), ("loop.example/s01728/impl.errBlockTag", laid_loop_example_s01728_impl_errBlockTag), ("loop.example/s01728/impl.errNotClear", laid_loop_example_s01728_impl_errNotClear)], narrowed := true }
def FnExactTranslateUptoSaid : Prop := fnExactTranslateUptoRow.holds Tryz.pinned (OpenSpec.upto fnExactTranslateSpec)

end Rows
end Go.Proofs.YtoajfbkblpaejaaGreatDoor
