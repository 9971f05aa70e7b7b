/-
  NARROWER THAN 'FOR EVERY INPUT', by the rows' own cells (each row's printed sentence says how): WireWrites: laid · WireReads: laid.
  DERIVED. THE GIVEN ROWS OF THIS SEAT. 2 by the template 'for every input the law returns true; each argument reads behind the call as it read before'; 0 by the template 'total and deterministic' (their statements: YtaaongbdincimaaGreatDoorTotals.lean).
  GIVEN WITH THE SEED: the statements are not yours to turn. If you find one false, say at which input.
  Laid BY PROGRAM, IN A SANDBOX (cutbox-rows.mjs): the forced cells as the released guide's own fill.sh prints them over the translation 6ee693e934942152… (all of the seat's roots in one cut). By AI agents, Wed Nov 11 2026. No macro, syntax, notation, axiom, sorry.
-/
import Derived.Test.YtaaongbdincimaaGreatDoorChecked
import GoSem.Claim
import GoSem.ClaimJoined
import GoSem.ClaimMapViews
import Derived.JoinedTies
import Derived.KernelRfl
namespace Go.Proofs.YtaaongbdincimaaGreatDoor
/- THE CELL 'sum', in the pinned program and in every row, IS THE sha256 OF THE DUMP (.gsa) THAT YtaaongbdincimaaGreatDoorProg.lean LOADS. Nothing in Lean hashes anything: it is a label: what it is worth is what the hold of that sum in a sandbox is worth. -/
noncomputable def Tryz.pinned : Pinned := { name := "ytaaongbdincimaagreatdoor", sum := "6ee693e9349421525e99362990e792748d8e1eadf8f55b898c9e36443473dab0", checked := Tryz.checked }
namespace Rows
def none {H : Type} : Left H := { results := [], args := [] }

/- WHAT THE LISTED PACKAGE-LEVEL VARIABLES READ AS WHEN THE CALL BEGINS. Each datum BY PROGRAM (the guide's laid-datum.mjs) off the statement by which the dump's own 'gosem.cut.vars' lays the variable. In a bare row this is a premise. The card (YtaaongbdincimaaGreatDoorCards.lean) ties it to the program's text. -/
def laid_echelon_echelonref07_first {H : Type} : DataW H := .agg [.lit (.string [120]), .lit (.string []), .lit (.string [116, 111]), .lit (.string [112, 111, 119, 101, 114]), .lit (.string [111, 110]), .lit (.string [116, 111]), .lit (.string [119, 104, 97, 116])]
def laid_echelon_echelonref07_least {H : Type} : DataW H := .agg [.lit (.int .i64 (-8)), .lit (.int .i64 0), .lit (.int .i64 0), .lit (.int .i64 1), .lit (.int .i64 0), .lit (.int .i64 0), .lit (.int .i64 0)]
def laid_echelon_echelonref07_most {H : Type} : DataW H := .agg [.lit (.int .i64 8), .lit (.int .i64 0), .lit (.int .i64 15), .lit (.int .i64 3), .lit (.int .i64 1), .lit (.int .i64 15), .lit (.int .i64 255)]
def laid_echelon_digest_factors {H : Type} : DataW H := .agg [.lit (.int .u64 13787848793156543929), .lit (.int .u64 10723151780598845931), .lit (.int .u64 1099511628211), .lit (.int .u64 11400714819323198485)]
def laid_echelon_wire_errForm {H : Type} : DataW H := .iface "*errors.errorString" (.ptr (.agg [.lit (.string [110, 111, 116, 32, 119, 114, 105, 116, 116, 101, 110, 32, 97, 115, 32, 97, 32, 100, 97, 116, 97, 103, 114, 97, 109, 32, 105, 115])]))
def laid_echelon_wire_errSum {H : Type} : DataW H := .iface "*errors.errorString" (.ptr (.agg [.lit (.string [97, 110, 111, 116, 104, 101, 114, 32, 115, 117, 109])]))
def laid_echelon_wire_errData {H : Type} : DataW H := .iface "*errors.errorString" (.ptr (.agg [.lit (.string [97, 32, 100, 97, 116, 97, 103, 114, 97, 109, 32, 116, 104, 97, 116, 32, 109, 97, 121, 32, 110, 111, 116, 32, 98, 101])]))

/-- 'echelonlaw16.WireWrites': WHATEVER THE INPUT: true; the input reads as it did. -/
def wireWritesSpec : ChangeSpec := { name := "wireWrites", fn := fun _ => fun
  | [d1, d2] => { results := [.lit (.bool true)], args := [d1, d2] }
  | _ => none }
def wireWritesRow : OpenClaim := { program := "ytaaongbdincimaagreatdoor", sum := "6ee693e9349421525e99362990e792748d8e1eadf8f55b898c9e36443473dab0", func := "echelon/echelonlaw16.WireWrites", spec := "wireWrites", inPlace := ["internal/reflectlite.TypeOf"], unfollowed := true, recurses := true, named := ["echelon/digest.factors", "echelon/wire.errForm", "echelon/wire.errSum", "echelon/wire.errData", "echelon/echelonref07.first", "echelon/echelonref07.least", "echelon/echelonref07.most"], apart := false, laid := [("echelon/echelonref07.first", laid_echelon_echelonref07_first), ("echelon/echelonref07.least", laid_echelon_echelonref07_least), ("echelon/echelonref07.most", laid_echelon_echelonref07_most), ("echelon/digest.factors", laid_echelon_digest_factors), ("echelon/wire.errForm", laid_echelon_wire_errForm), ("echelon/wire.errSum", laid_echelon_wire_errSum), ("echelon/wire.errData", laid_echelon_wire_errData)] }
def WireWritesSaid : Prop := wireWritesRow.holds Tryz.pinned (OpenSpec.ofChange wireWritesSpec)

/-- ITS FALSE NEIGHBOUR: 'it returns false'. Refute it at one input. -/
def wireWritesWrong : ChangeSpec := { name := "wireWrites", fn := fun _ => fun
  | [d1, d2] => { results := [.lit (.bool false)], args := [d1, d2] }
  | _ => none }
def WireWritesWrongFalsely : Prop := wireWritesRow.holds Tryz.pinned (OpenSpec.ofChange wireWritesWrong)

/-- 'echelonlaw16.WireReads': WHATEVER THE INPUT: true; the input reads as it did. -/
def wireReadsSpec : ChangeSpec := { name := "wireReads", fn := fun _ => fun
  | [d] => { results := [.lit (.bool true)], args := [d] }
  | _ => none }
def wireReadsRow : OpenClaim := { program := "ytaaongbdincimaagreatdoor", sum := "6ee693e9349421525e99362990e792748d8e1eadf8f55b898c9e36443473dab0", func := "echelon/echelonlaw16.WireReads", spec := "wireReads", inPlace := ["internal/reflectlite.TypeOf"], unfollowed := true, recurses := true, named := ["echelon/digest.factors", "echelon/wire.errForm", "echelon/wire.errSum", "echelon/wire.errData", "echelon/echelonref07.first", "echelon/echelonref07.least", "echelon/echelonref07.most"], apart := false, laid := [("echelon/echelonref07.first", laid_echelon_echelonref07_first), ("echelon/echelonref07.least", laid_echelon_echelonref07_least), ("echelon/echelonref07.most", laid_echelon_echelonref07_most), ("echelon/digest.factors", laid_echelon_digest_factors), ("echelon/wire.errForm", laid_echelon_wire_errForm), ("echelon/wire.errSum", laid_echelon_wire_errSum), ("echelon/wire.errData", laid_echelon_wire_errData)] }
def WireReadsSaid : Prop := wireReadsRow.holds Tryz.pinned (OpenSpec.ofChange wireReadsSpec)

/-- ITS FALSE NEIGHBOUR: 'it returns false'. Refute it at one input. -/
def wireReadsWrong : ChangeSpec := { name := "wireReads", fn := fun _ => fun
  | [d] => { results := [.lit (.bool false)], args := [d] }
  | _ => none }
def WireReadsWrongFalsely : Prop := wireReadsRow.holds Tryz.pinned (OpenSpec.ofChange wireReadsWrong)

/- THE SECOND FORM. 'bulk': how many values and letters a reading holds, each counted each time it is reached (what is shared counts as often as it is met; a slice's spare places count too). A statement '..UptoSaid' is the law's where the arguments, and the package variables that the reading takes, are together of bulk at most 1048576: NARROWER than '..Said'. Prove '..Said' where nothing that the law and all that it calls make is longer than what came in: it says more and counts as full. Else prove '..UptoSaid'. A law counts once. -/
mutual
def uptoBulk {H : Type} : DataW H → Nat
  | .lit (.string bytes) => bytes.length + 1
  | .lit _ => 1
  | .nil => 1
  | .ptr d => uptoBulk d + 1
  | .slice elems spare => uptoBulkAll elems + uptoBulkAll spare + 1
  | .agg parts => uptoBulkAll parts + 1
  | .iface _ d => uptoBulk d + 1
  | .map entries => uptoBulkEntries entries + 1
  | .held _ => 1
def uptoBulkAll {H : Type} : List (DataW H) → Nat
  | [] => 0
  | d :: r => uptoBulk d + uptoBulkAll r
def uptoBulkEntries {H : Type} : List (Lit × DataW H) → Nat
  | [] => 0
  | x :: r => uptoBulkEntry x + uptoBulkEntries r
def uptoBulkEntry {H : Type} : Lit × DataW H → Nat
  | (.string bytes, d) => bytes.length + uptoBulk d + 1
  | (_, d) => uptoBulk d + 1
 end
def uptoSmall : (H : Type) → List (DataW H) → Bool := fun _ ds => decide (uptoBulkAll ds ≤ 1048576)
def OpenSpec.upto (s : _root_.Go.ChangeSpec) : _root_.Go.OpenSpec := { _root_.Go.OpenSpec.ofChange s with cond := some uptoSmall }

/-- 'echelonlaw16.WireWrites', WHERE WHAT IT READS IS OF BULK AT MOST 1048576: true; the input reads as it did. -/
def wireWritesUptoRow : OpenClaim := { program := "ytaaongbdincimaagreatdoor", sum := "6ee693e9349421525e99362990e792748d8e1eadf8f55b898c9e36443473dab0", func := "echelon/echelonlaw16.WireWrites", spec := "wireWrites", inPlace := ["internal/reflectlite.TypeOf"], unfollowed := true, recurses := true, named := ["echelon/digest.factors", "echelon/wire.errForm", "echelon/wire.errSum", "echelon/wire.errData", "echelon/echelonref07.first", "echelon/echelonref07.least", "echelon/echelonref07.most"], apart := false, laid := [("echelon/echelonref07.first", laid_echelon_echelonref07_first), ("echelon/echelonref07.least", laid_echelon_echelonref07_least), ("echelon/echelonref07.most", laid_echelon_echelonref07_most), ("echelon/digest.factors", laid_echelon_digest_factors), ("echelon/wire.errForm", laid_echelon_wire_errForm), ("echelon/wire.errSum", laid_echelon_wire_errSum), ("echelon/wire.errData", laid_echelon_wire_errData)], narrowed := true }
def WireWritesUptoSaid : Prop := wireWritesUptoRow.holds Tryz.pinned (OpenSpec.upto wireWritesSpec)

/-- 'echelonlaw16.WireReads', WHERE WHAT IT READS IS OF BULK AT MOST 1048576: true; the input reads as it did. -/
def wireReadsUptoRow : OpenClaim := { program := "ytaaongbdincimaagreatdoor", sum := "6ee693e9349421525e99362990e792748d8e1eadf8f55b898c9e36443473dab0", func := "echelon/echelonlaw16.WireReads", spec := "wireReads", inPlace := ["internal/reflectlite.TypeOf"], unfollowed := true, recurses := true, named := ["echelon/digest.factors", "echelon/wire.errForm", "echelon/wire.errSum", "echelon/wire.errData", "echelon/echelonref07.first", "echelon/echelonref07.least", "echelon/echelonref07.most"], apart := false, laid := [("echelon/echelonref07.first", laid_echelon_echelonref07_first), ("echelon/echelonref07.least", laid_echelon_echelonref07_least), ("echelon/echelonref07.most", laid_echelon_echelonref07_most), ("echelon/digest.factors", laid_echelon_digest_factors), ("echelon/wire.errForm", laid_echelon_wire_errForm), ("echelon/wire.errSum", laid_echelon_wire_errSum), ("echelon/wire.errData", laid_echelon_wire_errData)], narrowed := true }
def WireReadsUptoSaid : Prop := wireReadsUptoRow.holds Tryz.pinned (OpenSpec.upto wireReadsSpec)

end Rows
end Go.Proofs.YtaaongbdincimaaGreatDoor
