/-
  NARROWER THAN 'FOR EVERY INPUT', by the rows' own cells (each row's printed sentence says how): LinkDoes: laid · LinkRefuses: laid.
  DERIVED. THE GIVEN ROWS OF THIS SEAT. 2 by the template 'for every input the law returns true; each argument reads behind the call as it read before'; 0 by the template 'total and deterministic' (their statements: YtnbofjaecchnaaaDoorTotals.lean).
  GIVEN WITH THE SEED: the statements are not yours to turn. If you find one false, say at which input.
  Laid BY PROGRAM, IN A SANDBOX (cutbox-rows.mjs): the forced cells as the released guide's own fill.sh prints them over the translation a06dff4c3a009350… (all of the seat's roots in one cut). By AI agents, Wed Nov 11 2026. No macro, syntax, notation, axiom, sorry.
-/
import Derived.Test.YtnbofjaecchnaaaDoorChecked
import GoSem.Claim
import GoSem.ClaimJoined
import GoSem.ClaimMapViews
import Derived.JoinedTies
import Derived.KernelRfl
namespace Go.Proofs.YtnbofjaecchnaaaDoor
/- THE CELL 'sum', in the pinned program and in every row, IS THE sha256 OF THE DUMP (.gsa) THAT YtnbofjaecchnaaaDoorProg.lean LOADS. Nothing in Lean hashes anything: it is a label: what it is worth is what the hold of that sum in a sandbox is worth. -/
noncomputable def Tryd.pinned : Pinned := { name := "ytnbofjaecchnaaadoor", sum := "a06dff4c3a00935048cb5dadca11de78c635e8b9497b30aedde5dd63cebd26f8", checked := Tryd.checked }
namespace Rows
def none {H : Type} : Left H := { results := [], args := [] }

/- WHAT THE LISTED PACKAGE-LEVEL VARIABLES READ AS WHEN THE CALL BEGINS. Each datum BY PROGRAM (the guide's laid-datum.mjs) off the statement by which the dump's own 'gosem.cut.vars' lays the variable. In a bare row this is a premise. The card (YtnbofjaecchnaaaDoorCards.lean) ties it to the program's text. -/
def laid_echelon_echelonref07_first {H : Type} : DataW H := .agg [.lit (.string [120]), .lit (.string []), .lit (.string [116, 111]), .lit (.string [112, 111, 119, 101, 114]), .lit (.string [111, 110]), .lit (.string [116, 111]), .lit (.string [119, 104, 97, 116])]
def laid_echelon_echelonref07_least {H : Type} : DataW H := .agg [.lit (.int .i64 (-8)), .lit (.int .i64 0), .lit (.int .i64 0), .lit (.int .i64 1), .lit (.int .i64 0), .lit (.int .i64 0), .lit (.int .i64 0)]
def laid_echelon_echelonref07_most {H : Type} : DataW H := .agg [.lit (.int .i64 8), .lit (.int .i64 0), .lit (.int .i64 15), .lit (.int .i64 3), .lit (.int .i64 1), .lit (.int .i64 15), .lit (.int .i64 255)]

/-- 'echelonlaw18.LinkDoes': WHATEVER THE INPUT: true; the input reads as it did. -/
def linkDoesSpec : ChangeSpec := { name := "linkDoes", fn := fun _ => fun
  | [d] => { results := [.lit (.bool true)], args := [d] }
  | _ => none }
def linkDoesRow : OpenClaim := { program := "ytnbofjaecchnaaadoor", sum := "a06dff4c3a00935048cb5dadca11de78c635e8b9497b30aedde5dd63cebd26f8", func := "echelon/echelonlaw18.LinkDoes", spec := "linkDoes", inPlace := ["maps.clone"], unfollowed := true, recurses := true, named := ["echelon/echelonref07.first", "echelon/echelonref07.least", "echelon/echelonref07.most"], apart := false, laid := [("echelon/echelonref07.first", laid_echelon_echelonref07_first), ("echelon/echelonref07.least", laid_echelon_echelonref07_least), ("echelon/echelonref07.most", laid_echelon_echelonref07_most)] }
def LinkDoesSaid : Prop := linkDoesRow.holds Tryd.pinned (OpenSpec.ofChange linkDoesSpec)

/-- ITS FALSE NEIGHBOUR: 'it returns false'. Refute it at one input. -/
def linkDoesWrong : ChangeSpec := { name := "linkDoes", fn := fun _ => fun
  | [d] => { results := [.lit (.bool false)], args := [d] }
  | _ => none }
def LinkDoesWrongFalsely : Prop := linkDoesRow.holds Tryd.pinned (OpenSpec.ofChange linkDoesWrong)

/-- 'echelonlaw18.LinkRefuses': WHATEVER THE INPUT: true; the input reads as it did. -/
def linkRefusesSpec : ChangeSpec := { name := "linkRefuses", fn := fun _ => fun
  | [d1, d2, d3] => { results := [.lit (.bool true)], args := [d1, d2, d3] }
  | _ => none }
def linkRefusesRow : OpenClaim := { program := "ytnbofjaecchnaaadoor", sum := "a06dff4c3a00935048cb5dadca11de78c635e8b9497b30aedde5dd63cebd26f8", func := "echelon/echelonlaw18.LinkRefuses", spec := "linkRefuses", inPlace := ["maps.clone"], unfollowed := true, recurses := true, named := ["echelon/echelonref07.first", "echelon/echelonref07.least", "echelon/echelonref07.most"], apart := false, laid := [("echelon/echelonref07.first", laid_echelon_echelonref07_first), ("echelon/echelonref07.least", laid_echelon_echelonref07_least), ("echelon/echelonref07.most", laid_echelon_echelonref07_most)] }
def LinkRefusesSaid : Prop := linkRefusesRow.holds Tryd.pinned (OpenSpec.ofChange linkRefusesSpec)

/-- ITS FALSE NEIGHBOUR: 'it returns false'. Refute it at one input. -/
def linkRefusesWrong : ChangeSpec := { name := "linkRefuses", fn := fun _ => fun
  | [d1, d2, d3] => { results := [.lit (.bool false)], args := [d1, d2, d3] }
  | _ => none }
def LinkRefusesWrongFalsely : Prop := linkRefusesRow.holds Tryd.pinned (OpenSpec.ofChange linkRefusesWrong)

/- THE SECOND FORM. 'bulk': how many values and letters a reading holds, each counted each time it is reached (what is shared counts as often as it is met; a slice's spare places count too). A statement '..UptoSaid' is the law's where the arguments, and the package variables that the reading takes, are together of bulk at most 1048576: NARROWER than '..Said'. Prove '..Said' where nothing that the law and all that it calls make is longer than what came in: it says more and counts as full. Else prove '..UptoSaid'. A law counts once. -/
mutual
def uptoBulk {H : Type} : DataW H → Nat
  | .lit (.string bytes) => bytes.length + 1
  | .lit _ => 1
  | .nil => 1
  | .ptr d => uptoBulk d + 1
  | .slice elems spare => uptoBulkAll elems + uptoBulkAll spare + 1
  | .agg parts => uptoBulkAll parts + 1
  | .iface _ d => uptoBulk d + 1
  | .map entries => uptoBulkEntries entries + 1
  | .held _ => 1
def uptoBulkAll {H : Type} : List (DataW H) → Nat
  | [] => 0
  | d :: r => uptoBulk d + uptoBulkAll r
def uptoBulkEntries {H : Type} : List (Lit × DataW H) → Nat
  | [] => 0
  | x :: r => uptoBulkEntry x + uptoBulkEntries r
def uptoBulkEntry {H : Type} : Lit × DataW H → Nat
  | (.string bytes, d) => bytes.length + uptoBulk d + 1
  | (_, d) => uptoBulk d + 1
 end
def uptoSmall : (H : Type) → List (DataW H) → Bool := fun _ ds => decide (uptoBulkAll ds ≤ 1048576)
def OpenSpec.upto (s : _root_.Go.ChangeSpec) : _root_.Go.OpenSpec := { _root_.Go.OpenSpec.ofChange s with cond := some uptoSmall }

/-- 'echelonlaw18.LinkDoes', WHERE WHAT IT READS IS OF BULK AT MOST 1048576: true; the input reads as it did. -/
def linkDoesUptoRow : OpenClaim := { program := "ytnbofjaecchnaaadoor", sum := "a06dff4c3a00935048cb5dadca11de78c635e8b9497b30aedde5dd63cebd26f8", func := "echelon/echelonlaw18.LinkDoes", spec := "linkDoes", inPlace := ["maps.clone"], unfollowed := true, recurses := true, named := ["echelon/echelonref07.first", "echelon/echelonref07.least", "echelon/echelonref07.most"], apart := false, laid := [("echelon/echelonref07.first", laid_echelon_echelonref07_first), ("echelon/echelonref07.least", laid_echelon_echelonref07_least), ("echelon/echelonref07.most", laid_echelon_echelonref07_most)], narrowed := true }
def LinkDoesUptoSaid : Prop := linkDoesUptoRow.holds Tryd.pinned (OpenSpec.upto linkDoesSpec)

/-- 'echelonlaw18.LinkRefuses', WHERE WHAT IT READS IS OF BULK AT MOST 1048576: true; the input reads as it did. -/
def linkRefusesUptoRow : OpenClaim := { program := "ytnbofjaecchnaaadoor", sum := "a06dff4c3a00935048cb5dadca11de78c635e8b9497b30aedde5dd63cebd26f8", func := "echelon/echelonlaw18.LinkRefuses", spec := "linkRefuses", inPlace := ["maps.clone"], unfollowed := true, recurses := true, named := ["echelon/echelonref07.first", "echelon/echelonref07.least", "echelon/echelonref07.most"], apart := false, laid := [("echelon/echelonref07.first", laid_echelon_echelonref07_first), ("echelon/echelonref07.least", laid_echelon_echelonref07_least), ("echelon/echelonref07.most", laid_echelon_echelonref07_most)], narrowed := true }
def LinkRefusesUptoSaid : Prop := linkRefusesUptoRow.holds Tryd.pinned (OpenSpec.upto linkRefusesSpec)

end Rows
end Go.Proofs.YtnbofjaecchnaaaDoor
