/-
  NARROWER THAN 'FOR EVERY INPUT', by the rows' own cells (each row's printed sentence says how): RngNumbers: laid · RngWeighted: laid · RngOrders: laid · RngWithin: laid · RngOnce: laid · RngShifts: laid.
  DERIVED. THE GIVEN ROWS OF THIS SEAT. 6 by the template 'for every input the law returns true; each argument reads behind the call as it read before'; 0 by the template 'total and deterministic' (their statements: YtbadpcdlhgbegaaDoorTotals.lean).
  GIVEN WITH THE SEED: the statements are not yours to turn. If you find one false, say at which input.
  Laid BY PROGRAM, IN A SANDBOX (cutbox-rows.mjs): the forced cells as the released guide's own fill.sh prints them over the translation e6835bd43093fa08… (all of the seat's roots in one cut). By AI agents, Wed Nov 11 2026. No macro, syntax, notation, axiom, sorry.
-/
import Derived.Test.YtbadpcdlhgbegaaDoorChecked
import GoSem.Claim
import GoSem.ClaimJoined
import GoSem.ClaimMapViews
import Derived.JoinedTies
import Derived.KernelRfl
namespace Go.Proofs.YtbadpcdlhgbegaaDoor
/- THE CELL 'sum', in the pinned program and in every row, IS THE sha256 OF THE DUMP (.gsa) THAT YtbadpcdlhgbegaaDoorProg.lean LOADS. Nothing in Lean hashes anything: it is a label: what it is worth is what the hold of that sum in a sandbox is worth. -/
noncomputable def Tryd.pinned : Pinned := { name := "ytbadpcdlhgbegaadoor", sum := "e6835bd43093fa087075e3ad2c5e60c7e5d0545d910f8df02a5228fff4348d14", checked := Tryd.checked }
namespace Rows
def none {H : Type} : Left H := { results := [], args := [] }

/- WHAT THE LISTED PACKAGE-LEVEL VARIABLES READ AS WHEN THE CALL BEGINS. Each datum BY PROGRAM (the guide's laid-datum.mjs) off the statement by which the dump's own 'gosem.cut.vars' lays the variable. In a bare row this is a premise. The card (YtbadpcdlhgbegaaDoorCards.lean) ties it to the program's text. -/
def laid_echelon_digest_factors {H : Type} : DataW H := .agg [.lit (.int .u64 13787848793156543929), .lit (.int .u64 10723151780598845931), .lit (.int .u64 1099511628211), .lit (.int .u64 11400714819323198485)]

/-- 'echelonlaw04.RngNumbers': WHATEVER THE INPUT: true; the input reads as it did. -/
def rngNumbersSpec : ChangeSpec := { name := "rngNumbers", fn := fun _ => fun
  | [d] => { results := [.lit (.bool true)], args := [d] }
  | _ => none }
def rngNumbersRow : OpenClaim := { program := "ytbadpcdlhgbegaadoor", sum := "e6835bd43093fa087075e3ad2c5e60c7e5d0545d910f8df02a5228fff4348d14", func := "echelon/echelonlaw04.RngNumbers", spec := "rngNumbers", unfollowed := true, recurses := true, named := ["echelon/digest.factors"], apart := false, laid := [("echelon/digest.factors", laid_echelon_digest_factors)] }
def RngNumbersSaid : Prop := rngNumbersRow.holds Tryd.pinned (OpenSpec.ofChange rngNumbersSpec)

/-- ITS FALSE NEIGHBOUR: 'it returns false'. Refute it at one input. -/
def rngNumbersWrong : ChangeSpec := { name := "rngNumbers", fn := fun _ => fun
  | [d] => { results := [.lit (.bool false)], args := [d] }
  | _ => none }
def RngNumbersWrongFalsely : Prop := rngNumbersRow.holds Tryd.pinned (OpenSpec.ofChange rngNumbersWrong)

/-- 'echelonlaw04.RngWeighted': WHATEVER THE INPUT: true; the input reads as it did. -/
def rngWeightedSpec : ChangeSpec := { name := "rngWeighted", fn := fun _ => fun
  | [d1, d2] => { results := [.lit (.bool true)], args := [d1, d2] }
  | _ => none }
def rngWeightedRow : OpenClaim := { program := "ytbadpcdlhgbegaadoor", sum := "e6835bd43093fa087075e3ad2c5e60c7e5d0545d910f8df02a5228fff4348d14", func := "echelon/echelonlaw04.RngWeighted", spec := "rngWeighted", unfollowed := true, recurses := true, named := ["echelon/digest.factors"], apart := false, laid := [("echelon/digest.factors", laid_echelon_digest_factors)] }
def RngWeightedSaid : Prop := rngWeightedRow.holds Tryd.pinned (OpenSpec.ofChange rngWeightedSpec)

/-- ITS FALSE NEIGHBOUR: 'it returns false'. Refute it at one input. -/
def rngWeightedWrong : ChangeSpec := { name := "rngWeighted", fn := fun _ => fun
  | [d1, d2] => { results := [.lit (.bool false)], args := [d1, d2] }
  | _ => none }
def RngWeightedWrongFalsely : Prop := rngWeightedRow.holds Tryd.pinned (OpenSpec.ofChange rngWeightedWrong)

/-- 'echelonlaw04.RngOrders': WHATEVER THE INPUT: true; the input reads as it did. -/
def rngOrdersSpec : ChangeSpec := { name := "rngOrders", fn := fun _ => fun
  | [d] => { results := [.lit (.bool true)], args := [d] }
  | _ => none }
def rngOrdersRow : OpenClaim := { program := "ytbadpcdlhgbegaadoor", sum := "e6835bd43093fa087075e3ad2c5e60c7e5d0545d910f8df02a5228fff4348d14", func := "echelon/echelonlaw04.RngOrders", spec := "rngOrders", unfollowed := true, recurses := true, named := ["echelon/digest.factors"], apart := false, laid := [("echelon/digest.factors", laid_echelon_digest_factors)] }
def RngOrdersSaid : Prop := rngOrdersRow.holds Tryd.pinned (OpenSpec.ofChange rngOrdersSpec)

/-- ITS FALSE NEIGHBOUR: 'it returns false'. Refute it at one input. -/
def rngOrdersWrong : ChangeSpec := { name := "rngOrders", fn := fun _ => fun
  | [d] => { results := [.lit (.bool false)], args := [d] }
  | _ => none }
def RngOrdersWrongFalsely : Prop := rngOrdersRow.holds Tryd.pinned (OpenSpec.ofChange rngOrdersWrong)

/-- 'echelonlaw04.RngWithin': WHATEVER THE INPUT: true; the input reads as it did. -/
def rngWithinSpec : ChangeSpec := { name := "rngWithin", fn := fun _ => fun
  | [d1, d2, d3] => { results := [.lit (.bool true)], args := [d1, d2, d3] }
  | _ => none }
def rngWithinRow : OpenClaim := { program := "ytbadpcdlhgbegaadoor", sum := "e6835bd43093fa087075e3ad2c5e60c7e5d0545d910f8df02a5228fff4348d14", func := "echelon/echelonlaw04.RngWithin", spec := "rngWithin", unfollowed := true, recurses := true, named := ["echelon/digest.factors"], apart := false, laid := [("echelon/digest.factors", laid_echelon_digest_factors)] }
def RngWithinSaid : Prop := rngWithinRow.holds Tryd.pinned (OpenSpec.ofChange rngWithinSpec)

/-- ITS FALSE NEIGHBOUR: 'it returns false'. Refute it at one input. -/
def rngWithinWrong : ChangeSpec := { name := "rngWithin", fn := fun _ => fun
  | [d1, d2, d3] => { results := [.lit (.bool false)], args := [d1, d2, d3] }
  | _ => none }
def RngWithinWrongFalsely : Prop := rngWithinRow.holds Tryd.pinned (OpenSpec.ofChange rngWithinWrong)

/-- 'echelonlaw04.RngOnce': WHATEVER THE INPUT: true; the input reads as it did. -/
def rngOnceSpec : ChangeSpec := { name := "rngOnce", fn := fun _ => fun
  | [d] => { results := [.lit (.bool true)], args := [d] }
  | _ => none }
def rngOnceRow : OpenClaim := { program := "ytbadpcdlhgbegaadoor", sum := "e6835bd43093fa087075e3ad2c5e60c7e5d0545d910f8df02a5228fff4348d14", func := "echelon/echelonlaw04.RngOnce", spec := "rngOnce", unfollowed := true, recurses := true, named := ["echelon/digest.factors"], apart := false, laid := [("echelon/digest.factors", laid_echelon_digest_factors)] }
def RngOnceSaid : Prop := rngOnceRow.holds Tryd.pinned (OpenSpec.ofChange rngOnceSpec)

/-- ITS FALSE NEIGHBOUR: 'it returns false'. Refute it at one input. -/
def rngOnceWrong : ChangeSpec := { name := "rngOnce", fn := fun _ => fun
  | [d] => { results := [.lit (.bool false)], args := [d] }
  | _ => none }
def RngOnceWrongFalsely : Prop := rngOnceRow.holds Tryd.pinned (OpenSpec.ofChange rngOnceWrong)

/-- 'echelonlaw04.RngShifts': WHATEVER THE INPUT: true; the input reads as it did. -/
def rngShiftsSpec : ChangeSpec := { name := "rngShifts", fn := fun _ => fun
  | [d] => { results := [.lit (.bool true)], args := [d] }
  | _ => none }
def rngShiftsRow : OpenClaim := { program := "ytbadpcdlhgbegaadoor", sum := "e6835bd43093fa087075e3ad2c5e60c7e5d0545d910f8df02a5228fff4348d14", func := "echelon/echelonlaw04.RngShifts", spec := "rngShifts", unfollowed := true, recurses := true, named := ["echelon/digest.factors"], apart := false, laid := [("echelon/digest.factors", laid_echelon_digest_factors)] }
def RngShiftsSaid : Prop := rngShiftsRow.holds Tryd.pinned (OpenSpec.ofChange rngShiftsSpec)

/-- ITS FALSE NEIGHBOUR: 'it returns false'. Refute it at one input. -/
def rngShiftsWrong : ChangeSpec := { name := "rngShifts", fn := fun _ => fun
  | [d] => { results := [.lit (.bool false)], args := [d] }
  | _ => none }
def RngShiftsWrongFalsely : Prop := rngShiftsRow.holds Tryd.pinned (OpenSpec.ofChange rngShiftsWrong)

/- THE SECOND FORM. 'bulk': how many values and letters a reading holds, each counted each time it is reached (what is shared counts as often as it is met; a slice's spare places count too). A statement '..UptoSaid' is the law's where the arguments, and the package variables that the reading takes, are together of bulk at most 1048576: NARROWER than '..Said'. Prove '..Said' where nothing that the law and all that it calls make is longer than what came in: it says more and counts as full. Else prove '..UptoSaid'. A law counts once. -/
mutual
def uptoBulk {H : Type} : DataW H → Nat
  | .lit (.string bytes) => bytes.length + 1
  | .lit _ => 1
  | .nil => 1
  | .ptr d => uptoBulk d + 1
  | .slice elems spare => uptoBulkAll elems + uptoBulkAll spare + 1
  | .agg parts => uptoBulkAll parts + 1
  | .iface _ d => uptoBulk d + 1
  | .map entries => uptoBulkEntries entries + 1
  | .held _ => 1
def uptoBulkAll {H : Type} : List (DataW H) → Nat
  | [] => 0
  | d :: r => uptoBulk d + uptoBulkAll r
def uptoBulkEntries {H : Type} : List (Lit × DataW H) → Nat
  | [] => 0
  | x :: r => uptoBulkEntry x + uptoBulkEntries r
def uptoBulkEntry {H : Type} : Lit × DataW H → Nat
  | (.string bytes, d) => bytes.length + uptoBulk d + 1
  | (_, d) => uptoBulk d + 1
 end
def uptoSmall : (H : Type) → List (DataW H) → Bool := fun _ ds => decide (uptoBulkAll ds ≤ 1048576)
def OpenSpec.upto (s : _root_.Go.ChangeSpec) : _root_.Go.OpenSpec := { _root_.Go.OpenSpec.ofChange s with cond := some uptoSmall }

/-- 'echelonlaw04.RngNumbers', WHERE WHAT IT READS IS OF BULK AT MOST 1048576: true; the input reads as it did. -/
def rngNumbersUptoRow : OpenClaim := { program := "ytbadpcdlhgbegaadoor", sum := "e6835bd43093fa087075e3ad2c5e60c7e5d0545d910f8df02a5228fff4348d14", func := "echelon/echelonlaw04.RngNumbers", spec := "rngNumbers", unfollowed := true, recurses := true, named := ["echelon/digest.factors"], apart := false, laid := [("echelon/digest.factors", laid_echelon_digest_factors)], narrowed := true }
def RngNumbersUptoSaid : Prop := rngNumbersUptoRow.holds Tryd.pinned (OpenSpec.upto rngNumbersSpec)

/-- 'echelonlaw04.RngWeighted', WHERE WHAT IT READS IS OF BULK AT MOST 1048576: true; the input reads as it did. -/
def rngWeightedUptoRow : OpenClaim := { program := "ytbadpcdlhgbegaadoor", sum := "e6835bd43093fa087075e3ad2c5e60c7e5d0545d910f8df02a5228fff4348d14", func := "echelon/echelonlaw04.RngWeighted", spec := "rngWeighted", unfollowed := true, recurses := true, named := ["echelon/digest.factors"], apart := false, laid := [("echelon/digest.factors", laid_echelon_digest_factors)], narrowed := true }
def RngWeightedUptoSaid : Prop := rngWeightedUptoRow.holds Tryd.pinned (OpenSpec.upto rngWeightedSpec)

/-- 'echelonlaw04.RngOrders', WHERE WHAT IT READS IS OF BULK AT MOST 1048576: true; the input reads as it did. -/
def rngOrdersUptoRow : OpenClaim := { program := "ytbadpcdlhgbegaadoor", sum := "e6835bd43093fa087075e3ad2c5e60c7e5d0545d910f8df02a5228fff4348d14", func := "echelon/echelonlaw04.RngOrders", spec := "rngOrders", unfollowed := true, recurses := true, named := ["echelon/digest.factors"], apart := false, laid := [("echelon/digest.factors", laid_echelon_digest_factors)], narrowed := true }
def RngOrdersUptoSaid : Prop := rngOrdersUptoRow.holds Tryd.pinned (OpenSpec.upto rngOrdersSpec)

/-- 'echelonlaw04.RngWithin', WHERE WHAT IT READS IS OF BULK AT MOST 1048576: true; the input reads as it did. -/
def rngWithinUptoRow : OpenClaim := { program := "ytbadpcdlhgbegaadoor", sum := "e6835bd43093fa087075e3ad2c5e60c7e5d0545d910f8df02a5228fff4348d14", func := "echelon/echelonlaw04.RngWithin", spec := "rngWithin", unfollowed := true, recurses := true, named := ["echelon/digest.factors"], apart := false, laid := [("echelon/digest.factors", laid_echelon_digest_factors)], narrowed := true }
def RngWithinUptoSaid : Prop := rngWithinUptoRow.holds Tryd.pinned (OpenSpec.upto rngWithinSpec)

/-- 'echelonlaw04.RngOnce', WHERE WHAT IT READS IS OF BULK AT MOST 1048576: true; the input reads as it did. -/
def rngOnceUptoRow : OpenClaim := { program := "ytbadpcdlhgbegaadoor", sum := "e6835bd43093fa087075e3ad2c5e60c7e5d0545d910f8df02a5228fff4348d14", func := "echelon/echelonlaw04.RngOnce", spec := "rngOnce", unfollowed := true, recurses := true, named := ["echelon/digest.factors"], apart := false, laid := [("echelon/digest.factors", laid_echelon_digest_factors)], narrowed := true }
def RngOnceUptoSaid : Prop := rngOnceUptoRow.holds Tryd.pinned (OpenSpec.upto rngOnceSpec)

/-- 'echelonlaw04.RngShifts', WHERE WHAT IT READS IS OF BULK AT MOST 1048576: true; the input reads as it did. -/
def rngShiftsUptoRow : OpenClaim := { program := "ytbadpcdlhgbegaadoor", sum := "e6835bd43093fa087075e3ad2c5e60c7e5d0545d910f8df02a5228fff4348d14", func := "echelon/echelonlaw04.RngShifts", spec := "rngShifts", unfollowed := true, recurses := true, named := ["echelon/digest.factors"], apart := false, laid := [("echelon/digest.factors", laid_echelon_digest_factors)], narrowed := true }
def RngShiftsUptoSaid : Prop := rngShiftsUptoRow.holds Tryd.pinned (OpenSpec.upto rngShiftsSpec)

end Rows
end Go.Proofs.YtbadpcdlhgbegaaDoor
