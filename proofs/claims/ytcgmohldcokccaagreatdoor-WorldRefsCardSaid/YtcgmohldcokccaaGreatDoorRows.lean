/-
  NARROWER THAN 'FOR EVERY INPUT', by the rows' own cells (each row's printed sentence says how): WorldSteps: laid · WorldRuns: laid · WorldRefs: laid.
  DERIVED. THE GIVEN ROWS OF THIS SEAT. 3 by the template 'for every input the law returns true; each argument reads behind the call as it read before'; 0 by the template 'total and deterministic' (their statements: YtcgmohldcokccaaGreatDoorTotals.lean).
  GIVEN WITH THE SEED: the statements are not yours to turn. If you find one false, say at which input.
  Laid BY PROGRAM, IN A SANDBOX (cutbox-rows.mjs): the forced cells as the released guide's own fill.sh prints them over the translation c05037da554bcc3d… (all of the seat's roots in one cut). By AI agents, Wed Nov 11 2026. No macro, syntax, notation, axiom, sorry.
-/
import Derived.Test.YtcgmohldcokccaaGreatDoorChecked
import GoSem.Claim
import GoSem.ClaimJoined
import GoSem.ClaimMapViews
import Derived.JoinedTies
import Derived.KernelRfl
namespace Go.Proofs.YtcgmohldcokccaaGreatDoor
/- THE CELL 'sum', in the pinned program and in every row, IS THE sha256 OF THE DUMP (.gsa) THAT YtcgmohldcokccaaGreatDoorProg.lean LOADS. Nothing in Lean hashes anything: it is a label: what it is worth is what the hold of that sum in a sandbox is worth. -/
noncomputable def Tryz.pinned : Pinned := { name := "ytcgmohldcokccaagreatdoor", sum := "c05037da554bcc3d0df2ee1a553308fde5b067c8be65f0f5d730d85900e14310", checked := Tryz.checked }
namespace Rows
def none {H : Type} : Left H := { results := [], args := [] }

/- WHAT THE LISTED PACKAGE-LEVEL VARIABLES READ AS WHEN THE CALL BEGINS. Each datum BY PROGRAM (the guide's laid-datum.mjs) off the statement by which the dump's own 'gosem.cut.vars' lays the variable. In a bare row this is a premise. The card (YtcgmohldcokccaaGreatDoorCards.lean) ties it to the program's text. -/
def laid_echelon_echelonref05_unitX {H : Type} : DataW H := .agg [.lit (.int .i64 256), .lit (.int .i64 237), .lit (.int .i64 181), .lit (.int .i64 98), .lit (.int .i64 0), .lit (.int .i64 (-98)), .lit (.int .i64 (-181)), .lit (.int .i64 (-237)), .lit (.int .i64 (-256)), .lit (.int .i64 (-237)), .lit (.int .i64 (-181)), .lit (.int .i64 (-98)), .lit (.int .i64 0), .lit (.int .i64 98), .lit (.int .i64 181), .lit (.int .i64 237)]
def laid_echelon_echelonref05_unitY {H : Type} : DataW H := .agg [.lit (.int .i64 0), .lit (.int .i64 98), .lit (.int .i64 181), .lit (.int .i64 237), .lit (.int .i64 256), .lit (.int .i64 237), .lit (.int .i64 181), .lit (.int .i64 98), .lit (.int .i64 0), .lit (.int .i64 (-98)), .lit (.int .i64 (-181)), .lit (.int .i64 (-237)), .lit (.int .i64 (-256)), .lit (.int .i64 (-237)), .lit (.int .i64 (-181)), .lit (.int .i64 (-98))]
def laid_echelon_echelonref07_first {H : Type} : DataW H := .agg [.lit (.string [120]), .lit (.string []), .lit (.string [116, 111]), .lit (.string [112, 111, 119, 101, 114]), .lit (.string [111, 110]), .lit (.string [116, 111]), .lit (.string [119, 104, 97, 116])]
def laid_echelon_echelonref07_least {H : Type} : DataW H := .agg [.lit (.int .i64 (-8)), .lit (.int .i64 0), .lit (.int .i64 0), .lit (.int .i64 1), .lit (.int .i64 0), .lit (.int .i64 0), .lit (.int .i64 0)]
def laid_echelon_echelonref07_most {H : Type} : DataW H := .agg [.lit (.int .i64 8), .lit (.int .i64 0), .lit (.int .i64 15), .lit (.int .i64 3), .lit (.int .i64 1), .lit (.int .i64 15), .lit (.int .i64 255)]
def laid_echelon_digest_factors {H : Type} : DataW H := .agg [.lit (.int .u64 13787848793156543929), .lit (.int .u64 10723151780598845931), .lit (.int .u64 1099511628211), .lit (.int .u64 11400714819323198485)]
def laid_echelon_geom_units {H : Type} : DataW H := .agg [.agg [.lit (.int .i64 256), .lit (.int .i64 0)], .agg [.lit (.int .i64 237), .lit (.int .i64 98)], .agg [.lit (.int .i64 181), .lit (.int .i64 181)], .agg [.lit (.int .i64 98), .lit (.int .i64 237)], .agg [.lit (.int .i64 0), .lit (.int .i64 256)], .agg [.lit (.int .i64 (-98)), .lit (.int .i64 237)], .agg [.lit (.int .i64 (-181)), .lit (.int .i64 181)], .agg [.lit (.int .i64 (-237)), .lit (.int .i64 98)], .agg [.lit (.int .i64 (-256)), .lit (.int .i64 0)], .agg [.lit (.int .i64 (-237)), .lit (.int .i64 (-98))], .agg [.lit (.int .i64 (-181)), .lit (.int .i64 (-181))], .agg [.lit (.int .i64 (-98)), .lit (.int .i64 (-237))], .agg [.lit (.int .i64 0), .lit (.int .i64 (-256))], .agg [.lit (.int .i64 98), .lit (.int .i64 (-237))], .agg [.lit (.int .i64 181), .lit (.int .i64 (-181))], .agg [.lit (.int .i64 237), .lit (.int .i64 (-98))]]

/-- 'echelonlaw13.WorldSteps': WHATEVER THE INPUT: true; the input reads as it did. -/
def worldStepsSpec : ChangeSpec := { name := "worldSteps", fn := fun _ => fun
  | [d1, d2, d3] => { results := [.lit (.bool true)], args := [d1, d2, d3] }
  | _ => none }
def worldStepsRow : OpenClaim := { program := "ytcgmohldcokccaagreatdoor", sum := "c05037da554bcc3d0df2ee1a553308fde5b067c8be65f0f5d730d85900e14310", func := "echelon/echelonlaw13.WorldSteps", spec := "worldSteps", inPlace := ["internal/bytealg.CountString", "internal/bytealg.IndexByteString", "internal/bytealg.IndexString"], unfollowed := true, recurses := true, named := ["internal/bytealg.MaxLen", "echelon/geom.units", "echelon/digest.factors", "echelon/echelonref07.first", "echelon/echelonref07.least", "echelon/echelonref07.most", "echelon/echelonref05.unitX", "echelon/echelonref05.unitY"], apart := false, laid := [("echelon/echelonref05.unitX", laid_echelon_echelonref05_unitX), ("echelon/echelonref05.unitY", laid_echelon_echelonref05_unitY), ("echelon/echelonref07.first", laid_echelon_echelonref07_first), ("echelon/echelonref07.least", laid_echelon_echelonref07_least), ("echelon/echelonref07.most", laid_echelon_echelonref07_most), ("echelon/digest.factors", laid_echelon_digest_factors), ("echelon/geom.units", laid_echelon_geom_units)] }
def WorldStepsSaid : Prop := worldStepsRow.holds Tryz.pinned (OpenSpec.ofChange worldStepsSpec)

/-- ITS FALSE NEIGHBOUR: 'it returns false'. Refute it at one input. -/
def worldStepsWrong : ChangeSpec := { name := "worldSteps", fn := fun _ => fun
  | [d1, d2, d3] => { results := [.lit (.bool false)], args := [d1, d2, d3] }
  | _ => none }
def WorldStepsWrongFalsely : Prop := worldStepsRow.holds Tryz.pinned (OpenSpec.ofChange worldStepsWrong)

/-- 'echelonlaw13.WorldRuns': WHATEVER THE INPUT: true; the input reads as it did. -/
def worldRunsSpec : ChangeSpec := { name := "worldRuns", fn := fun _ => fun
  | [d1, d2, d3] => { results := [.lit (.bool true)], args := [d1, d2, d3] }
  | _ => none }
def worldRunsRow : OpenClaim := { program := "ytcgmohldcokccaagreatdoor", sum := "c05037da554bcc3d0df2ee1a553308fde5b067c8be65f0f5d730d85900e14310", func := "echelon/echelonlaw13.WorldRuns", spec := "worldRuns", inPlace := ["internal/bytealg.CountString", "internal/bytealg.IndexByteString", "internal/bytealg.IndexString"], unfollowed := true, recurses := true, named := ["internal/bytealg.MaxLen", "echelon/geom.units", "echelon/digest.factors", "echelon/echelonref07.first", "echelon/echelonref07.least", "echelon/echelonref07.most", "echelon/echelonref05.unitX", "echelon/echelonref05.unitY"], apart := false, laid := [("echelon/echelonref05.unitX", laid_echelon_echelonref05_unitX), ("echelon/echelonref05.unitY", laid_echelon_echelonref05_unitY), ("echelon/echelonref07.first", laid_echelon_echelonref07_first), ("echelon/echelonref07.least", laid_echelon_echelonref07_least), ("echelon/echelonref07.most", laid_echelon_echelonref07_most), ("echelon/digest.factors", laid_echelon_digest_factors), ("echelon/geom.units", laid_echelon_geom_units)] }
def WorldRunsSaid : Prop := worldRunsRow.holds Tryz.pinned (OpenSpec.ofChange worldRunsSpec)

/-- ITS FALSE NEIGHBOUR: 'it returns false'. Refute it at one input. -/
def worldRunsWrong : ChangeSpec := { name := "worldRuns", fn := fun _ => fun
  | [d1, d2, d3] => { results := [.lit (.bool false)], args := [d1, d2, d3] }
  | _ => none }
def WorldRunsWrongFalsely : Prop := worldRunsRow.holds Tryz.pinned (OpenSpec.ofChange worldRunsWrong)

/-- 'echelonlaw13.WorldRefs': WHATEVER THE INPUT: true; the input reads as it did. -/
def worldRefsSpec : ChangeSpec := { name := "worldRefs", fn := fun _ => fun
  | [d1, d2, d3] => { results := [.lit (.bool true)], args := [d1, d2, d3] }
  | _ => none }
def worldRefsRow : OpenClaim := { program := "ytcgmohldcokccaagreatdoor", sum := "c05037da554bcc3d0df2ee1a553308fde5b067c8be65f0f5d730d85900e14310", func := "echelon/echelonlaw13.WorldRefs", spec := "worldRefs", inPlace := ["internal/bytealg.CountString", "internal/bytealg.IndexByteString", "internal/bytealg.IndexString"], unfollowed := true, recurses := true, named := ["internal/bytealg.MaxLen", "echelon/geom.units", "echelon/digest.factors", "echelon/echelonref07.first", "echelon/echelonref07.least", "echelon/echelonref07.most", "echelon/echelonref05.unitX", "echelon/echelonref05.unitY"], apart := false, laid := [("echelon/echelonref05.unitX", laid_echelon_echelonref05_unitX), ("echelon/echelonref05.unitY", laid_echelon_echelonref05_unitY), ("echelon/echelonref07.first", laid_echelon_echelonref07_first), ("echelon/echelonref07.least", laid_echelon_echelonref07_least), ("echelon/echelonref07.most", laid_echelon_echelonref07_most), ("echelon/digest.factors", laid_echelon_digest_factors), ("echelon/geom.units", laid_echelon_geom_units)] }
def WorldRefsSaid : Prop := worldRefsRow.holds Tryz.pinned (OpenSpec.ofChange worldRefsSpec)

/-- ITS FALSE NEIGHBOUR: 'it returns false'. Refute it at one input. -/
def worldRefsWrong : ChangeSpec := { name := "worldRefs", fn := fun _ => fun
  | [d1, d2, d3] => { results := [.lit (.bool false)], args := [d1, d2, d3] }
  | _ => none }
def WorldRefsWrongFalsely : Prop := worldRefsRow.holds Tryz.pinned (OpenSpec.ofChange worldRefsWrong)

/- THE SECOND FORM. 'bulk': how many values and letters a reading holds, each counted each time it is reached (what is shared counts as often as it is met; a slice's spare places count too). A statement '..UptoSaid' is the law's where the arguments, and the package variables that the reading takes, are together of bulk at most 1048576: NARROWER than '..Said'. Prove '..Said' where nothing that the law and all that it calls make is longer than what came in: it says more and counts as full. Else prove '..UptoSaid'. A law counts once. -/
mutual
def uptoBulk {H : Type} : DataW H → Nat
  | .lit (.string bytes) => bytes.length + 1
  | .lit _ => 1
  | .nil => 1
  | .ptr d => uptoBulk d + 1
  | .slice elems spare => uptoBulkAll elems + uptoBulkAll spare + 1
  | .agg parts => uptoBulkAll parts + 1
  | .iface _ d => uptoBulk d + 1
  | .map entries => uptoBulkEntries entries + 1
  | .held _ => 1
def uptoBulkAll {H : Type} : List (DataW H) → Nat
  | [] => 0
  | d :: r => uptoBulk d + uptoBulkAll r
def uptoBulkEntries {H : Type} : List (Lit × DataW H) → Nat
  | [] => 0
  | x :: r => uptoBulkEntry x + uptoBulkEntries r
def uptoBulkEntry {H : Type} : Lit × DataW H → Nat
  | (.string bytes, d) => bytes.length + uptoBulk d + 1
  | (_, d) => uptoBulk d + 1
 end
def uptoSmall : (H : Type) → List (DataW H) → Bool := fun _ ds => decide (uptoBulkAll ds ≤ 1048576)
def OpenSpec.upto (s : _root_.Go.ChangeSpec) : _root_.Go.OpenSpec := { _root_.Go.OpenSpec.ofChange s with cond := some uptoSmall }

/-- 'echelonlaw13.WorldSteps', WHERE WHAT IT READS IS OF BULK AT MOST 1048576: true; the input reads as it did. -/
def worldStepsUptoRow : OpenClaim := { program := "ytcgmohldcokccaagreatdoor", sum := "c05037da554bcc3d0df2ee1a553308fde5b067c8be65f0f5d730d85900e14310", func := "echelon/echelonlaw13.WorldSteps", spec := "worldSteps", inPlace := ["internal/bytealg.CountString", "internal/bytealg.IndexByteString", "internal/bytealg.IndexString"], unfollowed := true, recurses := true, named := ["internal/bytealg.MaxLen", "echelon/geom.units", "echelon/digest.factors", "echelon/echelonref07.first", "echelon/echelonref07.least", "echelon/echelonref07.most", "echelon/echelonref05.unitX", "echelon/echelonref05.unitY"], apart := false, laid := [("echelon/echelonref05.unitX", laid_echelon_echelonref05_unitX), ("echelon/echelonref05.unitY", laid_echelon_echelonref05_unitY), ("echelon/echelonref07.first", laid_echelon_echelonref07_first), ("echelon/echelonref07.least", laid_echelon_echelonref07_least), ("echelon/echelonref07.most", laid_echelon_echelonref07_most), ("echelon/digest.factors", laid_echelon_digest_factors), ("echelon/geom.units", laid_echelon_geom_units)], narrowed := true }
def WorldStepsUptoSaid : Prop := worldStepsUptoRow.holds Tryz.pinned (OpenSpec.upto worldStepsSpec)

/-- 'echelonlaw13.WorldRuns', WHERE WHAT IT READS IS OF BULK AT MOST 1048576: true; the input reads as it did. -/
def worldRunsUptoRow : OpenClaim := { program := "ytcgmohldcokccaagreatdoor", sum := "c05037da554bcc3d0df2ee1a553308fde5b067c8be65f0f5d730d85900e14310", func := "echelon/echelonlaw13.WorldRuns", spec := "worldRuns", inPlace := ["internal/bytealg.CountString", "internal/bytealg.IndexByteString", "internal/bytealg.IndexString"], unfollowed := true, recurses := true, named := ["internal/bytealg.MaxLen", "echelon/geom.units", "echelon/digest.factors", "echelon/echelonref07.first", "echelon/echelonref07.least", "echelon/echelonref07.most", "echelon/echelonref05.unitX", "echelon/echelonref05.unitY"], apart := false, laid := [("echelon/echelonref05.unitX", laid_echelon_echelonref05_unitX), ("echelon/echelonref05.unitY", laid_echelon_echelonref05_unitY), ("echelon/echelonref07.first", laid_echelon_echelonref07_first), ("echelon/echelonref07.least", laid_echelon_echelonref07_least), ("echelon/echelonref07.most", laid_echelon_echelonref07_most), ("echelon/digest.factors", laid_echelon_digest_factors), ("echelon/geom.units", laid_echelon_geom_units)], narrowed := true }
def WorldRunsUptoSaid : Prop := worldRunsUptoRow.holds Tryz.pinned (OpenSpec.upto worldRunsSpec)

/-- 'echelonlaw13.WorldRefs', WHERE WHAT IT READS IS OF BULK AT MOST 1048576: true; the input reads as it did. -/
def worldRefsUptoRow : OpenClaim := { program := "ytcgmohldcokccaagreatdoor", sum := "c05037da554bcc3d0df2ee1a553308fde5b067c8be65f0f5d730d85900e14310", func := "echelon/echelonlaw13.WorldRefs", spec := "worldRefs", inPlace := ["internal/bytealg.CountString", "internal/bytealg.IndexByteString", "internal/bytealg.IndexString"], unfollowed := true, recurses := true, named := ["internal/bytealg.MaxLen", "echelon/geom.units", "echelon/digest.factors", "echelon/echelonref07.first", "echelon/echelonref07.least", "echelon/echelonref07.most", "echelon/echelonref05.unitX", "echelon/echelonref05.unitY"], apart := false, laid := [("echelon/echelonref05.unitX", laid_echelon_echelonref05_unitX), ("echelon/echelonref05.unitY", laid_echelon_echelonref05_unitY), ("echelon/echelonref07.first", laid_echelon_echelonref07_first), ("echelon/echelonref07.least", laid_echelon_echelonref07_least), ("echelon/echelonref07.most", laid_echelon_echelonref07_most), ("echelon/digest.factors", laid_echelon_digest_factors), ("echelon/geom.units", laid_echelon_geom_units)], narrowed := true }
def WorldRefsUptoSaid : Prop := worldRefsUptoRow.holds Tryz.pinned (OpenSpec.upto worldRefsSpec)

end Rows
end Go.Proofs.YtcgmohldcokccaaGreatDoor
