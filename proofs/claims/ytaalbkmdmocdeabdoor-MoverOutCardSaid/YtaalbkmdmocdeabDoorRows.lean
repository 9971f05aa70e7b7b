/-
  NARROWER THAN 'FOR EVERY INPUT', by the rows' own cells (each row's printed sentence says how): MoverOut: laid · MoverKeeps: laid.
  DERIVED. THE GIVEN ROWS OF THIS SEAT. 2 by the template 'for every input the law returns true; each argument reads behind the call as it read before'; 0 by the template 'total and deterministic' (their statements: YtaalbkmdmocdeabDoorTotals.lean).
  GIVEN WITH THE SEED: the statements are not yours to turn. If you find one false, say at which input.
  Laid BY PROGRAM, IN A SANDBOX (cutbox-rows.mjs): the forced cells as the released guide's own fill.sh prints them over the translation 5414baacd085d32f… (all of the seat's roots in one cut). By AI agents, Wed Nov 11 2026. No macro, syntax, notation, axiom, sorry.
-/
import Derived.Test.YtaalbkmdmocdeabDoorChecked
import GoSem.Claim
import GoSem.ClaimJoined
import GoSem.ClaimMapViews
import Derived.JoinedTies
import Derived.KernelRfl
namespace Go.Proofs.YtaalbkmdmocdeabDoor
/- THE CELL 'sum', in the pinned program and in every row, IS THE sha256 OF THE DUMP (.gsa) THAT YtaalbkmdmocdeabDoorProg.lean LOADS. Nothing in Lean hashes anything: it is a label: what it is worth is what the hold of that sum in a sandbox is worth. -/
noncomputable def Tryd.pinned : Pinned := { name := "ytaalbkmdmocdeabdoor", sum := "5414baacd085d32fb7b61e74043725747b671c1f3d72aa81cfa1ab4f36cec55f", checked := Tryd.checked }
namespace Rows
def none {H : Type} : Left H := { results := [], args := [] }

/- WHAT THE LISTED PACKAGE-LEVEL VARIABLES READ AS WHEN THE CALL BEGINS. Each datum BY PROGRAM (the guide's laid-datum.mjs) off the statement by which the dump's own 'gosem.cut.vars' lays the variable. In a bare row this is a premise. The card (YtaalbkmdmocdeabDoorCards.lean) ties it to the program's text. -/
def laid_echelon_geom_units {H : Type} : DataW H := .agg [.agg [.lit (.int .i64 256), .lit (.int .i64 0)], .agg [.lit (.int .i64 237), .lit (.int .i64 98)], .agg [.lit (.int .i64 181), .lit (.int .i64 181)], .agg [.lit (.int .i64 98), .lit (.int .i64 237)], .agg [.lit (.int .i64 0), .lit (.int .i64 256)], .agg [.lit (.int .i64 (-98)), .lit (.int .i64 237)], .agg [.lit (.int .i64 (-181)), .lit (.int .i64 181)], .agg [.lit (.int .i64 (-237)), .lit (.int .i64 98)], .agg [.lit (.int .i64 (-256)), .lit (.int .i64 0)], .agg [.lit (.int .i64 (-237)), .lit (.int .i64 (-98))], .agg [.lit (.int .i64 (-181)), .lit (.int .i64 (-181))], .agg [.lit (.int .i64 (-98)), .lit (.int .i64 (-237))], .agg [.lit (.int .i64 0), .lit (.int .i64 (-256))], .agg [.lit (.int .i64 98), .lit (.int .i64 (-237))], .agg [.lit (.int .i64 181), .lit (.int .i64 (-181))], .agg [.lit (.int .i64 237), .lit (.int .i64 (-98))]]

/-- 'echelonlaw08.MoverOut': WHATEVER THE INPUT: true; the input reads as it did. -/
def moverOutSpec : ChangeSpec := { name := "moverOut", fn := fun _ => fun
  | [d1, d2, d3, d4] => { results := [.lit (.bool true)], args := [d1, d2, d3, d4] }
  | _ => none }
def moverOutRow : OpenClaim := { program := "ytaalbkmdmocdeabdoor", sum := "5414baacd085d32fb7b61e74043725747b671c1f3d72aa81cfa1ab4f36cec55f", func := "echelon/echelonlaw08.MoverOut", spec := "moverOut", unfollowed := true, recurses := true, named := ["echelon/geom.units"], apart := false, laid := [("echelon/geom.units", laid_echelon_geom_units)] }
def MoverOutSaid : Prop := moverOutRow.holds Tryd.pinned (OpenSpec.ofChange moverOutSpec)

/-- ITS FALSE NEIGHBOUR: 'it returns false'. Refute it at one input. -/
def moverOutWrong : ChangeSpec := { name := "moverOut", fn := fun _ => fun
  | [d1, d2, d3, d4] => { results := [.lit (.bool false)], args := [d1, d2, d3, d4] }
  | _ => none }
def MoverOutWrongFalsely : Prop := moverOutRow.holds Tryd.pinned (OpenSpec.ofChange moverOutWrong)

/-- 'echelonlaw08.MoverKeeps': WHATEVER THE INPUT: true; the input reads as it did. -/
def moverKeepsSpec : ChangeSpec := { name := "moverKeeps", fn := fun _ => fun
  | [d1, d2, d3, d4] => { results := [.lit (.bool true)], args := [d1, d2, d3, d4] }
  | _ => none }
def moverKeepsRow : OpenClaim := { program := "ytaalbkmdmocdeabdoor", sum := "5414baacd085d32fb7b61e74043725747b671c1f3d72aa81cfa1ab4f36cec55f", func := "echelon/echelonlaw08.MoverKeeps", spec := "moverKeeps", unfollowed := true, recurses := true, named := ["echelon/geom.units"], apart := false, laid := [("echelon/geom.units", laid_echelon_geom_units)] }
def MoverKeepsSaid : Prop := moverKeepsRow.holds Tryd.pinned (OpenSpec.ofChange moverKeepsSpec)

/-- ITS FALSE NEIGHBOUR: 'it returns false'. Refute it at one input. -/
def moverKeepsWrong : ChangeSpec := { name := "moverKeeps", fn := fun _ => fun
  | [d1, d2, d3, d4] => { results := [.lit (.bool false)], args := [d1, d2, d3, d4] }
  | _ => none }
def MoverKeepsWrongFalsely : Prop := moverKeepsRow.holds Tryd.pinned (OpenSpec.ofChange moverKeepsWrong)

/- THE SECOND FORM. 'bulk': how many values and letters a reading holds, each counted each time it is reached (what is shared counts as often as it is met; a slice's spare places count too). A statement '..UptoSaid' is the law's where the arguments, and the package variables that the reading takes, are together of bulk at most 1048576: NARROWER than '..Said'. Prove '..Said' where nothing that the law and all that it calls make is longer than what came in: it says more and counts as full. Else prove '..UptoSaid'. A law counts once. -/
mutual
def uptoBulk {H : Type} : DataW H → Nat
  | .lit (.string bytes) => bytes.length + 1
  | .lit _ => 1
  | .nil => 1
  | .ptr d => uptoBulk d + 1
  | .slice elems spare => uptoBulkAll elems + uptoBulkAll spare + 1
  | .agg parts => uptoBulkAll parts + 1
  | .iface _ d => uptoBulk d + 1
  | .map entries => uptoBulkEntries entries + 1
  | .held _ => 1
def uptoBulkAll {H : Type} : List (DataW H) → Nat
  | [] => 0
  | d :: r => uptoBulk d + uptoBulkAll r
def uptoBulkEntries {H : Type} : List (Lit × DataW H) → Nat
  | [] => 0
  | x :: r => uptoBulkEntry x + uptoBulkEntries r
def uptoBulkEntry {H : Type} : Lit × DataW H → Nat
  | (.string bytes, d) => bytes.length + uptoBulk d + 1
  | (_, d) => uptoBulk d + 1
 end
def uptoSmall : (H : Type) → List (DataW H) → Bool := fun _ ds => decide (uptoBulkAll ds ≤ 1048576)
def OpenSpec.upto (s : _root_.Go.ChangeSpec) : _root_.Go.OpenSpec := { _root_.Go.OpenSpec.ofChange s with cond := some uptoSmall }

/-- 'echelonlaw08.MoverOut', WHERE WHAT IT READS IS OF BULK AT MOST 1048576: true; the input reads as it did. -/
def moverOutUptoRow : OpenClaim := { program := "ytaalbkmdmocdeabdoor", sum := "5414baacd085d32fb7b61e74043725747b671c1f3d72aa81cfa1ab4f36cec55f", func := "echelon/echelonlaw08.MoverOut", spec := "moverOut", unfollowed := true, recurses := true, named := ["echelon/geom.units"], apart := false, laid := [("echelon/geom.units", laid_echelon_geom_units)], narrowed := true }
def MoverOutUptoSaid : Prop := moverOutUptoRow.holds Tryd.pinned (OpenSpec.upto moverOutSpec)

/-- 'echelonlaw08.MoverKeeps', WHERE WHAT IT READS IS OF BULK AT MOST 1048576: true; the input reads as it did. -/
def moverKeepsUptoRow : OpenClaim := { program := "ytaalbkmdmocdeabdoor", sum := "5414baacd085d32fb7b61e74043725747b671c1f3d72aa81cfa1ab4f36cec55f", func := "echelon/echelonlaw08.MoverKeeps", spec := "moverKeeps", unfollowed := true, recurses := true, named := ["echelon/geom.units"], apart := false, laid := [("echelon/geom.units", laid_echelon_geom_units)], narrowed := true }
def MoverKeepsUptoSaid : Prop := moverKeepsUptoRow.holds Tryd.pinned (OpenSpec.upto moverKeepsSpec)

end Rows
end Go.Proofs.YtaalbkmdmocdeabDoor
