/-
  NARROWER THAN 'FOR EVERY INPUT', by the rows' own cells (each row's printed sentence says how): MoverStarts: laid · MoverActs: laid · MoverGlides: laid · MoverHurts: laid · MoverRests: laid · MoverMay: laid.
  DERIVED. THE GIVEN ROWS OF THIS SEAT. 6 by the template 'for every input the law returns true; each argument reads behind the call as it read before'; 0 by the template 'total and deterministic' (their statements: YtaalbkmdmocdeaaDoorTotals.lean).
  GIVEN WITH THE SEED: the statements are not yours to turn. If you find one false, say at which input.
  Laid BY PROGRAM, IN A SANDBOX (cutbox-rows.mjs): the forced cells as the released guide's own fill.sh prints them over the translation 6f4988772c1df2eb… (all of the seat's roots in one cut). By AI agents, Wed Nov 11 2026. No macro, syntax, notation, axiom, sorry.
-/
import Derived.Test.YtaalbkmdmocdeaaDoorChecked
import GoSem.Claim
import GoSem.ClaimJoined
import GoSem.ClaimMapViews
import Derived.JoinedTies
import Derived.KernelRfl
namespace Go.Proofs.YtaalbkmdmocdeaaDoor
/- THE CELL 'sum', in the pinned program and in every row, IS THE sha256 OF THE DUMP (.gsa) THAT YtaalbkmdmocdeaaDoorProg.lean LOADS. Nothing in Lean hashes anything: it is a label: what it is worth is what the hold of that sum in a sandbox is worth. -/
noncomputable def Tryd.pinned : Pinned := { name := "ytaalbkmdmocdeaadoor", sum := "6f4988772c1df2eb217df8cb51083d4fa599e410b9db98e733800dd08bd851c2", checked := Tryd.checked }
namespace Rows
def none {H : Type} : Left H := { results := [], args := [] }

/- WHAT THE LISTED PACKAGE-LEVEL VARIABLES READ AS WHEN THE CALL BEGINS. Each datum BY PROGRAM (the guide's laid-datum.mjs) off the statement by which the dump's own 'gosem.cut.vars' lays the variable. In a bare row this is a premise. The card (YtaalbkmdmocdeaaDoorCards.lean) ties it to the program's text. -/
def laid_echelon_geom_units {H : Type} : DataW H := .agg [.agg [.lit (.int .i64 256), .lit (.int .i64 0)], .agg [.lit (.int .i64 237), .lit (.int .i64 98)], .agg [.lit (.int .i64 181), .lit (.int .i64 181)], .agg [.lit (.int .i64 98), .lit (.int .i64 237)], .agg [.lit (.int .i64 0), .lit (.int .i64 256)], .agg [.lit (.int .i64 (-98)), .lit (.int .i64 237)], .agg [.lit (.int .i64 (-181)), .lit (.int .i64 181)], .agg [.lit (.int .i64 (-237)), .lit (.int .i64 98)], .agg [.lit (.int .i64 (-256)), .lit (.int .i64 0)], .agg [.lit (.int .i64 (-237)), .lit (.int .i64 (-98))], .agg [.lit (.int .i64 (-181)), .lit (.int .i64 (-181))], .agg [.lit (.int .i64 (-98)), .lit (.int .i64 (-237))], .agg [.lit (.int .i64 0), .lit (.int .i64 (-256))], .agg [.lit (.int .i64 98), .lit (.int .i64 (-237))], .agg [.lit (.int .i64 181), .lit (.int .i64 (-181))], .agg [.lit (.int .i64 237), .lit (.int .i64 (-98))]]
def laid_echelon_echelonref05_unitX {H : Type} : DataW H := .agg [.lit (.int .i64 256), .lit (.int .i64 237), .lit (.int .i64 181), .lit (.int .i64 98), .lit (.int .i64 0), .lit (.int .i64 (-98)), .lit (.int .i64 (-181)), .lit (.int .i64 (-237)), .lit (.int .i64 (-256)), .lit (.int .i64 (-237)), .lit (.int .i64 (-181)), .lit (.int .i64 (-98)), .lit (.int .i64 0), .lit (.int .i64 98), .lit (.int .i64 181), .lit (.int .i64 237)]
def laid_echelon_echelonref05_unitY {H : Type} : DataW H := .agg [.lit (.int .i64 0), .lit (.int .i64 98), .lit (.int .i64 181), .lit (.int .i64 237), .lit (.int .i64 256), .lit (.int .i64 237), .lit (.int .i64 181), .lit (.int .i64 98), .lit (.int .i64 0), .lit (.int .i64 (-98)), .lit (.int .i64 (-181)), .lit (.int .i64 (-237)), .lit (.int .i64 (-256)), .lit (.int .i64 (-237)), .lit (.int .i64 (-181)), .lit (.int .i64 (-98))]
def laid_echelon_echelonref07_first {H : Type} : DataW H := .agg [.lit (.string [120]), .lit (.string []), .lit (.string [116, 111]), .lit (.string [112, 111, 119, 101, 114]), .lit (.string [111, 110]), .lit (.string [116, 111]), .lit (.string [119, 104, 97, 116])]
def laid_echelon_echelonref07_least {H : Type} : DataW H := .agg [.lit (.int .i64 (-8)), .lit (.int .i64 0), .lit (.int .i64 0), .lit (.int .i64 1), .lit (.int .i64 0), .lit (.int .i64 0), .lit (.int .i64 0)]
def laid_echelon_echelonref07_most {H : Type} : DataW H := .agg [.lit (.int .i64 8), .lit (.int .i64 0), .lit (.int .i64 15), .lit (.int .i64 3), .lit (.int .i64 1), .lit (.int .i64 15), .lit (.int .i64 255)]

/-- 'echelonlaw08.MoverStarts': WHATEVER THE INPUT: true; the input reads as it did. -/
def moverStartsSpec : ChangeSpec := { name := "moverStarts", fn := fun _ => fun
  | [d1, d2, d3] => { results := [.lit (.bool true)], args := [d1, d2, d3] }
  | _ => none }
def moverStartsRow : OpenClaim := { program := "ytaalbkmdmocdeaadoor", sum := "6f4988772c1df2eb217df8cb51083d4fa599e410b9db98e733800dd08bd851c2", func := "echelon/echelonlaw08.MoverStarts", spec := "moverStarts", unfollowed := true, recurses := true, named := ["echelon/geom.units"], apart := false, laid := [("echelon/geom.units", laid_echelon_geom_units)] }
def MoverStartsSaid : Prop := moverStartsRow.holds Tryd.pinned (OpenSpec.ofChange moverStartsSpec)

/-- ITS FALSE NEIGHBOUR: 'it returns false'. Refute it at one input. -/
def moverStartsWrong : ChangeSpec := { name := "moverStarts", fn := fun _ => fun
  | [d1, d2, d3] => { results := [.lit (.bool false)], args := [d1, d2, d3] }
  | _ => none }
def MoverStartsWrongFalsely : Prop := moverStartsRow.holds Tryd.pinned (OpenSpec.ofChange moverStartsWrong)

/-- 'echelonlaw08.MoverActs': WHATEVER THE INPUT: true; the input reads as it did. -/
def moverActsSpec : ChangeSpec := { name := "moverActs", fn := fun _ => fun
  | [d1, d2] => { results := [.lit (.bool true)], args := [d1, d2] }
  | _ => none }
def moverActsRow : OpenClaim := { program := "ytaalbkmdmocdeaadoor", sum := "6f4988772c1df2eb217df8cb51083d4fa599e410b9db98e733800dd08bd851c2", func := "echelon/echelonlaw08.MoverActs", spec := "moverActs", unfollowed := true, recurses := true, named := ["echelon/geom.units", "echelon/echelonref07.first", "echelon/echelonref07.least", "echelon/echelonref07.most", "echelon/echelonref05.unitX", "echelon/echelonref05.unitY"], apart := false, laid := [("echelon/echelonref05.unitX", laid_echelon_echelonref05_unitX), ("echelon/echelonref05.unitY", laid_echelon_echelonref05_unitY), ("echelon/echelonref07.first", laid_echelon_echelonref07_first), ("echelon/echelonref07.least", laid_echelon_echelonref07_least), ("echelon/echelonref07.most", laid_echelon_echelonref07_most), ("echelon/geom.units", laid_echelon_geom_units)] }
def MoverActsSaid : Prop := moverActsRow.holds Tryd.pinned (OpenSpec.ofChange moverActsSpec)

/-- ITS FALSE NEIGHBOUR: 'it returns false'. Refute it at one input. -/
def moverActsWrong : ChangeSpec := { name := "moverActs", fn := fun _ => fun
  | [d1, d2] => { results := [.lit (.bool false)], args := [d1, d2] }
  | _ => none }
def MoverActsWrongFalsely : Prop := moverActsRow.holds Tryd.pinned (OpenSpec.ofChange moverActsWrong)

/-- 'echelonlaw08.MoverGlides': WHATEVER THE INPUT: true; the input reads as it did. -/
def moverGlidesSpec : ChangeSpec := { name := "moverGlides", fn := fun _ => fun
  | [d1, d2] => { results := [.lit (.bool true)], args := [d1, d2] }
  | _ => none }
def moverGlidesRow : OpenClaim := { program := "ytaalbkmdmocdeaadoor", sum := "6f4988772c1df2eb217df8cb51083d4fa599e410b9db98e733800dd08bd851c2", func := "echelon/echelonlaw08.MoverGlides", spec := "moverGlides", unfollowed := true, recurses := true, named := ["echelon/geom.units"], apart := false, laid := [("echelon/geom.units", laid_echelon_geom_units)] }
def MoverGlidesSaid : Prop := moverGlidesRow.holds Tryd.pinned (OpenSpec.ofChange moverGlidesSpec)

/-- ITS FALSE NEIGHBOUR: 'it returns false'. Refute it at one input. -/
def moverGlidesWrong : ChangeSpec := { name := "moverGlides", fn := fun _ => fun
  | [d1, d2] => { results := [.lit (.bool false)], args := [d1, d2] }
  | _ => none }
def MoverGlidesWrongFalsely : Prop := moverGlidesRow.holds Tryd.pinned (OpenSpec.ofChange moverGlidesWrong)

/-- 'echelonlaw08.MoverHurts': WHATEVER THE INPUT: true; the input reads as it did. -/
def moverHurtsSpec : ChangeSpec := { name := "moverHurts", fn := fun _ => fun
  | [d1, d2] => { results := [.lit (.bool true)], args := [d1, d2] }
  | _ => none }
def moverHurtsRow : OpenClaim := { program := "ytaalbkmdmocdeaadoor", sum := "6f4988772c1df2eb217df8cb51083d4fa599e410b9db98e733800dd08bd851c2", func := "echelon/echelonlaw08.MoverHurts", spec := "moverHurts", unfollowed := true, recurses := true, named := ["echelon/geom.units"], apart := false, laid := [("echelon/geom.units", laid_echelon_geom_units)] }
def MoverHurtsSaid : Prop := moverHurtsRow.holds Tryd.pinned (OpenSpec.ofChange moverHurtsSpec)

/-- ITS FALSE NEIGHBOUR: 'it returns false'. Refute it at one input. -/
def moverHurtsWrong : ChangeSpec := { name := "moverHurts", fn := fun _ => fun
  | [d1, d2] => { results := [.lit (.bool false)], args := [d1, d2] }
  | _ => none }
def MoverHurtsWrongFalsely : Prop := moverHurtsRow.holds Tryd.pinned (OpenSpec.ofChange moverHurtsWrong)

/-- 'echelonlaw08.MoverRests': WHATEVER THE INPUT: true; the input reads as it did. -/
def moverRestsSpec : ChangeSpec := { name := "moverRests", fn := fun _ => fun
  | [d1, d2] => { results := [.lit (.bool true)], args := [d1, d2] }
  | _ => none }
def moverRestsRow : OpenClaim := { program := "ytaalbkmdmocdeaadoor", sum := "6f4988772c1df2eb217df8cb51083d4fa599e410b9db98e733800dd08bd851c2", func := "echelon/echelonlaw08.MoverRests", spec := "moverRests", unfollowed := true, recurses := true, named := ["echelon/geom.units"], apart := false, laid := [("echelon/geom.units", laid_echelon_geom_units)] }
def MoverRestsSaid : Prop := moverRestsRow.holds Tryd.pinned (OpenSpec.ofChange moverRestsSpec)

/-- ITS FALSE NEIGHBOUR: 'it returns false'. Refute it at one input. -/
def moverRestsWrong : ChangeSpec := { name := "moverRests", fn := fun _ => fun
  | [d1, d2] => { results := [.lit (.bool false)], args := [d1, d2] }
  | _ => none }
def MoverRestsWrongFalsely : Prop := moverRestsRow.holds Tryd.pinned (OpenSpec.ofChange moverRestsWrong)

/-- 'echelonlaw08.MoverMay': WHATEVER THE INPUT: true; the input reads as it did. -/
def moverMaySpec : ChangeSpec := { name := "moverMay", fn := fun _ => fun
  | [d1, d2, d3, d4] => { results := [.lit (.bool true)], args := [d1, d2, d3, d4] }
  | _ => none }
def moverMayRow : OpenClaim := { program := "ytaalbkmdmocdeaadoor", sum := "6f4988772c1df2eb217df8cb51083d4fa599e410b9db98e733800dd08bd851c2", func := "echelon/echelonlaw08.MoverMay", spec := "moverMay", unfollowed := true, recurses := true, named := ["echelon/geom.units"], apart := false, laid := [("echelon/geom.units", laid_echelon_geom_units)] }
def MoverMaySaid : Prop := moverMayRow.holds Tryd.pinned (OpenSpec.ofChange moverMaySpec)

/-- ITS FALSE NEIGHBOUR: 'it returns false'. Refute it at one input. -/
def moverMayWrong : ChangeSpec := { name := "moverMay", fn := fun _ => fun
  | [d1, d2, d3, d4] => { results := [.lit (.bool false)], args := [d1, d2, d3, d4] }
  | _ => none }
def MoverMayWrongFalsely : Prop := moverMayRow.holds Tryd.pinned (OpenSpec.ofChange moverMayWrong)

/- THE SECOND FORM. 'bulk': how many values and letters a reading holds, each counted each time it is reached (what is shared counts as often as it is met; a slice's spare places count too). A statement '..UptoSaid' is the law's where the arguments, and the package variables that the reading takes, are together of bulk at most 1048576: NARROWER than '..Said'. Prove '..Said' where nothing that the law and all that it calls make is longer than what came in: it says more and counts as full. Else prove '..UptoSaid'. A law counts once. -/
mutual
def uptoBulk {H : Type} : DataW H → Nat
  | .lit (.string bytes) => bytes.length + 1
  | .lit _ => 1
  | .nil => 1
  | .ptr d => uptoBulk d + 1
  | .slice elems spare => uptoBulkAll elems + uptoBulkAll spare + 1
  | .agg parts => uptoBulkAll parts + 1
  | .iface _ d => uptoBulk d + 1
  | .map entries => uptoBulkEntries entries + 1
  | .held _ => 1
def uptoBulkAll {H : Type} : List (DataW H) → Nat
  | [] => 0
  | d :: r => uptoBulk d + uptoBulkAll r
def uptoBulkEntries {H : Type} : List (Lit × DataW H) → Nat
  | [] => 0
  | x :: r => uptoBulkEntry x + uptoBulkEntries r
def uptoBulkEntry {H : Type} : Lit × DataW H → Nat
  | (.string bytes, d) => bytes.length + uptoBulk d + 1
  | (_, d) => uptoBulk d + 1
 end
def uptoSmall : (H : Type) → List (DataW H) → Bool := fun _ ds => decide (uptoBulkAll ds ≤ 1048576)
def OpenSpec.upto (s : _root_.Go.ChangeSpec) : _root_.Go.OpenSpec := { _root_.Go.OpenSpec.ofChange s with cond := some uptoSmall }

/-- 'echelonlaw08.MoverStarts', WHERE WHAT IT READS IS OF BULK AT MOST 1048576: true; the input reads as it did. -/
def moverStartsUptoRow : OpenClaim := { program := "ytaalbkmdmocdeaadoor", sum := "6f4988772c1df2eb217df8cb51083d4fa599e410b9db98e733800dd08bd851c2", func := "echelon/echelonlaw08.MoverStarts", spec := "moverStarts", unfollowed := true, recurses := true, named := ["echelon/geom.units"], apart := false, laid := [("echelon/geom.units", laid_echelon_geom_units)], narrowed := true }
def MoverStartsUptoSaid : Prop := moverStartsUptoRow.holds Tryd.pinned (OpenSpec.upto moverStartsSpec)

/-- 'echelonlaw08.MoverActs', WHERE WHAT IT READS IS OF BULK AT MOST 1048576: true; the input reads as it did. -/
def moverActsUptoRow : OpenClaim := { program := "ytaalbkmdmocdeaadoor", sum := "6f4988772c1df2eb217df8cb51083d4fa599e410b9db98e733800dd08bd851c2", func := "echelon/echelonlaw08.MoverActs", spec := "moverActs", unfollowed := true, recurses := true, named := ["echelon/geom.units", "echelon/echelonref07.first", "echelon/echelonref07.least", "echelon/echelonref07.most", "echelon/echelonref05.unitX", "echelon/echelonref05.unitY"], apart := false, laid := [("echelon/echelonref05.unitX", laid_echelon_echelonref05_unitX), ("echelon/echelonref05.unitY", laid_echelon_echelonref05_unitY), ("echelon/echelonref07.first", laid_echelon_echelonref07_first), ("echelon/echelonref07.least", laid_echelon_echelonref07_least), ("echelon/echelonref07.most", laid_echelon_echelonref07_most), ("echelon/geom.units", laid_echelon_geom_units)], narrowed := true }
def MoverActsUptoSaid : Prop := moverActsUptoRow.holds Tryd.pinned (OpenSpec.upto moverActsSpec)

/-- 'echelonlaw08.MoverGlides', WHERE WHAT IT READS IS OF BULK AT MOST 1048576: true; the input reads as it did. -/
def moverGlidesUptoRow : OpenClaim := { program := "ytaalbkmdmocdeaadoor", sum := "6f4988772c1df2eb217df8cb51083d4fa599e410b9db98e733800dd08bd851c2", func := "echelon/echelonlaw08.MoverGlides", spec := "moverGlides", unfollowed := true, recurses := true, named := ["echelon/geom.units"], apart := false, laid := [("echelon/geom.units", laid_echelon_geom_units)], narrowed := true }
def MoverGlidesUptoSaid : Prop := moverGlidesUptoRow.holds Tryd.pinned (OpenSpec.upto moverGlidesSpec)

/-- 'echelonlaw08.MoverHurts', WHERE WHAT IT READS IS OF BULK AT MOST 1048576: true; the input reads as it did. -/
def moverHurtsUptoRow : OpenClaim := { program := "ytaalbkmdmocdeaadoor", sum := "6f4988772c1df2eb217df8cb51083d4fa599e410b9db98e733800dd08bd851c2", func := "echelon/echelonlaw08.MoverHurts", spec := "moverHurts", unfollowed := true, recurses := true, named := ["echelon/geom.units"], apart := false, laid := [("echelon/geom.units", laid_echelon_geom_units)], narrowed := true }
def MoverHurtsUptoSaid : Prop := moverHurtsUptoRow.holds Tryd.pinned (OpenSpec.upto moverHurtsSpec)

/-- 'echelonlaw08.MoverRests', WHERE WHAT IT READS IS OF BULK AT MOST 1048576: true; the input reads as it did. -/
def moverRestsUptoRow : OpenClaim := { program := "ytaalbkmdmocdeaadoor", sum := "6f4988772c1df2eb217df8cb51083d4fa599e410b9db98e733800dd08bd851c2", func := "echelon/echelonlaw08.MoverRests", spec := "moverRests", unfollowed := true, recurses := true, named := ["echelon/geom.units"], apart := false, laid := [("echelon/geom.units", laid_echelon_geom_units)], narrowed := true }
def MoverRestsUptoSaid : Prop := moverRestsUptoRow.holds Tryd.pinned (OpenSpec.upto moverRestsSpec)

/-- 'echelonlaw08.MoverMay', WHERE WHAT IT READS IS OF BULK AT MOST 1048576: true; the input reads as it did. -/
def moverMayUptoRow : OpenClaim := { program := "ytaalbkmdmocdeaadoor", sum := "6f4988772c1df2eb217df8cb51083d4fa599e410b9db98e733800dd08bd851c2", func := "echelon/echelonlaw08.MoverMay", spec := "moverMay", unfollowed := true, recurses := true, named := ["echelon/geom.units"], apart := false, laid := [("echelon/geom.units", laid_echelon_geom_units)], narrowed := true }
def MoverMayUptoSaid : Prop := moverMayUptoRow.holds Tryd.pinned (OpenSpec.upto moverMaySpec)

end Rows
end Go.Proofs.YtaalbkmdmocdeaaDoor
