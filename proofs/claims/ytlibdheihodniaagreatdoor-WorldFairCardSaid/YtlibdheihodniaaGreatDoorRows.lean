/-
  NARROWER THAN 'FOR EVERY INPUT', by the rows' own cells (each row's printed sentence says how): WorldFair: laid · WorldAnew: laid.
  DERIVED. THE GIVEN ROWS OF THIS SEAT. 2 by the template 'for every input the law returns true; each argument reads behind the call as it read before'; 0 by the template 'total and deterministic' (their statements: YtlibdheihodniaaGreatDoorTotals.lean).
  GIVEN WITH THE SEED: the statements are not yours to turn. If you find one false, say at which input.
  Laid BY PROGRAM, IN A SANDBOX (cutbox-rows.mjs): the forced cells as the released guide's own fill.sh prints them over the translation 8549bc4698af1280… (all of the seat's roots in one cut). By AI agents, Wed Nov 11 2026. No macro, syntax, notation, axiom, sorry.
-/
import Derived.Test.YtlibdheihodniaaGreatDoorChecked
import GoSem.Claim
import GoSem.ClaimJoined
import GoSem.ClaimMapViews
import Derived.JoinedTies
import Derived.KernelRfl
namespace Go.Proofs.YtlibdheihodniaaGreatDoor
/- THE CELL 'sum', in the pinned program and in every row, IS THE sha256 OF THE DUMP (.gsa) THAT YtlibdheihodniaaGreatDoorProg.lean LOADS. Nothing in Lean hashes anything: it is a label: what it is worth is what the hold of that sum in a sandbox is worth. -/
noncomputable def Tryz.pinned : Pinned := { name := "ytlibdheihodniaagreatdoor", sum := "8549bc4698af12807efb9f46567b803b221f45398d8b2a62bb9a4ba5697a4f24", checked := Tryz.checked }
namespace Rows
def none {H : Type} : Left H := { results := [], args := [] }

/- WHAT THE LISTED PACKAGE-LEVEL VARIABLES READ AS WHEN THE CALL BEGINS. Each datum BY PROGRAM (the guide's laid-datum.mjs) off the statement by which the dump's own 'gosem.cut.vars' lays the variable. In a bare row this is a premise. The card (YtlibdheihodniaaGreatDoorCards.lean) ties it to the program's text. -/
def laid_echelon_digest_factors {H : Type} : DataW H := .agg [.lit (.int .u64 13787848793156543929), .lit (.int .u64 10723151780598845931), .lit (.int .u64 1099511628211), .lit (.int .u64 11400714819323198485)]
def laid_echelon_geom_units {H : Type} : DataW H := .agg [.agg [.lit (.int .i64 256), .lit (.int .i64 0)], .agg [.lit (.int .i64 237), .lit (.int .i64 98)], .agg [.lit (.int .i64 181), .lit (.int .i64 181)], .agg [.lit (.int .i64 98), .lit (.int .i64 237)], .agg [.lit (.int .i64 0), .lit (.int .i64 256)], .agg [.lit (.int .i64 (-98)), .lit (.int .i64 237)], .agg [.lit (.int .i64 (-181)), .lit (.int .i64 181)], .agg [.lit (.int .i64 (-237)), .lit (.int .i64 98)], .agg [.lit (.int .i64 (-256)), .lit (.int .i64 0)], .agg [.lit (.int .i64 (-237)), .lit (.int .i64 (-98))], .agg [.lit (.int .i64 (-181)), .lit (.int .i64 (-181))], .agg [.lit (.int .i64 (-98)), .lit (.int .i64 (-237))], .agg [.lit (.int .i64 0), .lit (.int .i64 (-256))], .agg [.lit (.int .i64 98), .lit (.int .i64 (-237))], .agg [.lit (.int .i64 181), .lit (.int .i64 (-181))], .agg [.lit (.int .i64 237), .lit (.int .i64 (-98))]]

/-- 'echelonlaw13.WorldFair': WHATEVER THE INPUT: true; the input reads as it did. -/
def worldFairSpec : ChangeSpec := { name := "worldFair", fn := fun _ => fun
  | [d1, d2, d3] => { results := [.lit (.bool true)], args := [d1, d2, d3] }
  | _ => none }
def worldFairRow : OpenClaim := { program := "ytlibdheihodniaagreatdoor", sum := "8549bc4698af12807efb9f46567b803b221f45398d8b2a62bb9a4ba5697a4f24", func := "echelon/echelonlaw13.WorldFair", spec := "worldFair", inPlace := ["internal/bytealg.CountString", "internal/bytealg.IndexByteString", "internal/bytealg.IndexString"], unfollowed := true, recurses := true, named := ["internal/bytealg.MaxLen", "echelon/geom.units", "echelon/digest.factors"], apart := false, laid := [("echelon/digest.factors", laid_echelon_digest_factors), ("echelon/geom.units", laid_echelon_geom_units)] }
def WorldFairSaid : Prop := worldFairRow.holds Tryz.pinned (OpenSpec.ofChange worldFairSpec)

/-- ITS FALSE NEIGHBOUR: 'it returns false'. Refute it at one input. -/
def worldFairWrong : ChangeSpec := { name := "worldFair", fn := fun _ => fun
  | [d1, d2, d3] => { results := [.lit (.bool false)], args := [d1, d2, d3] }
  | _ => none }
def WorldFairWrongFalsely : Prop := worldFairRow.holds Tryz.pinned (OpenSpec.ofChange worldFairWrong)

/-- 'echelonlaw13.WorldAnew': WHATEVER THE INPUT: true; the input reads as it did. -/
def worldAnewSpec : ChangeSpec := { name := "worldAnew", fn := fun _ => fun
  | [d1, d2, d3] => { results := [.lit (.bool true)], args := [d1, d2, d3] }
  | _ => none }
def worldAnewRow : OpenClaim := { program := "ytlibdheihodniaagreatdoor", sum := "8549bc4698af12807efb9f46567b803b221f45398d8b2a62bb9a4ba5697a4f24", func := "echelon/echelonlaw13.WorldAnew", spec := "worldAnew", inPlace := ["internal/bytealg.CountString", "internal/bytealg.IndexByteString", "internal/bytealg.IndexString"], unfollowed := true, recurses := true, named := ["internal/bytealg.MaxLen", "echelon/geom.units", "echelon/digest.factors"], apart := false, laid := [("echelon/digest.factors", laid_echelon_digest_factors), ("echelon/geom.units", laid_echelon_geom_units)] }
def WorldAnewSaid : Prop := worldAnewRow.holds Tryz.pinned (OpenSpec.ofChange worldAnewSpec)

/-- ITS FALSE NEIGHBOUR: 'it returns false'. Refute it at one input. -/
def worldAnewWrong : ChangeSpec := { name := "worldAnew", fn := fun _ => fun
  | [d1, d2, d3] => { results := [.lit (.bool false)], args := [d1, d2, d3] }
  | _ => none }
def WorldAnewWrongFalsely : Prop := worldAnewRow.holds Tryz.pinned (OpenSpec.ofChange worldAnewWrong)

/- THE SECOND FORM. 'bulk': how many values and letters a reading holds, each counted each time it is reached (what is shared counts as often as it is met; a slice's spare places count too). A statement '..UptoSaid' is the law's where the arguments, and the package variables that the reading takes, are together of bulk at most 1048576: NARROWER than '..Said'. Prove '..Said' where nothing that the law and all that it calls make is longer than what came in: it says more and counts as full. Else prove '..UptoSaid'. A law counts once. -/
mutual
def uptoBulk {H : Type} : DataW H → Nat
  | .lit (.string bytes) => bytes.length + 1
  | .lit _ => 1
  | .nil => 1
  | .ptr d => uptoBulk d + 1
  | .slice elems spare => uptoBulkAll elems + uptoBulkAll spare + 1
  | .agg parts => uptoBulkAll parts + 1
  | .iface _ d => uptoBulk d + 1
  | .map entries => uptoBulkEntries entries + 1
  | .held _ => 1
def uptoBulkAll {H : Type} : List (DataW H) → Nat
  | [] => 0
  | d :: r => uptoBulk d + uptoBulkAll r
def uptoBulkEntries {H : Type} : List (Lit × DataW H) → Nat
  | [] => 0
  | x :: r => uptoBulkEntry x + uptoBulkEntries r
def uptoBulkEntry {H : Type} : Lit × DataW H → Nat
  | (.string bytes, d) => bytes.length + uptoBulk d + 1
  | (_, d) => uptoBulk d + 1
 end
def uptoSmall : (H : Type) → List (DataW H) → Bool := fun _ ds => decide (uptoBulkAll ds ≤ 1048576)
def OpenSpec.upto (s : _root_.Go.ChangeSpec) : _root_.Go.OpenSpec := { _root_.Go.OpenSpec.ofChange s with cond := some uptoSmall }

/-- 'echelonlaw13.WorldFair', WHERE WHAT IT READS IS OF BULK AT MOST 1048576: true; the input reads as it did. -/
def worldFairUptoRow : OpenClaim := { program := "ytlibdheihodniaagreatdoor", sum := "8549bc4698af12807efb9f46567b803b221f45398d8b2a62bb9a4ba5697a4f24", func := "echelon/echelonlaw13.WorldFair", spec := "worldFair", inPlace := ["internal/bytealg.CountString", "internal/bytealg.IndexByteString", "internal/bytealg.IndexString"], unfollowed := true, recurses := true, named := ["internal/bytealg.MaxLen", "echelon/geom.units", "echelon/digest.factors"], apart := false, laid := [("echelon/digest.factors", laid_echelon_digest_factors), ("echelon/geom.units", laid_echelon_geom_units)], narrowed := true }
def WorldFairUptoSaid : Prop := worldFairUptoRow.holds Tryz.pinned (OpenSpec.upto worldFairSpec)

/-- 'echelonlaw13.WorldAnew', WHERE WHAT IT READS IS OF BULK AT MOST 1048576: true; the input reads as it did. -/
def worldAnewUptoRow : OpenClaim := { program := "ytlibdheihodniaagreatdoor", sum := "8549bc4698af12807efb9f46567b803b221f45398d8b2a62bb9a4ba5697a4f24", func := "echelon/echelonlaw13.WorldAnew", spec := "worldAnew", inPlace := ["internal/bytealg.CountString", "internal/bytealg.IndexByteString", "internal/bytealg.IndexString"], unfollowed := true, recurses := true, named := ["internal/bytealg.MaxLen", "echelon/geom.units", "echelon/digest.factors"], apart := false, laid := [("echelon/digest.factors", laid_echelon_digest_factors), ("echelon/geom.units", laid_echelon_geom_units)], narrowed := true }
def WorldAnewUptoSaid : Prop := worldAnewUptoRow.holds Tryz.pinned (OpenSpec.upto worldAnewSpec)

end Rows
end Go.Proofs.YtlibdheihodniaaGreatDoor
