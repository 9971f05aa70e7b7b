/-
  NARROWER THAN 'FOR EVERY INPUT', by the rows' own cells (each row's printed sentence says how): CloneCopies: laid · CloneBytes: laid · CloneReads: laid.
  DERIVED. THE GIVEN ROWS OF THIS SEAT. 3 by the template 'for every input the law returns true; each argument reads behind the call as it read before'; 0 by the template 'total and deterministic' (their statements: YtkgbmefaphhcnaaGreatDoorTotals.lean).
  GIVEN WITH THE SEED: the statements are not yours to turn. If you find one false, say at which input.
  Laid BY PROGRAM, IN A SANDBOX (cutbox-rows.mjs): the forced cells as the released guide's own fill.sh prints them over the translation 924d3752f04dcb0f… (all of the seat's roots in one cut). By AI agents, Wed Nov 11 2026. No macro, syntax, notation, axiom, sorry.
-/
import Derived.Test.YtkgbmefaphhcnaaGreatDoorChecked
import GoSem.Claim
import GoSem.ClaimJoined
import GoSem.ClaimMapViews
import Derived.JoinedTies
import Derived.KernelRfl
namespace Go.Proofs.YtkgbmefaphhcnaaGreatDoor
/- THE CELL 'sum', in the pinned program and in every row, IS THE sha256 OF THE DUMP (.gsa) THAT YtkgbmefaphhcnaaGreatDoorProg.lean LOADS. Nothing in Lean hashes anything: it is a label: what it is worth is what the hold of that sum in a sandbox is worth. -/
noncomputable def Tryz.pinned : Pinned := { name := "ytkgbmefaphhcnaagreatdoor", sum := "924d3752f04dcb0ff3beb9a29d3c9c7ba0157855def36fada51754746351dd35", checked := Tryz.checked }
namespace Rows
def none {H : Type} : Left H := { results := [], args := [] }

/- WHAT THE LISTED PACKAGE-LEVEL VARIABLES READ AS WHEN THE CALL BEGINS. Each datum BY PROGRAM (the guide's laid-datum.mjs) off the statement by which the dump's own 'gosem.cut.vars' lays the variable. In a bare row this is a premise. The card (YtkgbmefaphhcnaaGreatDoorCards.lean) ties it to the program's text. -/
def laid_echelon_digest_factors {H : Type} : DataW H := .agg [.lit (.int .u64 13787848793156543929), .lit (.int .u64 10723151780598845931), .lit (.int .u64 1099511628211), .lit (.int .u64 11400714819323198485)]

/-- 'echelonlaw14.CloneCopies': WHATEVER THE INPUT: true; the input reads as it did. -/
def cloneCopiesSpec : ChangeSpec := { name := "cloneCopies", fn := fun _ => fun
  | [d1, d2] => { results := [.lit (.bool true)], args := [d1, d2] }
  | _ => none }
def cloneCopiesRow : OpenClaim := { program := "ytkgbmefaphhcnaagreatdoor", sum := "924d3752f04dcb0ff3beb9a29d3c9c7ba0157855def36fada51754746351dd35", func := "echelon/echelonlaw14.CloneCopies", spec := "cloneCopies", inPlace := ["internal/bytealg.CountString", "internal/bytealg.IndexByteString", "internal/bytealg.IndexString"], unfollowed := true, recurses := true, named := ["internal/bytealg.MaxLen", "echelon/digest.factors"], apart := false, laid := [("echelon/digest.factors", laid_echelon_digest_factors)] }
def CloneCopiesSaid : Prop := cloneCopiesRow.holds Tryz.pinned (OpenSpec.ofChange cloneCopiesSpec)

/-- ITS FALSE NEIGHBOUR: 'it returns false'. Refute it at one input. -/
def cloneCopiesWrong : ChangeSpec := { name := "cloneCopies", fn := fun _ => fun
  | [d1, d2] => { results := [.lit (.bool false)], args := [d1, d2] }
  | _ => none }
def CloneCopiesWrongFalsely : Prop := cloneCopiesRow.holds Tryz.pinned (OpenSpec.ofChange cloneCopiesWrong)

/-- 'echelonlaw14.CloneBytes': WHATEVER THE INPUT: true; the input reads as it did. -/
def cloneBytesSpec : ChangeSpec := { name := "cloneBytes", fn := fun _ => fun
  | [d1, d2] => { results := [.lit (.bool true)], args := [d1, d2] }
  | _ => none }
def cloneBytesRow : OpenClaim := { program := "ytkgbmefaphhcnaagreatdoor", sum := "924d3752f04dcb0ff3beb9a29d3c9c7ba0157855def36fada51754746351dd35", func := "echelon/echelonlaw14.CloneBytes", spec := "cloneBytes", inPlace := ["internal/bytealg.CountString", "internal/bytealg.IndexByteString", "internal/bytealg.IndexString"], unfollowed := true, recurses := true, named := ["internal/bytealg.MaxLen", "echelon/digest.factors"], apart := false, laid := [("echelon/digest.factors", laid_echelon_digest_factors)] }
def CloneBytesSaid : Prop := cloneBytesRow.holds Tryz.pinned (OpenSpec.ofChange cloneBytesSpec)

/-- ITS FALSE NEIGHBOUR: 'it returns false'. Refute it at one input. -/
def cloneBytesWrong : ChangeSpec := { name := "cloneBytes", fn := fun _ => fun
  | [d1, d2] => { results := [.lit (.bool false)], args := [d1, d2] }
  | _ => none }
def CloneBytesWrongFalsely : Prop := cloneBytesRow.holds Tryz.pinned (OpenSpec.ofChange cloneBytesWrong)

/-- 'echelonlaw14.CloneReads': WHATEVER THE INPUT: true; the input reads as it did. -/
def cloneReadsSpec : ChangeSpec := { name := "cloneReads", fn := fun _ => fun
  | [d1, d2] => { results := [.lit (.bool true)], args := [d1, d2] }
  | _ => none }
def cloneReadsRow : OpenClaim := { program := "ytkgbmefaphhcnaagreatdoor", sum := "924d3752f04dcb0ff3beb9a29d3c9c7ba0157855def36fada51754746351dd35", func := "echelon/echelonlaw14.CloneReads", spec := "cloneReads", inPlace := ["internal/bytealg.CountString", "internal/bytealg.IndexByteString", "internal/bytealg.IndexString"], unfollowed := true, recurses := true, named := ["internal/bytealg.MaxLen", "echelon/digest.factors"], apart := false, laid := [("echelon/digest.factors", laid_echelon_digest_factors)] }
def CloneReadsSaid : Prop := cloneReadsRow.holds Tryz.pinned (OpenSpec.ofChange cloneReadsSpec)

/-- ITS FALSE NEIGHBOUR: 'it returns false'. Refute it at one input. -/
def cloneReadsWrong : ChangeSpec := { name := "cloneReads", fn := fun _ => fun
  | [d1, d2] => { results := [.lit (.bool false)], args := [d1, d2] }
  | _ => none }
def CloneReadsWrongFalsely : Prop := cloneReadsRow.holds Tryz.pinned (OpenSpec.ofChange cloneReadsWrong)

/- THE SECOND FORM. 'bulk': how many values and letters a reading holds, each counted each time it is reached (what is shared counts as often as it is met; a slice's spare places count too). A statement '..UptoSaid' is the law's where the arguments, and the package variables that the reading takes, are together of bulk at most 1048576: NARROWER than '..Said'. Prove '..Said' where nothing that the law and all that it calls make is longer than what came in: it says more and counts as full. Else prove '..UptoSaid'. A law counts once. -/
mutual
def uptoBulk {H : Type} : DataW H → Nat
  | .lit (.string bytes) => bytes.length + 1
  | .lit _ => 1
  | .nil => 1
  | .ptr d => uptoBulk d + 1
  | .slice elems spare => uptoBulkAll elems + uptoBulkAll spare + 1
  | .agg parts => uptoBulkAll parts + 1
  | .iface _ d => uptoBulk d + 1
  | .map entries => uptoBulkEntries entries + 1
  | .held _ => 1
def uptoBulkAll {H : Type} : List (DataW H) → Nat
  | [] => 0
  | d :: r => uptoBulk d + uptoBulkAll r
def uptoBulkEntries {H : Type} : List (Lit × DataW H) → Nat
  | [] => 0
  | x :: r => uptoBulkEntry x + uptoBulkEntries r
def uptoBulkEntry {H : Type} : Lit × DataW H → Nat
  | (.string bytes, d) => bytes.length + uptoBulk d + 1
  | (_, d) => uptoBulk d + 1
 end
def uptoSmall : (H : Type) → List (DataW H) → Bool := fun _ ds => decide (uptoBulkAll ds ≤ 1048576)
def OpenSpec.upto (s : _root_.Go.ChangeSpec) : _root_.Go.OpenSpec := { _root_.Go.OpenSpec.ofChange s with cond := some uptoSmall }

/-- 'echelonlaw14.CloneCopies', WHERE WHAT IT READS IS OF BULK AT MOST 1048576: true; the input reads as it did. -/
def cloneCopiesUptoRow : OpenClaim := { program := "ytkgbmefaphhcnaagreatdoor", sum := "924d3752f04dcb0ff3beb9a29d3c9c7ba0157855def36fada51754746351dd35", func := "echelon/echelonlaw14.CloneCopies", spec := "cloneCopies", inPlace := ["internal/bytealg.CountString", "internal/bytealg.IndexByteString", "internal/bytealg.IndexString"], unfollowed := true, recurses := true, named := ["internal/bytealg.MaxLen", "echelon/digest.factors"], apart := false, laid := [("echelon/digest.factors", laid_echelon_digest_factors)], narrowed := true }
def CloneCopiesUptoSaid : Prop := cloneCopiesUptoRow.holds Tryz.pinned (OpenSpec.upto cloneCopiesSpec)

/-- 'echelonlaw14.CloneBytes', WHERE WHAT IT READS IS OF BULK AT MOST 1048576: true; the input reads as it did. -/
def cloneBytesUptoRow : OpenClaim := { program := "ytkgbmefaphhcnaagreatdoor", sum := "924d3752f04dcb0ff3beb9a29d3c9c7ba0157855def36fada51754746351dd35", func := "echelon/echelonlaw14.CloneBytes", spec := "cloneBytes", inPlace := ["internal/bytealg.CountString", "internal/bytealg.IndexByteString", "internal/bytealg.IndexString"], unfollowed := true, recurses := true, named := ["internal/bytealg.MaxLen", "echelon/digest.factors"], apart := false, laid := [("echelon/digest.factors", laid_echelon_digest_factors)], narrowed := true }
def CloneBytesUptoSaid : Prop := cloneBytesUptoRow.holds Tryz.pinned (OpenSpec.upto cloneBytesSpec)

/-- 'echelonlaw14.CloneReads', WHERE WHAT IT READS IS OF BULK AT MOST 1048576: true; the input reads as it did. -/
def cloneReadsUptoRow : OpenClaim := { program := "ytkgbmefaphhcnaagreatdoor", sum := "924d3752f04dcb0ff3beb9a29d3c9c7ba0157855def36fada51754746351dd35", func := "echelon/echelonlaw14.CloneReads", spec := "cloneReads", inPlace := ["internal/bytealg.CountString", "internal/bytealg.IndexByteString", "internal/bytealg.IndexString"], unfollowed := true, recurses := true, named := ["internal/bytealg.MaxLen", "echelon/digest.factors"], apart := false, laid := [("echelon/digest.factors", laid_echelon_digest_factors)], narrowed := true }
def CloneReadsUptoSaid : Prop := cloneReadsUptoRow.holds Tryz.pinned (OpenSpec.upto cloneReadsSpec)

end Rows
end Go.Proofs.YtkgbmefaphhcnaaGreatDoor
