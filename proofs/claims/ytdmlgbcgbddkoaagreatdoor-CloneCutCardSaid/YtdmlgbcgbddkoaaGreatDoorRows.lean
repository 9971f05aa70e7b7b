/-
  NARROWER THAN 'FOR EVERY INPUT', by the rows' own cells (each row's printed sentence says how): CloneBack: laid · CloneAlike: laid · CloneCut: laid.
  DERIVED. THE GIVEN ROWS OF THIS SEAT. 3 by the template 'for every input the law returns true; each argument reads behind the call as it read before'; 0 by the template 'total and deterministic' (their statements: YtdmlgbcgbddkoaaGreatDoorTotals.lean).
  GIVEN WITH THE SEED: the statements are not yours to turn. If you find one false, say at which input.
  Laid BY PROGRAM, IN A SANDBOX (cutbox-rows.mjs): the forced cells as the released guide's own fill.sh prints them over the translation 9be243ce02a6e9f4… (all of the seat's roots in one cut). By AI agents, Wed Nov 11 2026. No macro, syntax, notation, axiom, sorry.
-/
import Derived.Test.YtdmlgbcgbddkoaaGreatDoorChecked
import GoSem.Claim
import GoSem.ClaimJoined
import GoSem.ClaimMapViews
import Derived.JoinedTies
import Derived.KernelRfl
namespace Go.Proofs.YtdmlgbcgbddkoaaGreatDoor
/- THE CELL 'sum', in the pinned program and in every row, IS THE sha256 OF THE DUMP (.gsa) THAT YtdmlgbcgbddkoaaGreatDoorProg.lean LOADS. Nothing in Lean hashes anything: it is a label: what it is worth is what the hold of that sum in a sandbox is worth. -/
noncomputable def Tryz.pinned : Pinned := { name := "ytdmlgbcgbddkoaagreatdoor", sum := "9be243ce02a6e9f4d98eba326435d97e2289a1b3e8e8aa1d09e3613701612bea", checked := Tryz.checked }
namespace Rows
def none {H : Type} : Left H := { results := [], args := [] }

/- WHAT THE LISTED PACKAGE-LEVEL VARIABLES READ AS WHEN THE CALL BEGINS. Each datum BY PROGRAM (the guide's laid-datum.mjs) off the statement by which the dump's own 'gosem.cut.vars' lays the variable. In a bare row this is a premise. The card (YtdmlgbcgbddkoaaGreatDoorCards.lean) ties it to the program's text. -/
def laid_echelon_digest_factors {H : Type} : DataW H := .agg [.lit (.int .u64 13787848793156543929), .lit (.int .u64 10723151780598845931), .lit (.int .u64 1099511628211), .lit (.int .u64 11400714819323198485)]

/-- 'echelonlaw14.CloneBack': WHATEVER THE INPUT: true; the input reads as it did. -/
def cloneBackSpec : ChangeSpec := { name := "cloneBack", fn := fun _ => fun
  | [d1, d2, d3] => { results := [.lit (.bool true)], args := [d1, d2, d3] }
  | _ => none }
def cloneBackRow : OpenClaim := { program := "ytdmlgbcgbddkoaagreatdoor", sum := "9be243ce02a6e9f4d98eba326435d97e2289a1b3e8e8aa1d09e3613701612bea", func := "echelon/echelonlaw14.CloneBack", spec := "cloneBack", inPlace := ["internal/bytealg.CountString", "internal/bytealg.IndexByteString", "internal/bytealg.IndexString"], unfollowed := true, recurses := true, named := ["internal/bytealg.MaxLen", "echelon/digest.factors"], apart := false, laid := [("echelon/digest.factors", laid_echelon_digest_factors)] }
def CloneBackSaid : Prop := cloneBackRow.holds Tryz.pinned (OpenSpec.ofChange cloneBackSpec)

/-- ITS FALSE NEIGHBOUR: 'it returns false'. Refute it at one input. -/
def cloneBackWrong : ChangeSpec := { name := "cloneBack", fn := fun _ => fun
  | [d1, d2, d3] => { results := [.lit (.bool false)], args := [d1, d2, d3] }
  | _ => none }
def CloneBackWrongFalsely : Prop := cloneBackRow.holds Tryz.pinned (OpenSpec.ofChange cloneBackWrong)

/-- 'echelonlaw14.CloneAlike': WHATEVER THE INPUT: true; the input reads as it did. -/
def cloneAlikeSpec : ChangeSpec := { name := "cloneAlike", fn := fun _ => fun
  | [d1, d2] => { results := [.lit (.bool true)], args := [d1, d2] }
  | _ => none }
def cloneAlikeRow : OpenClaim := { program := "ytdmlgbcgbddkoaagreatdoor", sum := "9be243ce02a6e9f4d98eba326435d97e2289a1b3e8e8aa1d09e3613701612bea", func := "echelon/echelonlaw14.CloneAlike", spec := "cloneAlike", inPlace := ["internal/bytealg.CountString", "internal/bytealg.IndexByteString", "internal/bytealg.IndexString"], unfollowed := true, recurses := true, named := ["internal/bytealg.MaxLen", "echelon/digest.factors"], apart := false, laid := [("echelon/digest.factors", laid_echelon_digest_factors)] }
def CloneAlikeSaid : Prop := cloneAlikeRow.holds Tryz.pinned (OpenSpec.ofChange cloneAlikeSpec)

/-- ITS FALSE NEIGHBOUR: 'it returns false'. Refute it at one input. -/
def cloneAlikeWrong : ChangeSpec := { name := "cloneAlike", fn := fun _ => fun
  | [d1, d2] => { results := [.lit (.bool false)], args := [d1, d2] }
  | _ => none }
def CloneAlikeWrongFalsely : Prop := cloneAlikeRow.holds Tryz.pinned (OpenSpec.ofChange cloneAlikeWrong)

/-- 'echelonlaw14.CloneCut': WHATEVER THE INPUT: true; the input reads as it did. -/
def cloneCutSpec : ChangeSpec := { name := "cloneCut", fn := fun _ => fun
  | [d1, d2, d3, d4] => { results := [.lit (.bool true)], args := [d1, d2, d3, d4] }
  | _ => none }
def cloneCutRow : OpenClaim := { program := "ytdmlgbcgbddkoaagreatdoor", sum := "9be243ce02a6e9f4d98eba326435d97e2289a1b3e8e8aa1d09e3613701612bea", func := "echelon/echelonlaw14.CloneCut", spec := "cloneCut", inPlace := ["internal/bytealg.CountString", "internal/bytealg.IndexByteString", "internal/bytealg.IndexString"], unfollowed := true, recurses := true, named := ["internal/bytealg.MaxLen", "echelon/digest.factors"], apart := false, laid := [("echelon/digest.factors", laid_echelon_digest_factors)] }
def CloneCutSaid : Prop := cloneCutRow.holds Tryz.pinned (OpenSpec.ofChange cloneCutSpec)

/-- ITS FALSE NEIGHBOUR: 'it returns false'. Refute it at one input. -/
def cloneCutWrong : ChangeSpec := { name := "cloneCut", fn := fun _ => fun
  | [d1, d2, d3, d4] => { results := [.lit (.bool false)], args := [d1, d2, d3, d4] }
  | _ => none }
def CloneCutWrongFalsely : Prop := cloneCutRow.holds Tryz.pinned (OpenSpec.ofChange cloneCutWrong)

/- THE SECOND FORM. 'bulk': how many values and letters a reading holds, each counted each time it is reached (what is shared counts as often as it is met; a slice's spare places count too). A statement '..UptoSaid' is the law's where the arguments, and the package variables that the reading takes, are together of bulk at most 1048576: NARROWER than '..Said'. Prove '..Said' where nothing that the law and all that it calls make is longer than what came in: it says more and counts as full. Else prove '..UptoSaid'. A law counts once. -/
mutual
def uptoBulk {H : Type} : DataW H → Nat
  | .lit (.string bytes) => bytes.length + 1
  | .lit _ => 1
  | .nil => 1
  | .ptr d => uptoBulk d + 1
  | .slice elems spare => uptoBulkAll elems + uptoBulkAll spare + 1
  | .agg parts => uptoBulkAll parts + 1
  | .iface _ d => uptoBulk d + 1
  | .map entries => uptoBulkEntries entries + 1
  | .held _ => 1
def uptoBulkAll {H : Type} : List (DataW H) → Nat
  | [] => 0
  | d :: r => uptoBulk d + uptoBulkAll r
def uptoBulkEntries {H : Type} : List (Lit × DataW H) → Nat
  | [] => 0
  | x :: r => uptoBulkEntry x + uptoBulkEntries r
def uptoBulkEntry {H : Type} : Lit × DataW H → Nat
  | (.string bytes, d) => bytes.length + uptoBulk d + 1
  | (_, d) => uptoBulk d + 1
 end
def uptoSmall : (H : Type) → List (DataW H) → Bool := fun _ ds => decide (uptoBulkAll ds ≤ 1048576)
def OpenSpec.upto (s : _root_.Go.ChangeSpec) : _root_.Go.OpenSpec := { _root_.Go.OpenSpec.ofChange s with cond := some uptoSmall }

/-- 'echelonlaw14.CloneBack', WHERE WHAT IT READS IS OF BULK AT MOST 1048576: true; the input reads as it did. -/
def cloneBackUptoRow : OpenClaim := { program := "ytdmlgbcgbddkoaagreatdoor", sum := "9be243ce02a6e9f4d98eba326435d97e2289a1b3e8e8aa1d09e3613701612bea", func := "echelon/echelonlaw14.CloneBack", spec := "cloneBack", inPlace := ["internal/bytealg.CountString", "internal/bytealg.IndexByteString", "internal/bytealg.IndexString"], unfollowed := true, recurses := true, named := ["internal/bytealg.MaxLen", "echelon/digest.factors"], apart := false, laid := [("echelon/digest.factors", laid_echelon_digest_factors)], narrowed := true }
def CloneBackUptoSaid : Prop := cloneBackUptoRow.holds Tryz.pinned (OpenSpec.upto cloneBackSpec)

/-- 'echelonlaw14.CloneAlike', WHERE WHAT IT READS IS OF BULK AT MOST 1048576: true; the input reads as it did. -/
def cloneAlikeUptoRow : OpenClaim := { program := "ytdmlgbcgbddkoaagreatdoor", sum := "9be243ce02a6e9f4d98eba326435d97e2289a1b3e8e8aa1d09e3613701612bea", func := "echelon/echelonlaw14.CloneAlike", spec := "cloneAlike", inPlace := ["internal/bytealg.CountString", "internal/bytealg.IndexByteString", "internal/bytealg.IndexString"], unfollowed := true, recurses := true, named := ["internal/bytealg.MaxLen", "echelon/digest.factors"], apart := false, laid := [("echelon/digest.factors", laid_echelon_digest_factors)], narrowed := true }
def CloneAlikeUptoSaid : Prop := cloneAlikeUptoRow.holds Tryz.pinned (OpenSpec.upto cloneAlikeSpec)

/-- 'echelonlaw14.CloneCut', WHERE WHAT IT READS IS OF BULK AT MOST 1048576: true; the input reads as it did. -/
def cloneCutUptoRow : OpenClaim := { program := "ytdmlgbcgbddkoaagreatdoor", sum := "9be243ce02a6e9f4d98eba326435d97e2289a1b3e8e8aa1d09e3613701612bea", func := "echelon/echelonlaw14.CloneCut", spec := "cloneCut", inPlace := ["internal/bytealg.CountString", "internal/bytealg.IndexByteString", "internal/bytealg.IndexString"], unfollowed := true, recurses := true, named := ["internal/bytealg.MaxLen", "echelon/digest.factors"], apart := false, laid := [("echelon/digest.factors", laid_echelon_digest_factors)], narrowed := true }
def CloneCutUptoSaid : Prop := cloneCutUptoRow.holds Tryz.pinned (OpenSpec.upto cloneCutSpec)

end Rows
end Go.Proofs.YtdmlgbcgbddkoaaGreatDoor
