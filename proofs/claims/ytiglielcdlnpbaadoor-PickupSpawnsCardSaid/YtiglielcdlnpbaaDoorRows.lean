/-
  NARROWER THAN 'FOR EVERY INPUT', by the rows' own cells (each row's printed sentence says how): PickupChecks: laid · PickupSpawns: laid · PickupTakes: laid · PickupGrows: laid · PickupHelps: laid.
  DERIVED. THE GIVEN ROWS OF THIS SEAT. 5 by the template 'for every input the law returns true; each argument reads behind the call as it read before'; 0 by the template 'total and deterministic' (their statements: YtiglielcdlnpbaaDoorTotals.lean).
  GIVEN WITH THE SEED: the statements are not yours to turn. If you find one false, say at which input.
  Laid BY PROGRAM, IN A SANDBOX (cutbox-rows.mjs): the forced cells as the released guide's own fill.sh prints them over the translation 0de9107ce00f553e… (all of the seat's roots in one cut). By AI agents, Wed Nov 11 2026. No macro, syntax, notation, axiom, sorry.
-/
import Derived.Test.YtiglielcdlnpbaaDoorChecked
import GoSem.Claim
import GoSem.ClaimJoined
import GoSem.ClaimMapViews
import Derived.JoinedTies
import Derived.KernelRfl
namespace Go.Proofs.YtiglielcdlnpbaaDoor
/- THE CELL 'sum', in the pinned program and in every row, IS THE sha256 OF THE DUMP (.gsa) THAT YtiglielcdlnpbaaDoorProg.lean LOADS. Nothing in Lean hashes anything: it is a label: what it is worth is what the hold of that sum in a sandbox is worth. -/
noncomputable def Tryd.pinned : Pinned := { name := "ytiglielcdlnpbaadoor", sum := "0de9107ce00f553edee480c54fd61872fb032fd36ce7374a1ef16d1af4297014", checked := Tryd.checked }
namespace Rows
def none {H : Type} : Left H := { results := [], args := [] }

/- WHAT THE LISTED PACKAGE-LEVEL VARIABLES READ AS WHEN THE CALL BEGINS. Each datum BY PROGRAM (the guide's laid-datum.mjs) off the statement by which the dump's own 'gosem.cut.vars' lays the variable. In a bare row this is a premise. The card (YtiglielcdlnpbaaDoorCards.lean) ties it to the program's text. -/
def laid_echelon_digest_factors {H : Type} : DataW H := .agg [.lit (.int .u64 13787848793156543929), .lit (.int .u64 10723151780598845931), .lit (.int .u64 1099511628211), .lit (.int .u64 11400714819323198485)]

/-- 'echelonlaw10.PickupChecks': WHATEVER THE INPUT: true; the input reads as it did. -/
def pickupChecksSpec : ChangeSpec := { name := "pickupChecks", fn := fun _ => fun
  | [d1, d2] => { results := [.lit (.bool true)], args := [d1, d2] }
  | _ => none }
def pickupChecksRow : OpenClaim := { program := "ytiglielcdlnpbaadoor", sum := "0de9107ce00f553edee480c54fd61872fb032fd36ce7374a1ef16d1af4297014", func := "echelon/echelonlaw10.PickupChecks", spec := "pickupChecks", unfollowed := true, recurses := true, named := ["echelon/digest.factors"], apart := false, laid := [("echelon/digest.factors", laid_echelon_digest_factors)] }
def PickupChecksSaid : Prop := pickupChecksRow.holds Tryd.pinned (OpenSpec.ofChange pickupChecksSpec)

/-- ITS FALSE NEIGHBOUR: 'it returns false'. Refute it at one input. -/
def pickupChecksWrong : ChangeSpec := { name := "pickupChecks", fn := fun _ => fun
  | [d1, d2] => { results := [.lit (.bool false)], args := [d1, d2] }
  | _ => none }
def PickupChecksWrongFalsely : Prop := pickupChecksRow.holds Tryd.pinned (OpenSpec.ofChange pickupChecksWrong)

/-- 'echelonlaw10.PickupSpawns': WHATEVER THE INPUT: true; the input reads as it did. -/
def pickupSpawnsSpec : ChangeSpec := { name := "pickupSpawns", fn := fun _ => fun
  | [d1, d2] => { results := [.lit (.bool true)], args := [d1, d2] }
  | _ => none }
def pickupSpawnsRow : OpenClaim := { program := "ytiglielcdlnpbaadoor", sum := "0de9107ce00f553edee480c54fd61872fb032fd36ce7374a1ef16d1af4297014", func := "echelon/echelonlaw10.PickupSpawns", spec := "pickupSpawns", unfollowed := true, recurses := true, named := ["echelon/digest.factors"], apart := false, laid := [("echelon/digest.factors", laid_echelon_digest_factors)] }
def PickupSpawnsSaid : Prop := pickupSpawnsRow.holds Tryd.pinned (OpenSpec.ofChange pickupSpawnsSpec)

/-- ITS FALSE NEIGHBOUR: 'it returns false'. Refute it at one input. -/
def pickupSpawnsWrong : ChangeSpec := { name := "pickupSpawns", fn := fun _ => fun
  | [d1, d2] => { results := [.lit (.bool false)], args := [d1, d2] }
  | _ => none }
def PickupSpawnsWrongFalsely : Prop := pickupSpawnsRow.holds Tryd.pinned (OpenSpec.ofChange pickupSpawnsWrong)

/-- 'echelonlaw10.PickupTakes': WHATEVER THE INPUT: true; the input reads as it did. -/
def pickupTakesSpec : ChangeSpec := { name := "pickupTakes", fn := fun _ => fun
  | [d1, d2] => { results := [.lit (.bool true)], args := [d1, d2] }
  | _ => none }
def pickupTakesRow : OpenClaim := { program := "ytiglielcdlnpbaadoor", sum := "0de9107ce00f553edee480c54fd61872fb032fd36ce7374a1ef16d1af4297014", func := "echelon/echelonlaw10.PickupTakes", spec := "pickupTakes", unfollowed := true, recurses := true, named := ["echelon/digest.factors"], apart := false, laid := [("echelon/digest.factors", laid_echelon_digest_factors)] }
def PickupTakesSaid : Prop := pickupTakesRow.holds Tryd.pinned (OpenSpec.ofChange pickupTakesSpec)

/-- ITS FALSE NEIGHBOUR: 'it returns false'. Refute it at one input. -/
def pickupTakesWrong : ChangeSpec := { name := "pickupTakes", fn := fun _ => fun
  | [d1, d2] => { results := [.lit (.bool false)], args := [d1, d2] }
  | _ => none }
def PickupTakesWrongFalsely : Prop := pickupTakesRow.holds Tryd.pinned (OpenSpec.ofChange pickupTakesWrong)

/-- 'echelonlaw10.PickupGrows': WHATEVER THE INPUT: true; the input reads as it did. -/
def pickupGrowsSpec : ChangeSpec := { name := "pickupGrows", fn := fun _ => fun
  | [d1, d2] => { results := [.lit (.bool true)], args := [d1, d2] }
  | _ => none }
def pickupGrowsRow : OpenClaim := { program := "ytiglielcdlnpbaadoor", sum := "0de9107ce00f553edee480c54fd61872fb032fd36ce7374a1ef16d1af4297014", func := "echelon/echelonlaw10.PickupGrows", spec := "pickupGrows", unfollowed := true, recurses := true, named := ["echelon/digest.factors"], apart := false, laid := [("echelon/digest.factors", laid_echelon_digest_factors)] }
def PickupGrowsSaid : Prop := pickupGrowsRow.holds Tryd.pinned (OpenSpec.ofChange pickupGrowsSpec)

/-- ITS FALSE NEIGHBOUR: 'it returns false'. Refute it at one input. -/
def pickupGrowsWrong : ChangeSpec := { name := "pickupGrows", fn := fun _ => fun
  | [d1, d2] => { results := [.lit (.bool false)], args := [d1, d2] }
  | _ => none }
def PickupGrowsWrongFalsely : Prop := pickupGrowsRow.holds Tryd.pinned (OpenSpec.ofChange pickupGrowsWrong)

/-- 'echelonlaw10.PickupHelps': WHATEVER THE INPUT: true; the input reads as it did. -/
def pickupHelpsSpec : ChangeSpec := { name := "pickupHelps", fn := fun _ => fun
  | [d1, d2] => { results := [.lit (.bool true)], args := [d1, d2] }
  | _ => none }
def pickupHelpsRow : OpenClaim := { program := "ytiglielcdlnpbaadoor", sum := "0de9107ce00f553edee480c54fd61872fb032fd36ce7374a1ef16d1af4297014", func := "echelon/echelonlaw10.PickupHelps", spec := "pickupHelps", unfollowed := true, recurses := true, named := ["echelon/digest.factors"], apart := false, laid := [("echelon/digest.factors", laid_echelon_digest_factors)] }
def PickupHelpsSaid : Prop := pickupHelpsRow.holds Tryd.pinned (OpenSpec.ofChange pickupHelpsSpec)

/-- ITS FALSE NEIGHBOUR: 'it returns false'. Refute it at one input. -/
def pickupHelpsWrong : ChangeSpec := { name := "pickupHelps", fn := fun _ => fun
  | [d1, d2] => { results := [.lit (.bool false)], args := [d1, d2] }
  | _ => none }
def PickupHelpsWrongFalsely : Prop := pickupHelpsRow.holds Tryd.pinned (OpenSpec.ofChange pickupHelpsWrong)

/- THE SECOND FORM. 'bulk': how many values and letters a reading holds, each counted each time it is reached (what is shared counts as often as it is met; a slice's spare places count too). A statement '..UptoSaid' is the law's where the arguments, and the package variables that the reading takes, are together of bulk at most 1048576: NARROWER than '..Said'. Prove '..Said' where nothing that the law and all that it calls make is longer than what came in: it says more and counts as full. Else prove '..UptoSaid'. A law counts once. -/
mutual
def uptoBulk {H : Type} : DataW H → Nat
  | .lit (.string bytes) => bytes.length + 1
  | .lit _ => 1
  | .nil => 1
  | .ptr d => uptoBulk d + 1
  | .slice elems spare => uptoBulkAll elems + uptoBulkAll spare + 1
  | .agg parts => uptoBulkAll parts + 1
  | .iface _ d => uptoBulk d + 1
  | .map entries => uptoBulkEntries entries + 1
  | .held _ => 1
def uptoBulkAll {H : Type} : List (DataW H) → Nat
  | [] => 0
  | d :: r => uptoBulk d + uptoBulkAll r
def uptoBulkEntries {H : Type} : List (Lit × DataW H) → Nat
  | [] => 0
  | x :: r => uptoBulkEntry x + uptoBulkEntries r
def uptoBulkEntry {H : Type} : Lit × DataW H → Nat
  | (.string bytes, d) => bytes.length + uptoBulk d + 1
  | (_, d) => uptoBulk d + 1
 end
def uptoSmall : (H : Type) → List (DataW H) → Bool := fun _ ds => decide (uptoBulkAll ds ≤ 1048576)
def OpenSpec.upto (s : _root_.Go.ChangeSpec) : _root_.Go.OpenSpec := { _root_.Go.OpenSpec.ofChange s with cond := some uptoSmall }

/-- 'echelonlaw10.PickupChecks', WHERE WHAT IT READS IS OF BULK AT MOST 1048576: true; the input reads as it did. -/
def pickupChecksUptoRow : OpenClaim := { program := "ytiglielcdlnpbaadoor", sum := "0de9107ce00f553edee480c54fd61872fb032fd36ce7374a1ef16d1af4297014", func := "echelon/echelonlaw10.PickupChecks", spec := "pickupChecks", unfollowed := true, recurses := true, named := ["echelon/digest.factors"], apart := false, laid := [("echelon/digest.factors", laid_echelon_digest_factors)], narrowed := true }
def PickupChecksUptoSaid : Prop := pickupChecksUptoRow.holds Tryd.pinned (OpenSpec.upto pickupChecksSpec)

/-- 'echelonlaw10.PickupSpawns', WHERE WHAT IT READS IS OF BULK AT MOST 1048576: true; the input reads as it did. -/
def pickupSpawnsUptoRow : OpenClaim := { program := "ytiglielcdlnpbaadoor", sum := "0de9107ce00f553edee480c54fd61872fb032fd36ce7374a1ef16d1af4297014", func := "echelon/echelonlaw10.PickupSpawns", spec := "pickupSpawns", unfollowed := true, recurses := true, named := ["echelon/digest.factors"], apart := false, laid := [("echelon/digest.factors", laid_echelon_digest_factors)], narrowed := true }
def PickupSpawnsUptoSaid : Prop := pickupSpawnsUptoRow.holds Tryd.pinned (OpenSpec.upto pickupSpawnsSpec)

/-- 'echelonlaw10.PickupTakes', WHERE WHAT IT READS IS OF BULK AT MOST 1048576: true; the input reads as it did. -/
def pickupTakesUptoRow : OpenClaim := { program := "ytiglielcdlnpbaadoor", sum := "0de9107ce00f553edee480c54fd61872fb032fd36ce7374a1ef16d1af4297014", func := "echelon/echelonlaw10.PickupTakes", spec := "pickupTakes", unfollowed := true, recurses := true, named := ["echelon/digest.factors"], apart := false, laid := [("echelon/digest.factors", laid_echelon_digest_factors)], narrowed := true }
def PickupTakesUptoSaid : Prop := pickupTakesUptoRow.holds Tryd.pinned (OpenSpec.upto pickupTakesSpec)

/-- 'echelonlaw10.PickupGrows', WHERE WHAT IT READS IS OF BULK AT MOST 1048576: true; the input reads as it did. -/
def pickupGrowsUptoRow : OpenClaim := { program := "ytiglielcdlnpbaadoor", sum := "0de9107ce00f553edee480c54fd61872fb032fd36ce7374a1ef16d1af4297014", func := "echelon/echelonlaw10.PickupGrows", spec := "pickupGrows", unfollowed := true, recurses := true, named := ["echelon/digest.factors"], apart := false, laid := [("echelon/digest.factors", laid_echelon_digest_factors)], narrowed := true }
def PickupGrowsUptoSaid : Prop := pickupGrowsUptoRow.holds Tryd.pinned (OpenSpec.upto pickupGrowsSpec)

/-- 'echelonlaw10.PickupHelps', WHERE WHAT IT READS IS OF BULK AT MOST 1048576: true; the input reads as it did. -/
def pickupHelpsUptoRow : OpenClaim := { program := "ytiglielcdlnpbaadoor", sum := "0de9107ce00f553edee480c54fd61872fb032fd36ce7374a1ef16d1af4297014", func := "echelon/echelonlaw10.PickupHelps", spec := "pickupHelps", unfollowed := true, recurses := true, named := ["echelon/digest.factors"], apart := false, laid := [("echelon/digest.factors", laid_echelon_digest_factors)], narrowed := true }
def PickupHelpsUptoSaid : Prop := pickupHelpsUptoRow.holds Tryd.pinned (OpenSpec.upto pickupHelpsSpec)

end Rows
end Go.Proofs.YtiglielcdlnpbaaDoor
