/-
  No cell of these rows narrows 'for every input' (looked for: loops, veiled, ifaces, maps, wideKeys, modest, calm, conditions, laid).
  DERIVED. THE GIVEN ROWS OF THIS SEAT. 6 by the template 'for every input the law returns true; each argument reads behind the call as it read before'; 0 by the template 'total and deterministic' (their statements: YtnoaomocdmkigaaTotals.lean).
  GIVEN WITH THE SEED: the statements are not yours to turn. If you find one false, say at which input.
  Laid BY PROGRAM, IN A SANDBOX (cutbox-rows.mjs): the forced cells as the released guide's own fill.sh prints them over the translation 73ab74a58472b814… (all of the seat's roots in one cut). By AI agents, Wed Nov 11 2026. No macro, syntax, notation, axiom, sorry.
-/
import Derived.Test.YtnoaomocdmkigaaChecked
import GoSem.Claim
import GoSem.ClaimJoined
import GoSem.ClaimMapViews
import Derived.JoinedTies
import Derived.KernelRfl
namespace Go.Proofs.Ytnoaomocdmkigaa
/- THE CELL 'sum', in the pinned program and in every row, IS THE sha256 OF THE DUMP (.gsa) THAT YtnoaomocdmkigaaProg.lean LOADS. Nothing in Lean hashes anything: it is a label: what it is worth is what the hold of that sum in a sandbox is worth. -/
noncomputable def Try.pinned : Pinned := { name := "ytnoaomocdmkigaa", sum := "73ab74a58472b81425e0bb0b73890f9b1032e70f2756634fd42c2625d6affdbe", checked := Try.checked }
namespace Rows
def none {H : Type} : Left H := { results := [], args := [] }

/-- 'echelonlaw06.ArenaStandards': WHATEVER THE INPUT: true; the input reads as it did. -/
def arenaStandardsSpec : ChangeSpec := { name := "arenaStandards", fn := fun _ => fun
  | [d] => { results := [.lit (.bool true)], args := [d] }
  | _ => none }
def arenaStandardsRow : OpenClaim := { program := "ytnoaomocdmkigaa", sum := "73ab74a58472b81425e0bb0b73890f9b1032e70f2756634fd42c2625d6affdbe", func := "echelon/echelonlaw06.ArenaStandards", spec := "arenaStandards", inPlace := ["internal/bytealg.IndexByteString", "internal/bytealg.IndexString", "internal/abi.NoEscape", "internal/bytealg.CountString"], unfollowed := true, recurses := true, named := ["internal/bytealg.MaxLen"], apart := false }
def ArenaStandardsSaid : Prop := arenaStandardsRow.holds Try.pinned (OpenSpec.ofChange arenaStandardsSpec)

/-- ITS FALSE NEIGHBOUR: 'it returns false'. Refute it at one input. -/
def arenaStandardsWrong : ChangeSpec := { name := "arenaStandards", fn := fun _ => fun
  | [d] => { results := [.lit (.bool false)], args := [d] }
  | _ => none }
def ArenaStandardsWrongFalsely : Prop := arenaStandardsRow.holds Try.pinned (OpenSpec.ofChange arenaStandardsWrong)

/-- 'echelonlaw06.ArenaChecks': WHATEVER THE INPUT: true; the input reads as it did. -/
def arenaChecksSpec : ChangeSpec := { name := "arenaChecks", fn := fun _ => fun
  | [d] => { results := [.lit (.bool true)], args := [d] }
  | _ => none }
def arenaChecksRow : OpenClaim := { program := "ytnoaomocdmkigaa", sum := "73ab74a58472b81425e0bb0b73890f9b1032e70f2756634fd42c2625d6affdbe", func := "echelon/echelonlaw06.ArenaChecks", spec := "arenaChecks", inPlace := ["internal/bytealg.IndexByteString", "internal/bytealg.IndexString", "internal/abi.NoEscape", "internal/bytealg.CountString"], unfollowed := true, recurses := true, named := ["internal/bytealg.MaxLen"], apart := false }
def ArenaChecksSaid : Prop := arenaChecksRow.holds Try.pinned (OpenSpec.ofChange arenaChecksSpec)

/-- ITS FALSE NEIGHBOUR: 'it returns false'. Refute it at one input. -/
def arenaChecksWrong : ChangeSpec := { name := "arenaChecks", fn := fun _ => fun
  | [d] => { results := [.lit (.bool false)], args := [d] }
  | _ => none }
def ArenaChecksWrongFalsely : Prop := arenaChecksRow.holds Try.pinned (OpenSpec.ofChange arenaChecksWrong)

/-- 'echelonlaw06.ArenaReads': WHATEVER THE INPUT: true; the input reads as it did. -/
def arenaReadsSpec : ChangeSpec := { name := "arenaReads", fn := fun _ => fun
  | [d] => { results := [.lit (.bool true)], args := [d] }
  | _ => none }
def arenaReadsRow : OpenClaim := { program := "ytnoaomocdmkigaa", sum := "73ab74a58472b81425e0bb0b73890f9b1032e70f2756634fd42c2625d6affdbe", func := "echelon/echelonlaw06.ArenaReads", spec := "arenaReads", inPlace := ["internal/bytealg.IndexByteString", "internal/bytealg.IndexString", "internal/abi.NoEscape", "internal/bytealg.CountString"], unfollowed := true, recurses := true, named := ["internal/bytealg.MaxLen"], apart := false }
def ArenaReadsSaid : Prop := arenaReadsRow.holds Try.pinned (OpenSpec.ofChange arenaReadsSpec)

/-- ITS FALSE NEIGHBOUR: 'it returns false'. Refute it at one input. -/
def arenaReadsWrong : ChangeSpec := { name := "arenaReads", fn := fun _ => fun
  | [d] => { results := [.lit (.bool false)], args := [d] }
  | _ => none }
def ArenaReadsWrongFalsely : Prop := arenaReadsRow.holds Try.pinned (OpenSpec.ofChange arenaReadsWrong)

/-- 'echelonlaw06.ArenaCells': WHATEVER THE INPUT: true; the input reads as it did. -/
def arenaCellsSpec : ChangeSpec := { name := "arenaCells", fn := fun _ => fun
  | [d1, d2, d3, d4] => { results := [.lit (.bool true)], args := [d1, d2, d3, d4] }
  | _ => none }
def arenaCellsRow : OpenClaim := { program := "ytnoaomocdmkigaa", sum := "73ab74a58472b81425e0bb0b73890f9b1032e70f2756634fd42c2625d6affdbe", func := "echelon/echelonlaw06.ArenaCells", spec := "arenaCells", inPlace := ["internal/bytealg.IndexByteString", "internal/bytealg.IndexString", "internal/abi.NoEscape", "internal/bytealg.CountString"], unfollowed := true, recurses := true, named := ["internal/bytealg.MaxLen"], apart := false }
def ArenaCellsSaid : Prop := arenaCellsRow.holds Try.pinned (OpenSpec.ofChange arenaCellsSpec)

/-- ITS FALSE NEIGHBOUR: 'it returns false'. Refute it at one input. -/
def arenaCellsWrong : ChangeSpec := { name := "arenaCells", fn := fun _ => fun
  | [d1, d2, d3, d4] => { results := [.lit (.bool false)], args := [d1, d2, d3, d4] }
  | _ => none }
def ArenaCellsWrongFalsely : Prop := arenaCellsRow.holds Try.pinned (OpenSpec.ofChange arenaCellsWrong)

/-- 'echelonlaw06.ArenaSlides': WHATEVER THE INPUT: true; the input reads as it did. -/
def arenaSlidesSpec : ChangeSpec := { name := "arenaSlides", fn := fun _ => fun
  | [d1, d2, d3, d4] => { results := [.lit (.bool true)], args := [d1, d2, d3, d4] }
  | _ => none }
def arenaSlidesRow : OpenClaim := { program := "ytnoaomocdmkigaa", sum := "73ab74a58472b81425e0bb0b73890f9b1032e70f2756634fd42c2625d6affdbe", func := "echelon/echelonlaw06.ArenaSlides", spec := "arenaSlides", inPlace := ["internal/bytealg.IndexByteString", "internal/bytealg.IndexString", "internal/abi.NoEscape", "internal/bytealg.CountString"], unfollowed := true, recurses := true, named := ["internal/bytealg.MaxLen"], apart := false }
def ArenaSlidesSaid : Prop := arenaSlidesRow.holds Try.pinned (OpenSpec.ofChange arenaSlidesSpec)

/-- ITS FALSE NEIGHBOUR: 'it returns false'. Refute it at one input. -/
def arenaSlidesWrong : ChangeSpec := { name := "arenaSlides", fn := fun _ => fun
  | [d1, d2, d3, d4] => { results := [.lit (.bool false)], args := [d1, d2, d3, d4] }
  | _ => none }
def ArenaSlidesWrongFalsely : Prop := arenaSlidesRow.holds Try.pinned (OpenSpec.ofChange arenaSlidesWrong)

/-- 'echelonlaw06.ArenaRays': WHATEVER THE INPUT: true; the input reads as it did. -/
def arenaRaysSpec : ChangeSpec := { name := "arenaRays", fn := fun _ => fun
  | [d1, d2, d3] => { results := [.lit (.bool true)], args := [d1, d2, d3] }
  | _ => none }
def arenaRaysRow : OpenClaim := { program := "ytnoaomocdmkigaa", sum := "73ab74a58472b81425e0bb0b73890f9b1032e70f2756634fd42c2625d6affdbe", func := "echelon/echelonlaw06.ArenaRays", spec := "arenaRays", inPlace := ["internal/bytealg.IndexByteString", "internal/bytealg.IndexString", "internal/abi.NoEscape", "internal/bytealg.CountString"], unfollowed := true, recurses := true, named := ["internal/bytealg.MaxLen"], apart := false }
def ArenaRaysSaid : Prop := arenaRaysRow.holds Try.pinned (OpenSpec.ofChange arenaRaysSpec)

/-- ITS FALSE NEIGHBOUR: 'it returns false'. Refute it at one input. -/
def arenaRaysWrong : ChangeSpec := { name := "arenaRays", fn := fun _ => fun
  | [d1, d2, d3] => { results := [.lit (.bool false)], args := [d1, d2, d3] }
  | _ => none }
def ArenaRaysWrongFalsely : Prop := arenaRaysRow.holds Try.pinned (OpenSpec.ofChange arenaRaysWrong)

/- THE SECOND FORM. 'bulk': how many values and letters a reading holds, each counted each time it is reached (what is shared counts as often as it is met; a slice's spare places count too). A statement '..UptoSaid' is the law's where the arguments, and the package variables that the reading takes, are together of bulk at most 1048576: NARROWER than '..Said'. Prove '..Said' where nothing that the law and all that it calls make is longer than what came in: it says more and counts as full. Else prove '..UptoSaid'. A law counts once. -/
mutual
def uptoBulk {H : Type} : DataW H → Nat
  | .lit (.string bytes) => bytes.length + 1
  | .lit _ => 1
  | .nil => 1
  | .ptr d => uptoBulk d + 1
  | .slice elems spare => uptoBulkAll elems + uptoBulkAll spare + 1
  | .agg parts => uptoBulkAll parts + 1
  | .iface _ d => uptoBulk d + 1
  | .map entries => uptoBulkEntries entries + 1
  | .held _ => 1
def uptoBulkAll {H : Type} : List (DataW H) → Nat
  | [] => 0
  | d :: r => uptoBulk d + uptoBulkAll r
def uptoBulkEntries {H : Type} : List (Lit × DataW H) → Nat
  | [] => 0
  | x :: r => uptoBulkEntry x + uptoBulkEntries r
def uptoBulkEntry {H : Type} : Lit × DataW H → Nat
  | (.string bytes, d) => bytes.length + uptoBulk d + 1
  | (_, d) => uptoBulk d + 1
 end
def uptoSmall : (H : Type) → List (DataW H) → Bool := fun _ ds => decide (uptoBulkAll ds ≤ 1048576)
def OpenSpec.upto (s : _root_.Go.ChangeSpec) : _root_.Go.OpenSpec := { _root_.Go.OpenSpec.ofChange s with cond := some uptoSmall }

/-- 'echelonlaw06.ArenaStandards', WHERE WHAT IT READS IS OF BULK AT MOST 1048576: true; the input reads as it did. -/
def arenaStandardsUptoRow : OpenClaim := { program := "ytnoaomocdmkigaa", sum := "73ab74a58472b81425e0bb0b73890f9b1032e70f2756634fd42c2625d6affdbe", func := "echelon/echelonlaw06.ArenaStandards", spec := "arenaStandards", inPlace := ["internal/bytealg.IndexByteString", "internal/bytealg.IndexString", "internal/abi.NoEscape", "internal/bytealg.CountString"], unfollowed := true, recurses := true, named := ["internal/bytealg.MaxLen"], apart := false, narrowed := true }
def ArenaStandardsUptoSaid : Prop := arenaStandardsUptoRow.holds Try.pinned (OpenSpec.upto arenaStandardsSpec)

/-- 'echelonlaw06.ArenaChecks', WHERE WHAT IT READS IS OF BULK AT MOST 1048576: true; the input reads as it did. -/
def arenaChecksUptoRow : OpenClaim := { program := "ytnoaomocdmkigaa", sum := "73ab74a58472b81425e0bb0b73890f9b1032e70f2756634fd42c2625d6affdbe", func := "echelon/echelonlaw06.ArenaChecks", spec := "arenaChecks", inPlace := ["internal/bytealg.IndexByteString", "internal/bytealg.IndexString", "internal/abi.NoEscape", "internal/bytealg.CountString"], unfollowed := true, recurses := true, named := ["internal/bytealg.MaxLen"], apart := false, narrowed := true }
def ArenaChecksUptoSaid : Prop := arenaChecksUptoRow.holds Try.pinned (OpenSpec.upto arenaChecksSpec)

/-- 'echelonlaw06.ArenaReads', WHERE WHAT IT READS IS OF BULK AT MOST 1048576: true; the input reads as it did. -/
def arenaReadsUptoRow : OpenClaim := { program := "ytnoaomocdmkigaa", sum := "73ab74a58472b81425e0bb0b73890f9b1032e70f2756634fd42c2625d6affdbe", func := "echelon/echelonlaw06.ArenaReads", spec := "arenaReads", inPlace := ["internal/bytealg.IndexByteString", "internal/bytealg.IndexString", "internal/abi.NoEscape", "internal/bytealg.CountString"], unfollowed := true, recurses := true, named := ["internal/bytealg.MaxLen"], apart := false, narrowed := true }
def ArenaReadsUptoSaid : Prop := arenaReadsUptoRow.holds Try.pinned (OpenSpec.upto arenaReadsSpec)

/-- 'echelonlaw06.ArenaCells', WHERE WHAT IT READS IS OF BULK AT MOST 1048576: true; the input reads as it did. -/
def arenaCellsUptoRow : OpenClaim := { program := "ytnoaomocdmkigaa", sum := "73ab74a58472b81425e0bb0b73890f9b1032e70f2756634fd42c2625d6affdbe", func := "echelon/echelonlaw06.ArenaCells", spec := "arenaCells", inPlace := ["internal/bytealg.IndexByteString", "internal/bytealg.IndexString", "internal/abi.NoEscape", "internal/bytealg.CountString"], unfollowed := true, recurses := true, named := ["internal/bytealg.MaxLen"], apart := false, narrowed := true }
def ArenaCellsUptoSaid : Prop := arenaCellsUptoRow.holds Try.pinned (OpenSpec.upto arenaCellsSpec)

/-- 'echelonlaw06.ArenaSlides', WHERE WHAT IT READS IS OF BULK AT MOST 1048576: true; the input reads as it did. -/
def arenaSlidesUptoRow : OpenClaim := { program := "ytnoaomocdmkigaa", sum := "73ab74a58472b81425e0bb0b73890f9b1032e70f2756634fd42c2625d6affdbe", func := "echelon/echelonlaw06.ArenaSlides", spec := "arenaSlides", inPlace := ["internal/bytealg.IndexByteString", "internal/bytealg.IndexString", "internal/abi.NoEscape", "internal/bytealg.CountString"], unfollowed := true, recurses := true, named := ["internal/bytealg.MaxLen"], apart := false, narrowed := true }
def ArenaSlidesUptoSaid : Prop := arenaSlidesUptoRow.holds Try.pinned (OpenSpec.upto arenaSlidesSpec)

/-- 'echelonlaw06.ArenaRays', WHERE WHAT IT READS IS OF BULK AT MOST 1048576: true; the input reads as it did. -/
def arenaRaysUptoRow : OpenClaim := { program := "ytnoaomocdmkigaa", sum := "73ab74a58472b81425e0bb0b73890f9b1032e70f2756634fd42c2625d6affdbe", func := "echelon/echelonlaw06.ArenaRays", spec := "arenaRays", inPlace := ["internal/bytealg.IndexByteString", "internal/bytealg.IndexString", "internal/abi.NoEscape", "internal/bytealg.CountString"], unfollowed := true, recurses := true, named := ["internal/bytealg.MaxLen"], apart := false, narrowed := true }
def ArenaRaysUptoSaid : Prop := arenaRaysUptoRow.holds Try.pinned (OpenSpec.upto arenaRaysSpec)

end Rows
end Go.Proofs.Ytnoaomocdmkigaa
