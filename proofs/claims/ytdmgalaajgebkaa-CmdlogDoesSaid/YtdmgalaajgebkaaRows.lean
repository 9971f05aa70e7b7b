/-
  No cell of these rows narrows 'for every input' (looked for: loops, veiled, ifaces, maps, wideKeys, modest, calm, conditions, laid).
  DERIVED. THE GIVEN ROWS OF THIS SEAT. 4 by the template 'for every input the law returns true; each argument reads behind the call as it read before'; 0 by the template 'total and deterministic' (their statements: YtdmgalaajgebkaaTotals.lean).
  GIVEN WITH THE SEED: the statements are not yours to turn. If you find one false, say at which input.
  Laid BY PROGRAM, IN A SANDBOX (cutbox-rows.mjs): the forced cells as the released guide's own fill.sh prints them over the translation 48bb0efeae119abc… (all of the seat's roots in one cut). By AI agents, Wed Nov 11 2026. No macro, syntax, notation, axiom, sorry.
-/
import Derived.Test.YtdmgalaajgebkaaChecked
import GoSem.Claim
import GoSem.ClaimJoined
import GoSem.ClaimMapViews
import Derived.JoinedTies
import Derived.KernelRfl
namespace Go.Proofs.Ytdmgalaajgebkaa
/- THE CELL 'sum', in the pinned program and in every row, IS THE sha256 OF THE DUMP (.gsa) THAT YtdmgalaajgebkaaProg.lean LOADS. Nothing in Lean hashes anything: it is a label: what it is worth is what the hold of that sum in a sandbox is worth. -/
noncomputable def Try.pinned : Pinned := { name := "ytdmgalaajgebkaa", sum := "48bb0efeae119abcb0ada9c63aaa0512dfcabe95c0c3a87c083a44ebd4e3953c", checked := Try.checked }
namespace Rows
def none {H : Type} : Left H := { results := [], args := [] }

/-- 'echelonlaw19.CmdlogDoes': WHATEVER THE INPUT: true; the input reads as it did. -/
def cmdlogDoesSpec : ChangeSpec := { name := "cmdlogDoes", fn := fun _ => fun
  | [d] => { results := [.lit (.bool true)], args := [d] }
  | _ => none }
def cmdlogDoesRow : OpenClaim := { program := "ytdmgalaajgebkaa", sum := "48bb0efeae119abcb0ada9c63aaa0512dfcabe95c0c3a87c083a44ebd4e3953c", func := "echelon/echelonlaw19.CmdlogDoes", spec := "cmdlogDoes", unfollowed := true, recurses := true, apart := false }
def CmdlogDoesSaid : Prop := cmdlogDoesRow.holds Try.pinned (OpenSpec.ofChange cmdlogDoesSpec)

/-- ITS FALSE NEIGHBOUR: 'it returns false'. Refute it at one input. -/
def cmdlogDoesWrong : ChangeSpec := { name := "cmdlogDoes", fn := fun _ => fun
  | [d] => { results := [.lit (.bool false)], args := [d] }
  | _ => none }
def CmdlogDoesWrongFalsely : Prop := cmdlogDoesRow.holds Try.pinned (OpenSpec.ofChange cmdlogDoesWrong)

/-- 'echelonlaw19.CmdlogNests': WHATEVER THE INPUT: true; the input reads as it did. -/
def cmdlogNestsSpec : ChangeSpec := { name := "cmdlogNests", fn := fun _ => fun
  | [d1, d2, d3] => { results := [.lit (.bool true)], args := [d1, d2, d3] }
  | _ => none }
def cmdlogNestsRow : OpenClaim := { program := "ytdmgalaajgebkaa", sum := "48bb0efeae119abcb0ada9c63aaa0512dfcabe95c0c3a87c083a44ebd4e3953c", func := "echelon/echelonlaw19.CmdlogNests", spec := "cmdlogNests", unfollowed := true, recurses := true, apart := false }
def CmdlogNestsSaid : Prop := cmdlogNestsRow.holds Try.pinned (OpenSpec.ofChange cmdlogNestsSpec)

/-- ITS FALSE NEIGHBOUR: 'it returns false'. Refute it at one input. -/
def cmdlogNestsWrong : ChangeSpec := { name := "cmdlogNests", fn := fun _ => fun
  | [d1, d2, d3] => { results := [.lit (.bool false)], args := [d1, d2, d3] }
  | _ => none }
def CmdlogNestsWrongFalsely : Prop := cmdlogNestsRow.holds Try.pinned (OpenSpec.ofChange cmdlogNestsWrong)

/-- 'echelonlaw19.CmdlogHeals': WHATEVER THE INPUT: true; the input reads as it did. -/
def cmdlogHealsSpec : ChangeSpec := { name := "cmdlogHeals", fn := fun _ => fun
  | [d1, d2, d3, d4] => { results := [.lit (.bool true)], args := [d1, d2, d3, d4] }
  | _ => none }
def cmdlogHealsRow : OpenClaim := { program := "ytdmgalaajgebkaa", sum := "48bb0efeae119abcb0ada9c63aaa0512dfcabe95c0c3a87c083a44ebd4e3953c", func := "echelon/echelonlaw19.CmdlogHeals", spec := "cmdlogHeals", unfollowed := true, recurses := true, apart := false }
def CmdlogHealsSaid : Prop := cmdlogHealsRow.holds Try.pinned (OpenSpec.ofChange cmdlogHealsSpec)

/-- ITS FALSE NEIGHBOUR: 'it returns false'. Refute it at one input. -/
def cmdlogHealsWrong : ChangeSpec := { name := "cmdlogHeals", fn := fun _ => fun
  | [d1, d2, d3, d4] => { results := [.lit (.bool false)], args := [d1, d2, d3, d4] }
  | _ => none }
def CmdlogHealsWrongFalsely : Prop := cmdlogHealsRow.holds Try.pinned (OpenSpec.ofChange cmdlogHealsWrong)

/-- 'echelonlaw19.CmdlogRoom': WHATEVER THE INPUT: true; the input reads as it did. -/
def cmdlogRoomSpec : ChangeSpec := { name := "cmdlogRoom", fn := fun _ => fun
  | [d1, d2, d3] => { results := [.lit (.bool true)], args := [d1, d2, d3] }
  | _ => none }
def cmdlogRoomRow : OpenClaim := { program := "ytdmgalaajgebkaa", sum := "48bb0efeae119abcb0ada9c63aaa0512dfcabe95c0c3a87c083a44ebd4e3953c", func := "echelon/echelonlaw19.CmdlogRoom", spec := "cmdlogRoom", unfollowed := true, recurses := true, apart := false }
def CmdlogRoomSaid : Prop := cmdlogRoomRow.holds Try.pinned (OpenSpec.ofChange cmdlogRoomSpec)

/-- ITS FALSE NEIGHBOUR: 'it returns false'. Refute it at one input. -/
def cmdlogRoomWrong : ChangeSpec := { name := "cmdlogRoom", fn := fun _ => fun
  | [d1, d2, d3] => { results := [.lit (.bool false)], args := [d1, d2, d3] }
  | _ => none }
def CmdlogRoomWrongFalsely : Prop := cmdlogRoomRow.holds Try.pinned (OpenSpec.ofChange cmdlogRoomWrong)

/- THE SECOND FORM. 'bulk': how many values and letters a reading holds, each counted each time it is reached (what is shared counts as often as it is met; a slice's spare places count too). A statement '..UptoSaid' is the law's where the arguments, and the package variables that the reading takes, are together of bulk at most 1048576: NARROWER than '..Said'. Prove '..Said' where nothing that the law and all that it calls make is longer than what came in: it says more and counts as full. Else prove '..UptoSaid'. A law counts once. -/
mutual
def uptoBulk {H : Type} : DataW H → Nat
  | .lit (.string bytes) => bytes.length + 1
  | .lit _ => 1
  | .nil => 1
  | .ptr d => uptoBulk d + 1
  | .slice elems spare => uptoBulkAll elems + uptoBulkAll spare + 1
  | .agg parts => uptoBulkAll parts + 1
  | .iface _ d => uptoBulk d + 1
  | .map entries => uptoBulkEntries entries + 1
  | .held _ => 1
def uptoBulkAll {H : Type} : List (DataW H) → Nat
  | [] => 0
  | d :: r => uptoBulk d + uptoBulkAll r
def uptoBulkEntries {H : Type} : List (Lit × DataW H) → Nat
  | [] => 0
  | x :: r => uptoBulkEntry x + uptoBulkEntries r
def uptoBulkEntry {H : Type} : Lit × DataW H → Nat
  | (.string bytes, d) => bytes.length + uptoBulk d + 1
  | (_, d) => uptoBulk d + 1
 end
def uptoSmall : (H : Type) → List (DataW H) → Bool := fun _ ds => decide (uptoBulkAll ds ≤ 1048576)
def OpenSpec.upto (s : _root_.Go.ChangeSpec) : _root_.Go.OpenSpec := { _root_.Go.OpenSpec.ofChange s with cond := some uptoSmall }

/-- 'echelonlaw19.CmdlogDoes', WHERE WHAT IT READS IS OF BULK AT MOST 1048576: true; the input reads as it did. -/
def cmdlogDoesUptoRow : OpenClaim := { program := "ytdmgalaajgebkaa", sum := "48bb0efeae119abcb0ada9c63aaa0512dfcabe95c0c3a87c083a44ebd4e3953c", func := "echelon/echelonlaw19.CmdlogDoes", spec := "cmdlogDoes", unfollowed := true, recurses := true, apart := false, narrowed := true }
def CmdlogDoesUptoSaid : Prop := cmdlogDoesUptoRow.holds Try.pinned (OpenSpec.upto cmdlogDoesSpec)

/-- 'echelonlaw19.CmdlogNests', WHERE WHAT IT READS IS OF BULK AT MOST 1048576: true; the input reads as it did. -/
def cmdlogNestsUptoRow : OpenClaim := { program := "ytdmgalaajgebkaa", sum := "48bb0efeae119abcb0ada9c63aaa0512dfcabe95c0c3a87c083a44ebd4e3953c", func := "echelon/echelonlaw19.CmdlogNests", spec := "cmdlogNests", unfollowed := true, recurses := true, apart := false, narrowed := true }
def CmdlogNestsUptoSaid : Prop := cmdlogNestsUptoRow.holds Try.pinned (OpenSpec.upto cmdlogNestsSpec)

/-- 'echelonlaw19.CmdlogHeals', WHERE WHAT IT READS IS OF BULK AT MOST 1048576: true; the input reads as it did. -/
def cmdlogHealsUptoRow : OpenClaim := { program := "ytdmgalaajgebkaa", sum := "48bb0efeae119abcb0ada9c63aaa0512dfcabe95c0c3a87c083a44ebd4e3953c", func := "echelon/echelonlaw19.CmdlogHeals", spec := "cmdlogHeals", unfollowed := true, recurses := true, apart := false, narrowed := true }
def CmdlogHealsUptoSaid : Prop := cmdlogHealsUptoRow.holds Try.pinned (OpenSpec.upto cmdlogHealsSpec)

/-- 'echelonlaw19.CmdlogRoom', WHERE WHAT IT READS IS OF BULK AT MOST 1048576: true; the input reads as it did. -/
def cmdlogRoomUptoRow : OpenClaim := { program := "ytdmgalaajgebkaa", sum := "48bb0efeae119abcb0ada9c63aaa0512dfcabe95c0c3a87c083a44ebd4e3953c", func := "echelon/echelonlaw19.CmdlogRoom", spec := "cmdlogRoom", unfollowed := true, recurses := true, apart := false, narrowed := true }
def CmdlogRoomUptoSaid : Prop := cmdlogRoomUptoRow.holds Try.pinned (OpenSpec.upto cmdlogRoomSpec)

end Rows
end Go.Proofs.Ytdmgalaajgebkaa
