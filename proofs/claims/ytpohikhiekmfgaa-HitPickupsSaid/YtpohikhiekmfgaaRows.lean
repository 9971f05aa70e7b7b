/-
  No cell of these rows narrows 'for every input' (looked for: loops, veiled, ifaces, maps, wideKeys, modest, calm, conditions, laid).
  DERIVED. THE GIVEN ROWS OF THIS SEAT. 5 by the template 'for every input the law returns true; each argument reads behind the call as it read before'; 0 by the template 'total and deterministic' (their statements: YtpohikhiekmfgaaTotals.lean).
  GIVEN WITH THE SEED: the statements are not yours to turn. If you find one false, say at which input.
  Laid BY PROGRAM, IN A SANDBOX (cutbox-rows.mjs): the forced cells as the released guide's own fill.sh prints them over the translation 6b317926696fff2a… (all of the seat's roots in one cut). By AI agents, Wed Nov 11 2026. No macro, syntax, notation, axiom, sorry.
-/
import Derived.Test.YtpohikhiekmfgaaChecked
import GoSem.Claim
import GoSem.ClaimJoined
import GoSem.ClaimMapViews
import Derived.JoinedTies
import Derived.KernelRfl
namespace Go.Proofs.Ytpohikhiekmfgaa
/- THE CELL 'sum', in the pinned program and in every row, IS THE sha256 OF THE DUMP (.gsa) THAT YtpohikhiekmfgaaProg.lean LOADS. Nothing in Lean hashes anything: it is a label: what it is worth is what the hold of that sum in a sandbox is worth. -/
noncomputable def Try.pinned : Pinned := { name := "ytpohikhiekmfgaa", sum := "6b317926696fff2a7a73c30b537e7a5cb9aa57a531d43f0b4058d064b636512f", checked := Try.checked }
namespace Rows
def none {H : Type} : Left H := { results := [], args := [] }

/-- 'echelonlaw11.HitBodies': WHATEVER THE INPUT: true; the input reads as it did. -/
def hitBodiesSpec : ChangeSpec := { name := "hitBodies", fn := fun _ => fun
  | [d] => { results := [.lit (.bool true)], args := [d] }
  | _ => none }
def hitBodiesRow : OpenClaim := { program := "ytpohikhiekmfgaa", sum := "6b317926696fff2a7a73c30b537e7a5cb9aa57a531d43f0b4058d064b636512f", func := "echelon/echelonlaw11.HitBodies", spec := "hitBodies", unfollowed := true, recurses := true, apart := false }
def HitBodiesSaid : Prop := hitBodiesRow.holds Try.pinned (OpenSpec.ofChange hitBodiesSpec)

/-- ITS FALSE NEIGHBOUR: 'it returns false'. Refute it at one input. -/
def hitBodiesWrong : ChangeSpec := { name := "hitBodies", fn := fun _ => fun
  | [d] => { results := [.lit (.bool false)], args := [d] }
  | _ => none }
def HitBodiesWrongFalsely : Prop := hitBodiesRow.holds Try.pinned (OpenSpec.ofChange hitBodiesWrong)

/-- 'echelonlaw11.HitShots': WHATEVER THE INPUT: true; the input reads as it did. -/
def hitShotsSpec : ChangeSpec := { name := "hitShots", fn := fun _ => fun
  | [d1, d2] => { results := [.lit (.bool true)], args := [d1, d2] }
  | _ => none }
def hitShotsRow : OpenClaim := { program := "ytpohikhiekmfgaa", sum := "6b317926696fff2a7a73c30b537e7a5cb9aa57a531d43f0b4058d064b636512f", func := "echelon/echelonlaw11.HitShots", spec := "hitShots", unfollowed := true, recurses := true, apart := false }
def HitShotsSaid : Prop := hitShotsRow.holds Try.pinned (OpenSpec.ofChange hitShotsSpec)

/-- ITS FALSE NEIGHBOUR: 'it returns false'. Refute it at one input. -/
def hitShotsWrong : ChangeSpec := { name := "hitShots", fn := fun _ => fun
  | [d1, d2] => { results := [.lit (.bool false)], args := [d1, d2] }
  | _ => none }
def HitShotsWrongFalsely : Prop := hitShotsRow.holds Try.pinned (OpenSpec.ofChange hitShotsWrong)

/-- 'echelonlaw11.HitPickups': WHATEVER THE INPUT: true; the input reads as it did. -/
def hitPickupsSpec : ChangeSpec := { name := "hitPickups", fn := fun _ => fun
  | [d1, d2, d3] => { results := [.lit (.bool true)], args := [d1, d2, d3] }
  | _ => none }
def hitPickupsRow : OpenClaim := { program := "ytpohikhiekmfgaa", sum := "6b317926696fff2a7a73c30b537e7a5cb9aa57a531d43f0b4058d064b636512f", func := "echelon/echelonlaw11.HitPickups", spec := "hitPickups", unfollowed := true, recurses := true, apart := false }
def HitPickupsSaid : Prop := hitPickupsRow.holds Try.pinned (OpenSpec.ofChange hitPickupsSpec)

/-- ITS FALSE NEIGHBOUR: 'it returns false'. Refute it at one input. -/
def hitPickupsWrong : ChangeSpec := { name := "hitPickups", fn := fun _ => fun
  | [d1, d2, d3] => { results := [.lit (.bool false)], args := [d1, d2, d3] }
  | _ => none }
def HitPickupsWrongFalsely : Prop := hitPickupsRow.holds Try.pinned (OpenSpec.ofChange hitPickupsWrong)

/-- 'echelonlaw11.HitOnce': WHATEVER THE INPUT: true; the input reads as it did. -/
def hitOnceSpec : ChangeSpec := { name := "hitOnce", fn := fun _ => fun
  | [d1, d2] => { results := [.lit (.bool true)], args := [d1, d2] }
  | _ => none }
def hitOnceRow : OpenClaim := { program := "ytpohikhiekmfgaa", sum := "6b317926696fff2a7a73c30b537e7a5cb9aa57a531d43f0b4058d064b636512f", func := "echelon/echelonlaw11.HitOnce", spec := "hitOnce", unfollowed := true, recurses := true, apart := false }
def HitOnceSaid : Prop := hitOnceRow.holds Try.pinned (OpenSpec.ofChange hitOnceSpec)

/-- ITS FALSE NEIGHBOUR: 'it returns false'. Refute it at one input. -/
def hitOnceWrong : ChangeSpec := { name := "hitOnce", fn := fun _ => fun
  | [d1, d2] => { results := [.lit (.bool false)], args := [d1, d2] }
  | _ => none }
def HitOnceWrongFalsely : Prop := hitOnceRow.holds Try.pinned (OpenSpec.ofChange hitOnceWrong)

/-- 'echelonlaw11.HitApart': WHATEVER THE INPUT: true; the input reads as it did. -/
def hitApartSpec : ChangeSpec := { name := "hitApart", fn := fun _ => fun
  | [d1, d2] => { results := [.lit (.bool true)], args := [d1, d2] }
  | _ => none }
def hitApartRow : OpenClaim := { program := "ytpohikhiekmfgaa", sum := "6b317926696fff2a7a73c30b537e7a5cb9aa57a531d43f0b4058d064b636512f", func := "echelon/echelonlaw11.HitApart", spec := "hitApart", unfollowed := true, recurses := true, apart := false }
def HitApartSaid : Prop := hitApartRow.holds Try.pinned (OpenSpec.ofChange hitApartSpec)

/-- ITS FALSE NEIGHBOUR: 'it returns false'. Refute it at one input. -/
def hitApartWrong : ChangeSpec := { name := "hitApart", fn := fun _ => fun
  | [d1, d2] => { results := [.lit (.bool false)], args := [d1, d2] }
  | _ => none }
def HitApartWrongFalsely : Prop := hitApartRow.holds Try.pinned (OpenSpec.ofChange hitApartWrong)

/- THE SECOND FORM. 'bulk': how many values and letters a reading holds, each counted each time it is reached (what is shared counts as often as it is met; a slice's spare places count too). A statement '..UptoSaid' is the law's where the arguments, and the package variables that the reading takes, are together of bulk at most 1048576: NARROWER than '..Said'. Prove '..Said' where nothing that the law and all that it calls make is longer than what came in: it says more and counts as full. Else prove '..UptoSaid'. A law counts once. -/
mutual
def uptoBulk {H : Type} : DataW H → Nat
  | .lit (.string bytes) => bytes.length + 1
  | .lit _ => 1
  | .nil => 1
  | .ptr d => uptoBulk d + 1
  | .slice elems spare => uptoBulkAll elems + uptoBulkAll spare + 1
  | .agg parts => uptoBulkAll parts + 1
  | .iface _ d => uptoBulk d + 1
  | .map entries => uptoBulkEntries entries + 1
  | .held _ => 1
def uptoBulkAll {H : Type} : List (DataW H) → Nat
  | [] => 0
  | d :: r => uptoBulk d + uptoBulkAll r
def uptoBulkEntries {H : Type} : List (Lit × DataW H) → Nat
  | [] => 0
  | x :: r => uptoBulkEntry x + uptoBulkEntries r
def uptoBulkEntry {H : Type} : Lit × DataW H → Nat
  | (.string bytes, d) => bytes.length + uptoBulk d + 1
  | (_, d) => uptoBulk d + 1
 end
def uptoSmall : (H : Type) → List (DataW H) → Bool := fun _ ds => decide (uptoBulkAll ds ≤ 1048576)
def OpenSpec.upto (s : _root_.Go.ChangeSpec) : _root_.Go.OpenSpec := { _root_.Go.OpenSpec.ofChange s with cond := some uptoSmall }

/-- 'echelonlaw11.HitBodies', WHERE WHAT IT READS IS OF BULK AT MOST 1048576: true; the input reads as it did. -/
def hitBodiesUptoRow : OpenClaim := { program := "ytpohikhiekmfgaa", sum := "6b317926696fff2a7a73c30b537e7a5cb9aa57a531d43f0b4058d064b636512f", func := "echelon/echelonlaw11.HitBodies", spec := "hitBodies", unfollowed := true, recurses := true, apart := false, narrowed := true }
def HitBodiesUptoSaid : Prop := hitBodiesUptoRow.holds Try.pinned (OpenSpec.upto hitBodiesSpec)

/-- 'echelonlaw11.HitShots', WHERE WHAT IT READS IS OF BULK AT MOST 1048576: true; the input reads as it did. -/
def hitShotsUptoRow : OpenClaim := { program := "ytpohikhiekmfgaa", sum := "6b317926696fff2a7a73c30b537e7a5cb9aa57a531d43f0b4058d064b636512f", func := "echelon/echelonlaw11.HitShots", spec := "hitShots", unfollowed := true, recurses := true, apart := false, narrowed := true }
def HitShotsUptoSaid : Prop := hitShotsUptoRow.holds Try.pinned (OpenSpec.upto hitShotsSpec)

/-- 'echelonlaw11.HitPickups', WHERE WHAT IT READS IS OF BULK AT MOST 1048576: true; the input reads as it did. -/
def hitPickupsUptoRow : OpenClaim := { program := "ytpohikhiekmfgaa", sum := "6b317926696fff2a7a73c30b537e7a5cb9aa57a531d43f0b4058d064b636512f", func := "echelon/echelonlaw11.HitPickups", spec := "hitPickups", unfollowed := true, recurses := true, apart := false, narrowed := true }
def HitPickupsUptoSaid : Prop := hitPickupsUptoRow.holds Try.pinned (OpenSpec.upto hitPickupsSpec)

/-- 'echelonlaw11.HitOnce', WHERE WHAT IT READS IS OF BULK AT MOST 1048576: true; the input reads as it did. -/
def hitOnceUptoRow : OpenClaim := { program := "ytpohikhiekmfgaa", sum := "6b317926696fff2a7a73c30b537e7a5cb9aa57a531d43f0b4058d064b636512f", func := "echelon/echelonlaw11.HitOnce", spec := "hitOnce", unfollowed := true, recurses := true, apart := false, narrowed := true }
def HitOnceUptoSaid : Prop := hitOnceUptoRow.holds Try.pinned (OpenSpec.upto hitOnceSpec)

/-- 'echelonlaw11.HitApart', WHERE WHAT IT READS IS OF BULK AT MOST 1048576: true; the input reads as it did. -/
def hitApartUptoRow : OpenClaim := { program := "ytpohikhiekmfgaa", sum := "6b317926696fff2a7a73c30b537e7a5cb9aa57a531d43f0b4058d064b636512f", func := "echelon/echelonlaw11.HitApart", spec := "hitApart", unfollowed := true, recurses := true, apart := false, narrowed := true }
def HitApartUptoSaid : Prop := hitApartUptoRow.holds Try.pinned (OpenSpec.upto hitApartSpec)

end Rows
end Go.Proofs.Ytpohikhiekmfgaa
