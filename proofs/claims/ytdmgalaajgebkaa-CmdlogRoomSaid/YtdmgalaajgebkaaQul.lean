/- The program's Pop and Peek. -/
import Derived.Test.YtdmgalaajgebkaaQuk
namespace Go.Proofs.Ytdmgalaajgebkaa
open Go.RowKit
set_option maxRecDepth 100000

/-- what Pop does -/
def Pp (L M : List En) (x : En) (b : Bool) : Prop := Qu M ∧ ((L = [] ∧ M = [] ∧ x = zE ∧ b = false) ∨ (0 < L.length ∧ b = true ∧ x = att L 0 ∧ L.Perm (x :: M)))
theorem Qk.setE {w : World} {B p g : Nat} {v : Value} {L : List En} (h : Qk w B p v L) (hp : p ≠ g) (hv : v.ownBlock ≠ some g) (x : En) : Qk (setE w g x) B p v L :=
  h.keep (F := fun k => k = g) (setE_fr (Fr.refl _ w) g x (.inl rfl)) hp (fun k hk e => hv (by rw [← hk]; exact e))
theorem fun_un {L M : List En} {x : En} (hp : L.Perm (x :: M)) (h : Qu L) : Unl M := (List.pairwise_cons.1 (h.un.perm hp)).2
end Go.Proofs.Ytdmgalaajgebkaa
