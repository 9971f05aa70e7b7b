/- The program's Below. -/
import Derived.Test.YtdmgalaajgebkaaQul
namespace Go.Proofs.Ytdmgalaajgebkaa
open Go.RowKit
set_option maxRecDepth 100000

def Srt (L : List En) : Prop := L.Pairwise (fun x y => kc x y < 0)
/-- O has come out of L, in order; M is left -/
structure Cm (L O M : List En) : Prop where
  pm : L.Perm (O ++ M)
  sr : Srt O
  ah : ∀ x ∈ O, ∀ y ∈ M, kc x y < 0
theorem Cm.start (L : List En) : Cm L [] L := ⟨List.Perm.refl _, List.Pairwise.nil, fun x h => by cases h⟩
theorem Cm.step {L O M M' : List En} {x : En} (h : Cm L O M) (hp : M.Perm (x :: M')) (hx : ∀ y ∈ M', kc x y < 0) : Cm L (O ++ [x]) M' := by
  refine ⟨?_, ?_, ?_⟩
  · refine h.pm.trans ?_
    rw [List.append_assoc]
    exact List.Perm.append_left O hp
  · refine List.pairwise_append.2 ⟨h.sr, List.pairwise_singleton _ _, fun a ha b hb => ?_⟩
    rw [List.mem_singleton] at hb
    subst hb
    exact h.ah a ha b (hp.mem_iff.2 (List.mem_cons_self ..))
  · intro a ha y hy
    rcases List.mem_append.1 ha with h' | h'
    · exact h.ah a h' y (hp.mem_iff.2 (List.mem_cons_of_mem _ hy))
    · rw [List.mem_singleton] at h'
      subst h'
      exact hx y hy
/-- the length of a slice -/
def slN : Value → Nat
  | .slice _ n _ => n
  | _ => 0
theorem least_fr {M : List En} (h : Hp M M.length) {f : Int} (hf : f < (att M 0).fr) : ∀ y ∈ M, f < y.fr := by
  intro y hy
  obtain ⟨k, hk, e⟩ := List.getElem_of_mem hy
  have h1 := h.least k hk
  have e2 : att M k = y := by unfold att; rw [List.getD_eq_getElem?_getD, List.getElem?_eq_getElem hk, e]; rfl
  rw [e2] at h1
  unfold le at h1
  rw [kc_lt] at h1
  omega
end Go.Proofs.Ytdmgalaajgebkaa
