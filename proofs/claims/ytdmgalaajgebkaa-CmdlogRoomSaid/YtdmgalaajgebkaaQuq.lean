/- The chapter's example. -/
import Derived.Test.YtdmgalaajgebkaaQup
namespace Go.Proofs.Ytdmgalaajgebkaa
open Go.RowKit
set_option maxRecDepth 100000

abbrev ka : En := ken 3 0 1
abbrev kb : En := ken 2 1 4
abbrev kd : En := ken 2 0 9
theorem aw_below {L O M : List En} (h : Cm L O M) (hp : L.Perm [ka, kb, kd]) (h1 : ∀ x ∈ O, x.fr ≤ 2) (h2 : ∀ y ∈ M, (2 : Int) < y.fr) : O = [kd, kb] ∧ M = [ka] := by
  obtain ⟨a, b⟩ := h.parts hp h1 h2
  have e1 : [ka, kb, kd].filter (fun x => decide (x.fr ≤ 2)) = [kb, kd] := by decide
  have e2 : [ka, kb, kd].filter (fun x => !decide (x.fr ≤ 2)) = [ka] := by decide
  rw [e1] at a
  rw [e2] at b
  refine ⟨srt_eq h.sr ?_ (a.trans (List.Perm.swap kd kb [])), List.perm_singleton.1 b⟩
  exact List.pairwise_cons.2 ⟨fun y hy => by rw [List.mem_singleton] at hy; subst hy; decide, List.pairwise_singleton _ _⟩
theorem aw_least {L : List En} (h : Qu L) (hp : L.Perm [ka, kb, kd]) : att L 0 = kd := by
  refine qu_is h hp (x := kd) (by simp) (fun y hy => ?_)
  simp at hy
  rcases hy with rfl | rfl | rfl <;> (unfold le; decide)
end Go.Proofs.Ytdmgalaajgebkaa
