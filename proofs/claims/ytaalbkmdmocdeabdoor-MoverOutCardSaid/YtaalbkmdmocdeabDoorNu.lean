/- One that is out, in plain words: what it does, and when it is back. -/
import Derived.Test.YtaalbkmdmocdeabDoorNq

namespace Go.Proofs.YtaalbkmdmocdeabDoor.Np
open Pu Gp Ap Vp

/-- with Health 1, in play, without a shield -/
def oneM (m : Mv) : Mv := { m with ou := 0, sh := false, hl := 1 }
/-- the same, out for k frames more -/
def offM (m : Mv) (k : Int) : Mv := ⟨m.ax, m.ay, 0, 0, 0, 0, m.fc, 0, 0, false, 0, k, m.sd⟩
theorem one_hurt {m : Mv} (h : mayB (oneM m) = true) : hurM (oneM m) 1 = offM m 30 ∧ hurD (oneM m) 1 = true ∧ errH (oneM m) 1 = 0 := by
  have e : errH (oneM m) 1 = 0 := by unfold errH; rw [if_pos h, if_neg (by omega)]
  refine ⟨?_, ?_, e⟩
  · unfold hurM
    rw [if_pos e]
    rfl
  · unfold hurD
    rw [e]
    rfl
theorem off_may {m : Mv} (h : mayB (oneM m) = true) {k : Int} (h1 : 1 ≤ k) (h2 : k ≤ 30) : mayB (offM m k) = true := by
  obtain ⟨g1, g2, g3, g4, g5, g6, g7, g8, g9, g10, g11⟩ := mayB_iff.1 h
  refine mayB_iff.2 ⟨g1, ?_, ?_, g4, ?_, ?_, ?_, ⟨by show 0 ≤ k; omega, h2⟩, g9, ?_, fun _ => ⟨rfl, rfl, rfl, rfl, rfl, rfl, rfl, rfl⟩⟩
  · exact (show (-1024 : Int) ≤ 0 ∧ (0 : Int) ≤ 1024 ∧ (-1024 : Int) ≤ 0 ∧ (0 : Int) ≤ 1024 by decide)
  · exact (show (-256 : Int) ≤ 0 ∧ (0 : Int) ≤ 256 ∧ (-256 : Int) ≤ 0 ∧ (0 : Int) ≤ 256 by decide)
  · exact (show (0 : Int) ≤ 0 ∧ (0 : Int) ≤ 100 by decide)
  · exact (show (0 : Int) ≤ 0 ∧ (0 : Int) ≤ 100 by decide)
  · exact (show (0 : Int) ≤ 0 ∧ (0 : Int) ≤ 12 by decide)
  · intro e
    have : k = 0 := e
    omega
theorem off_act {m : Mv} {k : Int} (hm : mayB (offM m k) = true) (h1 : 1 ≤ k) (v a b c : Int) : actD (offM m k) v a b c = false ∧ errA (offM m k) v a b c = chkO v a b c ∧ (chkO v a b c = 0 → actM (offM m k) v a b c = offM m k) := by
  have hd : doneA (offM m k) v a = false := by
    unfold doneA
    rw [show ((offM m k).ou == 0) = false by show (k == 0) = false; simp; omega, Bool.false_and]
  have he : errA (offM m k) v a b c = chkO v a b c := by unfold errA; rw [if_pos hm]
  refine ⟨?_, he, fun hc => ?_⟩
  · unfold actD; rw [hd, Bool.and_false]
  · unfold actM; rw [he, if_pos hc, hd]; rfl
theorem off_gli {m : Mv} {k : Int} (hm : mayB (offM m k) = true) (h1 : 1 ≤ k) (sol : Int → Int → Bool) : gliM sol (offM m k) = offM m k ∧ chkM (offM m k) = 0 := by
  refine ⟨?_, by unfold chkM; rw [if_pos hm]⟩
  unfold gliM glideM
  rw [if_pos hm, if_neg (show ¬ (offM m k).ou = 0 by show ¬ k = 0; omega)]
theorem off_hur {m : Mv} {k : Int} (hm : mayB (offM m k) = true) (h1 : 1 ≤ k) : hurM (offM m k) 100 = offM m k ∧ hurD (offM m k) 100 = false ∧ errH (offM m k) 100 = 0 := by
  have e : errH (offM m k) 100 = 0 := by unfold errH; rw [if_pos hm, if_neg (by omega)]
  refine ⟨?_, ?_, e⟩
  · unfold hurM hurtM
    rw [if_pos e, if_neg (show ¬ (offM m k).ou = 0 by show ¬ k = 0; omega)]
  · unfold hurD went
    rw [show ((offM m k).ou == 0) = false by show (k == 0) = false; simp; omega, Bool.false_and, Bool.and_false]
/-- behind a rest: out for one frame less, or back -/
def nextM (m : Mv) (x y k : Int) : Mv := if k = 0 then { startM x y m.fc with sd := m.sd } else offM m k
theorem off_res {m : Mv} {k : Int} (hm : mayB (offM m k) = true) (h1 : 1 ≤ k) (x y : Int) : resM (offM m k) x y = nextM m x y (k - 1) ∧ resD (offM m k) = (k == 1) ∧ chkM (offM m k) = 0 := by
  refine ⟨?_, ?_, by unfold chkM; rw [if_pos hm]⟩
  · unfold resM restM nextM
    rw [if_pos hm]
    by_cases h : k = 1
    · rw [if_pos (show (offM m k).ou = 1 from h), if_pos (by omega)]
      rfl
    · rw [if_neg (show ¬ (offM m k).ou = 1 from h), if_pos (show 1 < (offM m k).ou by show 1 < k; omega), if_neg (by omega)]
      rfl
  · unfold resD; rw [hm, Bool.true_and]; rfl
end Go.Proofs.YtaalbkmdmocdeabDoor.Np
