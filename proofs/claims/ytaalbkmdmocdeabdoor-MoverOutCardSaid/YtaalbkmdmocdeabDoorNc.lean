/- The document's among, Start, May and Check. -/
import Derived.Test.YtaalbkmdmocdeabDoorNq
import Derived.Test.YtaalbkmdmocdeabDoorNt
import Derived.Test.YtaalbkmdmocdeabDoorRt
import Derived.Deep.DeepCutAuto
namespace Go.Proofs.YtaalbkmdmocdeabDoor
open Go.RowKit
open Pu Gp Ap Vp Np
set_option maxRecDepth 100000

/-- from l to h -/
def amg (n l h : Int) : Bool := decide (l ≤ n) && decide (n ≤ h)
theorem amg_iff {n l h : Int} : amg n l h = true ↔ l ≤ n ∧ n ≤ h := by unfold amg; simp
/-- the document's three parts, and its last test -/
def mA (m : Mv) : Bool := (bnd m.ax == m.ax && bnd m.ay == m.ay) && amg m.sx (-1024) 1024 && amg m.sy (-1024) 1024
def mB (m : Mv) : Bool := amg m.px (-256) 256 && amg m.py (-256) 256 && amg m.fc 0 15
def mC (m : Mv) : Bool := amg m.hl 0 100 && amg m.en 0 100 && amg m.co 0 12 && amg m.ou 0 30 && amg m.sd 0 255
def outN (m : Mv) : Mv := ⟨m.ax, m.ay, 0, 0, 0, 0, m.fc, 0, 0, false, 0, m.ou, m.sd⟩
def mD (m : Mv) : Bool := if m.ou = 0 then decide (1 ≤ m.hl) else eqM m (outN m)
theorem bnd_is {n : Int} : bnd n = n ↔ -2147483647 ≤ n ∧ n ≤ 2147483647 := by
  unfold bnd
  repeat' split
  all_goals omega
theorem may_parts (m : Mv) : mayB m = (mA m && mB m && mC m && mD m) := by
  rw [Bool.eq_iff_iff, mayB_iff]
  unfold mA mB mC mD May
  simp only [Bool.and_eq_true, beq_iff_eq, bnd_is, amg_iff]
  by_cases h0 : m.ou = 0
  · rw [if_pos h0, decide_eq_true_eq]
    constructor
    · rintro ⟨g1, g2, g3, g4, g5, g6, g7, g8, g9, g10, g11⟩
      have := g10 h0
      omega
    · intro h
      refine ⟨?_, ?_, ?_, ?_, ?_, ?_, ?_, ?_, ?_, ?_, fun h => absurd h0 h⟩ <;> omega
  · rw [if_neg h0, eqM_iff]
    constructor
    · rintro ⟨g1, g2, g3, g4, g5, g6, g7, g8, g9, g10, g11⟩
      obtain ⟨e1, e2, e3, e4, e5, e6, e7, e8⟩ := g11 h0
      refine ⟨by omega, ?_⟩
      cases m
      simp_all [outN]
    · rintro ⟨h, e⟩
      have e1 : m.sx = 0 := by rw [e]; rfl
      have e2 : m.sy = 0 := by rw [e]; rfl
      have e3 : m.px = 0 := by rw [e]; rfl
      have e4 : m.py = 0 := by rw [e]; rfl
      have e5 : m.hl = 0 := by rw [e]; rfl
      have e6 : m.en = 0 := by rw [e]; rfl
      have e7 : m.sh = false := by rw [e]; rfl
      have e8 : m.co = 0 := by rw [e]; rfl
      clear e
      refine ⟨?_, ?_, ?_, ?_, ?_, ?_, ?_, ?_, ?_, fun h => absurd h h0, fun _ => ⟨e1, e2, e3, e4, e5, e6, e7, e8⟩⟩ <;> omega
end Go.Proofs.YtaalbkmdmocdeabDoor
