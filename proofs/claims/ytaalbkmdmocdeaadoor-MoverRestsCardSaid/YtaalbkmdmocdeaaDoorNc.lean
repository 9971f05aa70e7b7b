/- The document's among, Start, May and Check. -/
import Derived.Test.YtaalbkmdmocdeaaDoorNq
import Derived.Test.YtaalbkmdmocdeaaDoorNt
import Derived.Test.YtaalbkmdmocdeaaDoorRt
import Derived.Deep.DeepCutAuto
namespace Go.Proofs.YtaalbkmdmocdeaaDoor
open Go.RowKit
open Pu Gp Ap Vp Np
set_option maxRecDepth 100000

/-- from l to h -/
def amg (n l h : Int) : Bool := decide (l ≤ n) && decide (n ≤ h)
theorem amg_iff {n l h : Int} : amg n l h = true ↔ l ≤ n ∧ n ≤ h := by unfold amg; simp
theorem among_any (n l h : Int) (w : World) : Calls Tryd.prog 55 #[.int .i64 n, .int .i64 l, .int .i64 h] w fun e w' => e = .returned (.bool (amg n l h)) ∧ w' = w := by
  unfold amg
  by_cases h1 : l ≤ n
  · have h1' : n ≥ l := h1
    go_enter Tryd.func55, Tryd.ntmps55
    go_wp2_with fail
    go_ret
    exact ⟨by simp [h1], rfl⟩
  · have h1' : ¬ n ≥ l := h1
    have e : decide (l ≤ n) = false := by simpa using h1
    rw [e]
    go_enter Tryd.func55, Tryd.ntmps55
    go_wp2_with fail
    go_ret
    exact ⟨rfl, rfl⟩
set_option maxHeartbeats 400000 in
theorem rstart_any (x y f : Int) (w : World) : Calls Tryd.prog 11 #[pt x y, .int .i64 f] w fun e w' => e = .returned (mv (startM x y f)) ∧ Still w w' := by
  have A0 := Still.alloc w (.cells #[.int .i64 x, .int .i64 y] 23)
  have A1 := Still.alloc (newP w x y) (.cells (mcs zM) 25)
  have p := (newP_pb w x y).still A1
  have q := newM_mb (newP w x y) zM
  rw [size_alloc] at q
  have HS0 := hid (A0.trans A1)
  clear A0 A1
  obtain ⟨c0, c1, cf⟩ := p.cells
  go_enter Tryd.func11, Tryd.ntmps11
  go_wp2_with fail
  refine (rgbound_any x y _).mono ?_
  rintro e w1 ⟨rfl, h1⟩
  have q1 := q.still h1
  have HS1 := hid (HS0.out.trans h1)
  clear h1 q p HS0 c0 c1 cf
  go_wp2_with fail
  refine (direction_any f _).mono ?_
  rintro e w2 ⟨he, hw⟩
  rw [he, hw]
  clear he hw w2
  obtain ⟨c0, c1, c2, c3, c4, c5, c6, c7, c8, c9, c10, c11, c12, cf⟩ := q1.cells
  go_wp2_with fail
  have q2 := q1.set (startM x y f)
  have HF := setM_fr HS1.out (w.heap.size + 1) (startM x y f) (.inr (by omega))
  simp only [startM] at q2 HF
  refine bodyPost_ret (q2.res rfl _ rfl) rfl ?_
  exact ⟨rfl, HF⟩
/-- the document's three parts, and its last test -/
def mA (m : Mv) : Bool := (bnd m.ax == m.ax && bnd m.ay == m.ay) && amg m.sx (-1024) 1024 && amg m.sy (-1024) 1024
def mB (m : Mv) : Bool := amg m.px (-256) 256 && amg m.py (-256) 256 && amg m.fc 0 15
def mC (m : Mv) : Bool := amg m.hl 0 100 && amg m.en 0 100 && amg m.co 0 12 && amg m.ou 0 30 && amg m.sd 0 255
def outN (m : Mv) : Mv := ⟨m.ax, m.ay, 0, 0, 0, 0, m.fc, 0, 0, false, 0, m.ou, m.sd⟩
def mD (m : Mv) : Bool := if m.ou = 0 then decide (1 ≤ m.hl) else eqM m (outN m)
theorem bnd_is {n : Int} : bnd n = n ↔ -2147483647 ≤ n ∧ n ≤ 2147483647 := by
  unfold bnd
  repeat' split
  all_goals omega
theorem may_parts (m : Mv) : mayB m = (mA m && mB m && mC m && mD m) := by
  rw [Bool.eq_iff_iff, mayB_iff]
  unfold mA mB mC mD May
  simp only [Bool.and_eq_true, beq_iff_eq, bnd_is, amg_iff]
  by_cases h0 : m.ou = 0
  · rw [if_pos h0, decide_eq_true_eq]
    constructor
    · rintro ⟨g1, g2, g3, g4, g5, g6, g7, g8, g9, g10, g11⟩
      have := g10 h0
      omega
    · intro h
      refine ⟨?_, ?_, ?_, ?_, ?_, ?_, ?_, ?_, ?_, ?_, fun h => absurd h0 h⟩ <;> omega
  · rw [if_neg h0, eqM_iff]
    constructor
    · rintro ⟨g1, g2, g3, g4, g5, g6, g7, g8, g9, g10, g11⟩
      obtain ⟨e1, e2, e3, e4, e5, e6, e7, e8⟩ := g11 h0
      refine ⟨by omega, ?_⟩
      cases m
      simp_all [outN]
    · rintro ⟨h, e⟩
      have e1 : m.sx = 0 := by rw [e]; rfl
      have e2 : m.sy = 0 := by rw [e]; rfl
      have e3 : m.px = 0 := by rw [e]; rfl
      have e4 : m.py = 0 := by rw [e]; rfl
      have e5 : m.hl = 0 := by rw [e]; rfl
      have e6 : m.en = 0 := by rw [e]; rfl
      have e7 : m.sh = false := by rw [e]; rfl
      have e8 : m.co = 0 := by rw [e]; rfl
      clear e
      refine ⟨?_, ?_, ?_, ?_, ?_, ?_, ?_, ?_, ?_, fun h => absurd h h0, fun _ => ⟨e1, e2, e3, e4, e5, e6, e7, e8⟩⟩ <;> omega
end Go.Proofs.YtaalbkmdmocdeaaDoor
