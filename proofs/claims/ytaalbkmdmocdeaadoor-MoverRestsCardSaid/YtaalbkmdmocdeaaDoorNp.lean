/- Movers in plain words: what may be, what orders, motion, harm and rest make of one. No function of the program is named here. -/
import Derived.Test.YtaalbkmdmocdeaaDoorAf
import Derived.Test.YtaalbkmdmocdeaaDoorVp

namespace Go.Proofs.YtaalbkmdmocdeaaDoor.Np
open Pu Gp Ap Vp

/-- a mover -/
structure Mv where
  ax : Int
  ay : Int
  sx : Int
  sy : Int
  px : Int
  py : Int
  fc : Int
  hl : Int
  en : Int
  sh : Bool
  co : Int
  ou : Int
  sd : Int

/-- it may be -/
def May (m : Mv) : Prop :=
  (-2147483647 ≤ m.ax ∧ m.ax ≤ 2147483647 ∧ -2147483647 ≤ m.ay ∧ m.ay ≤ 2147483647) ∧ (-1024 ≤ m.sx ∧ m.sx ≤ 1024 ∧ -1024 ≤ m.sy ∧ m.sy ≤ 1024) ∧ (-256 ≤ m.px ∧ m.px ≤ 256 ∧ -256 ≤ m.py ∧ m.py ≤ 256) ∧
  (0 ≤ m.fc ∧ m.fc ≤ 15) ∧ (0 ≤ m.hl ∧ m.hl ≤ 100) ∧ (0 ≤ m.en ∧ m.en ≤ 100) ∧ (0 ≤ m.co ∧ m.co ≤ 12) ∧ (0 ≤ m.ou ∧ m.ou ≤ 30) ∧ (0 ≤ m.sd ∧ m.sd ≤ 255) ∧
  (m.ou = 0 → 1 ≤ m.hl) ∧ (m.ou ≠ 0 → m.sx = 0 ∧ m.sy = 0 ∧ m.px = 0 ∧ m.py = 0 ∧ m.hl = 0 ∧ m.en = 0 ∧ m.sh = false ∧ m.co = 0)
def decMay (m : Mv) : Decidable (May m) := by unfold May; infer_instance
def mayB (m : Mv) : Bool := @decide (May m) (decMay m)
theorem mayB_iff {m : Mv} : mayB m = true ↔ May m := @decide_eq_true_iff (May m) (decMay m)
def zM : Mv := ⟨0, 0, 0, 0, 0, 0, 0, 0, 0, false, 0, 0, 0⟩
def startM (x y f : Int) : Mv := ⟨bnd x, bnd y, 0, 0, 0, 0, f % 16, 100, 50, false, 0, 0, 0⟩
def chkM (m : Mv) : Int := if mayB m then 0 else 80
/-- is the order done -/
def doneA (m : Mv) (v a : Int) : Bool := (m.ou == 0) && (if v = 4 then (m.co == 0) && decide (10 * a ≤ m.en) else if v = 5 then (a == 0) || decide (0 < m.en) else if v = 6 then decide (20 ≤ m.en) else true)
/-- what it makes -/
def deed (m : Mv) (v a b : Int) : Mv :=
  if v = 1 then { m with px := 32 * a, py := 32 * b } else if v = 2 then { m with px := 0, py := 0 } else if v = 3 then { m with fc := a } else if v = 4 then { m with en := m.en - 10 * a, co := 4 * a }
  else if v = 5 then { m with sh := a == 1 } else if v = 6 then { m with en := m.en - 20, sx := mulf (ux (a % 16).toNat) 1024, sy := mulf (uy (a % 16).toNat) 1024 } else { m with sd := a }
def errA (m : Mv) (v a b c : Int) : Int := if mayB m then chkO v a b c else 80
def actD (m : Mv) (v a b c : Int) : Bool := (errA m v a b c == 0) && doneA m v a
def actM (m : Mv) (v a b c : Int) : Mv := if errA m v a b c = 0 then (if doneA m v a then deed m v a b else m) else zM
/-- where a slide leads, and its sides -/
def sldX (sol : Int → Int → Bool) (x y p : Int) : Int := addf (bnd x) (sgn (stp p) * (kX sol 1280 (bnd x) (bnd y) (stp p) : Int))
def sldK (sol : Int → Int → Bool) (x y p q : Int) : Nat := kY sol 1280 (sldX sol x y p) (addf (bnd y) 0) (stp q)
def sldY (sol : Int → Int → Bool) (x y p q : Int) : Int := addf (addf (bnd y) 0) (sgn (stp q) * (sldK sol x y p q : Int))
def sldN (sol : Int → Int → Bool) (x y p q : Int) : Int := side (kX sol 1280 (bnd x) (bnd y) (stp p)) (stp p).natAbs (sldK sol x y p q) (stp q).natAbs
/-- a speed behind a frame -/
def spd (s p : Int) : Int := clampf ((s * 7).tdiv 8 + p) (-1024) 1024
def glideM (sol : Int → Int → Bool) (m : Mv) : Mv :=
  if m.ou = 0 then
    { m with ax := addf (sldX sol m.ax m.ay (spd m.sx m.px)) 0, ay := sldY sol m.ax m.ay (spd m.sx m.px) (spd m.sy m.py),
             sx := if sldN sol m.ax m.ay (spd m.sx m.px) (spd m.sy m.py) % 2 = 1 then -((spd m.sx m.px).tdiv 2) else spd m.sx m.px,
             sy := if 2 ≤ sldN sol m.ax m.ay (spd m.sx m.px) (spd m.sy m.py) then -((spd m.sy m.py).tdiv 2) else spd m.sy m.py }
  else m
def gliM (sol : Int → Int → Bool) (m : Mv) : Mv := if mayB m then glideM sol m else zM
/-- what a shield takes -/
def tak (m : Mv) (h : Int) : Int := if m.sh then min m.en h else 0
def outM (m : Mv) : Mv := ⟨m.ax, m.ay, 0, 0, 0, 0, m.fc, 0, 0, false, 0, 30, m.sd⟩
def went (m : Mv) (h : Int) : Bool := (m.ou == 0) && decide (m.hl - (h - tak m h) ≤ 0)
def errH (m : Mv) (h : Int) : Int := if mayB m then (if h < 1 ∨ 100 < h then 1 else 0) else 80
def hurtM (m : Mv) (h : Int) : Mv := if m.ou = 0 then (if m.hl - (h - tak m h) ≤ 0 then outM m else { m with en := m.en - tak m h, sh := m.sh && decide (0 < m.en - tak m h), hl := m.hl - (h - tak m h) }) else m
def hurM (m : Mv) (h : Int) : Mv := if errH m h = 0 then hurtM m h else zM
def hurD (m : Mv) (h : Int) : Bool := (errH m h == 0) && went m h
def restM (m : Mv) (x y : Int) : Mv :=
  if m.ou = 1 then { startM x y m.fc with sd := m.sd } else if 1 < m.ou then { m with ou := m.ou - 1 }
  else { m with co := if 0 < m.co then m.co - 1 else m.co, en := if m.sh then (if m.en - 2 ≤ 0 then 0 else m.en - 2) else if m.en < 100 then m.en + 1 else m.en, sh := m.sh && decide (0 < m.en - 2) }
def resM (m : Mv) (x y : Int) : Mv := if mayB m then restM m x y else zM
def resD (m : Mv) : Bool := mayB m && (m.ou == 1)
end Go.Proofs.YtaalbkmdmocdeaaDoor.Np
