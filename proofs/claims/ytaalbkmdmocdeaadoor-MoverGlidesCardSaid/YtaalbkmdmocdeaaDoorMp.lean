/- Plain facts on slides that skip: how far a body can go on till its edge ahead comes into other cells. No program is named here. -/
import Derived.Test.YtaalbkmdmocdeaaDoorAf
namespace Go.Proofs.YtaalbkmdmocdeaaDoor
open Pu Gp Ap

/-- a number held between two -/
def clp (n l m : Int) : Int := if n < l then l else if m < n then m else n
theorem clp_stp (n : Int) : clp n (-2048) 2048 = stp n := by
  have e1 : bnd (-2048) = -2048 := by decide
  have e2 : bnd 2048 = 2048 := by decide
  unfold clp stp clampf
  rw [e1, e2]
  unfold bnd
  repeat' split
  all_goals omega
theorem clp_r (n : Int) : clp n 0 4096 = clampf n 0 4096 := by
  have e1 : bnd 0 = 0 := by decide
  have e2 : bnd 4096 = 4096 := by decide
  unfold clp clampf
  rw [e1, e2]
  unfold bnd
  repeat' split
  all_goals omega
theorem bnd_lip {u d : Int} (h : 0 ≤ d) : bnd (u + d) ≤ bnd u + d := by
  unfold bnd
  repeat' split
  all_goals omega
theorem addf_step {x r : Int} {a d : Int} (hx : inB2 x) (a0 : -8192 ≤ a) (a1 : a ≤ 8192) (d0 : 0 ≤ d) (d1 : d ≤ 8192) (r0 : 0 ≤ r) (r1 : r ≤ 4096) :
    addf (addf x (a + d)) r ≤ addf (addf x a) r + d ∧ addf (addf x a) r ≤ addf (addf x (a + d)) r ∧ subf (addf x (a + d)) r ≤ subf (addf x a) r + d ∧ subf (addf x a) r ≤ subf (addf x (a + d)) r := by
  have e1 := addf_small (v := a) hx (by omega) (by omega)
  have e2 := addf_small (v := a + d) hx (by omega) (by omega)
  have m1 : bnd (x + a) ≤ bnd (x + (a + d)) := bnd_mono (by omega)
  have m2 : bnd (x + (a + d)) ≤ bnd (x + a) + d := by
    have := bnd_lip (u := x + a) d0
    rw [show x + (a + d) = x + a + d by omega]
    exact this
  have er := bnd_id (n := r) (by omega) (by omega)
  unfold addf subf at *
  rw [e1, e2, er]
  obtain ⟨u, eu⟩ : ∃ u, bnd (x + a) = u := ⟨_, rfl⟩
  obtain ⟨v, ev⟩ : ∃ v, bnd (x + (a + d)) = v := ⟨_, rfl⟩
  have bu := And.intro (bnd_lo (x + a)) (bnd_hi (x + a))
  have bv := And.intro (bnd_lo (x + (a + d))) (bnd_hi (x + (a + d)))
  rw [eu] at bu m1 m2 ⊢
  rw [ev] at bv m1 m2 ⊢
  clear eu ev e1 e2
  rw [bnd_id bu.1 bu.2, bnd_id bv.1 bv.2]
  have l1 := bnd_lip (u := u + r) d0
  have l2 := bnd_lip (u := u - r) d0
  have k1 : bnd (v + r) ≤ bnd (u + r + d) := bnd_mono (by omega)
  have k2 : bnd (u + r) ≤ bnd (v + r) := bnd_mono (by omega)
  have k3 : bnd (v - r) ≤ bnd (u - r + d) := bnd_mono (by omega)
  have k4 : bnd (u - r) ≤ bnd (v - r) := bnd_mono (by omega)
  omega
theorem bdy_on {sol : Int → Int → Bool} {r x y x' y' : Int} (h : bdy sol r x y = false) (h1 : dn (subf x r) ≤ dn (subf x' r)) (h2 : dn (subf y r) ≤ dn (subf y' r)) (h3 : dn (addf x' r) ≤ dn (addf x r)) (h4 : dn (addf y' r) ≤ dn (addf y r)) : bdy sol r x' y' = false :=
  anyC_false fun _ _ k1 k2 k3 k4 => anyC_not h (Int.le_trans h1 k1) (Int.le_trans k2 h3) (Int.le_trans h2 k3) (Int.le_trans k4 h4)
/-- one axis: to the right, to the left -/
theorem axis_right {x r : Int} {g d : Nat} (hx : inB2 x) (hg : g ≤ 2048) (r0 : 0 ≤ r) (r1 : r ≤ 4096) (hd : (d : Int) ≤ 4095 - addf (atS x 1 g) r % 4096) :
    dn (subf (atS x 1 g) r) ≤ dn (subf (atS x 1 (g + d)) r) ∧ dn (addf (atS x 1 (g + d)) r) ≤ dn (addf (atS x 1 g) r) := by
  simp only [atS_one] at hd ⊢
  have h := addf_step (x := x) (r := r) (a := (g : Int)) (d := (d : Int)) hx (by omega) (by omega) (by omega) (by omega) r0 r1
  rw [show ((g + d : Nat) : Int) = (g : Int) + (d : Int) by omega]
  obtain ⟨h1, h2, h3, h4⟩ := h
  unfold dn
  omega
theorem atS_neg {x : Int} (j : Nat) : atS x (-1) j = addf x (-(j : Int)) := by unfold atS; rw [show (-1 : Int) * (j : Int) = -(j : Int) by omega]
theorem axis_left {x r : Int} {g d : Nat} (hx : inB2 x) (hg : g ≤ 2048) (r0 : 0 ≤ r) (r1 : r ≤ 4096) (hd : (d : Int) ≤ subf (atS x (-1) g) r % 4096) :
    dn (subf (atS x (-1) g) r) ≤ dn (subf (atS x (-1) (g + d)) r) ∧ dn (addf (atS x (-1) (g + d)) r) ≤ dn (addf (atS x (-1) g) r) := by
  simp only [atS_neg] at hd ⊢
  have h := addf_step (x := x) (r := r) (a := -((g : Int) + (d : Int))) (d := (d : Int)) hx (by omega) (by omega) (by omega) (by omega) r0 r1
  rw [show -((g : Int) + (d : Int)) + (d : Int) = -(g : Int) by omega] at h
  rw [show -((g + d : Nat) : Int) = -((g : Int) + (d : Int)) by omega]
  obtain ⟨h1, h2, h3, h4⟩ := h
  unfold dn
  omega
theorem atS_zero {x : Int} (hx : inB2 x) (j : Nat) : atS x 0 j = x := by unfold atS; rw [Int.zero_mul, addf_zero hx]
/-- what spare answers of a box and a way -/
def spv (a b c d p q : Int) : Int := if 0 < p then 4095 - c % 4096 else if p < 0 then a % 4096 else if 0 < q then 4095 - d % 4096 else b % 4096
theorem spv_in (a b c d p q : Int) : 0 ≤ spv a b c d p q ∧ spv a b c d p q ≤ 4095 := by
  unfold spv
  repeat' split
  all_goals omega
/-- does a body touch at the j-th step of a way -/
def slT (sol : Int → Int → Bool) (r x y p q : Int) (j : Nat) : Bool := bdy sol r (atS x (sgn p) j) (atS y (sgn q) j)
theorem spare_ok {sol : Int → Int → Bool} {r x y p q : Int} {g d : Nat} (hx : inB2 x) (hy : inB2 y) (r0 : 0 ≤ r) (r1 : r ≤ 4096) (hg : g ≤ 2048) (hpq : p = 0 ∨ q = 0) (hn : p ≠ 0 ∨ q ≠ 0) (h : slT sol r x y p q g = false)
    (hd : (d : Int) ≤ spv (subf (atS x (sgn p) g) r) (subf (atS y (sgn q) g) r) (addf (atS x (sgn p) g) r) (addf (atS y (sgn q) g) r) p q) : slT sol r x y p q (g + d) = false := by
  unfold slT at *
  unfold spv at hd
  by_cases p1 : 0 < p
  · rw [if_pos p1] at hd
    have ep : sgn p = 1 := by unfold sgn; rw [if_pos p1]
    have eq : sgn q = 0 := by unfold sgn; rw [if_neg (by omega), if_neg (by omega)]
    simp only [ep, eq, atS_zero hy] at h hd ⊢
    have k := axis_right hx hg r0 r1 hd
    exact bdy_on h k.1 (Int.le_refl _) k.2 (Int.le_refl _)
  rw [if_neg p1] at hd
  by_cases p2 : p < 0
  · rw [if_pos p2] at hd
    have ep : sgn p = -1 := by unfold sgn; rw [if_neg p1, if_pos p2]
    have eq : sgn q = 0 := by unfold sgn; rw [if_neg (by omega), if_neg (by omega)]
    simp only [ep, eq, atS_zero hy] at h hd ⊢
    have k := axis_left hx hg r0 r1 hd
    exact bdy_on h k.1 (Int.le_refl _) k.2 (Int.le_refl _)
  rw [if_neg p2] at hd
  have ep : sgn p = 0 := by unfold sgn; rw [if_neg p1, if_neg p2]
  by_cases q1 : 0 < q
  · rw [if_pos q1] at hd
    have eq : sgn q = 1 := by unfold sgn; rw [if_pos q1]
    simp only [ep, eq, atS_zero hx] at h hd ⊢
    have k := axis_right hy hg r0 r1 hd
    exact bdy_on h (Int.le_refl _) k.1 (Int.le_refl _) k.2
  rw [if_neg q1] at hd
  have eq : sgn q = -1 := by unfold sgn; rw [if_neg q1, if_pos (by omega)]
  simp only [ep, eq, atS_zero hx] at h hd ⊢
  have k := axis_left hy hg r0 r1 hd
  exact bdy_on h (Int.le_refl _) k.1 (Int.le_refl _) k.2
/-- a part of a way on one axis -/
theorem part_sgn {p : Int} {n j : Nat} (hn : p = 0 ∨ n = p.natAbs) (hn1 : 1 ≤ n) : (p * (j : Int)).tdiv (n : Int) = sgn p * (j : Int) := by
  rcases hn with rfl | rfl
  · simp [sgn]
  · have e : p = sgn p * (p.natAbs : Int) := by unfold sgn; repeat' split
                                                all_goals omega
    have e2 : p * (j : Int) = sgn p * (j : Int) * (p.natAbs : Int) := by
      rw [Int.mul_assoc, Int.mul_comm (j : Int), ← Int.mul_assoc, ← e]
    rw [e2, Int.mul_tdiv_cancel _ (by omega)]
end Go.Proofs.YtaalbkmdmocdeaaDoor
