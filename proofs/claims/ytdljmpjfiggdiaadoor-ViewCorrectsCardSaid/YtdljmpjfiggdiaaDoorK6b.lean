/- How far a body comes on one axis: the document's answer. A body that slides: the document's answer. A ray: the document's answer. Plain facts on slides and rays: where a body comes, what stops it, two slides one behind the other. -/
import Derived.Test.YtdljmpjfiggdiaaDoorK6a
namespace Go.Proofs.YtdljmpjfiggdiaaDoor
open Go.RowKit
open Pu Gp Ap

theorem around_ok (x y r : Int) (h0 : 0 ≤ r) (h1 : r ≤ 4096) : okb (subf x r) (subf y r) (addf x r) (addf y r) = true := by
  refine okb_of ?_
  have er := bnd_id (n := r) (by omega) (by omega)
  unfold okB subf addf
  exact ⟨bnd_lo _, bnd_hi _, bnd_lo _, bnd_hi _, bnd_lo _, bnd_hi _, bnd_lo _, bnd_hi _, bnd_mono (by omega), bnd_mono (by omega)⟩
theorem setB_pb {w : World} {b g : Nat} {p q : Int} (h : Pb w b p q) (hb : b ≠ g) (x y z u : Int) : Pb (setB w g x y z u) b p q := by
  unfold Pb
  rw [heap_setCell_other _ _ _ _ hb, heap_setCell_other _ _ _ _ hb, heap_setCell_other _ _ _ _ hb, heap_setCell_other _ _ _ _ hb]
  exact h
/-- the cells of a body's box, and the box of those of the step ahead -/
def cl1 (x r : Int) : Int := dn (subf x r)
def cl2 (x r : Int) : Int := dn (addf x r)
theorem bdy_cells {sol : Int → Int → Bool} {r x y x' y' : Int} (h1 : cl1 x r = cl1 x' r) (h2 : cl1 y r = cl1 y' r) (h3 : cl2 x r = cl2 x' r) (h4 : cl2 y r = cl2 y' r) : bdy sol r x y = bdy sol r x' y' := by
  unfold bdy tch
  unfold cl1 cl2 at *
  rw [h1, h2, h3, h4]
/-- where a body is at the j-th step -/
def atS (x s : Int) (j : Nat) : Int := addf x (s * (j : Int))
def lastC (f : Nat → Int) (k : Nat) : Int := if k ≤ 1 then 0 else f (k - 1)
end Go.Proofs.YtdljmpjfiggdiaaDoor
namespace Go.Proofs.YtdljmpjfiggdiaaDoor
open Go.RowKit
open Pu Gp Ap

theorem sgn_in (n : Int) : -1 ≤ sgn n ∧ sgn n ≤ 1 := by
  unfold sgn
  repeat' split
  all_goals omega
theorem setP_size (w : World) (b : Nat) (x y : Int) : (setP w b x y).heap.size = w.heap.size := by simp [setP, World.setCell]
theorem setP_pb {w : World} {b g : Nat} {p q : Int} (h : Pb w b p q) (hb : b ≠ g) (x y : Int) : Pb (setP w g x y) b p q := by
  unfold Pb
  rw [heap_setCell_other _ _ _ _ hb, heap_setCell_other _ _ _ _ hb]
  exact h
theorem Pb.rest {fn : Func} {p q : Tmp} {w : World} {g : Nat} {x y : Int} (hb : Pb w g x y) (h : fn.results = #[.cell p 35, .tmp q]) (tmps : Array Value) (t : Value) (hp : tmps.getD p undef = .pointer (some ⟨g, 0, none⟩)) (hq : tmps.getD q undef = t) :
    (results fn tmps).run Tryd.prog w = .ok (.tuple #[pt x y, t]) w := by
  rw [results_cell_tmp h, hp, hq]
  simp [asAddr, Result.andThen, load_pt w g x y hb.cells.1 hb.cells.2.1]
/-- how far on X, how far on Y -/
def kX (sol : Int → Int → Bool) (r X Y p : Int) : Nat := go (fun j => bdy sol r (atS X (sgn p) j) (atS Y 0 j)) p.natAbs
def kY (sol : Int → Int → Bool) (r X Y q : Int) : Nat := go (fun j => bdy sol r (atS X 0 j) (atS Y (sgn q) j)) q.natAbs
def side (k n l m : Nat) : Int := (if k < n then 1 else 0) + (if l < m then 2 else 0)
theorem kX_le (sol : Int → Int → Bool) (r X Y p : Int) : kX sol r X Y p ≤ p.natAbs := go_le _ _
theorem kY_le (sol : Int → Int → Bool) (r X Y q : Int) : kY sol r X Y q ≤ q.natAbs := go_le _ _
theorem sgn_mul {s : Int} {k : Nat} (h0 : -1 ≤ s) (h1 : s ≤ 1) (hk : k ≤ 2048) : -2048 ≤ s * (k : Int) ∧ s * (k : Int) ≤ 2048 := by
  have : s = -1 ∨ s = 0 ∨ s = 1 := by omega
  rcases this with rfl | rfl | rfl <;> omega
theorem clamp_r (n : Int) : 0 ≤ clampf n 0 4096 ∧ clampf n 0 4096 ≤ 4096 := by
  have h1 : bnd 0 = 0 := by decide
  have h2 : bnd 4096 = 4096 := by decide
  unfold clampf
  rw [h1, h2]
  repeat' split
  all_goals omega
end Go.Proofs.YtdljmpjfiggdiaaDoor
namespace Go.Proofs.YtdljmpjfiggdiaaDoor
open Go.RowKit
open Pu Gp Ap

/-- where a ray is at its j-th step of n -/
def rp (X p : Int) (n j : Nat) : Int := if j = 0 then X else addf X ((p * (j : Int)).tdiv (n : Int))
def rayN (p q : Int) : Nat := (max p.natAbs q.natAbs + 63) / 64
def rayT (sol : Int → Int → Bool) (X Y p q : Int) (n j : Nat) : Bool := sol (dn (rp X p n j)) (dn (rp Y q n j))
theorem tdiv_in {v : Int} {n : Nat} (h0 : -67584 ≤ v) (h1 : v ≤ 67584) : -67584 ≤ v.tdiv (n : Int) ∧ v.tdiv (n : Int) ≤ 67584 := by
  rcases Int.le_total 0 v with h | h
  · rw [Int.tdiv_eq_ediv_of_nonneg h]
    have a : 0 ≤ v / (n : Int) := Int.ediv_nonneg h (by omega)
    have b : v / (n : Int) ≤ v := Int.ediv_le_self _ h
    omega
  · have e : v.tdiv (n : Int) = -((-v) / (n : Int)) := by
      rw [← Int.tdiv_eq_ediv_of_nonneg (show 0 ≤ -v by omega), Int.neg_tdiv]; omega
    have a : 0 ≤ (-v) / (n : Int) := Int.ediv_nonneg (by omega) (by omega)
    have b : (-v) / (n : Int) ≤ -v := Int.ediv_le_self _ (by omega)
    omega
theorem wrap_t {v : Int} (h0 : -67584 ≤ v) (h1 : v ≤ 67584) : IntKind.i64.wrap v = v := by rw [IntKind.wrap_i64]; omega
theorem step_mul {p : Int} {k : Nat} (h0 : -2048 ≤ p) (h1 : p ≤ 2048) (hk : k ≤ 33) : -67584 ≤ p * (k : Int) ∧ p * (k : Int) ≤ 67584 := by
  have : (p * (k : Int)).natAbs ≤ 2048 * 33 := by rw [Int.natAbs_mul]; exact Nat.mul_le_mul (by omega) (by omega)
  omega
end Go.Proofs.YtdljmpjfiggdiaaDoor
namespace Go.Proofs.YtdljmpjfiggdiaaDoor
open Pu Gp Ap

/-! ### Within the bounds -/
def inB2 (x : Int) : Prop := -2147483647 ≤ x ∧ x ≤ 2147483647
theorem addf_zero {x : Int} (h : inB2 x) : addf x 0 = x := by
  unfold addf
  rw [show bnd 0 = 0 by decide, bnd_id h.1 h.2, Int.add_zero, bnd_id h.1 h.2]
theorem addf_in (x y : Int) : inB2 (addf x y) := ⟨bnd_lo _, bnd_hi _⟩
theorem bnd_small {v : Int} (h0 : -67584 ≤ v) (h1 : v ≤ 67584) : bnd v = v := bnd_id (by omega) (by omega)
theorem addf_small {x v : Int} (h : inB2 x) (h0 : -67584 ≤ v) (h1 : v ≤ 67584) : addf x v = bnd (x + v) := by
  unfold addf
  rw [bnd_id h.1 h.2, bnd_small h0 h1]
/-- one step behind the other, the same way -/
theorem addf_more {x a b : Int} (h : inB2 x) (a0 : 0 ≤ a) (a1 : a ≤ 33792) (b0 : 0 ≤ b) (b1 : b ≤ 33792) : addf (addf x a) b = addf x (a + b) := by
  rw [addf_small (addf_in x a) (by omega) (by omega), addf_small h (by omega) (by omega), addf_small h (by omega) (by omega)]
  unfold bnd inB2 at *
  repeat' split
  all_goals omega
/-- between 0 and n -/
def wayP (m n : Int) : Prop := m = 0 ∨ (0 < n ∧ 0 < m ∧ m ≤ n) ∨ (n < 0 ∧ m < 0 ∧ n ≤ m)
theorem way_add {x v n : Int} (h : inB2 x) (h0 : -67584 ≤ v) (h1 : v ≤ 67584) (hw : wayP v n) : wayP (addf x v - x) n := by
  rw [addf_small h h0 h1]
  unfold wayP inB2 bnd at *
  repeat' split
  all_goals omega
theorem way_sgn {p : Int} {k : Nat} (hk : k ≤ p.natAbs) : wayP (sgn p * (k : Int)) p := by
  unfold wayP sgn
  repeat' split
  all_goals omega
theorem sgn_small {p : Int} {k : Nat} (h0 : -2048 ≤ p) (h1 : p ≤ 2048) (hk : k ≤ p.natAbs) : -2048 ≤ sgn p * (k : Int) ∧ sgn p * (k : Int) ≤ 2048 :=
  sgn_mul (sgn_in p).1 (sgn_in p).2 (by omega)
theorem sgn_full {p : Int} {k : Nat} (hk : k ≤ p.natAbs) : sgn p * (k : Int) = p ↔ k = p.natAbs := by
  unfold sgn
  repeat' split
  all_goals omega

/-! ### Where a body comes -/
section
variable {sol : Int → Int → Bool} {r X Y P Q : Int}
/-- it touches behind X no more than at first -/
theorem free_X (hX : inB2 X) (hY : inB2 Y) (h : bdy sol r X Y = false) : bdy sol r (addf X (sgn P * (kX sol r X Y P : Int))) Y = false := by
  by_cases hk : kX sol r X Y P = 0
  · rw [hk, show sgn P * ((0 : Nat) : Int) = 0 by omega, addf_zero hX]; exact h
  · have := go_free (fun j => bdy sol r (atS X (sgn P) j) (atS Y 0 j)) P.natAbs (kX sol r X Y P) (by omega) (Nat.le_refl _)
    unfold atS at this
    simp only [Int.zero_mul, addf_zero hY] at this
    exact this
theorem free_Y (hX : inB2 X) (hY : inB2 Y) (h : bdy sol r X Y = false) : bdy sol r X (addf Y (sgn Q * (kY sol r X Y Q : Int))) = false := by
  by_cases hk : kY sol r X Y Q = 0
  · rw [hk, show sgn Q * ((0 : Nat) : Int) = 0 by omega, addf_zero hY]; exact h
  · have := go_free (fun j => bdy sol r (atS X 0 j) (atS Y (sgn Q) j)) Q.natAbs (kY sol r X Y Q) (by omega) (Nat.le_refl _)
    unfold atS at this
    simp only [Int.zero_mul, addf_zero hX] at this
    exact this
end
theorem side_in (k n l m : Nat) : 0 ≤ side k n l m ∧ side k n l m ≤ 3 := by
  unfold side
  repeat' split
  all_goals omega
theorem side_zero {k n l m : Nat} (hk : k ≤ n) (hl : l ≤ m) : side k n l m = 0 ↔ k = n ∧ l = m := by
  unfold side
  repeat' split
  all_goals omega
/-- it came the whole way just if nothing stopped it (where no bound is met) -/
theorem whole_iff {X Y P Q : Int} {k l : Nat} (hX : inB2 X) (hY : inB2 Y) (p0 : -2048 ≤ P) (p1 : P ≤ 2048) (q0 : -2048 ≤ Q) (q1 : Q ≤ 2048) (hk : k ≤ P.natAbs) (hl : l ≤ Q.natAbs) (fX : inB2 (X + P)) (fY : inB2 (Y + Q)) :
    side k P.natAbs l Q.natAbs = 0 ↔ addf X (sgn P * (k : Int)) = X + P ∧ addf Y (sgn Q * (l : Int)) = Y + Q := by
  have sP := sgn_small p0 p1 hk
  have sQ := sgn_small q0 q1 hl
  have wP := way_sgn hk
  have wQ := way_sgn hl
  have eP := sgn_full hk
  have eQ := sgn_full hl
  rw [side_zero hk hl, addf_small hX (by omega) (by omega), addf_small hY (by omega) (by omega), ← eP, ← eQ]
  have bX : bnd (X + sgn P * (k : Int)) = X + sgn P * (k : Int) := bnd_id (by unfold wayP inB2 at *; omega) (by unfold wayP inB2 at *; omega)
  have bY : bnd (Y + sgn Q * (l : Int)) = Y + sgn Q * (l : Int) := bnd_id (by unfold wayP inB2 at *; omega) (by unfold wayP inB2 at *; omega)
  rw [bX, bY]
  omega

/-! ### Rays -/
theorem ray_way {p : Int} {n j : Nat} (p0 : -2048 ≤ p) (p1 : p ≤ 2048) (hj : j ≤ n) (hn : n ≤ 32) : wayP ((p * (j : Int)).tdiv (n : Int)) p ∧ -67584 ≤ (p * (j : Int)).tdiv (n : Int) ∧ (p * (j : Int)).tdiv (n : Int) ≤ 67584 := by
  have m := step_mul (k := j) p0 p1 (by omega)
  refine ⟨?_, tdiv_in m.1 m.2⟩
  by_cases hn0 : n = 0
  · subst hn0
    left; simp
  rcases Int.le_total 0 p with h | h
  · have h0 : 0 ≤ p * (j : Int) := Int.mul_nonneg h (by omega)
    rw [Int.tdiv_eq_ediv_of_nonneg h0]
    have a : 0 ≤ p * (j : Int) / (n : Int) := Int.ediv_nonneg h0 (by omega)
    have b : p * (j : Int) / (n : Int) ≤ p := by
      apply Int.ediv_le_of_le_mul (by omega)
      exact Int.mul_le_mul_of_nonneg_left (by omega) h
    unfold wayP; omega
  · have h0 : 0 ≤ -p * (j : Int) := Int.mul_nonneg (by omega) (by omega)
    have e : (p * (j : Int)).tdiv (n : Int) = -((-p * (j : Int)) / (n : Int)) := by
      rw [← Int.tdiv_eq_ediv_of_nonneg h0, Int.neg_mul, Int.neg_tdiv]; omega
    have a : 0 ≤ -p * (j : Int) / (n : Int) := Int.ediv_nonneg h0 (by omega)
    have b : -p * (j : Int) / (n : Int) ≤ -p := by
      apply Int.ediv_le_of_le_mul (by omega)
      exact Int.mul_le_mul_of_nonneg_left (by omega) (by omega)
    rw [e]; unfold wayP; omega
theorem rp_way {X p : Int} {n j : Nat} (hX : inB2 X) (p0 : -2048 ≤ p) (p1 : p ≤ 2048) (hj : j ≤ n) (hn : n ≤ 32) : wayP (rp X p n j - X) p := by
  unfold rp
  split
  · left; omega
  · obtain ⟨a, b, c⟩ := ray_way p0 p1 hj hn
    exact way_add hX b c a
theorem rp_end {X p : Int} {n : Nat} (hX : inB2 X) (h0 : n = 0 → p = 0) : rp X p n n = addf X p := by
  unfold rp
  split
  · rename_i h; rw [h0 h, addf_zero hX]
  · rename_i h
    rw [Int.mul_tdiv_cancel p (show (n : Int) ≠ 0 by omega)]
theorem ray_free {sol : Int → Int → Bool} {X Y p q : Int} {n : Nat} (h : sol (dn X) (dn Y) = false) :
    sol (dn (rp X p n (go (rayT sol X Y p q n) n))) (dn (rp Y q n (go (rayT sol X Y p q n) n))) = false := by
  by_cases hk : go (rayT sol X Y p q n) n = 0
  · rw [hk]; unfold rp; simp only [if_true]; exact h
  · exact go_free (rayT sol X Y p q n) n _ (by omega) (Nat.le_refl _)
theorem rayN_zero {p q : Int} (h : rayN p q = 0) : p = 0 ∧ q = 0 := by unfold rayN at h; omega
theorem rayN_le {p q : Int} (p0 : -2048 ≤ p) (p1 : p ≤ 2048) (q0 : -2048 ≤ q) (q1 : q ≤ 2048) : rayN p q ≤ 32 := by unfold rayN; omega

/-! ### Two slides, one behind the other, to the right -/
section
variable {sol : Int → Int → Bool} {r X Y : Int}
theorem atS_one {X : Int} (j : Nat) : atS X 1 j = addf X (j : Int) := by unfold atS; rw [Int.one_mul]
/-- how far to the right -/
def gR (sol : Int → Int → Bool) (r X Y : Int) (m : Nat) : Nat := go (fun j => bdy sol r (addf X (j : Int)) Y) m
theorem kX_right (hY : inB2 Y) (m : Nat) : kX sol r X Y (m : Int) = gR sol r X Y m := by
  unfold kX gR
  rw [show ((m : Nat) : Int).natAbs = m by omega]
  refine go_congr fun j h1 h2 => ?_
  have e1 : atS X (sgn (m : Int)) j = addf X (j : Int) := by
    have : sgn (m : Int) = 1 := by unfold sgn; rw [if_pos (by omega)]
    rw [this, atS_one]
  have e2 : atS Y 0 j = Y := by
    unfold atS
    rw [Int.zero_mul, addf_zero hY]
  rw [e1, e2]
theorem right_add (hX : inB2 X) {m n : Nat} (hm : m ≤ 1024) (hn : n ≤ 1024) (h : gR sol r X Y m = m) : gR sol r X Y (m + n) = m + gR sol r (addf X (m : Int)) Y n := by
  unfold gR at *
  rw [go_add h]
  have e : go (fun j => bdy sol r (addf X ((m + j : Nat) : Int)) Y) n = go (fun j => bdy sol r (addf (addf X (m : Int)) (j : Int)) Y) n := by
    refine go_congr fun j h1 h2 => ?_
    have e1 : addf (addf X (m : Int)) (j : Int) = addf X ((m + j : Nat) : Int) := by
      rw [addf_more hX (by omega) (by omega) (by omega) (by omega), Int.natCast_add]
    rw [e1]
  rw [e]
theorem right_less {m n : Nat} (hmn : m ≤ n) (h : gR sol r X Y m < m) : gR sol r X Y n = gR sol r X Y m := go_less hmn h
/-- what was stopped stays there -/
theorem right_stay (hX : inB2 X) {m : Nat} (hm : m ≤ 2048) (h : gR sol r X Y m < m) : gR sol r (addf X (gR sol r X Y m : Int)) Y 1 = 0 := by
  have hs := go_stop (fun j => bdy sol r (addf X (j : Int)) Y) m h
  have hle := go_le (fun j => bdy sol r (addf X (j : Int)) Y) m
  refine go_one (by omega) (fun j h1 h2 => by omega) (fun _ => ?_)
  show bdy sol r (addf (addf X (gR sol r X Y m : Int)) ((0 + 1 : Nat) : Int)) Y = true
  rw [addf_more hX (by omega) (by unfold gR; omega) (by omega) (by omega)]
  exact hs
end
end Go.Proofs.YtdljmpjfiggdiaaDoor
