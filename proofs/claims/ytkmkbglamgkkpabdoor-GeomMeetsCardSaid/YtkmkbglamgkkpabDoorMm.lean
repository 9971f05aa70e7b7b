/- GeomMeets: the plain facts. -/
import Derived.Test.YtkmkbglamgkkpabDoorAw
namespace Go.Proofs.YtkmkbglamgkkpabDoor
open Go.RowKit
open Pu Gp

theorem mt_in {a b c d x y : Int} : mt a b c d x y x y = true ↔ (okb a b c d = true ∧ a ≤ x ∧ x ≤ c ∧ b ≤ y ∧ y ≤ d) := by
  unfold mt
  constructor
  · intro h
    simp only [Bool.and_eq_true] at h
    obtain ⟨⟨h1, h2⟩, h3⟩ := h
    have k3 := okb_t h3
    unfold okB at k3
    exact ⟨h1, by omega, by omega, by omega, by omega⟩
  · rintro ⟨h1, h2, h3, h4, h5⟩
    have k1 := okb_t h1
    unfold okB at k1
    simp only [Bool.and_eq_true]
    exact ⟨⟨h1, okb_of (by unfold okB; omega)⟩, okb_of (by unfold okB; omega)⟩
theorem mt_comm (a b c d a' b' c' d' : Int) : mt a' b' c' d' a b c d = mt a b c d a' b' c' d' := by
  unfold mt
  rw [Int.max_comm a' a, Int.max_comm b' b, Int.min_comm c' c, Int.min_comm d' d, Bool.and_comm (okb a' b' c' d')]
theorem mt_self (a b c d : Int) : mt a b c d a b c d = okb a b c d := by
  unfold mt
  rw [Int.max_self, Int.max_self, Int.min_self, Int.min_self, Bool.and_self, Bool.and_self]
theorem mt_t {a b c d a' b' c' d' : Int} (h : mt a b c d a' b' c' d' = true) : okb a b c d = true ∧ okb a' b' c' d' = true ∧ okb (max a a') (max b b') (min c c') (min d d') = true := by
  unfold mt at h
  simp only [Bool.and_eq_true] at h
  exact ⟨h.1.1, h.1.2, h.2⟩
/-- a point is inside of what two boxes have in common just if it is inside of both -/
theorem in_both {a b c d a' b' c' d' x y : Int} (h : mt a b c d a' b' c' d' = true) :
    mt (max a a') (max b b') (min c c') (min d d') x y x y = (mt a b c d x y x y && mt a' b' c' d' x y x y) := by
  obtain ⟨h1, h2, h3⟩ := mt_t h
  apply Bool.eq_iff_iff.2
  rw [Bool.and_eq_true, mt_in, mt_in, mt_in]
  constructor
  · rintro ⟨_, k1, k2, k3, k4⟩
    exact ⟨⟨h1, by omega, by omega, by omega, by omega⟩, ⟨h2, by omega, by omega, by omega, by omega⟩⟩
  · rintro ⟨⟨_, k1, k2, k3, k4⟩, ⟨_, l1, l2, l3, l4⟩⟩
    exact ⟨h3, by omega, by omega, by omega, by omega⟩
theorem in_none {a b c d a' b' c' d' x y : Int} (h1 : mt a b c d x y x y = true) (h2 : mt a' b' c' d' x y x y = true) : mt a b c d a' b' c' d' = true := by
  obtain ⟨o1, k1, k2, k3, k4⟩ := mt_in.1 h1
  obtain ⟨o2, l1, l2, l3, l4⟩ := mt_in.1 h2
  have q1 := okb_t o1
  have q2 := okb_t o2
  unfold okB at q1 q2
  unfold mt
  rw [o1, o2, okb_of (by unfold okB; omega)]
  rfl
theorem around_has (x y r : Int) (h0 : 0 ≤ r) (h1 : r ≤ 2147483647) : mt (subf x r) (subf y r) (addf x r) (addf y r) (bnd x) (bnd y) (bnd x) (bnd y) = true := by
  have er := bnd_id (n := r) (by omega) h1
  have x0 := bnd_lo x; have x1 := bnd_hi x; have y0 := bnd_lo y; have y1 := bnd_hi y
  have m1 : subf x r ≤ bnd x := by have := bnd_mono (a := bnd x - bnd r) (b := bnd x) (by omega); rw [bnd_bnd] at this; exact this
  have m2 : subf y r ≤ bnd y := by have := bnd_mono (a := bnd y - bnd r) (b := bnd y) (by omega); rw [bnd_bnd] at this; exact this
  have m3 : bnd x ≤ addf x r := by have := bnd_mono (a := bnd x) (b := bnd x + bnd r) (by omega); rw [bnd_bnd] at this; exact this
  have m4 : bnd y ≤ addf y r := by have := bnd_mono (a := bnd y) (b := bnd y + bnd r) (by omega); rw [bnd_bnd] at this; exact this
  refine mt_in.2 ⟨okb_of ?_, m1, m3, m2, m4⟩
  unfold okB subf addf at *
  exact ⟨bnd_lo _, bnd_hi _, bnd_lo _, bnd_hi _, bnd_lo _, bnd_hi _, bnd_lo _, bnd_hi _, by omega, by omega⟩
theorem inside_is (a b c d x y : Int) {t : Bool} (h : mt a b c d x y x y = t) (w : World) : Calls Tryd.prog 7 #[bx a b c d, pt x y] w fun e w' => e = .returned (.bool t) ∧ Still w w' := by
  have := inside_any a b c d x y w
  rw [h] at this
  exact this
theorem overlap_is (a b c d a' b' c' d' : Int) {t : Bool} (h : mt a b c d a' b' c' d' = t) (w : World) : Calls Tryd.prog 9 #[bx a b c d, bx a' b' c' d'] w fun e w' => e = .returned (.bool t) ∧ Still w w' := by
  have := overlap_any a b c d a' b' c' d' w
  rw [h] at this
  exact this
/-- the four numbers that two boxes have in common, and whether they have any -/
theorem meet_is (a b c d a' b' c' d' : Int) {t : Bool} (h : mt a b c d a' b' c' d' = t) (w : World) : Calls Tryd.prog 6 #[bx a b c d, bx a' b' c' d'] w fun e w' => e = .returned (.tuple #[bx (mif t (max a a')) (mif t (max b b')) (mif t (min c c')) (mif t (min d d')), .bool t]) ∧ Still w w' := by
  have := meet_any a b c d a' b' c' d' w
  unfold mb at this
  rw [h] at this
  exact this
theorem meet_turned (a b c d a' b' c' d' : Int) {t : Bool} (h : mt a b c d a' b' c' d' = t) (w : World) : Calls Tryd.prog 6 #[bx a' b' c' d', bx a b c d] w fun e w' => e = .returned (.tuple #[bx (mif t (max a a')) (mif t (max b b')) (mif t (min c c')) (mif t (min d d')), .bool t]) ∧ Still w w' := by
  have := meet_is a' b' c' d' a b c d (t := t) (by rw [mt_comm]; exact h) w
  rw [Int.max_comm a' a, Int.max_comm b' b, Int.min_comm c' c, Int.min_comm d' d] at this
  exact this
theorem around_r (x y r : Int) (h0 : 0 ≤ r) (h1 : r ≤ 2147483647) (w : World) : Calls Tryd.prog 11 #[pt x y, .int .i64 r] w fun e w' => e = .returned (bx (subf x r) (subf y r) (addf x r) (addf y r)) ∧ Still w w' := by
  have h := around_any x y r w
  have e : clampf r 0 2147483647 = r := by
    unfold clampf
    rw [bnd_id (n := r) (by omega) h1, show bnd 0 = 0 by decide, show bnd 2147483647 = 2147483647 by decide]
    repeat' split
    all_goals omega
  rw [e] at h
  exact h
end Go.Proofs.YtkmkbglamgkkpabDoor
