/- Walls: the program's cellAt, Touches. Plain facts on slides that skip: how far a body can go on till its edge ahead comes into other cells. No program is named here. The program's clamp, step, size, part, spare. The program's slideOn. The program's Slide and Ray. -/
import Derived.Test.YtmbllkkoanjghaaDoorK6a
import Derived.WalkMore
import Derived.Test.YtmbllkkoanjghaaDoorK6b
namespace Go.Proofs.YtmbllkkoanjghaaDoor
open Go.RowKit
open Pu Gp Ap

set_option maxHeartbeats 1000000 in
theorem cellAt_any (x y : Int) (x0 : -2147483647 ≤ x) (x1 : x ≤ 2147483647) (y0 : -2147483647 ≤ y) (y1 : y ≤ 2147483647) (w : World) :
    Calls Tryd.prog 55 #[pt x y] w fun e w' => e = .returned (.tuple #[.int .i64 (dn x), .int .i64 (dn y)]) ∧ Still w w' := by
  have p := newP_pb w x y
  have e1 := dn_tdiv x
  have e2 := dn_tdiv y
  have b1 := dn_bd x0 x1
  have b2 := dn_bd y0 y1
  obtain ⟨b10, b11⟩ := b1
  obtain ⟨b20, b21⟩ := b2
  have m1 : 0 ≤ x % 4096 := by omega
  have m2 : x % 4096 < 4096 := by omega
  have m3 : 0 ≤ y % 4096 := by omega
  have m4 : y % 4096 < 4096 := by omega
  have c0 := Cl.cell p.cells.1
  have c1 := Cl.cell p.cells.2.1
  have hne := Aft.here (newP w x y)
  go_enter Tryd.func55, Tryd.ntmps55
  go_wp2_with fail
  refine region_all (by kernel_rfl) (by kernel_rfl) ?_
  repeat (go_big_quiet_step ((go_at_call 71; exact Calls.cl_same (incell_any _ _))))
  refine wpQuiet_nil ?_
  intro w3 h3
  go_wp2_with fail
  go_ret2
  exact ⟨rfl, (Still.alloc w _).trans h3⟩
theorem tou_no (C R a b c d : Int) (s : ByteArray) (h : okb a b c d = false) (w : World) : Calls Tryd.prog 36 #[ar C R s, bx a b c d] w fun e w' => e = .returned (.bool false) ∧ Still w w' := by
  go_enter Tryd.func36, Tryd.ntmps36
  go_wp2_with fail
  go_step3
  go_wp2_with fail
  refine (check_no a b c d h _).mono ?_
  rintro e w1 ⟨rfl, h1⟩
  go_wp2_with fail
  rw [Exit.noGoto_ret]
  go_ret
  exact ⟨rfl, ((Still.alloc w _).trans (Still.alloc _ _)).trans h1⟩
set_option maxHeartbeats 2000000 in
theorem tou_in (C R a b c d : Int) (s : ByteArray) (hz : s.size ≤ 281474976710656) (h : okb a b c d = true) (w : World) :
    Calls Tryd.prog 36 #[ar C R s, bx a b c d] w fun e w' => e = .returned (.bool (tch (solB C R s) a b c d)) ∧ Still w w' := by
  have k := okb_t h
  unfold okB at k
  obtain ⟨k0, k1, k2, k3, k4, k5, k6, k7, k8, k9⟩ := k
  have p := (newA_ab w C R s).still (Still.alloc (newA w C R s) (.cells #[.int .i64 a, .int .i64 b, .int .i64 c, .int .i64 d] 63))
  have q := newB_bb (newA w C R s) a b c d
  simp only [size_alloc] at q
  have HS0 := hid ((Still.alloc w (.cells #[.int .i64 C, .int .i64 R, .string s] 37)).trans (Still.alloc (newA w C R s) (.cells #[.int .i64 a, .int .i64 b, .int .i64 c, .int .i64 d] 63)))
  have H := hid h
  have lr := dn_mono k8
  have tb := dn_mono k9
  have bc := (dn_bd k4 k5).2
  have bd := (dn_bd k6 k7).2
  have bl := (dn_bd k0 k1).1
  have bt := (dn_bd k2 k3).1
  obtain ⟨T, eT⟩ : ∃ T, T = tch (solB C R s) a b c d := ⟨_, rfl⟩
  have HT := hid (show T = anyC (solB C R s) (dn a) (dn b) (dn c) (dn d) from eT)
  rw [← eT]
  clear h eT
  go_enter Tryd.func36, Tryd.ntmps36
  go_wp2_with fail
  go_step3
  go_wp2_with fail
  refine (check_yes a b c d H.out _).mono ?_
  rintro e w1 ⟨rfl, h1⟩
  have p1 := p.still h1
  have q1 := q.still h1
  have HS1 := hid (HS0.out.trans h1)
  clear p q HS0 h1 H
  obtain ⟨d0, d1, d2, d3, df⟩ := q1.cells
  go_wp2_with fail
  refine (cellAt_any a b (by omega) (by omega) (by omega) (by omega) _).mono ?_
  rintro e w2 ⟨rfl, h2⟩
  have p2 := p1.still h2
  have q2 := q1.still h2
  have HS2 := hid (HS1.out.trans h2)
  clear p1 q1 HS1 h2 d0 d1 d2 d3 df
  obtain ⟨d0, d1, d2, d3, df⟩ := q2.cells
  go_wp2_with fail
  refine (cellAt_any c d (by omega) (by omega) (by omega) (by omega) _).mono ?_
  rintro e w3 ⟨rfl, h3⟩
  have p3 := p2.still h3
  have HS3 := hid (HS2.out.trans h3)
  clear p2 q2 HS2 h3 d0 d1 d2 d3 df
  clear k0 k1 k2 k3 k4 k5 k6 k7 k8 k9
  obtain ⟨l, el⟩ : ∃ l, dn a = l := ⟨_, rfl⟩
  obtain ⟨t, et⟩ : ∃ t, dn b = t := ⟨_, rfl⟩
  obtain ⟨r, er⟩ : ∃ r, dn c = r := ⟨_, rfl⟩
  obtain ⟨u, eu⟩ : ∃ u, dn d = u := ⟨_, rfl⟩
  rw [el] at lr bl HT ⊢
  rw [et] at tb bt HT ⊢
  rw [er] at lr bc HT ⊢
  rw [eu] at tb bd HT ⊢
  clear el et er eu
  go_wp2_with fail
  go_step3
  go_wp2_with fail
  go_loopw [9, 10] (fun v9 vj wr => ∃ j : Int, v9 = .bool false ∧ t ≤ j ∧ j ≤ u + 1 ∧ vj = .int .i64 j ∧ (∀ i' j', l ≤ i' → i' ≤ r → t ≤ j' → j' < j → solB C R s i' j' = false) ∧ Still w3 wr) (fun _ vj _ => (u + 1 - intOf vj).toNat)
  case atStart => exact ⟨t, rfl, by omega, by omega, rfl, fun i' j' _ _ h1 h2 => by omega, Fr.refl _ _⟩
  case round =>
    obtain ⟨j, rfl, hj1, hj2, rfl, hfree, hs⟩ := hrel
    have HF := hid hfree
    have HS := hid hs
    have p2 := p3.still hs
    clear hfree hs
    by_cases hlt : j ≤ u
    · obtain ⟨c0, c1, c2, cf⟩ := p2.cells
      go_wp2_with fail
      go_loopw [9, 11] (fun v9 vi wt => ∃ i : Int, v9 = .bool false ∧ l ≤ i ∧ i ≤ r + 1 ∧ vi = .int .i64 i ∧ (∀ i', l ≤ i' → i' < i → solB C R s i' j = false) ∧ Still wr wt) (fun _ vi _ => (r + 1 - intOf vi).toNat)
      case atStart => exact ⟨l, rfl, by omega, by omega, rfl, fun i' h1 h2 => by omega, Fr.refl _ _⟩
      case round =>
        obtain ⟨i, rfl, hi1, hi2, rfl, hfr, hs2⟩ := hrel
        have HF2 := hid hfr
        have HS2 := hid hs2
        obtain ⟨g0, g1, g2, gf⟩ := (p2.still hs2).cells
        clear hfr hs2 c0 c1 c2 cf
        by_cases hil : i ≤ r
        · go_wp2_with fail
          cases hsol : solB C R s i j with
          | true =>
            refine (solid_is C R i j s hz hsol _).mono ?_
            rintro e w4 ⟨rfl, h4⟩
            have HE := hid (show true = T by rw [HT.out]; exact (anyC_iff.2 ⟨i, j, hi1, hil, hj1, hlt, hsol⟩).symm)
            have HS4 := hid (((HS3.out.trans HS.out).trans HS2.out).trans h4)
            clear hsol h4 g0 g1 g2 gf
            go_wp2_with fail
            rw [Exit.noGoto_ret]
            go_ret
            exact ⟨ret_bool HE.out, HS4.out⟩
          | false =>
            refine (solid_is C R i j s hz hsol _).mono ?_
            rintro e w4 ⟨rfl, h4⟩
            have HS4 := hid (HS2.out.trans h4)
            have HN := hid hsol
            clear hsol h4 g0 g1 g2 gf
            go_wp2_with fail
            go_roundw
            case rel => exact ⟨i + 1, rfl, by omega, by omega, by go_num, fun i' h1 h2 => by
                by_cases e : i' = i
                · subst e; exact HN.out
                · exact HF2.out i' h1 (by omega), HS4.out⟩
            case measure => simp [intOf]; omega
        · have hi : i = r + 1 := by omega
          clear g0 g1 g2 gf
          go_wp2_with fail
          go_roundw
          case rel => exact ⟨j + 1, rfl, by omega, by omega, by go_num, fun i' j' h1 h2 h3 h4 => by
              by_cases e : j' = j
              · subst e; exact HF2.out i' h1 (by omega)
              · exact HF.out i' j' h1 h2 h3 (by omega), HS.out.trans HS2.out⟩
          case measure => simp [intOf]; omega
    · have HE := hid (show false = T by rw [HT.out]; exact (anyC_false fun i' j' h1 h2 h3 h4 => HF.out i' j' h1 h2 h3 (by omega)).symm)
      clear p2
      go_wp2_with fail
      first | rw [Exit.noGoto_ret] | skip
      go_ret
      exact ⟨ret_bool HE.out, HS3.out.trans HS.out⟩
theorem touches_any (C R a b c d : Int) (s : ByteArray) (hz : s.size ≤ 281474976710656) (w : World) :
    Calls Tryd.prog 36 #[ar C R s, bx a b c d] w fun e w' => e = .returned (.bool (touB C R s a b c d)) ∧ Still w w' := by
  unfold touB
  cases h : okb a b c d with
  | false => exact tou_no C R a b c d s h w
  | true =>
    rw [Bool.true_and]
    exact tou_in C R a b c d s hz h w
theorem touched (C R x y r : Int) (s : ByteArray) (hz : s.size ≤ 281474976710656) (hok : okb (subf x r) (subf y r) (addf x r) (addf y r) = true) {t : Bool} (h : bdy (solB C R s) r x y = t) (w : World) :
    Calls Tryd.prog 36 #[ar C R s, bx (subf x r) (subf y r) (addf x r) (addf y r)] w fun e w' => e = .returned (.bool t) ∧ Still w w' := by
  have k := tou_in C R (subf x r) (subf y r) (addf x r) (addf y r) s hz hok w
  rw [← h]
  exact k
end Go.Proofs.YtmbllkkoanjghaaDoor
namespace Go.Proofs.YtmbllkkoanjghaaDoor
open Pu Gp Ap

/-- a number held between two -/
def clp (n l m : Int) : Int := if n < l then l else if m < n then m else n
theorem clp_stp (n : Int) : clp n (-2048) 2048 = stp n := by
  have e1 : bnd (-2048) = -2048 := by decide
  have e2 : bnd 2048 = 2048 := by decide
  unfold clp stp clampf
  rw [e1, e2]
  unfold bnd
  repeat' split
  all_goals omega
theorem clp_r (n : Int) : clp n 0 4096 = clampf n 0 4096 := by
  have e1 : bnd 0 = 0 := by decide
  have e2 : bnd 4096 = 4096 := by decide
  unfold clp clampf
  rw [e1, e2]
  unfold bnd
  repeat' split
  all_goals omega
theorem bnd_lip {u d : Int} (h : 0 ≤ d) : bnd (u + d) ≤ bnd u + d := by
  unfold bnd
  repeat' split
  all_goals omega
theorem addf_step {x r : Int} {a d : Int} (hx : inB2 x) (a0 : -8192 ≤ a) (a1 : a ≤ 8192) (d0 : 0 ≤ d) (d1 : d ≤ 8192) (r0 : 0 ≤ r) (r1 : r ≤ 4096) :
    addf (addf x (a + d)) r ≤ addf (addf x a) r + d ∧ addf (addf x a) r ≤ addf (addf x (a + d)) r ∧ subf (addf x (a + d)) r ≤ subf (addf x a) r + d ∧ subf (addf x a) r ≤ subf (addf x (a + d)) r := by
  have e1 := addf_small (v := a) hx (by omega) (by omega)
  have e2 := addf_small (v := a + d) hx (by omega) (by omega)
  have m1 : bnd (x + a) ≤ bnd (x + (a + d)) := bnd_mono (by omega)
  have m2 : bnd (x + (a + d)) ≤ bnd (x + a) + d := by
    have := bnd_lip (u := x + a) d0
    rw [show x + (a + d) = x + a + d by omega]
    exact this
  have er := bnd_id (n := r) (by omega) (by omega)
  unfold addf subf at *
  rw [e1, e2, er]
  obtain ⟨u, eu⟩ : ∃ u, bnd (x + a) = u := ⟨_, rfl⟩
  obtain ⟨v, ev⟩ : ∃ v, bnd (x + (a + d)) = v := ⟨_, rfl⟩
  have bu := And.intro (bnd_lo (x + a)) (bnd_hi (x + a))
  have bv := And.intro (bnd_lo (x + (a + d))) (bnd_hi (x + (a + d)))
  rw [eu] at bu m1 m2 ⊢
  rw [ev] at bv m1 m2 ⊢
  clear eu ev e1 e2
  rw [bnd_id bu.1 bu.2, bnd_id bv.1 bv.2]
  have l1 := bnd_lip (u := u + r) d0
  have l2 := bnd_lip (u := u - r) d0
  have k1 : bnd (v + r) ≤ bnd (u + r + d) := bnd_mono (by omega)
  have k2 : bnd (u + r) ≤ bnd (v + r) := bnd_mono (by omega)
  have k3 : bnd (v - r) ≤ bnd (u - r + d) := bnd_mono (by omega)
  have k4 : bnd (u - r) ≤ bnd (v - r) := bnd_mono (by omega)
  omega
theorem bdy_on {sol : Int → Int → Bool} {r x y x' y' : Int} (h : bdy sol r x y = false) (h1 : dn (subf x r) ≤ dn (subf x' r)) (h2 : dn (subf y r) ≤ dn (subf y' r)) (h3 : dn (addf x' r) ≤ dn (addf x r)) (h4 : dn (addf y' r) ≤ dn (addf y r)) : bdy sol r x' y' = false :=
  anyC_false fun _ _ k1 k2 k3 k4 => anyC_not h (Int.le_trans h1 k1) (Int.le_trans k2 h3) (Int.le_trans h2 k3) (Int.le_trans k4 h4)
/-- one axis: to the right, to the left -/
theorem axis_right {x r : Int} {g d : Nat} (hx : inB2 x) (hg : g ≤ 2048) (r0 : 0 ≤ r) (r1 : r ≤ 4096) (hd : (d : Int) ≤ 4095 - addf (atS x 1 g) r % 4096) :
    dn (subf (atS x 1 g) r) ≤ dn (subf (atS x 1 (g + d)) r) ∧ dn (addf (atS x 1 (g + d)) r) ≤ dn (addf (atS x 1 g) r) := by
  simp only [atS_one] at hd ⊢
  have h := addf_step (x := x) (r := r) (a := (g : Int)) (d := (d : Int)) hx (by omega) (by omega) (by omega) (by omega) r0 r1
  rw [show ((g + d : Nat) : Int) = (g : Int) + (d : Int) by omega]
  obtain ⟨h1, h2, h3, h4⟩ := h
  unfold dn
  omega
theorem atS_neg {x : Int} (j : Nat) : atS x (-1) j = addf x (-(j : Int)) := by unfold atS; rw [show (-1 : Int) * (j : Int) = -(j : Int) by omega]
theorem axis_left {x r : Int} {g d : Nat} (hx : inB2 x) (hg : g ≤ 2048) (r0 : 0 ≤ r) (r1 : r ≤ 4096) (hd : (d : Int) ≤ subf (atS x (-1) g) r % 4096) :
    dn (subf (atS x (-1) g) r) ≤ dn (subf (atS x (-1) (g + d)) r) ∧ dn (addf (atS x (-1) (g + d)) r) ≤ dn (addf (atS x (-1) g) r) := by
  simp only [atS_neg] at hd ⊢
  have h := addf_step (x := x) (r := r) (a := -((g : Int) + (d : Int))) (d := (d : Int)) hx (by omega) (by omega) (by omega) (by omega) r0 r1
  rw [show -((g : Int) + (d : Int)) + (d : Int) = -(g : Int) by omega] at h
  rw [show -((g + d : Nat) : Int) = -((g : Int) + (d : Int)) by omega]
  obtain ⟨h1, h2, h3, h4⟩ := h
  unfold dn
  omega
theorem atS_zero {x : Int} (hx : inB2 x) (j : Nat) : atS x 0 j = x := by unfold atS; rw [Int.zero_mul, addf_zero hx]
/-- what spare answers of a box and a way -/
def spv (a b c d p q : Int) : Int := if 0 < p then 4095 - c % 4096 else if p < 0 then a % 4096 else if 0 < q then 4095 - d % 4096 else b % 4096
theorem spv_in (a b c d p q : Int) : 0 ≤ spv a b c d p q ∧ spv a b c d p q ≤ 4095 := by
  unfold spv
  repeat' split
  all_goals omega
/-- does a body touch at the j-th step of a way -/
def slT (sol : Int → Int → Bool) (r x y p q : Int) (j : Nat) : Bool := bdy sol r (atS x (sgn p) j) (atS y (sgn q) j)
theorem spare_ok {sol : Int → Int → Bool} {r x y p q : Int} {g d : Nat} (hx : inB2 x) (hy : inB2 y) (r0 : 0 ≤ r) (r1 : r ≤ 4096) (hg : g ≤ 2048) (hpq : p = 0 ∨ q = 0) (hn : p ≠ 0 ∨ q ≠ 0) (h : slT sol r x y p q g = false)
    (hd : (d : Int) ≤ spv (subf (atS x (sgn p) g) r) (subf (atS y (sgn q) g) r) (addf (atS x (sgn p) g) r) (addf (atS y (sgn q) g) r) p q) : slT sol r x y p q (g + d) = false := by
  unfold slT at *
  unfold spv at hd
  by_cases p1 : 0 < p
  · rw [if_pos p1] at hd
    have ep : sgn p = 1 := by unfold sgn; rw [if_pos p1]
    have eq : sgn q = 0 := by unfold sgn; rw [if_neg (by omega), if_neg (by omega)]
    simp only [ep, eq, atS_zero hy] at h hd ⊢
    have k := axis_right hx hg r0 r1 hd
    exact bdy_on h k.1 (Int.le_refl _) k.2 (Int.le_refl _)
  rw [if_neg p1] at hd
  by_cases p2 : p < 0
  · rw [if_pos p2] at hd
    have ep : sgn p = -1 := by unfold sgn; rw [if_neg p1, if_pos p2]
    have eq : sgn q = 0 := by unfold sgn; rw [if_neg (by omega), if_neg (by omega)]
    simp only [ep, eq, atS_zero hy] at h hd ⊢
    have k := axis_left hx hg r0 r1 hd
    exact bdy_on h k.1 (Int.le_refl _) k.2 (Int.le_refl _)
  rw [if_neg p2] at hd
  have ep : sgn p = 0 := by unfold sgn; rw [if_neg p1, if_neg p2]
  by_cases q1 : 0 < q
  · rw [if_pos q1] at hd
    have eq : sgn q = 1 := by unfold sgn; rw [if_pos q1]
    simp only [ep, eq, atS_zero hx] at h hd ⊢
    have k := axis_right hy hg r0 r1 hd
    exact bdy_on h (Int.le_refl _) k.1 (Int.le_refl _) k.2
  rw [if_neg q1] at hd
  have eq : sgn q = -1 := by unfold sgn; rw [if_neg q1, if_pos (by omega)]
  simp only [ep, eq, atS_zero hx] at h hd ⊢
  have k := axis_left hy hg r0 r1 hd
  exact bdy_on h (Int.le_refl _) k.1 (Int.le_refl _) k.2
/-- a part of a way on one axis -/
theorem part_sgn {p : Int} {n j : Nat} (hn : p = 0 ∨ n = p.natAbs) (hn1 : 1 ≤ n) : (p * (j : Int)).tdiv (n : Int) = sgn p * (j : Int) := by
  rcases hn with rfl | rfl
  · simp [sgn]
  · have e : p = sgn p * (p.natAbs : Int) := by unfold sgn; repeat' split
                                                all_goals omega
    have e2 : p * (j : Int) = sgn p * (j : Int) * (p.natAbs : Int) := by
      rw [Int.mul_assoc, Int.mul_comm (j : Int), ← Int.mul_assoc, ← e]
    rw [e2, Int.mul_tdiv_cancel _ (by omega)]
end Go.Proofs.YtmbllkkoanjghaaDoor
namespace Go.Proofs.YtmbllkkoanjghaaDoor
open Go.RowKit
open Pu Gp Ap

theorem aclamp_any (n l m : Int) (h : l ≤ m) (w : World) : Calls Tryd.prog 72 #[.int .i64 n, .int .i64 l, .int .i64 m] w fun e w' => e = .returned (.int .i64 (clp n l m)) ∧ w' = w := by
  have e : clp n l m = min (max n l) m := by
    unfold clp
    repeat' split
    all_goals omega
  rw [e]; clear e
  go_enter Tryd.func72, Tryd.ntmps72
  go_wp2
  go_ret
  exact ⟨rfl, rfl⟩
theorem astp (n : Int) (w : World) : Calls Tryd.prog 72 #[.int .i64 n, .int .i64 (-2048), .int .i64 2048] w fun e w' => e = .returned (.int .i64 (stp n)) ∧ w' = w := by
  have := aclamp_any n (-2048) 2048 (by omega) w
  rw [clp_stp] at this
  exact this
theorem aclr (n : Int) (w : World) : Calls Tryd.prog 72 #[.int .i64 n, .int .i64 0, .int .i64 4096] w fun e w' => e = .returned (.int .i64 (clampf n 0 4096)) ∧ w' = w := by
  have := aclamp_any n 0 4096 (by omega) w
  rw [clp_r] at this
  exact this
theorem step_any (x y : Int) (w : World) : Calls Tryd.prog 65 #[pt x y] w fun e w' => e = .returned (pt (stp x) (stp y)) ∧ Still w w' := by
  obtain ⟨W, eW⟩ : ∃ W, W = (newP (newP w x y) 0 0) := ⟨_, rfl⟩
  have p0 : Pb W (w.heap.size) x y := by rw [eW]; have h := newP_pb w x y; exact (h.still (Still.alloc _ _))
  have c00 := Cl.cell p0.cells.1
  have c01 := Cl.cell p0.cells.2.1
  clear p0
  have r : Pb W (w.heap.size + 1) 0 0 := by rw [eW]; have h := newP_pb (newP w x y) 0 0; simp only [size_alloc] at h; exact h
  have HF := hid (show Still w W by rw [eW]; exact ((Still.alloc w _).trans (Still.alloc _ _)))
  have HW := hid eW
  have hne := Aft.here W
  clear eW
  have HB := hid (show w.heap.size ≤ w.heap.size + 1 by omega)
  go_enter Tryd.func65, Tryd.ntmps65
  go_wp2_with fail
  have e := HW.out
  simp only [newP] at e
  rw [← e]
  clear e HW
  refine region_rest 6 (by kernel_rfl) (by kernel_rfl) ?_
  simp only [List.take_succ_cons, List.take_zero, List.drop_succ_cons, List.drop_zero]
  repeat (go_big_quiet_step ((go_at_call 72; exact Calls.cl_same (astp _ _))))
  refine wpQuiet_nil ?_
  intro w1 hs
  clear hne c00 c01
  have q := r.still hs
  obtain ⟨d0, d1, df⟩ := q.cells
  go_wp2_with fail
  (try simp only [Exit.inBlock, Exit.then])
  exact bodyPost_ret ((q.set _ _).res rfl _ rfl) rfl ⟨rfl, setP_fr (HF.out.trans hs) _ _ _ (.inr HB.out)⟩
theorem run_max4 (ts : Array TypeId) (t : TypeId) (p q : Int) (w : World) : (Builtin.max_ ts t #[.int .i64 p, .int .i64 (-p), .int .i64 q, .int .i64 (-q)]).run Tryd.prog w = .ok (.int .i64 ((max p.natAbs q.natAbs : Nat) : Int)) w := by
  have e : (Builtin.max_ ts t #[.int .i64 p, .int .i64 (-p), .int .i64 q, .int .i64 (-q)]).run Tryd.prog w = .ok (.int .i64 (if -q > (if q > (if -p > p then -p else p) then q else (if -p > p then -p else p)) then -q else (if q > (if -p > p then -p else p) then q else (if -p > p then -p else p)))) w := by
    simp [Builtin.max_, Builtin.max2]
  rw [e]
  congr 2
  repeat' split
  all_goals omega
theorem asize_any (p q : Int) (p0 : -2048 ≤ p) (p1 : p ≤ 2048) (q0 : -2048 ≤ q) (q1 : q ≤ 2048) (w : World) : Calls Tryd.prog 66 #[pt p q] w fun e w' => e = .returned (.int .i64 ((max p.natAbs q.natAbs : Nat) : Int)) ∧ Still w w' := by
  have b := newP_pb w p q
  obtain ⟨c0, c1, cf⟩ := b.cells
  simp only [newP] at c0 c1 cf
  have hm := run_max4 #[3, 3, 3, 3] 3 p q
  obtain ⟨V, eV⟩ : ∃ V, ((max p.natAbs q.natAbs : Nat) : Int) = V := ⟨_, rfl⟩
  rw [eV] at hm ⊢
  clear eV
  go_enter Tryd.func66, Tryd.ntmps66
  go_wp2_with fail
  go_ret
  exact ⟨rfl, Still.alloc w _⟩
theorem wrap_q {v : Int} (h0 : -16777216 ≤ v) (h1 : v ≤ 16777216) : IntKind.i64.wrap v = v := by rw [IntKind.wrap_i64]; omega
theorem tdiv_q {v : Int} {n : Nat} (h0 : -16777216 ≤ v) (h1 : v ≤ 16777216) : -16777216 ≤ v.tdiv (n : Int) ∧ v.tdiv (n : Int) ≤ 16777216 := by
  rcases Int.le_total 0 v with h | h
  · rw [Int.tdiv_eq_ediv_of_nonneg h]
    have a : 0 ≤ v / (n : Int) := Int.ediv_nonneg h (by omega)
    have b : v / (n : Int) ≤ v := Int.ediv_le_self _ h
    omega
  · have e : v.tdiv (n : Int) = -((-v) / (n : Int)) := by
      rw [← Int.tdiv_eq_ediv_of_nonneg (show 0 ≤ -v by omega), Int.neg_tdiv]; omega
    have a : 0 ≤ (-v) / (n : Int) := Int.ediv_nonneg (by omega) (by omega)
    have b : (-v) / (n : Int) ≤ -v := Int.ediv_le_self _ (by omega)
    omega
theorem mul_q {p : Int} {k : Nat} (h0 : -2048 ≤ p) (h1 : p ≤ 2048) (hk : k ≤ 8192) : -16777216 ≤ p * (k : Int) ∧ p * (k : Int) ≤ 16777216 := by
  have : (p * (k : Int)).natAbs ≤ 2048 * 8192 := by rw [Int.natAbs_mul]; exact Nat.mul_le_mul (by omega) (by omega)
  omega
set_option maxHeartbeats 1000000 in
theorem apart_any (x y p q : Int) (j n : Nat) (p0 : -2048 ≤ p) (p1 : p ≤ 2048) (q0 : -2048 ≤ q) (q1 : q ≤ 2048) (hj : j ≤ 8192) (hn : 1 ≤ n) (hn2 : n ≤ 2048) (w : World) :
    Calls Tryd.prog 67 #[pt x y, pt p q, .int .i64 (j : Int), .int .i64 (n : Int)] w fun e w' => e = .returned (pt (addf x ((p * (j : Int)).tdiv (n : Int))) (addf y ((q * (j : Int)).tdiv (n : Int)))) ∧ Still w w' := by
  obtain ⟨W, eW⟩ : ∃ W, W = (newP (newP (newP w x y) p q) 0 0) := ⟨_, rfl⟩
  have b0 : Pb W w.heap.size x y := by rw [eW]; exact ((newP_pb w x y).still (Still.alloc _ _)).still (Still.alloc _ _)
  have b1 : Pb W (w.heap.size + 1) p q := by rw [eW]; have h := (newP_pb (newP w x y) p q).still (Still.alloc _ (.cells #[.int .i64 0, .int .i64 0] 23)); simp only [size_alloc] at h; exact h
  have r : Pb W (w.heap.size + 1 + 1) 0 0 := by rw [eW]; have h := newP_pb (newP (newP w x y) p q) 0 0; simp only [size_alloc] at h; exact h
  have HF := hid (show Still w W by rw [eW]; exact ((Still.alloc w _).trans (Still.alloc _ _)).trans (Still.alloc _ _))
  have c0 := Cl.cell b0.cells.1
  have c1 := Cl.cell b0.cells.2.1
  have c2 := Cl.cell b1.cells.1
  have c3 := Cl.cell b1.cells.2.1
  have HW := hid eW
  have hne := Aft.here W
  clear eW b0 b1
  have HB := hid (show w.heap.size ≤ w.heap.size + 1 + 1 by omega)
  obtain ⟨m0, m1⟩ := mul_q p0 p1 hj
  obtain ⟨m2, m3⟩ := mul_q q0 q1 hj
  obtain ⟨d0, d1⟩ := tdiv_q (n := n) m0 m1
  obtain ⟨d2, d3⟩ := tdiv_q (n := n) m2 m3
  have W1 := wrap_q d0 d1
  have W2 := wrap_q d2 d3
  have W3 := wrap_q m0 m1
  have W4 := wrap_q m2 m3
  have nz : ¬ n = 0 := by omega
  clear m0 m1 m2 m3 d0 d1 d2 d3
  go_enter Tryd.func67, Tryd.ntmps67
  go_wp2_with fail
  have e := HW.out
  simp only [newP] at e
  rw [← e]
  clear e HW
  refine region_rest 15 (by kernel_rfl) (by kernel_rfl) ?_
  simp only [List.take_succ_cons, List.take_zero, List.drop_succ_cons, List.drop_zero]
  repeat (go_big_quiet_step ((go_at_call 26; exact Calls.cl (gadd_any _ _ _ _ _))))
  refine wpQuiet_nil ?_
  intro w1 hs
  clear hne c0 c1 c2 c3
  have q := r.still hs
  obtain ⟨d0, d1, df⟩ := q.cells
  go_wp2_with fail
  (try simp only [Exit.inBlock, Exit.then])
  exact bodyPost_ret ((q.set _ _).res rfl _ rfl) rfl ⟨rfl, setP_fr (HF.out.trans hs) _ _ _ (.inr HB.out)⟩
end Go.Proofs.YtmbllkkoanjghaaDoor
namespace Go.Proofs.YtmbllkkoanjghaaDoor
open Go.RowKit
open Pu Gp Ap

end Go.Proofs.YtmbllkkoanjghaaDoor
namespace Go.Proofs.YtmbllkkoanjghaaDoor
open Go.RowKit
open Pu Gp Ap

end Go.Proofs.YtmbllkkoanjghaaDoor
namespace Go.Proofs.YtmbllkkoanjghaaDoor
open Go.RowKit
open Pu Gp Ap

set_option maxHeartbeats 4000000 in
set_option maxRecDepth 100000 in
theorem ray_any (C R x y p q : Int) (s : ByteArray) (hz : s.size ≤ 281474976710656) (X Y P Q : Int) (n k : Nat)
    (eX : bnd x = X) (eY : bnd y = Y) (eP : stp p = P) (eQ : stp q = Q) (en : rayN P Q = n) (ek : go (rayT (solB C R s) X Y P Q n) n = k) (w : World) :
    Calls Tryd.prog 49 #[ar C R s, pt x y, pt p q] w fun e w' => e = .returned (.tuple #[pt (rp X P n k) (rp Y Q n k), .bool (decide (k < n))]) ∧ Still w w' := by
  obtain ⟨W, eW⟩ : ∃ W, W = newP (newP (newP (newA w C R s) x y) p q) 0 0 := ⟨_, rfl⟩
  have A1 := Still.alloc (newA w C R s) (.cells #[.int .i64 x, .int .i64 y] 23)
  have A2 := Still.alloc (newP (newA w C R s) x y) (.cells #[.int .i64 p, .int .i64 q] 23)
  have A3 := Still.alloc (newP (newP (newA w C R s) x y) p q) (.cells #[.int .i64 0, .int .i64 0] 23)
  have a0 := (((newA_ab w C R s).still A1).still A2).still A3
  have b0 := ((newP_pb (newA w C R s) x y).still A2).still A3
  have c0 := (newP_pb (newP (newA w C R s) x y) p q).still A3
  have d0 := newP_pb (newP (newP (newA w C R s) x y) p q) 0 0
  have HS0 := hid ((((Still.alloc w (.cells #[.int .i64 C, .int .i64 R, .string s] 37)).trans A1).trans A2).trans A3)
  simp only [size_alloc] at b0 c0 d0
  simp only [newP, newA] at eW a0 b0 c0 d0 HS0
  rw [← eW] at a0 b0 c0 d0 HS0
  clear A1 A2 A3
  have HN := hid (show w.heap.size ≠ w.heap.size + 1 ∧ w.heap.size ≠ w.heap.size + 1 + 1 ∧ w.heap.size + 1 ≠ w.heap.size + 1 + 1 ∧ w.heap.size + 1 + 1 ≠ w.heap.size + 1 ∧ w.heap.size + 1 + 1 + 1 ≠ w.heap.size + 1 ∧ w.heap.size + 1 + 1 + 1 ≠ w.heap.size + 1 + 1 by omega)
  have HB := hid (show w.heap.size ≤ w.heap.size + 1 ∧ w.heap.size ≤ w.heap.size + 1 + 1 ∧ w.heap.size ≤ w.heap.size + 1 + 1 + 1 by omega)
  have pb := stp_in p
  have qb := stp_in q
  rw [eP] at pb
  rw [eQ] at qb
  obtain ⟨p0, p1⟩ := pb
  obtain ⟨q0, q1⟩ := qb
  have n1 : n ≤ 32 := by rw [← en]; unfold rayN; omega
  have HC1 : Hid (∀ u : World, Calls Tryd.prog 38 #[pt x y] u fun e w' => e = .returned (pt X Y) ∧ Still u w') := hid (fun u => by
    have h := gbound_any x y u
    rw [eX, eY] at h
    exact h)
  have HC2 : Hid (∀ u : World, Calls Tryd.prog 65 #[pt p q] u fun e w' => e = .returned (pt P Q) ∧ Still u w') := hid (fun u => by
    have h := step_any p q u
    rw [eP, eQ] at h
    exact h)
  have HE := hid (And.intro en ek)
  have hd : (((max P.natAbs Q.natAbs : Nat) : Int) + 64 - 1) / 64 = (n : Int) := by unfold rayN at en; omega
  obtain ⟨M, eM⟩ : ∃ M : Nat, max P.natAbs Q.natAbs = M := ⟨_, rfl⟩
  have hM : M ≤ 2048 := by omega
  have HC3 : Hid (∀ u : World, Calls Tryd.prog 66 #[pt P Q] u fun e w' => e = .returned (.int .i64 (M : Int)) ∧ Still u w') := hid (fun u => by
    have h := asize_any P Q p0 p1 q0 q1 u
    rw [eM] at h
    exact h)
  rw [eM] at hd
  clear eX eY eP eQ ek eM en
  have f0 := Cl.cell b0.cells.1
  have f1 := Cl.cell b0.cells.2.1
  have f2 := Cl.cell c0.cells.1
  have f3 := Cl.cell c0.cells.2.1
  have hne := Aft.here W
  have HW := hid eW
  clear eW
  go_enter Tryd.func49, Tryd.ntmps49
  go_wp2_with fail
  have e := HW.out
  rw [← e]
  clear e HW
  refine region_rest 4 (by kernel_rfl) (by kernel_rfl) ?_
  simp only [List.take_succ_cons, List.take_zero, List.drop_succ_cons, List.drop_zero]
  repeat (go_big_quiet_step ((first | (go_at_call 38; exact Calls.cl (HC1.out _)) | (go_at_call 65; exact Calls.cl (HC2.out _)))))
  refine wpQuiet_nil ?_
  intro w1 h1
  clear hne f0 f1 f2 f3 HC1 HC2
  have b1 := (b0.still h1).set X Y
  have c1 := setP_pb (c0.still h1) HN.out.2.2.2.1 X Y
  have a1 := setP_ab (a0.still h1) HN.out.1 X Y
  have d1 := setP_pb (d0.still h1) HN.out.2.2.2.2.1 X Y
  have HS1 := hid (setP_fr (HS0.out.trans h1) (w.heap.size + 1) X Y (.inr HB.out.1))
  have b2 := setP_pb b1 HN.out.2.2.1 P Q
  have a2 := setP_ab a1 HN.out.2.1 P Q
  have c2 := c1.set P Q
  have d2 := setP_pb d1 HN.out.2.2.2.2.2 P Q
  have HS2 := hid (setP_fr HS1.out (w.heap.size + 1 + 1) P Q (.inr HB.out.2.1))
  obtain ⟨f0, f1, ff⟩ := (b0.still h1).cells
  obtain ⟨m0, m1, mf⟩ := c1.cells
  clear a0 b0 c0 d0 HS0 h1 a1 b1 c1 d1 HS1
  obtain ⟨g0, g1, gf⟩ := c2.cells
  go_wp2_with fail
  refine (HC3.out _).mono ?_
  rintro e w3 ⟨rfl, h3⟩
  have A3 := Still.alloc w3 (.cells #[.int .i64 X, .int .i64 Y] 23)
  have a3 := (a2.still h3).still A3
  have b3 := (b2.still h3).still A3
  have c3 := (c2.still h3).still A3
  have d3 := (d2.still h3).still A3
  have v3 := newP_pb w3 X Y
  have HS3 := hid ((Still.trans HS2.out h3).trans A3)
  have NL := hid (show w.heap.size + 1 + 1 + 1 < w3.heap.size from block_lt (d2.still h3))
  clear f0 f1 ff m0 m1 mf g0 g1 gf HC3
  obtain ⟨o0, o1, of⟩ := (b2.still h3).cells
  clear a2 b2 c2 d2 HS2 h3 A3
  have HP : Hid (∀ (g : Nat), g ≤ 33 → 1 ≤ n → ∀ u : World, Calls Tryd.prog 67 #[pt X Y, pt P Q, .int .i64 (g : Int), .int .i64 (n : Int)] u fun e w' => e = .returned (pt (addf X ((P * (g : Int)).tdiv (n : Int))) (addf Y ((Q * (g : Int)).tdiv (n : Int)))) ∧ Still u w') := hid (fun g hg h1 u =>
    apart_any X Y P Q g n p0 p1 q0 q1 (by omega) h1 (by omega) u)
  go_wp2_with fail
  rw [hd]
  clear hd o0 o1 of
  go_loopw [10] (fun vj wr => ∃ j : Nat, 1 ≤ j ∧ j ≤ n + 1 ∧ vj = .int .i64 (j : Int) ∧ (∀ i, 1 ≤ i → i < j → rayT (solB C R s) X Y P Q n i = false) ∧ Ab wr w.heap.size C R s ∧ Pb wr (w.heap.size + 1) X Y ∧ Pb wr (w.heap.size + 1 + 1) P Q ∧ Pb wr (w.heap.size + 1 + 1 + 1) 0 0 ∧
      Pb wr w3.heap.size (rp X P n (j - 1)) (rp Y Q n (j - 1)) ∧ Still w wr) (fun vj _ => n + 1 - (intOf vj).toNat)
  case atStart => exact ⟨1, by omega, by omega, rfl, fun i h1 h2 => by omega, a3, b3, c3, d3, v3, HS3.out⟩
  case round =>
    obtain ⟨j, j1, j2, rfl, hfree, a4, b4, c4, d4, v4, hs⟩ := hrel
    have HF := hid hfree
    have HS4 := hid hs
    clear hfree hs a3 b3 c3 d3 v3 HS3
    by_cases hlt : j ≤ n
    · obtain ⟨NX, eNX⟩ : ∃ NX, addf X ((P * (j : Int)).tdiv (n : Int)) = NX := ⟨_, rfl⟩
      obtain ⟨NY, eNY⟩ : ∃ NY, addf Y ((Q * (j : Int)).tdiv (n : Int)) = NY := ⟨_, rfl⟩
      have bX : -2147483647 ≤ NX ∧ NX ≤ 2147483647 := by rw [← eNX]; exact ⟨bnd_lo _, bnd_hi _⟩
      have bY : -2147483647 ≤ NY ∧ NY ≤ 2147483647 := by rw [← eNY]; exact ⟨bnd_lo _, bnd_hi _⟩
      have HR := hid (show rp X P n j = NX ∧ rp Y Q n j = NY by
        unfold rp; rw [if_neg (by omega), if_neg (by omega)]; exact ⟨eNX, eNY⟩)
      have HA : Hid (∀ u : World, Calls Tryd.prog 67 #[pt X Y, pt P Q, .int .i64 (j : Int), .int .i64 (n : Int)] u fun e w' => e = .returned (pt NX NY) ∧ Still u w') := hid (fun u => by
        have h := HP.out j (by omega) (by omega) u
        rw [eNX, eNY] at h
        exact h)
      clear eNX eNY
      obtain ⟨m0, m1, mf⟩ := b4.cells
      obtain ⟨g0, g1, gf⟩ := c4.cells
      go_wp2_with fail
      refine (HA.out _).mono ?_
      rintro e w5 ⟨rfl, h5⟩
      have A5 := Still.alloc w5 (.cells #[.int .i64 NX, .int .i64 NY] 23)
      have a5 := (a4.still h5).still A5
      have b5 := (b4.still h5).still A5
      have c5 := (c4.still h5).still A5
      have d5 := (d4.still h5).still A5
      have v5 := (v4.still h5).still A5
      have y5 := newP_pb w5 NX NY
      have HS5 := hid ((HS4.out.trans h5).trans A5)
      clear a4 b4 c4 d4 v4 HS4 h5 A5 HA m0 m1 mf g0 g1 gf
      obtain ⟨o0, o1, of⟩ := y5.cells
      go_wp2_with fail
      refine (cellAt_any NX NY bX.1 bX.2 bY.1 bY.2 _).mono ?_
      rintro e w6 ⟨rfl, h6⟩
      have a6 := a5.still h6
      have b6 := b5.still h6
      have c6 := c5.still h6
      have d6 := d5.still h6
      have v6 := v5.still h6
      have y6 := y5.still h6
      have HS6 := hid (HS5.out.trans h6)
      clear a5 b5 c5 d5 v5 y5 HS5 h6 o0 o1 of bX bY
      obtain ⟨i0, i1, i2, jf⟩ := a6.cells
      go_wp2_with fail
      cases hsol : solB C R s (dn NX) (dn NY) with
      | true =>
        have HK := hid (show j - 1 = k by
          rw [← HE.out.2]
          refine (go_one (by omega) (fun i h1 h2 => HF.out i h1 (by omega)) (fun _ => ?_)).symm
          rw [show j - 1 + 1 = j by omega]
          unfold rayT
          rw [HR.out.1, HR.out.2]
          exact hsol)
        refine (solid_is C R (dn NX) (dn NY) s hz hsol _).mono ?_
        rintro e w7 ⟨rfl, h7⟩
        have v7 := v6.still h7
        have d7 := d6.still h7
        have HS7 := hid (HS6.out.trans h7)
        clear hsol a6 b6 c6 d6 v6 y6 HS6 h7 i0 i1 i2 jf
        obtain ⟨i0, i1, jf⟩ := v7.cells
        obtain ⟨o0, o1, of⟩ := d7.cells
        go_wp2_with fail
        (try simp only [Exit.inBlock, Exit.then])
        exact bodyPost_ret ((d7.set _ _).rest rfl _ _ rfl rfl) rfl ⟨by rw [HK.out, decide_eq_true (show k < n by have := HK.out; omega)]; rfl, setP_fr HS7.out _ _ _ (.inr HB.out.2.2)⟩
      | false =>
        have HV := hid (show rayT (solB C R s) X Y P Q n j = false by
          unfold rayT
          rw [HR.out.1, HR.out.2]
          exact hsol)
        refine (solid_is C R (dn NX) (dn NY) s hz hsol _).mono ?_
        rintro e w7 ⟨rfl, h7⟩
        have l1 : w.heap.size ≠ w3.heap.size := by have := NL.out; omega
        have l2 : w.heap.size + 1 ≠ w3.heap.size := by have := NL.out; omega
        have l3 : w.heap.size + 1 + 1 ≠ w3.heap.size := by have := NL.out; omega
        have l4 : w.heap.size + 1 + 1 + 1 ≠ w3.heap.size := by have := NL.out; omega
        have a7 := setP_ab (a6.still h7) l1 NX NY
        have b7 := setP_pb (b6.still h7) l2 NX NY
        have c7 := setP_pb (c6.still h7) l3 NX NY
        have d7 := setP_pb (d6.still h7) l4 NX NY
        have v7 := (v6.still h7).set NX NY
        have HS7 := hid (setP_fr (Still.trans HS6.out h7) w3.heap.size NX NY (.inr (by have := NL.out; omega)))
        obtain ⟨q2, q3, qf⟩ := (v6.still h7).cells
        obtain ⟨s2, s3, sf⟩ := (y6.still h7).cells
        clear hsol a6 b6 c6 d6 v6 y6 HS6 h7 i0 i1 i2 jf l1 l2 l3 l4
        go_wp2_with fail
        go_roundw
        case rel => exact ⟨j + 1, by omega, by omega, by go_num, fun i h1 h2 => by
            by_cases e : i = j
            · subst e; exact HV.out
            · exact HF.out i h1 (by omega), a7, b7, c7, d7, by
              rw [Nat.add_sub_cancel, HR.out.1, HR.out.2]; exact v7, HS7.out⟩
        case measure => simp [intOf]; omega
    · have HK := hid (show j - 1 = k by
        rw [← HE.out.2]
        exact (go_one (by omega) (fun i h1 h2 => HF.out i h1 (by omega)) (fun h => by omega)).symm)
      obtain ⟨i0, i1, jf⟩ := v4.cells
      obtain ⟨o0, o1, of⟩ := d4.cells
      go_wp2_with fail
      (try simp only [Exit.inBlock, Exit.then])
      exact bodyPost_ret ((d4.set _ _).rest rfl _ _ rfl rfl) rfl ⟨by rw [HK.out, decide_eq_false (show ¬ k < n by have := HK.out; omega)]; rfl, setP_fr HS4.out _ _ _ (.inr HB.out.2.2)⟩
end Go.Proofs.YtmbllkkoanjghaaDoor
