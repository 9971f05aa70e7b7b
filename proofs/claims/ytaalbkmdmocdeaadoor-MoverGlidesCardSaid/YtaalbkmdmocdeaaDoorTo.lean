/- Boxes that touch: the document's answer. -/
import Derived.Test.YtaalbkmdmocdeaaDoorSo
namespace Go.Proofs.YtaalbkmdmocdeaaDoor
open Go.RowKit
open Pu Gp Ap

/-- does a box touch -/
def touB (C R : Int) (s : ByteArray) (a b c d : Int) : Bool := okb a b c d && tch (solB C R s) a b c d
theorem ret_bool {a b : Bool} (h : a = b) : Ending.returned (.bool a) = .returned (.bool b) := by rw [h]
theorem rsolid_is (C R col row : Int) (s : ByteArray) (hz : s.size ≤ 281474976710656) (hC : C ≤ 9223372036854775807) {t : Bool} (h : solB C R s col row = t) (w : World) : Calls Tryd.prog 110 #[ar C R s, .int .i64 col, .int .i64 row] w fun e w' => e = .returned (.bool t) ∧ Still w w' := by
  have := rsolid_any C R col row s hz hC w
  rw [h] at this
  exact this
theorem rcheck6_yes (a b c d : Int) (h : okb a b c d = true) (w : World) : Calls Tryd.prog 109 #[bx a b c d] w fun e w' => e = .returned (.int .i64 0) ∧ Still w w' := by
  have := rcheck_any a b c d w
  unfold chk at this
  rw [h] at this
  exact this
theorem rcheck6_no (a b c d : Int) (h : okb a b c d = false) (w : World) : Calls Tryd.prog 109 #[bx a b c d] w fun e w' => e = .returned (.int .i64 50) ∧ Still w w' := by
  have := rcheck_any a b c d w
  unfold chk at this
  rw [h] at this
  exact this
theorem rtou_no (C R a b c d : Int) (s : ByteArray) (h : okb a b c d = false) (w : World) : Calls Tryd.prog 93 #[ar C R s, bx a b c d] w fun e w' => e = .returned (.bool false) ∧ Still w w' := by
  go_enter Tryd.func93, Tryd.ntmps93
  go_wp2_with fail
  refine (rcheck6_no a b c d h _).mono ?_
  rintro e w1 ⟨rfl, h1⟩
  go_wp2_with fail
  go_ret
  exact ⟨rfl, ((Still.alloc w _).trans (Still.alloc _ _)).trans h1⟩
/-- where the box leaves the map -/
theorem rtou_out (C R a b c d : Int) (s : ByteArray) (h : okb a b c d = true) (ho : dn a < 0 ∨ dn b < 0 ∨ C ≤ dn c ∨ R ≤ dn d) (w : World) : Calls Tryd.prog 93 #[ar C R s, bx a b c d] w fun e w' => e = .returned (.bool true) ∧ Still w w' := by
  have k := okb_t h
  unfold okB at k
  obtain ⟨k0, k1, k2, k3, k4, k5, k6, k7, k8, k9⟩ := k
  have p := (newA_ab w C R s).still (Still.alloc (newA w C R s) (.cells #[.int .i64 a, .int .i64 b, .int .i64 c, .int .i64 d] 50))
  have q := newB_bb (newA w C R s) a b c d
  simp only [size_alloc] at q
  have HS0 := hid ((Still.alloc w (.cells #[.int .i64 C, .int .i64 R, .string s] 37)).trans (Still.alloc (newA w C R s) (.cells #[.int .i64 a, .int .i64 b, .int .i64 c, .int .i64 d] 50)))
  have H := hid h
  have ho' : (decide (dn a < 0) = true) ∨ (decide (dn a < 0) = false ∧ decide (dn b < 0) = true) ∨ (decide (dn a < 0) = false ∧ decide (dn b < 0) = false ∧ decide (C ≤ dn c) = true) ∨ (decide (dn a < 0) = false ∧ decide (dn b < 0) = false ∧ decide (C ≤ dn c) = false ∧ decide (R ≤ dn d) = true) := by
    by_cases x1 : dn a < 0
    · exact .inl (by simpa using x1)
    by_cases x2 : dn b < 0
    · exact .inr (.inl ⟨by simpa using x1, by simpa using x2⟩)
    by_cases x3 : C ≤ dn c
    · exact .inr (.inr (.inl ⟨by simpa using x1, by simpa using x2, by simpa using x3⟩))
    · exact .inr (.inr (.inr ⟨by simpa using x1, by simpa using x2, by simpa using x3, by simp; omega⟩))
  clear h ho
  go_enter Tryd.func93, Tryd.ntmps93
  go_wp2_with fail
  refine (rcheck6_yes a b c d H.out _).mono ?_
  rintro e w1 ⟨rfl, h1⟩
  obtain ⟨c0, c1, c2, cf⟩ := (p.still h1).cells
  obtain ⟨d0, d1, d2, d3, df⟩ := (q.still h1).cells
  have HS1 := hid (HS0.out.trans h1)
  clear p q HS0 h1
  rcases ho' with x1 | ⟨x1, x2⟩ | ⟨x1, x2, x3⟩ | ⟨x1, x2, x3, x4⟩
  all_goals
    go_wp2_with (go_at_call 92; refine (rdown_any _ (by omega) (by omega) _).mono ?_; rintro e w' ⟨he, hw⟩; rw [he, hw]; clear he hw w')
    go_ret
    exact ⟨rfl, HS1.out⟩
set_option maxHeartbeats 2000000 in
theorem rtou_in (C R a b c d : Int) (s : ByteArray) (hz : s.size ≤ 281474976710656) (hC : C ≤ 9223372036854775807) (h : okb a b c d = true) (x1 : 0 ≤ dn a) (x2 : 0 ≤ dn b) (x3 : dn c < C) (x4 : dn d < R) (w : World) :
    Calls Tryd.prog 93 #[ar C R s, bx a b c d] w fun e w' => e = .returned (.bool (tch (solB C R s) a b c d)) ∧ Still w w' := by
  have k := okb_t h
  unfold okB at k
  obtain ⟨k0, k1, k2, k3, k4, k5, k6, k7, k8, k9⟩ := k
  have p := (newA_ab w C R s).still (Still.alloc (newA w C R s) (.cells #[.int .i64 a, .int .i64 b, .int .i64 c, .int .i64 d] 50))
  have q := newB_bb (newA w C R s) a b c d
  simp only [size_alloc] at q
  have HS0 := hid ((Still.alloc w (.cells #[.int .i64 C, .int .i64 R, .string s] 37)).trans (Still.alloc (newA w C R s) (.cells #[.int .i64 a, .int .i64 b, .int .i64 c, .int .i64 d] 50)))
  have H := hid h
  have lr := dn_mono k8
  have tb := dn_mono k9
  have bc := (dn_bd k4 k5).2
  have bd := (dn_bd k6 k7).2
  obtain ⟨T, eT⟩ : ∃ T, T = tch (solB C R s) a b c d := ⟨_, rfl⟩
  have HT := hid (show T = anyC (solB C R s) (dn a) (dn b) (dn c) (dn d) from eT)
  rw [← eT]
  clear h eT
  go_enter Tryd.func93, Tryd.ntmps93
  go_wp2_with fail
  refine (rcheck6_yes a b c d H.out _).mono ?_
  rintro e w1 ⟨rfl, h1⟩
  have p1 := p.still h1
  obtain ⟨c0, c1, c2, cf⟩ := p1.cells
  obtain ⟨d0, d1, d2, d3, df⟩ := (q.still h1).cells
  have HS1 := hid (HS0.out.trans h1)
  clear p q HS0 h1 H
  go_wp2_with (go_at_call 92; refine (rdown_any _ (by omega) (by omega) _).mono ?_; rintro e w' ⟨he, hw⟩; rw [he, hw]; clear he hw w')
  clear k0 k1 k2 k3 k4 k5 k6 k7 k8 k9 d0 d1 d2 d3 df c0 c1 c2 cf
  obtain ⟨l, el⟩ : ∃ l, dn a = l := ⟨_, rfl⟩
  obtain ⟨t, et⟩ : ∃ t, dn b = t := ⟨_, rfl⟩
  obtain ⟨r, er⟩ : ∃ r, dn c = r := ⟨_, rfl⟩
  obtain ⟨u, eu⟩ : ∃ u, dn d = u := ⟨_, rfl⟩
  rw [el] at x1 lr HT ⊢
  rw [et] at x2 tb HT ⊢
  rw [er] at x3 lr bc HT ⊢
  rw [eu] at x4 tb bd HT ⊢
  clear el et er eu
  go_loopw [10] (fun vj wr => ∃ j : Int, t ≤ j ∧ j ≤ u + 1 ∧ vj = .int .i64 j ∧ (∀ i' j', l ≤ i' → i' ≤ r → t ≤ j' → j' < j → solB C R s i' j' = false) ∧ Still w1 wr) (fun vj _ => (u + 1 - intOf vj).toNat)
  case atStart => exact ⟨t, by omega, by omega, rfl, fun i' j' _ _ h1 h2 => by omega, Fr.refl _ _⟩
  case round =>
    obtain ⟨j, hj1, hj2, rfl, hfree, hs⟩ := hrel
    have HF := hid hfree
    have HS := hid hs
    have p2 := p1.still hs
    clear hfree hs
    by_cases hlt : j ≤ u
    · obtain ⟨c0, c1, c2, cf⟩ := p2.cells
      go_wp2_with fail
      go_loopw [11] (fun vi wt => ∃ i : Int, l ≤ i ∧ i ≤ r + 1 ∧ vi = .int .i64 i ∧ (∀ i', l ≤ i' → i' < i → solB C R s i' j = false) ∧ Still wr wt) (fun vi _ => (r + 1 - intOf vi).toNat)
      case atStart => exact ⟨l, by omega, by omega, rfl, fun i' h1 h2 => by omega, Fr.refl _ _⟩
      case round =>
        obtain ⟨i, hi1, hi2, rfl, hfr, hs2⟩ := hrel
        have HF2 := hid hfr
        have HS2 := hid hs2
        obtain ⟨g0, g1, g2, gf⟩ := (p2.still hs2).cells
        clear hfr hs2 c0 c1 c2 cf
        by_cases hil : i ≤ r
        · go_wp2_with fail
          cases hsol : solB C R s i j with
          | true =>
            refine (rsolid_is C R i j s hz hC hsol _).mono ?_
            rintro e w3 ⟨rfl, h3⟩
            have HE := hid (show true = T by rw [HT.out]; exact (anyC_iff.2 ⟨i, j, hi1, hil, hj1, hlt, hsol⟩).symm)
            have HS3 := hid (((HS1.out.trans HS.out).trans HS2.out).trans h3)
            clear hsol h3 g0 g1 g2 gf
            go_wp2_with fail
            go_ret
            exact ⟨ret_bool HE.out, HS3.out⟩
          | false =>
            refine (rsolid_is C R i j s hz hC hsol _).mono ?_
            rintro e w3 ⟨rfl, h3⟩
            have HS3 := hid (HS2.out.trans h3)
            have HN := hid hsol
            clear hsol h3 g0 g1 g2 gf
            go_wp2_with fail
            go_roundw
            case rel => exact ⟨i + 1, by omega, by omega, by go_num, fun i' h1 h2 => by
                by_cases e : i' = i
                · subst e; exact HN.out
                · exact HF2.out i' h1 (by omega), HS3.out⟩
            case measure => simp [intOf]; omega
        · have hi : i = r + 1 := by omega
          clear g0 g1 g2 gf
          go_wp2_with fail
          go_roundw
          case rel => exact ⟨j + 1, by omega, by omega, by go_num, fun i' j' h1 h2 h3 h4 => by
              by_cases e : j' = j
              · subst e; exact HF2.out i' h1 (by omega)
              · exact HF.out i' j' h1 h2 h3 (by omega), HS.out.trans HS2.out⟩
          case measure => simp [intOf]; omega
    · have HE := hid (show false = T by rw [HT.out]; exact (anyC_false fun i' j' h1 h2 h3 h4 => HF.out i' j' h1 h2 h3 (by omega)).symm)
      clear p2
      go_wp2_with fail
      go_ret
      exact ⟨ret_bool HE.out, HS1.out.trans HS.out⟩
theorem rtouches_any (C R a b c d : Int) (s : ByteArray) (hz : s.size ≤ 281474976710656) (hC : C ≤ 9223372036854775807) (w : World) :
    Calls Tryd.prog 93 #[ar C R s, bx a b c d] w fun e w' => e = .returned (.bool (touB C R s a b c d)) ∧ Still w w' := by
  unfold touB
  cases h : okb a b c d with
  | false => exact rtou_no C R a b c d s h w
  | true =>
    rw [Bool.true_and]
    have k := okb_t h
    unfold okB at k
    have lr := dn_mono (show a ≤ c by omega)
    have tb := dn_mono (show b ≤ d by omega)
    by_cases ho : dn a < 0 ∨ dn b < 0 ∨ C ≤ dn c ∨ R ≤ dn d
    · have : tch (solB C R s) a b c d = true := by
        unfold tch
        rcases ho with o | o | o | o
        · exact anyC_iff.2 ⟨dn a, dn b, Int.le_refl _, lr, Int.le_refl _, tb, sol_out (.inl o)⟩
        · exact anyC_iff.2 ⟨dn a, dn b, Int.le_refl _, lr, Int.le_refl _, tb, sol_out (.inr (.inr (.inl o)))⟩
        · exact anyC_iff.2 ⟨dn c, dn b, lr, Int.le_refl _, Int.le_refl _, tb, sol_out (.inr (.inl o))⟩
        · exact anyC_iff.2 ⟨dn a, dn d, Int.le_refl _, lr, tb, Int.le_refl _, sol_out (.inr (.inr (.inr o)))⟩
      rw [this]
      exact rtou_out C R a b c d s h ho w
    · exact rtou_in C R a b c d s hz hC h (by omega) (by omega) (by omega) (by omega) w
end Go.Proofs.YtaalbkmdmocdeaaDoor
