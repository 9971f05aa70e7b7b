/- Walls: the program's cellAt, Touches. -/
import Derived.Test.YtaalbkmdmocdeaaDoorWl
import Derived.WalkMore
namespace Go.Proofs.YtaalbkmdmocdeaaDoor
open Go.RowKit
open Pu Gp Ap

set_option maxHeartbeats 1000000 in
theorem cellAt_any (x y : Int) (x0 : -2147483647 ≤ x) (x1 : x ≤ 2147483647) (y0 : -2147483647 ≤ y) (y1 : y ≤ 2147483647) (w : World) :
    Calls Tryd.prog 45 #[pt x y] w fun e w' => e = .returned (.tuple #[.int .i64 (dn x), .int .i64 (dn y)]) ∧ Still w w' := by
  have p := newP_pb w x y
  have e1 := dn_tdiv x
  have e2 := dn_tdiv y
  have b1 := dn_bd x0 x1
  have b2 := dn_bd y0 y1
  obtain ⟨b10, b11⟩ := b1
  obtain ⟨b20, b21⟩ := b2
  have m1 : 0 ≤ x % 4096 := by omega
  have m2 : x % 4096 < 4096 := by omega
  have m3 : 0 ≤ y % 4096 := by omega
  have m4 : y % 4096 < 4096 := by omega
  have c0 := Cl.cell p.cells.1
  have c1 := Cl.cell p.cells.2.1
  have hne := Aft.here (newP w x y)
  go_enter Tryd.func45, Tryd.ntmps45
  go_wp2_with fail
  refine region_all (by kernel_rfl) (by kernel_rfl) ?_
  repeat (go_big_quiet_step ((go_at_call 79; exact Calls.cl_same (incell_any _ _))))
  refine wpQuiet_nil ?_
  intro w3 h3
  go_wp2_with fail
  go_ret2
  exact ⟨rfl, (Still.alloc w _).trans h3⟩
theorem tou_no (C R a b c d : Int) (s : ByteArray) (h : okb a b c d = false) (w : World) : Calls Tryd.prog 22 #[ar C R s, bx a b c d] w fun e w' => e = .returned (.bool false) ∧ Still w w' := by
  go_enter Tryd.func22, Tryd.ntmps22
  go_wp2_with fail
  go_step3
  go_wp2_with fail
  refine (check_no a b c d h _).mono ?_
  rintro e w1 ⟨rfl, h1⟩
  go_wp2_with fail
  rw [Exit.noGoto_ret]
  go_ret
  exact ⟨rfl, ((Still.alloc w _).trans (Still.alloc _ _)).trans h1⟩
set_option maxHeartbeats 2000000 in
theorem tou_in (C R a b c d : Int) (s : ByteArray) (hz : s.size ≤ 281474976710656) (h : okb a b c d = true) (w : World) :
    Calls Tryd.prog 22 #[ar C R s, bx a b c d] w fun e w' => e = .returned (.bool (tch (solB C R s) a b c d)) ∧ Still w w' := by
  have k := okb_t h
  unfold okB at k
  obtain ⟨k0, k1, k2, k3, k4, k5, k6, k7, k8, k9⟩ := k
  have p := (newA_ab w C R s).still (Still.alloc (newA w C R s) (.cells #[.int .i64 a, .int .i64 b, .int .i64 c, .int .i64 d] 50))
  have q := newB_bb (newA w C R s) a b c d
  simp only [size_alloc] at q
  have HS0 := hid ((Still.alloc w (.cells #[.int .i64 C, .int .i64 R, .string s] 37)).trans (Still.alloc (newA w C R s) (.cells #[.int .i64 a, .int .i64 b, .int .i64 c, .int .i64 d] 50)))
  have H := hid h
  have lr := dn_mono k8
  have tb := dn_mono k9
  have bc := (dn_bd k4 k5).2
  have bd := (dn_bd k6 k7).2
  have bl := (dn_bd k0 k1).1
  have bt := (dn_bd k2 k3).1
  obtain ⟨T, eT⟩ : ∃ T, T = tch (solB C R s) a b c d := ⟨_, rfl⟩
  have HT := hid (show T = anyC (solB C R s) (dn a) (dn b) (dn c) (dn d) from eT)
  rw [← eT]
  clear h eT
  go_enter Tryd.func22, Tryd.ntmps22
  go_wp2_with fail
  go_step3
  go_wp2_with fail
  refine (check_yes a b c d H.out _).mono ?_
  rintro e w1 ⟨rfl, h1⟩
  have p1 := p.still h1
  have q1 := q.still h1
  have HS1 := hid (HS0.out.trans h1)
  clear p q HS0 h1 H
  obtain ⟨d0, d1, d2, d3, df⟩ := q1.cells
  go_wp2_with fail
  refine (cellAt_any a b (by omega) (by omega) (by omega) (by omega) _).mono ?_
  rintro e w2 ⟨rfl, h2⟩
  have p2 := p1.still h2
  have q2 := q1.still h2
  have HS2 := hid (HS1.out.trans h2)
  clear p1 q1 HS1 h2 d0 d1 d2 d3 df
  obtain ⟨d0, d1, d2, d3, df⟩ := q2.cells
  go_wp2_with fail
  refine (cellAt_any c d (by omega) (by omega) (by omega) (by omega) _).mono ?_
  rintro e w3 ⟨rfl, h3⟩
  have p3 := p2.still h3
  have HS3 := hid (HS2.out.trans h3)
  clear p2 q2 HS2 h3 d0 d1 d2 d3 df
  clear k0 k1 k2 k3 k4 k5 k6 k7 k8 k9
  obtain ⟨l, el⟩ : ∃ l, dn a = l := ⟨_, rfl⟩
  obtain ⟨t, et⟩ : ∃ t, dn b = t := ⟨_, rfl⟩
  obtain ⟨r, er⟩ : ∃ r, dn c = r := ⟨_, rfl⟩
  obtain ⟨u, eu⟩ : ∃ u, dn d = u := ⟨_, rfl⟩
  rw [el] at lr bl HT ⊢
  rw [et] at tb bt HT ⊢
  rw [er] at lr bc HT ⊢
  rw [eu] at tb bd HT ⊢
  clear el et er eu
  go_wp2_with fail
  go_step3
  go_wp2_with fail
  go_loopw [9, 10] (fun v9 vj wr => ∃ j : Int, v9 = .bool false ∧ t ≤ j ∧ j ≤ u + 1 ∧ vj = .int .i64 j ∧ (∀ i' j', l ≤ i' → i' ≤ r → t ≤ j' → j' < j → solB C R s i' j' = false) ∧ Still w3 wr) (fun _ vj _ => (u + 1 - intOf vj).toNat)
  case atStart => exact ⟨t, rfl, by omega, by omega, rfl, fun i' j' _ _ h1 h2 => by omega, Fr.refl _ _⟩
  case round =>
    obtain ⟨j, rfl, hj1, hj2, rfl, hfree, hs⟩ := hrel
    have HF := hid hfree
    have HS := hid hs
    have p2 := p3.still hs
    clear hfree hs
    by_cases hlt : j ≤ u
    · obtain ⟨c0, c1, c2, cf⟩ := p2.cells
      go_wp2_with fail
      go_loopw [9, 11] (fun v9 vi wt => ∃ i : Int, v9 = .bool false ∧ l ≤ i ∧ i ≤ r + 1 ∧ vi = .int .i64 i ∧ (∀ i', l ≤ i' → i' < i → solB C R s i' j = false) ∧ Still wr wt) (fun _ vi _ => (r + 1 - intOf vi).toNat)
      case atStart => exact ⟨l, rfl, by omega, by omega, rfl, fun i' h1 h2 => by omega, Fr.refl _ _⟩
      case round =>
        obtain ⟨i, rfl, hi1, hi2, rfl, hfr, hs2⟩ := hrel
        have HF2 := hid hfr
        have HS2 := hid hs2
        obtain ⟨g0, g1, g2, gf⟩ := (p2.still hs2).cells
        clear hfr hs2 c0 c1 c2 cf
        by_cases hil : i ≤ r
        · go_wp2_with fail
          cases hsol : solB C R s i j with
          | true =>
            refine (solid_is C R i j s hz hsol _).mono ?_
            rintro e w4 ⟨rfl, h4⟩
            have HE := hid (show true = T by rw [HT.out]; exact (anyC_iff.2 ⟨i, j, hi1, hil, hj1, hlt, hsol⟩).symm)
            have HS4 := hid (((HS3.out.trans HS.out).trans HS2.out).trans h4)
            clear hsol h4 g0 g1 g2 gf
            go_wp2_with fail
            rw [Exit.noGoto_ret]
            go_ret
            exact ⟨ret_bool HE.out, HS4.out⟩
          | false =>
            refine (solid_is C R i j s hz hsol _).mono ?_
            rintro e w4 ⟨rfl, h4⟩
            have HS4 := hid (HS2.out.trans h4)
            have HN := hid hsol
            clear hsol h4 g0 g1 g2 gf
            go_wp2_with fail
            go_roundw
            case rel => exact ⟨i + 1, rfl, by omega, by omega, by go_num, fun i' h1 h2 => by
                by_cases e : i' = i
                · subst e; exact HN.out
                · exact HF2.out i' h1 (by omega), HS4.out⟩
            case measure => simp [intOf]; omega
        · have hi : i = r + 1 := by omega
          clear g0 g1 g2 gf
          go_wp2_with fail
          go_roundw
          case rel => exact ⟨j + 1, rfl, by omega, by omega, by go_num, fun i' j' h1 h2 h3 h4 => by
              by_cases e : j' = j
              · subst e; exact HF2.out i' h1 (by omega)
              · exact HF.out i' j' h1 h2 h3 (by omega), HS.out.trans HS2.out⟩
          case measure => simp [intOf]; omega
    · have HE := hid (show false = T by rw [HT.out]; exact (anyC_false fun i' j' h1 h2 h3 h4 => HF.out i' j' h1 h2 h3 (by omega)).symm)
      clear p2
      go_wp2_with fail
      first | rw [Exit.noGoto_ret] | skip
      go_ret
      exact ⟨ret_bool HE.out, HS3.out.trans HS.out⟩
theorem touches_any (C R a b c d : Int) (s : ByteArray) (hz : s.size ≤ 281474976710656) (w : World) :
    Calls Tryd.prog 22 #[ar C R s, bx a b c d] w fun e w' => e = .returned (.bool (touB C R s a b c d)) ∧ Still w w' := by
  unfold touB
  cases h : okb a b c d with
  | false => exact tou_no C R a b c d s h w
  | true =>
    rw [Bool.true_and]
    exact tou_in C R a b c d s hz h w
theorem touched (C R x y r : Int) (s : ByteArray) (hz : s.size ≤ 281474976710656) (hok : okb (subf x r) (subf y r) (addf x r) (addf y r) = true) {t : Bool} (h : bdy (solB C R s) r x y = t) (w : World) :
    Calls Tryd.prog 22 #[ar C R s, bx (subf x r) (subf y r) (addf x r) (addf y r)] w fun e w' => e = .returned (.bool t) ∧ Still w w' := by
  have k := tou_in C R (subf x r) (subf y r) (addf x r) (addf y r) s hz hok w
  rw [← h]
  exact k
end Go.Proofs.YtaalbkmdmocdeaaDoor
