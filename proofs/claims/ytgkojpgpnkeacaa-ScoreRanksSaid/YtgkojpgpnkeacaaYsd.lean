/- The library's cmp.Compare and cmp.Or of int, and the program's ahead. -/
import Derived.Test.YtgkojpgpnkeacaaEb
import Derived.Test.YtgkojpgpnkeacaaYsp
import Derived.Deep.DeepCutAuto
import Derived.Deep.RegionHeld3
import Derived.BigRegion
namespace Go.Proofs.Ytgkojpgpnkeacaa
open Go.RowKit
open Ea
set_option maxRecDepth 100000

theorem cnan_any (x : Int) (w : World) : Calls Try.prog 42 #[.int .i64 x] w fun e w' => e = .returned (.bool false) ∧ w' = w := by
  have h : (x != x) = false := by simp
  go_enter Try.func42, Try.ntmps42
  go_wp2_with fail
  go_ret
  exact ⟨by simp, rfl⟩
theorem ccmp_any (x y : Int) (w : World) : Calls Try.prog 31 #[.int .i64 x, .int .i64 y] w fun e w' => e = .returned (.int .i64 (cI x y)) ∧ w' = w := by
  have H1 := hid (fun w => cnan_any x w)
  have H2 := hid (fun w => cnan_any y w)
  by_cases h1 : x < y
  · have HE : Hid (cI x y = -1) := hid (by unfold cI; rw [if_pos h1])
    go_enter Try.func31, Try.ntmps31
    go_wp2_with fail
    refine (H1.out _).mono ?_
    rintro e w1 ⟨rfl, rfl⟩
    go_wp2_with fail
    refine (H2.out _).mono ?_
    rintro e w1 ⟨rfl, rfl⟩
    go_wp2_with fail
    go_ret
    exact ⟨by rw [HE.out]; rfl, rfl⟩
  · by_cases h2 : x > y
    · have HE : Hid (cI x y = 1) := hid (by unfold cI; rw [if_neg h1, if_pos h2])
      go_enter Try.func31, Try.ntmps31
      go_wp2_with fail
      refine (H1.out _).mono ?_
      rintro e w1 ⟨rfl, rfl⟩
      go_wp2_with fail
      refine (H2.out _).mono ?_
      rintro e w1 ⟨rfl, rfl⟩
      go_wp2_with fail
      go_ret
      exact ⟨by rw [HE.out]; rfl, rfl⟩
    · have HE : Hid (cI x y = 0) := hid (by unfold cI; rw [if_neg h1, if_neg h2])
      go_enter Try.func31, Try.ntmps31
      go_wp2_with fail
      refine (H1.out _).mono ?_
      rintro e w1 ⟨rfl, rfl⟩
      go_wp2_with fail
      refine (H2.out _).mono ?_
      rintro e w1 ⟨rfl, rfl⟩
      go_wp2_with fail
      go_ret
      exact ⟨by rw [HE.out]; rfl, rfl⟩
theorem cor_any (l : List Int) (B n cap : Nat) (w : World) (hr : RdI w (some ⟨B, 0, none⟩) n cap l) : Calls Try.prog 30 #[.slice (some ⟨B, 0, none⟩) n cap] w fun e w' => e = .returned (.int .i64 (orI l)) ∧ w' = w := by
  have hl := hr.len
  have hn := hr.small
  have HR := hid hr
  clear hr
  go_enter Try.func30, Try.ntmps30
  go_wp2_with fail
  go_loopw [8] (fun u wr => ∃ k : Nat, k ≤ n ∧ u = .int .i64 (k : Int) ∧ Hid (orI l = orI (l.drop k)) ∧ wr = w) (fun u _ => n - (intOf u).toNat)
  case atStart => exact ⟨0, by omega, rfl, hid (by simp), rfl⟩
  case round =>
    obtain ⟨k, hk, rfl, HE, rfl⟩ := hrel
    by_cases hkn : k < n
    · have hlt : (k : Int) < (n : Int) := by omega
      have c0 := HR.out.byte (k := k) (by omega)
      rw [Nat.zero_add] at c0
      have HD : Hid (orI (l.drop k) = if l[k]'(by omega) ≠ 0 then l[k]'(by omega) else orI (l.drop (k + 1))) := hid (by rw [List.drop_eq_getElem_cons (by omega)]; rfl)
      obtain ⟨x, ex⟩ : ∃ x, l[k]'(by omega) = x := ⟨_, rfl⟩
      rw [ex] at c0 HD
      clear ex
      by_cases hx : x = 0
      · have HE2 : Hid (orI l = orI (l.drop (k + 1))) := hid (by rw [HE.out, HD.out, if_neg (by simpa using hx)])
        subst hx
        clear HE HD
        go_wp2_with fail
        go_roundw
        case rel => exact ⟨k + 1, by omega, by go_num, HE2, by trivial⟩
        case measure => simp [intOf]; omega
      · have HE2 : Hid (orI l = x) := hid (by rw [HE.out, HD.out, if_pos (by simpa using hx)])
        have hx' : (x != 0) = true := by simpa using hx
        clear HE HD hx
        go_wp2_with fail
        (first | rw [Exit.noGoto_ret] | skip)
        go_ret
        exact ⟨by rw [HE2.out]; rfl, rfl⟩
    · have hge : ¬ (k : Int) < (n : Int) := by omega
      have HE2 : Hid (orI l = 0) := hid (by rw [HE.out, List.drop_eq_nil_of_le (by omega)]; rfl)
      clear HE
      go_wp2_with fail
      go_ret
      exact ⟨by rw [HE2.out]; rfl, rfl⟩
theorem rdI_four (w : World) (a b c d : Int) : RdI (w.alloc (.cells #[.int .i64 a, .int .i64 b, .int .i64 c, .int .i64 d] 3)) (some ⟨w.heap.size, 0, none⟩) 4 4 [a, b, c, d] :=
  (OwI.fresh (e := 3) w #[.int .i64 a, .int .i64 b, .int .i64 c, .int .i64 d] 4 4 [a, b, c, d] rfl (Nat.le_refl _) (by unfold maxLen; omega) rfl (fun j hj => by
    have : j = 0 ∨ j = 1 ∨ j = 2 ∨ j = 3 := by simp at hj; omega
    rcases this with rfl | rfl | rfl | rfl <;> rfl)).rd
set_option maxHeartbeats 2000000 in
theorem sahead_any (L : List Scr) (ao : Option Addr) (n cap a b : Nat) (ha : a < n) (hb : b < n) (w : World) (hr : RdG KC w ao n L) : Calls Try.prog 25 #[.slice ao n cap, .int .i64 (a : Int), .int .i64 (b : Int)] w fun e w' => e = .returned (.int .i64 (cfL L a b)) ∧ Still w w' := by
  have h47 : n ≤ 281474976710656 := hr.2.1
  obtain ⟨B, o, rfl⟩ := hr.at (by omega)
  obtain ⟨c0, c1, c2, c3⟩ := rdC hr ha
  obtain ⟨d0, d1, d2, d3⟩ := rdC hr hb
  have HU : Hid (cfL L a b = orI [cI (sc L b).p (sc L a).p, cI (sc L a).o (sc L b).o, cI (sc L b).h (sc L a).h, cI (a : Int) (b : Int)]) := hid rfl
  have H0 := hid (fun w => ccmp_any (sc L b).p (sc L a).p w)
  have H1 := hid (fun w => ccmp_any (sc L a).o (sc L b).o w)
  have H2 := hid (fun w => ccmp_any (sc L b).h (sc L a).h w)
  have H3 := hid (fun w => ccmp_any (a : Int) (b : Int) w)
  obtain ⟨r0, e0⟩ : ∃ r, cI (sc L b).p (sc L a).p = r := ⟨_, rfl⟩
  obtain ⟨r1, e1⟩ : ∃ r, cI (sc L a).o (sc L b).o = r := ⟨_, rfl⟩
  obtain ⟨r2, e2⟩ : ∃ r, cI (sc L b).h (sc L a).h = r := ⟨_, rfl⟩
  obtain ⟨r3, e3⟩ : ∃ r, cI (a : Int) (b : Int) = r := ⟨_, rfl⟩
  rw [e0, e1, e2, e3] at HU
  rw [e0] at H0
  rw [e1] at H1
  rw [e2] at H2
  rw [e3] at H3
  obtain ⟨v, ev⟩ : ∃ v, cfL L a b = v := ⟨_, rfl⟩
  rw [ev] at HU ⊢
  clear e0 e1 e2 e3 ev
  obtain ⟨⟨ap, ah, ao', ak⟩, ea⟩ : ∃ x, sc L a = x := ⟨_, rfl⟩
  obtain ⟨⟨bp, bh, bo', bk⟩, eb⟩ : ∃ x, sc L b = x := ⟨_, rfl⟩
  rw [ea, eb] at H0 H1 H2
  rw [ea] at c0 c1 c2 c3
  rw [eb] at d0 d1 d2 d3
  simp only at c0 c1 c2 c3 d0 d1 d2 d3 H0 H1 H2
  have ha' : (a : Int) < (n : Int) := by omega
  have hb' : (b : Int) < (n : Int) := by omega
  have q0 := Cl.cell c0
  have q1 := Cl.cell c1
  have q2 := Cl.cell c2
  have s0 := Cl.cell d0
  have s1 := Cl.cell d1
  have s2 := Cl.cell d2
  have hne := Aft.here w
  clear ea eb hr c0 c1 c2 c3 d0 d1 d2 d3
  go_enter Try.func25, Try.ntmps25
  go_wp2_with fail
  refine region_rest 36 (by kernel_rfl) (by kernel_rfl) ?_
  simp only [List.take_succ_cons, List.take_zero, List.drop_succ_cons, List.drop_zero]
  repeat (go_big_quiet_step ((first | (go_at_call 31; with_reducible exact Calls.cl_same (H0.out _)) | (go_at_call 31; with_reducible exact Calls.cl_same (H1.out _)) | (go_at_call 31; with_reducible exact Calls.cl_same (H2.out _)) | (go_at_call 31; with_reducible exact Calls.cl_same (H3.out _)))))
  refine wpQuiet_nil ?_
  intro w1 h1
  have HS1 := hid (h1.trans (Still.alloc w1 (.cells #[.int .i64 r0, .int .i64 r1, .int .i64 r2, .int .i64 r3] 3)))
  have HO := hid (cor_any _ _ _ _ _ (rdI_four w1 r0 r1 r2 r3))
  rw [← HU.out] at HO
  clear HU h1 q0 q1 q2 s0 s1 s2 hne H0 H1 H2 H3
  go_wp2_with fail
  refine HO.out.mono ?_
  rintro e w2 ⟨he, hw⟩
  rw [he, hw]
  clear he hw w2 HO
  go_wp2_with fail
  (try simp only [Exit.inBlock, Exit.then])
  go_ret
  exact ⟨rfl, HS1.out⟩
end Go.Proofs.Ytgkojpgpnkeacaa
