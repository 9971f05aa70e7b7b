/- The walk of the law FixedSums. -/
import Derived.Test.YtihcicijoeplkaaDoorAwake
namespace Go.Proofs.YtihcicijoeplkaaDoor
open Go.ChangeShapes Go.WideShapes Go.ChangeAt Go.RowKit
open Pu

theorem awake_hid2 (w : World) (ht : Tab w) : Calls Tryd.prog 9 #[] w fun e w' => e = .returned (.bool true) ∧ Hid (Below w.heap.size w w') := awake_any w ht
theorem inside_any (n : Int) (w : World) : Calls Tryd.prog 36 #[.int .i64 n] w fun e w' => e = .returned (.bool (insB n)) ∧ w' = w := by
  cases h : insB n with
  | true =>
    obtain ⟨h1, h2⟩ := insB_t h
    clear h
    go_enter Tryd.func36, Tryd.ntmps36
    go_wp2
    go_ret
    exact ⟨rfl, rfl⟩
  | false =>
    have h' := insB_f h
    clear h
    by_cases h1 : -2147483647 < n
    · have h2 : ¬ n < 2147483647 := by omega
      clear h'
      go_enter Tryd.func36, Tryd.ntmps36
      go_wp2
      go_ret
      exact ⟨rfl, rfl⟩
    · clear h'
      go_enter Tryd.func36, Tryd.ntmps36
      go_wp2
      go_ret
      exact ⟨rfl, rfl⟩
set_option maxHeartbeats 1000000 in
set_option maxRecDepth 100000 in
theorem sums_walk (a b c : Int) (_ : (Lit.int .i64 a).wf = true) (_ : (Lit.int .i64 b).wf = true) (_ : (Lit.int .i64 c).wf = true) (w : World) (ht : Tab w) :
    Calls Tryd.prog 8 #[.int .i64 a, .int .i64 b, .int .i64 c] w fun e w' => e = .returned (.bool true) ∧ Below w.heap.size w w' := by
  have f1 : (addf (bnd a) (bnd b) == addf (bnd b) (bnd a)) = true := by rw [addf_comm]; exact beq_self_eq_true _
  have f2 : (mulf (bnd a) (bnd b) == mulf (bnd b) (bnd a)) = true := by rw [mulf_comm]; exact beq_self_eq_true _
  have f3 : (mulf (bnd a) 256 == bnd a) = true := by rw [mulf_one (bnd_bnd a)]; exact beq_self_eq_true _
  have f4 : (divf (bnd a) 256 == bnd a) = true := by rw [divf_one (bnd_bnd a)]; exact beq_self_eq_true _
  have f5 : (dive 256 == 0) = true := by decide
  have s1 := addf_lo (bnd a) (bnd b)
  have s2 := addf_hi (bnd a) (bnd b)
  have x1 := bnd_lo a
  have x2 := bnd_hi a
  have F6 := Lib.hid fun h : insB (addf (bnd a) (bnd b)) = true => back (bnd_bnd a) (bnd_bnd b) (insB_t h).1 (insB_t h).2
  have F7 := Lib.hid fun h : bnd a ≤ bnd b => addf_mono (x := bnd a) (y := bnd b) (z := bnd c) (by rw [bnd_bnd, bnd_bnd]; exact h)
  have F8 := Lib.hid fun (h : bnd a ≤ bnd b) (k : 0 ≤ bnd c) => mulf_mono (x := bnd a) (y := bnd b) (z := bnd c) (by rw [bnd_bnd, bnd_bnd]; exact h) (by rw [bnd_bnd]; exact k)
  cases hi : insB (addf (bnd a) (bnd b)) with
  | true =>
    have f6 : (subf (addf (bnd a) (bnd b)) (bnd b) == bnd a) = true := by rw [F6.out hi]; exact beq_self_eq_true _
    clear F6
    by_cases hxy : bnd b < bnd a
    · clear F7 F8
      go_enter Tryd.func8, Tryd.ntmps8
      go_wp2_with (first
        | (go_at_call 9; refine (awake_hid2 _ ht).mono ?_; rintro e w1 ⟨rfl, HB⟩)
        | (go_at_call 20; refine (bound_any _ _).mono ?_; rintro e w' ⟨rfl, rfl⟩)
        | (go_at_call 10; refine (div_any _ _ _).mono ?_; rintro e w' ⟨rfl, rfl⟩)
        | (go_at_call 12; refine (add_any _ _ _).mono ?_; rintro e w' ⟨rfl, rfl⟩)
        | (go_at_call 14; refine (sub_any _ _ _).mono ?_; rintro e w' ⟨rfl, rfl⟩)
        | (go_at_call 36; refine (inside_any _ _).mono ?_; rintro e w' ⟨rfl, rfl⟩)
        | (go_at_call 16; refine (mul_any _ _ _).mono ?_; rintro e w' ⟨rfl, rfl⟩))
      go_ret
      exact ⟨rfl, HB.out⟩
    · have f7 := F7.out (by omega)
      by_cases hz : bnd c < 0
      · clear F7 F8
        go_enter Tryd.func8, Tryd.ntmps8
        go_wp2_with (first
          | (go_at_call 9; refine (awake_hid2 _ ht).mono ?_; rintro e w1 ⟨rfl, HB⟩)
          | (go_at_call 20; refine (bound_any _ _).mono ?_; rintro e w' ⟨rfl, rfl⟩)
          | (go_at_call 10; refine (div_any _ _ _).mono ?_; rintro e w' ⟨rfl, rfl⟩)
          | (go_at_call 12; refine (add_any _ _ _).mono ?_; rintro e w' ⟨rfl, rfl⟩)
          | (go_at_call 14; refine (sub_any _ _ _).mono ?_; rintro e w' ⟨rfl, rfl⟩)
          | (go_at_call 36; refine (inside_any _ _).mono ?_; rintro e w' ⟨rfl, rfl⟩)
          | (go_at_call 16; refine (mul_any _ _ _).mono ?_; rintro e w' ⟨rfl, rfl⟩))
        go_ret
        exact ⟨rfl, HB.out⟩
      · have f8 := F8.out (by omega) (by omega)
        clear F7 F8
        go_enter Tryd.func8, Tryd.ntmps8
        go_wp2_with (first
          | (go_at_call 9; refine (awake_hid2 _ ht).mono ?_; rintro e w1 ⟨rfl, HB⟩)
          | (go_at_call 20; refine (bound_any _ _).mono ?_; rintro e w' ⟨rfl, rfl⟩)
          | (go_at_call 10; refine (div_any _ _ _).mono ?_; rintro e w' ⟨rfl, rfl⟩)
          | (go_at_call 12; refine (add_any _ _ _).mono ?_; rintro e w' ⟨rfl, rfl⟩)
          | (go_at_call 14; refine (sub_any _ _ _).mono ?_; rintro e w' ⟨rfl, rfl⟩)
          | (go_at_call 36; refine (inside_any _ _).mono ?_; rintro e w' ⟨rfl, rfl⟩)
          | (go_at_call 16; refine (mul_any _ _ _).mono ?_; rintro e w' ⟨rfl, rfl⟩))
        go_ret
        exact ⟨rfl, HB.out⟩
  | false =>
    clear F6
    by_cases hxy : bnd b < bnd a
    · clear F7 F8
      go_enter Tryd.func8, Tryd.ntmps8
      go_wp2_with (first
        | (go_at_call 9; refine (awake_hid2 _ ht).mono ?_; rintro e w1 ⟨rfl, HB⟩)
        | (go_at_call 20; refine (bound_any _ _).mono ?_; rintro e w' ⟨rfl, rfl⟩)
        | (go_at_call 10; refine (div_any _ _ _).mono ?_; rintro e w' ⟨rfl, rfl⟩)
        | (go_at_call 12; refine (add_any _ _ _).mono ?_; rintro e w' ⟨rfl, rfl⟩)
        | (go_at_call 14; refine (sub_any _ _ _).mono ?_; rintro e w' ⟨rfl, rfl⟩)
        | (go_at_call 36; refine (inside_any _ _).mono ?_; rintro e w' ⟨rfl, rfl⟩)
        | (go_at_call 16; refine (mul_any _ _ _).mono ?_; rintro e w' ⟨rfl, rfl⟩))
      go_ret
      exact ⟨rfl, HB.out⟩
    · have f7 := F7.out (by omega)
      by_cases hz : bnd c < 0
      · clear F7 F8
        go_enter Tryd.func8, Tryd.ntmps8
        go_wp2_with (first
          | (go_at_call 9; refine (awake_hid2 _ ht).mono ?_; rintro e w1 ⟨rfl, HB⟩)
          | (go_at_call 20; refine (bound_any _ _).mono ?_; rintro e w' ⟨rfl, rfl⟩)
          | (go_at_call 10; refine (div_any _ _ _).mono ?_; rintro e w' ⟨rfl, rfl⟩)
          | (go_at_call 12; refine (add_any _ _ _).mono ?_; rintro e w' ⟨rfl, rfl⟩)
          | (go_at_call 14; refine (sub_any _ _ _).mono ?_; rintro e w' ⟨rfl, rfl⟩)
          | (go_at_call 36; refine (inside_any _ _).mono ?_; rintro e w' ⟨rfl, rfl⟩)
          | (go_at_call 16; refine (mul_any _ _ _).mono ?_; rintro e w' ⟨rfl, rfl⟩))
        go_ret
        exact ⟨rfl, HB.out⟩
      · have f8 := F8.out (by omega) (by omega)
        clear F7 F8
        go_enter Tryd.func8, Tryd.ntmps8
        go_wp2_with (first
          | (go_at_call 9; refine (awake_hid2 _ ht).mono ?_; rintro e w1 ⟨rfl, HB⟩)
          | (go_at_call 20; refine (bound_any _ _).mono ?_; rintro e w' ⟨rfl, rfl⟩)
          | (go_at_call 10; refine (div_any _ _ _).mono ?_; rintro e w' ⟨rfl, rfl⟩)
          | (go_at_call 12; refine (add_any _ _ _).mono ?_; rintro e w' ⟨rfl, rfl⟩)
          | (go_at_call 14; refine (sub_any _ _ _).mono ?_; rintro e w' ⟨rfl, rfl⟩)
          | (go_at_call 36; refine (inside_any _ _).mono ?_; rintro e w' ⟨rfl, rfl⟩)
          | (go_at_call 16; refine (mul_any _ _ _).mono ?_; rintro e w' ⟨rfl, rfl⟩))
        go_ret
        exact ⟨rfl, HB.out⟩
end Go.Proofs.YtihcicijoeplkaaDoor
