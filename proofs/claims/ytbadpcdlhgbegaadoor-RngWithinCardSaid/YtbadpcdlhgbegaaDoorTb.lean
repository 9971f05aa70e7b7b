/- The tables that the program reads; contracts: the small functions on numbers. -/
import Derived.Test.YtbadpcdlhgbegaaDoorProg
import Derived.Test.YtbadpcdlhgbegaaDoorHx
import Derived.Test.YtbadpcdlhgbegaaDoorMe
import Derived.Laws.Bits64
import Derived.Laws.BitsLemmas
import Derived.Lib.EndianBits
import Derived.Lib.Hide
import Derived.Deep.QuietTactic
import Derived.BigQuiet
import Derived.Deep.RegionWith
import Derived.BigRegion
namespace Go.Proofs.YtbadpcdlhgbegaaDoor
open Go.RowKit

/-- What the package-level variables hold. -/
structure Tab (w : World) : Prop where
  f0 : w.cell? ⟨0, 0, none⟩ = some (.int .u64 13787848793156543929)
  f1 : w.cell? ⟨0, 1, none⟩ = some (.int .u64 10723151780598845931)
  f3 : w.cell? ⟨0, 3, none⟩ = some (.int .u64 11400714819323198485)
theorem cell_on {F : Nat → Prop} {w w' : World} (hf : Fr F w w') {p : Addr} {v : Value} (h : w.cell? p = some v) (hn : ¬ F p.block) : w'.cell? p = some v :=
  (hf.cell (World.block_lt_of_cell? w _ h) hn).trans h
theorem Tab.on {F : Nat → Prop} {w w' : World} (h : Tab w) (hf : Fr F w w') (hn : ¬ F 0) : Tab w' := by
  obtain ⟨a, b, d⟩ := h
  exact ⟨cell_on hf a hn, cell_on hf b hn, cell_on hf d hn⟩
theorem Tab.size {w : World} (h : Tab w) : 0 < w.heap.size := World.block_lt_of_cell? w _ h.f0
theorem Tab.still {w w' : World} (h : Tab w) (hs : Still w w') : Tab w' := h.on hs fun e => e
theorem still_of_below {w w' : World} (h : Below w.heap.size w w') : Still w w' := by
  obtain ⟨a, b, c, d, e⟩ := h
  exact ⟨a, b, c, d, fun k hk _ => e k hk⟩

theorem quo_eq {x s : Int} (h0 : 0 ≤ x) (h1 : x < 18446744073709551616) (hs : 1 ≤ s) : IntKind.u64.wrap (x.tdiv s) = x / s := by
  rw [Int.tdiv_eq_ediv_of_nonneg h0, IntKind.wrap_u64]
  have a0 : 0 ≤ x / s := Int.ediv_nonneg h0 (by omega)
  have a1 : x / s ≤ x := Int.ediv_le_self s h0
  exact Int.emod_eq_of_lt a0 (by omega)
theorem quo_w (x : Int) {s : Int} (hs : 1 ≤ s) : IntKind.u64.wrap ((IntKind.u64.wrap x).tdiv s) = IntKind.u64.wrap x / s := by
  refine quo_eq ?_ ?_ hs
  · rw [IntKind.wrap_u64]; omega
  · rw [IntKind.wrap_u64]; omega
def turnI (n s : Int) : Int := bits .xor .u64 n (n / s)
def mulI (n c : Int) : Int := IntKind.u64.wrap (n * c)
def mixI (n : Int) : Int := turnI (mulI (turnI (mulI (turnI n 1073741824) 13787848793156543929) 134217728) 10723151780598845931) 2147483648
def chainI (a b : Int) : Int := mixI (IntKind.u64.wrap (mulI a 11400714819323198485 + mixI b))

theorem turned30 (n : Int) (w : World) : Calls Tryd.prog 38 #[.int .u64 n, .int .i64 30] w fun e w' => e = .returned (.int .u64 (turnI n 1073741824)) ∧ w' = w := by
  go_enter Tryd.func38, Tryd.ntmps38
  go_wp2
  go_ret
  exact ⟨rfl, rfl⟩
theorem turned27 (n : Int) (w : World) : Calls Tryd.prog 38 #[.int .u64 n, .int .i64 27] w fun e w' => e = .returned (.int .u64 (turnI n 134217728)) ∧ w' = w := by
  go_enter Tryd.func38, Tryd.ntmps38
  go_wp2
  go_ret
  exact ⟨rfl, rfl⟩
theorem turned31 (n : Int) (w : World) : Calls Tryd.prog 38 #[.int .u64 n, .int .i64 31] w fun e w' => e = .returned (.int .u64 (turnI n 2147483648)) ∧ w' = w := by
  go_enter Tryd.func38, Tryd.ntmps38
  go_wp2
  go_ret
  exact ⟨rfl, rfl⟩
theorem Tab.drewN {w : World} (h : Tab w) (k : Nat) : Tab (w.drewN k) := h.still ((Fr.refl _ w).drewN k)
set_option maxRecDepth 100000 in
theorem mix_any (n : Int) (w : World) (ht : Tab w) : Calls Tryd.prog 35 #[.int .u64 n] w fun e w' => e = .returned (.int .u64 (mixI n)) ∧ ∃ k, w' = w.drewN k := by
  have c0 := ht.f0
  go_enter Tryd.func35, Tryd.ntmps35
  go_wp2
  go_quiet ((go_at_call 38; exact Calls.quiet_of_same (turned30 _ _)))
  have c1 := (ht.drewN nq).f1
  generalize hW : w.drewN nq = w1 at c1 ⊢
  have HW := Lib.hid hW
  clear hW c0
  go_wp2
  go_quiet ((go_at_call 38; exact Calls.quiet_of_same (turned27 _ _)))
  go_wp2_with (go_at_call 38; refine (turned31 _ _).mono ?_; rintro e w' ⟨rfl, rfl⟩)
  go_ret
  exact ⟨rfl, _, by rw [← HW.out, World.drewN_drewN]⟩
set_option maxRecDepth 100000 in
theorem rmix_any (n : Int) (h0 : 0 ≤ n) (h1 : n < 18446744073709551616) (w : World) : Calls Tryd.prog 36 #[.int .u64 n] w fun e w' => e = .returned (.int .u64 (mixI n)) ∧ w' = w := by
  go_enter Tryd.func36, Tryd.ntmps36
  go_wp2
  go_ret
  refine ⟨?_, rfl⟩
  simp only [quo_w _ (show (1 : Int) ≤ 134217728 by decide), quo_w _ (show (1 : Int) ≤ 2147483648 by decide)]
  rfl
theorem wrap_in (x : Int) : 0 ≤ IntKind.u64.wrap x ∧ IntKind.u64.wrap x < 18446744073709551616 := by
  rw [IntKind.wrap_u64]; omega
theorem rmix_h (x : Int) (h0 : 0 ≤ x) (h1 : x < 18446744073709551616) (w : World) : Calls Tryd.prog 36 #[.int .u64 x] w fun e w' => ∃ y, e = .returned (.int .u64 y) ∧ Hid (y = mixI x) ∧ w' = w :=
  (rmix_any x h0 h1 w).mono fun _ _ ⟨he, hw⟩ => ⟨_, he, rfl, hw⟩
theorem rmix_w (x : Int) (w : World) : Calls Tryd.prog 36 #[.int .u64 (IntKind.u64.wrap x)] w fun e w' => ∃ y, e = .returned (.int .u64 y) ∧ Hid (y = mixI (IntKind.u64.wrap x)) ∧ w' = w := rmix_h (IntKind.u64.wrap x) (wrap_in x).1 (wrap_in x).2 w
set_option maxRecDepth 100000 in
theorem chain_any (a b : Int) (w : World) (ht : Tab w) : Calls Tryd.prog 26 #[.int .u64 a, .int .u64 b] w fun e w' => e = .returned (.int .u64 (chainI a b)) ∧ ∃ k, w' = w.drewN k := by
  have c3 := ht.f3
  go_enter Tryd.func26, Tryd.ntmps26
  go_wp2
  go_quiet ((go_at_call 35; exact Calls.quiet_of (mix_any _ _ (by first | exact ht | exact ht.drewN _))))
  go_wp2
  go_ret
  exact ⟨rfl, _, rfl⟩
set_option maxRecDepth 100000 in
theorem rchain_any (a b : Int) (hb0 : 0 ≤ b) (hb1 : b < 18446744073709551616) (w : World) : Calls Tryd.prog 27 #[.int .u64 a, .int .u64 b] w fun e w' => e = .returned (.int .u64 (chainI a b)) ∧ w' = w := by
  go_enter Tryd.func27, Tryd.ntmps27
  go_wp2_with (go_at_call_of 36 (Value.int .u64 b); refine (rmix_h b hb0 hb1 _).mono ?_; rintro e w' ⟨y, rfl, HY, rfl⟩)
  clear hb0 hb1
  refine (rmix_w _ _).mono ?_
  rintro e w' ⟨z, rfl, HZ, rfl⟩
  go_wp2_with fail
  go_ret
  refine ⟨?_, rfl⟩
  have e1 := HZ.out
  rw [HY.out] at e1
  rw [show chainI a b = z from e1.symm]
  rfl
theorem turn_nat (n k s : Nat) (hs : s = 2 ^ k) (h : n < 18446744073709551616) : turnI (n : Int) (s : Int) = ((Hx.turn n k : Nat) : Int) := by
  unfold turnI Hx.turn
  rw [xorShift_u64 n s h, hs]
theorem mul_in (n c : Int) : 0 ≤ mulI n c ∧ mulI n c < 18446744073709551616 := wrap_in _
theorem mix_in (n : Int) : 0 ≤ mixI n ∧ mixI n < 18446744073709551616 := by
  unfold mixI
  obtain ⟨h0, h1⟩ := mul_in (turnI (mulI (turnI n 1073741824) 13787848793156543929) 134217728) 10723151780598845931
  generalize mulI (turnI (mulI (turnI n 1073741824) 13787848793156543929) 134217728) 10723151780598845931 = m at h0 h1 ⊢
  obtain ⟨x, rfl⟩ : ∃ x : Nat, m = (x : Int) := ⟨m.toNat, by omega⟩
  have hx : x < 18446744073709551616 := by omega
  have e : turnI (x : Int) 2147483648 = ((Hx.turn x 31 : Nat) : Int) := turn_nat x 31 2147483648 (by decide) hx
  rw [e]
  have := Hx.turn_lt hx 31
  omega
theorem chain_in (a b : Int) : 0 ≤ chainI a b ∧ chainI a b < 18446744073709551616 := mix_in _
theorem mix_still (n : Int) (w : World) (ht : Tab w) : Calls Tryd.prog 35 #[.int .u64 n] w fun e w' => e = .returned (.int .u64 (mixI n)) ∧ Still w w' := by
  refine (mix_any n w ht).mono ?_
  rintro e w' ⟨rfl, k, rfl⟩
  exact ⟨rfl, (Fr.refl _ w).drewN k⟩
theorem chain_still (a b : Int) (w : World) (ht : Tab w) : Calls Tryd.prog 26 #[.int .u64 a, .int .u64 b] w fun e w' => e = .returned (.int .u64 (chainI a b)) ∧ Still w w' := by
  refine (chain_any a b w ht).mono ?_
  rintro e w' ⟨rfl, k, rfl⟩
  exact ⟨rfl, (Fr.refl _ w).drewN k⟩
end Go.Proofs.YtbadpcdlhgbegaaDoor
