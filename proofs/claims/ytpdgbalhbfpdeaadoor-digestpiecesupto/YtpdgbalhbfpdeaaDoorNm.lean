/- awake; DigestNumbers, DigestReads, DigestUnlike: the walks. -/
import Derived.Test.YtpdgbalhbfpdeaaDoorPa
import Derived.KernelRfl
namespace Go.Proofs.YtpdgbalhbfpdeaaDoor
open Go.RowKit Go.Shelf

theorem mix_one : mixI 1 = 6238072747940578789 := by kernel_rfl
theorem ff_is : (ByteArray.mk #[48, 48, 48, 48, 48, 48, 48, 48, 48, 48, 48, 48, 48, 48, 102, 102]).data.toList = Hx.hx 255 16 := by decide
theorem parse_ff (w : World) (ht : Tab w) : Calls Tryd.prog 11 #[.string ⟨#[48, 48, 48, 48, 48, 48, 48, 48, 48, 48, 48, 48, 48, 48, 102, 102]⟩] w fun e w' => e = .returned (.tuple #[.int .u64 255, .int .i64 0]) ∧ Still w w' := by
  refine (parse_hit ⟨#[48, 48, 48, 48, 48, 48, 48, 48, 48, 48, 48, 48, 48, 48, 102, 102]⟩ 255 (by omega) ff_is w ht).mono ?_
  rintro e w' ⟨n, rfl, rfl, h⟩
  exact ⟨rfl, h⟩
theorem print_ff (w : World) (ht : Tab w) : Calls Tryd.prog 10 #[.int .u64 255] w fun e w' => e = .returned (.string ⟨#[48, 48, 48, 48, 48, 48, 48, 48, 48, 48, 48, 48, 48, 48, 102, 102]⟩) ∧ Still w w' := by
  refine (print_any 255 255 rfl (by omega) w ht).mono ?_
  rintro e w' ⟨t, rfl, h, hs⟩
  rw [beq_text (h.trans ff_is.symm)]
  exact ⟨rfl, hs⟩
theorem mix_ff (w : World) (ht : Tab w) : Calls Tryd.prog 12 #[.int .u64 1] w fun e w' => e = .returned (.int .u64 6238072747940578789) ∧ Still w w' := by
  refine (mix_any 1 w ht).mono ?_
  rintro e w' ⟨rfl, k, rfl⟩
  rw [mix_one]
  exact ⟨rfl, (Fr.refl _ w).drewN k⟩
set_option maxRecDepth 100000 in
theorem awake_any (w : World) (ht : Tab w) : Calls Tryd.prog 9 #[] w fun e w' => e = .returned (.bool true) ∧ Still w w' := by
  go_enter Tryd.func9, Tryd.ntmps9
  go_wp2_with (first | (go_at_call 11; refine (parse_ff _ ht).mono ?_; rintro e w1 ⟨rfl, h1⟩; have ht1 := ht.still h1) | (go_at_call 12; refine (mix_ff _ ht1).mono ?_; rintro e w2 ⟨rfl, h2⟩; have ht2 := ht1.still h2) | (go_at_call 10; refine (print_ff _ ht2).mono ?_; rintro e w3 ⟨rfl, h3⟩))
  go_ret
  exact ⟨rfl, h1.trans (h2.trans h3)⟩
theorem mix_still (n : Int) (w : World) (ht : Tab w) : Calls Tryd.prog 12 #[.int .u64 n] w fun e w' => e = .returned (.int .u64 (mixI n)) ∧ Still w w' := by
  refine (mix_any n w ht).mono ?_
  rintro e w' ⟨rfl, k, rfl⟩
  exact ⟨rfl, (Fr.refl _ w).drewN k⟩
theorem chain_still (a b : Int) (w : World) (ht : Tab w) : Calls Tryd.prog 14 #[.int .u64 a, .int .u64 b] w fun e w' => e = .returned (.int .u64 (chainI a b)) ∧ Still w w' := by
  refine (chain_any a b w ht).mono ?_
  rintro e w' ⟨rfl, k, rfl⟩
  exact ⟨rfl, (Fr.refl _ w).drewN k⟩
/-- what Print writes of a -/
def TX (a : Int) : ByteArray := ⟨(Hx.hx a.toNat 16).toArray⟩
theorem print_tx (a : Int) (h0 : 0 ≤ a) (h1 : a < 18446744073709551616) (w : World) (ht : Tab w) : Calls Tryd.prog 10 #[.int .u64 a] w fun e w' => e = .returned (.string (TX a)) ∧ Still w w' := by
  refine (print_any a.toNat a (by omega) (by omega) w ht).mono ?_
  rintro e w' ⟨t, rfl, h, hs⟩
  rw [beq_text (t := TX a) h]
  exact ⟨rfl, hs⟩
theorem rprint_tx (a : Int) (h0 : 0 ≤ a) (h1 : a < 18446744073709551616) (w : World) : Calls Tryd.prog 16 #[.int .u64 a] w fun e w' => e = .returned (.string (TX a)) ∧ Still w w' := by
  refine (rprint_any a.toNat a (by omega) (by omega) w).mono ?_
  rintro e w' ⟨t, rfl, h, hs⟩
  rw [beq_text (t := TX a) h]
  exact ⟨rfl, hs⟩
theorem parse_tx (a : Int) (h0 : 0 ≤ a) (h1 : a < 18446744073709551616) (w : World) (ht : Tab w) : Calls Tryd.prog 11 #[.string (TX a)] w fun e w' => e = .returned (.tuple #[.int .u64 a, .int .i64 0]) ∧ Still w w' := by
  refine (parse_hit (TX a) a.toNat (by omega) rfl w ht).mono ?_
  rintro e w' ⟨n, rfl, hn, hs⟩
  obtain rfl : n = a := by omega
  exact ⟨rfl, hs⟩
set_option maxHeartbeats 1000000 in
set_option maxRecDepth 100000 in
theorem numbers_walk (a b : Int) (a0 : 0 ≤ a) (a1 : a < 18446744073709551616) (b0 : 0 ≤ b) (b1 : b < 18446744073709551616) (w : World) (ht : Tab w) :
    Calls Tryd.prog 3 #[.int .u64 a, .int .u64 b] w fun e w' => e = .returned (.bool true) ∧ Still w w' := by
  go_enter Tryd.func3, Tryd.ntmps3
  go_wp2_with (first | (go_at_call 9; refine (awake_any _ ht).mono ?_; rintro e w1 ⟨rfl, h1⟩; have ht1 := ht.still h1) | (go_at_call 10; refine (print_tx a a0 a1 _ ht1).mono ?_; rintro e w2 ⟨rfl, h2⟩; have ht2 := ht1.still h2) | (go_at_call 11; refine (parse_tx a a0 a1 _ ht2).mono ?_; rintro e w3 ⟨rfl, h3⟩; have ht3 := ht2.still h3) | (go_at_call 12; refine (mix_still a _ ht3).mono ?_; rintro e w4 ⟨rfl, h4⟩; have ht4 := ht3.still h4) | (go_at_call 13; refine (rmix_any a a0 a1 _).mono ?_; rintro e w5 ⟨rfl, rfl⟩) | (go_at_call 14; refine (chain_still a b _ ht4).mono ?_; rintro e w6 ⟨rfl, h6⟩) | (go_at_call 15; refine (rchain_any a b b0 b1 _).mono ?_; rintro e w7 ⟨rfl, rfl⟩) | (go_at_call 16; refine (rprint_tx a a0 a1 _).mono ?_; rintro e w8 ⟨rfl, h8⟩))
  go_ret
  exact ⟨rfl, h1.trans (h2.trans (h3.trans (h4.trans (h6.trans h8))))⟩
set_option maxHeartbeats 1000000 in
set_option maxRecDepth 100000 in
theorem reads_walk (s : ByteArray) (hs : s.size ≤ 281474976710656) (w : World) (ht : Tab w) :
    Calls Tryd.prog 4 #[.string s] w fun e w' => e = .returned (.bool true) ∧ Still w w' := by
  by_cases hx : ∃ d, d < 18446744073709551616 ∧ s.data.toList = Hx.hx d 16
  · obtain ⟨d, hd, hx⟩ := hx
    have HP := hid fun w => parse_hit s d hd hx w
    have HR := hid fun w => rparse_hit s d hd hx w
    clear hx hd hs
    go_enter Tryd.func4, Tryd.ntmps4
    go_wp2_with (first | (go_at_call 9; refine (awake_any _ ht).mono ?_; rintro e w1 ⟨rfl, h1⟩; have ht1 := ht.still h1) | (go_at_call 11; refine (HP.out _ ht1).mono ?_; rintro e w2 ⟨n, rfl, hn, h2⟩; obtain rfl := hn) | (go_at_call 17; refine (HR.out _).mono ?_; rintro e w3 ⟨m, rfl, hm, h3⟩; obtain rfl := hm))
    go_ret
    exact ⟨rfl, h1.trans (h2.trans h3)⟩
  · have hx' : ∀ d, d < 18446744073709551616 → s.data.toList ≠ Hx.hx d 16 := fun d hd he => hx ⟨d, hd, he⟩
    have HP := hid fun w => parse_miss s hs hx' w
    have HR := hid fun w => rparse_miss s hx' w
    clear hx hx' hs
    go_enter Tryd.func4, Tryd.ntmps4
    go_wp2_with (first | (go_at_call 9; refine (awake_any _ ht).mono ?_; rintro e w1 ⟨rfl, h1⟩; have ht1 := ht.still h1) | (go_at_call 11; refine (HP.out _ ht1).mono ?_; rintro e w2 ⟨rfl, h2⟩) | (go_at_call 17; refine (HR.out _).mono ?_; rintro e w3 ⟨rfl, h3⟩))
    go_ret
    exact ⟨rfl, h1.trans (h2.trans h3)⟩
/-- the model's mixed number is the plain one -/
theorem turn_nat (n k s : Nat) (hs : s = 2 ^ k) (h : n < 18446744073709551616) : turnI (n : Int) (s : Int) = ((Hx.turn n k : Nat) : Int) := by
  unfold turnI Hx.turn
  rw [xorShift_u64 n s h, hs]
theorem mul_nat (n c : Nat) : mulI (n : Int) (c : Int) = ((n * c % 18446744073709551616 : Nat) : Int) := by
  unfold mulI
  rw [IntKind.wrap_u64, Int.natCast_emod, Int.natCast_mul]
  rfl
theorem mix_nat (n : Nat) (h : n < 18446744073709551616) : mixI (n : Int) = ((Hx.mix n : Nat) : Int) := by
  unfold mixI Hx.mix
  have e1 : turnI (n : Int) 1073741824 = ((Hx.turn n 30 : Nat) : Int) := turn_nat n 30 1073741824 (by decide) h
  have e2 : mulI ((Hx.turn n 30 : Nat) : Int) 13787848793156543929 = ((Hx.first (Hx.turn n 30) : Nat) : Int) := mul_nat (Hx.turn n 30) 13787848793156543929
  have e3 : turnI ((Hx.first (Hx.turn n 30) : Nat) : Int) 134217728 = ((Hx.turn (Hx.first (Hx.turn n 30)) 27 : Nat) : Int) := turn_nat _ 27 134217728 (by decide) (Hx.first_lt _)
  have e4 : mulI ((Hx.turn (Hx.first (Hx.turn n 30)) 27 : Nat) : Int) 10723151780598845931 = ((Hx.second (Hx.turn (Hx.first (Hx.turn n 30)) 27) : Nat) : Int) := mul_nat _ 10723151780598845931
  have e5 : turnI ((Hx.second (Hx.turn (Hx.first (Hx.turn n 30)) 27) : Nat) : Int) 2147483648 = ((Hx.turn (Hx.second (Hx.turn (Hx.first (Hx.turn n 30)) 27)) 31 : Nat) : Int) := turn_nat _ 31 2147483648 (by decide) (Hx.second_lt _)
  rw [e1, e2, e3, e4, e5]
theorem mix_ne {a b : Int} (a0 : 0 ≤ a) (a1 : a < 18446744073709551616) (b0 : 0 ≤ b) (b1 : b < 18446744073709551616) (h : ¬ a = b) : ¬ mixI a = mixI b := by
  obtain ⟨x, rfl⟩ : ∃ x : Nat, a = (x : Int) := ⟨a.toNat, by omega⟩
  obtain ⟨y, rfl⟩ : ∃ y : Nat, b = (y : Int) := ⟨b.toNat, by omega⟩
  intro e
  rw [mix_nat x (by omega), mix_nat y (by omega)] at e
  exact h (congrArg _ (Hx.mix_inj (by omega) (by omega) (Int.ofNat.inj e)))
theorem tx_ne {a b : Int} (a0 : 0 ≤ a) (a1 : a < 18446744073709551616) (b0 : 0 ≤ b) (b1 : b < 18446744073709551616) (h : ¬ a = b) : ¬ TX a = TX b := by
  intro e
  have e1 : Hx.hx a.toNat 16 = Hx.hx b.toNat 16 := congrArg (fun t : ByteArray => t.data.toList) e
  have := Hx.hx16_inj (by omega) (by omega) e1
  omega
set_option maxHeartbeats 1000000 in
set_option maxRecDepth 100000 in
theorem unlike_walk (a b : Int) (a0 : 0 ≤ a) (a1 : a < 18446744073709551616) (b0 : 0 ≤ b) (b1 : b < 18446744073709551616) (w : World) (ht : Tab w) :
    Calls Tryd.prog 8 #[.int .u64 a, .int .u64 b] w fun e w' => e = .returned (.bool true) ∧ Still w w' := by
  have HM := hid fun n w => mix_still n w
  have HPA := hid (print_tx a a0 a1)
  have HPB := hid (print_tx b b0 b1)
  by_cases hab : a = b
  · subst hab
    clear a0 a1 b0 b1
    go_enter Tryd.func8, Tryd.ntmps8
    go_wp2_with (first | (go_at_call 9; refine (awake_any _ ht).mono ?_; rintro e w1 ⟨rfl, h1⟩; have ht1 := ht.still h1) | (go_at_call 12; refine (HM.out a _ (by assumption)).mono ?_; rintro e w2 ⟨rfl, h2⟩; have ht2 := Tab.still (by assumption) h2; have hs2 := Still.trans (by assumption) h2; clear h2) | (go_at_call 10; refine (HPA.out _ (by assumption)).mono ?_; rintro e w3 ⟨rfl, h3⟩; have ht3 := Tab.still (by assumption) h3; have hs3 := Still.trans (by assumption) h3; clear h3))
    go_ret
    exact ⟨rfl, by assumption⟩
  · have hm := mix_ne a0 a1 b0 b1 hab
    have ht0 := text_ne (tx_ne a0 a1 b0 b1 hab)
    have hm' : (mixI a == mixI b) = false := by simpa using hm
    have hab' : (a == b) = false := by simpa using hab
    clear a0 a1 b0 b1
    go_enter Tryd.func8, Tryd.ntmps8
    go_wp2_with (first | (go_at_call 9; refine (awake_any _ ht).mono ?_; rintro e w1 ⟨rfl, h1⟩; have ht1 := ht.still h1) | (go_at_call_of 12 (Value.int .u64 a); refine (HM.out a _ ht1).mono ?_; rintro e w2 ⟨rfl, h2⟩; have ht2 := ht1.still h2) | (go_at_call_of 12 (Value.int .u64 b); refine (HM.out b _ ht2).mono ?_; rintro e w3 ⟨rfl, h3⟩; have ht3 := ht2.still h3) | (go_at_call_of 10 (Value.int .u64 a); refine (HPA.out _ ht3).mono ?_; rintro e w4 ⟨rfl, h4⟩; have ht4 := ht3.still h4) | (go_at_call_of 10 (Value.int .u64 b); refine (HPB.out _ ht4).mono ?_; rintro e w5 ⟨rfl, h5⟩))
    go_ret
    exact ⟨rfl, h1.trans (h2.trans (h3.trans (h4.trans h5)))⟩
end Go.Proofs.YtpdgbalhbfpdeaaDoor
