/- The walk of the law FixedSigns. -/
import Derived.Test.YtihcicijoeplkabDoorAwake
import Derived.Test.YtihcicijoeplkabDoorPl
namespace Go.Proofs.YtihcicijoeplkabDoor
open Go.ChangeShapes Go.WideShapes Go.ChangeAt Go.RowKit
open Pu

theorem awake_hid (w : World) (ht : Tab w) : Calls Tryd.prog 6 #[] w fun e w' => e = .returned (.bool true) ∧ Hid (Below w.heap.size w w') := awake_any w ht
/-- a number's text. -/
def strOf (x : Int) : ByteArray := ⟨(printL (bnd x)).toArray⟩
theorem print_s (x : Int) (w : World) (ht : Tab w) : Calls Tryd.prog 15 #[.int .i64 x] w fun e w' => e = .returned (.string (strOf x)) ∧ Hid (Below w.heap.size w w') :=
  print_is x (strOf x) (by simp [strOf]) w ht
theorem strOf_neg {x : Int} (h : bnd x = x) (h0 : 0 < x) : strOf (-x) = ⟨#[45]⟩ ++ strOf x := by
  apply bytes_ext
  unfold strOf
  rw [bnd_neg, h]
  have e : printL (-x) = 45 :: printL x := by
    unfold printL
    rw [if_pos (by omega), if_neg (by omega), Int.neg_neg]
  rw [e]
  simp [ByteArray.data_append]
theorem strOf_size (x : Int) : (strOf x).size ≤ 17 := by
  have hd : ∀ n : Nat, n ≤ 2147483647 → (sizeL n).length ≤ 16 := by
    intro n hn
    unfold sizeL
    have h1 := dec_le (n := n / 256) (by omega)
    have h2 := tail8_le (n % 256)
    rw [List.length_append]
    split
    · simp; omega
    · simp; omega
  have a1 := bnd_lo x
  have a2 := bnd_hi x
  show (printL (bnd x)).toArray.size ≤ 17
  rw [List.size_toArray]
  unfold printL
  split
  · have := hd (-bnd x).toNat (by omega); simp; omega
  · have := hd (bnd x).toNat (by omega); omega
set_option maxHeartbeats 2000000 in
set_option maxRecDepth 100000 in
theorem signs_walk (a b : Int) (_ : (Lit.int .i64 a).wf = true) (_ : (Lit.int .i64 b).wf = true) (w : World) (ht : Tab w) :
    Calls Tryd.prog 5 #[.int .i64 a, .int .i64 b] w fun e w' => e = .returned (.bool true) ∧ Below w.heap.size w w' := by
  have x1 := bnd_lo a
  have x2 := bnd_hi a
  have y1 := bnd_lo b
  have y2 := bnd_hi b
  have n1 : (addf (-bnd a) (-bnd b) == -addf (bnd a) (bnd b)) = true := by rw [addf_neg]; exact beq_self_eq_true _
  have n2 : (mulf (-bnd a) (bnd b) == -mulf (bnd a) (bnd b)) = true := by rw [mulf_neg]; exact beq_self_eq_true _
  have n3 : (subf (bnd b) (bnd a) == -subf (bnd a) (bnd b)) = true := by rw [subf_neg (x := bnd a)]; exact beq_self_eq_true _
  have n5 : (divf (-bnd a) (bnd b) == -divf (bnd a) (bnd b)) = true := by rw [divf_neg]; exact beq_self_eq_true _
  obtain ⟨n6, n6'⟩ := whole_of x1 x2
  have n7 : (absf (-bnd a) == absf (bnd a)) = true := by rw [absf_neg]; exact beq_self_eq_true _
  have s1 := addf_lo (bnd a) (bnd b)
  have s2 := addf_hi (bnd a) (bnd b)
  have s3 : -2147483647 ≤ mulf (bnd a) (bnd b) := bnd_lo _
  have s4 : mulf (bnd a) (bnd b) ≤ 2147483647 := bnd_hi _
  have s5 : -2147483647 ≤ subf (bnd a) (bnd b) := bnd_lo _
  have s6 : subf (bnd a) (bnd b) ≤ 2147483647 := bnd_hi _
  have s7 := divf_lo (bnd a) (bnd b)
  have s8 := divf_hi (bnd a) (bnd b)
  have s9 : -2147483647 ≤ off (wholef (bnd a)) := bnd_lo _
  have z1 := strOf_size (bnd a)
  by_cases h0 : bnd a ≤ 0
  · go_enter Tryd.func5, Tryd.ntmps5
    go_wp2_with (first
      | (go_at_call 6; refine (awake_hid _ ht).mono ?_; rintro e w1 ⟨rfl, HB⟩)
      | (go_at_call 7; refine (bound_any _ _).mono ?_; rintro e w' ⟨rfl, rfl⟩)
      | (go_at_call 9; refine (div_any _ _ _).mono ?_; rintro e w' ⟨rfl, rfl⟩))
    refine (print_s _ _ (ht.on HB.out)).mono ?_
    rintro e w2 ⟨rfl, HC⟩
    go_wp2_with fail
    refine (print_s _ _ ((ht.on HB.out).on HC.out)).mono ?_
    rintro e w3 ⟨rfl, HD⟩
    go_wp2_with (first
      | (go_at_call 16; refine (add_any _ _ _).mono ?_; rintro e w' ⟨rfl, rfl⟩)
      | (go_at_call 8; refine (mul_any _ _ _).mono ?_; rintro e w' ⟨rfl, rfl⟩)
      | (go_at_call 17; refine (sub_any _ _ _).mono ?_; rintro e w' ⟨rfl, rfl⟩)
      | (go_at_call 18; refine (whole_any _ _).mono ?_; rintro e w' ⟨rfl, rfl⟩)
      | (go_at_call 19; refine (of_any _ _).mono ?_; rintro e w' ⟨rfl, rfl⟩)
      | (go_at_call 20; refine (abs_any _ _).mono ?_; rintro e w' ⟨rfl, rfl⟩))
    go_ret
    exact ⟨rfl, below_more (below_more HB.out HC.out) HD.out⟩
  · have n8 : ((strOf (-bnd a)).toList == (ByteArray.mk #[45] ++ strOf (bnd a)).toList) = true := by rw [strOf_neg (bnd_bnd a) (by omega)]; exact beq_self_eq_true _
    go_enter Tryd.func5, Tryd.ntmps5
    go_wp2_with (first
      | (go_at_call 6; refine (awake_hid _ ht).mono ?_; rintro e w1 ⟨rfl, HB⟩)
      | (go_at_call 7; refine (bound_any _ _).mono ?_; rintro e w' ⟨rfl, rfl⟩)
      | (go_at_call 9; refine (div_any _ _ _).mono ?_; rintro e w' ⟨rfl, rfl⟩))
    refine (print_s _ _ (ht.on HB.out)).mono ?_
    rintro e w2 ⟨rfl, HC⟩
    go_wp2_with fail
    refine (print_s _ _ ((ht.on HB.out).on HC.out)).mono ?_
    rintro e w3 ⟨rfl, HD⟩
    go_wp2_with (first
      | (go_at_call 16; refine (add_any _ _ _).mono ?_; rintro e w' ⟨rfl, rfl⟩)
      | (go_at_call 8; refine (mul_any _ _ _).mono ?_; rintro e w' ⟨rfl, rfl⟩)
      | (go_at_call 17; refine (sub_any _ _ _).mono ?_; rintro e w' ⟨rfl, rfl⟩)
      | (go_at_call 18; refine (whole_any _ _).mono ?_; rintro e w' ⟨rfl, rfl⟩)
      | (go_at_call 19; refine (of_any _ _).mono ?_; rintro e w' ⟨rfl, rfl⟩)
      | (go_at_call 20; refine (abs_any _ _).mono ?_; rintro e w' ⟨rfl, rfl⟩))
    go_ret
    exact ⟨rfl, below_more (below_more HB.out HC.out) HD.out⟩
end Go.Proofs.YtihcicijoeplkabDoor
