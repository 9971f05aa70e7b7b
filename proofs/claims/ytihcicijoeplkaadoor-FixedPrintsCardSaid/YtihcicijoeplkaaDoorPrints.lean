/- The walk of the law FixedPrints. -/
import Derived.Test.YtihcicijoeplkaaDoorRPrint
namespace Go.Proofs.YtihcicijoeplkaaDoor
open Go.ChangeShapes Go.WideShapes Go.ChangeAt Go.RowKit
open Pu

theorem awake_hid (w : World) (ht : Tab w) : Calls Tryd.prog 9 #[] w fun e w' => e = .returned (.bool true) ∧ Hid (Below w.heap.size w w') := awake_any w ht
/-- a number's text. -/
def strOf (x : Int) : ByteArray := ⟨(printL (bnd x)).toArray⟩
theorem print_s (x : Int) (w : World) (ht : Tab w) : Calls Tryd.prog 32 #[.int .i64 x] w fun e w' => e = .returned (.string (strOf x)) ∧ Hid (Below w.heap.size w w') :=
  print_is x (strOf x) (by simp [strOf]) w ht
theorem strOf_size (x : Int) : (strOf x).size ≤ 17 := by
  have hd : ∀ n : Nat, n ≤ 2147483647 → (sizeL n).length ≤ 16 := by
    intro n hn
    unfold sizeL
    have h1 := dec_le (n := n / 256) (by omega)
    have h2 := tail8_le (n % 256)
    rw [List.length_append]
    split
    · simp; omega
    · simp; omega
  have a1 := bnd_lo x
  have a2 := bnd_hi x
  show (printL (bnd x)).toArray.size ≤ 17
  rw [List.size_toArray]
  unfold printL
  split
  · have := hd (-bnd x).toNat (by omega); simp; omega
  · have := hd (bnd x).toNat (by omega); omega
theorem parse_s (x : Int) (w : World) (ht : Tab w) : Calls Tryd.prog 33 #[.string (strOf x)] w fun e w' => e = .returned (.tuple #[.int .i64 (bnd x), .int .i64 0]) ∧ Hid (Below w.heap.size w w') := by
  have h := parse_any (strOf x) (by have := strOf_size x; unfold maxLen; omega) w ht
  have e : (strOf x).data.toList = printL (bnd x) := by simp [strOf]
  rw [e, rt_parse (bnd_lo x) (bnd_hi x)] at h
  exact h
theorem rprint_s (x : Int) (w : World) : Calls Tryd.prog 34 #[.int .i64 x] w fun e w' => e = .returned (.string (strOf x)) ∧ Hid (Below w.heap.size w w') := by
  refine (rprint_any x w).mono ?_
  rintro e w' ⟨t, rfl, h, hb⟩
  have e : t = strOf x := bytes_ext (by rw [h]; simp [strOf])
  rw [e]
  exact ⟨rfl, hb⟩
theorem prints_walk (x : Int) (_ : (Lit.int .i64 x).wf = true) (w : World) (ht : Tab w) :
    Calls Tryd.prog 6 #[.int .i64 x] w fun e w' => e = .returned (.bool true) ∧ Below w.heap.size w w' := by
  go_enter Tryd.func6, Tryd.ntmps6
  go_wp2_with (first
    | (go_at_call 9; refine (awake_hid _ ht).mono ?_; rintro e w1 ⟨rfl, HB⟩)
    | (go_at_call 32; refine (print_s _ _ (ht.on HB.out)).mono ?_; rintro e w2 ⟨rfl, HC⟩)
    | (go_at_call 33; refine (parse_s _ _ ((ht.on HB.out).on HC.out)).mono ?_; rintro e w3 ⟨rfl, HD⟩)
    | (go_at_call 34; refine (rprint_s _ _).mono ?_; rintro e w4 ⟨rfl, HE⟩)
    | (go_at_call 21; refine (rbound_any _ _).mono ?_; rintro e w' ⟨rfl, rfl⟩))
  go_ret
  exact ⟨rfl, below_more (below_more (below_more HB.out HC.out) HD.out) HE.out⟩
end Go.Proofs.YtihcicijoeplkaaDoor
