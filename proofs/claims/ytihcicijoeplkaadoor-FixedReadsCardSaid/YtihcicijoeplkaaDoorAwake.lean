/- The contract of awake: the chapter's examples hold. -/
import Derived.Test.YtihcicijoeplkaaDoorParse
namespace Go.Proofs.YtihcicijoeplkaaDoor
open Go.ChangeShapes Go.WideShapes Go.ChangeAt Go.RowKit
open Pu

theorem ex_bnd : bnd 1099511627776 = 2147483647 := by decide
theorem ex_off : off 3 = 768 := by decide
theorem ex_whole : wholef (-1) = -1 := by decide
theorem ex_add : addf 1 2 = 3 := by decide
theorem ex_sub : subf 1 2 = -1 := by decide
theorem ex_mul : mulf 384 512 = 768 := by decide +kernel
theorem ex_abs : absf (-5) = 5 := by decide
theorem ex_div : divf 256 768 = 85 := by decide +kernel
theorem ex_dive : dive 768 = 0 := by decide
theorem ex_clamp : clampf 5 10 20 = 10 := by decide
theorem ex_blend : blendf 0 100 128 = 50 := by decide +kernel
theorem ex_root : (if bnd 512 < 0 then 0 else isq (bnd 512 * 256)) = 362 := by decide +kernel
theorem ex_rootE : (if bnd 512 < 0 then (11 : Int) else 0) = 0 := by decide
theorem ex_print : printL (bnd (-1)) = [45, 48, 46, 48, 48, 51, 57, 48, 54, 50, 53] := by
  have e : bnd (-1) = -1 := by decide
  have e2 : tail8 1 = [48, 48, 51, 57, 48, 54, 50, 53] := by decide +kernel
  rw [e]
  show 45 :: (Lib.decDigits 0 ++ 46 :: tail8 1) = _
  rw [e2, Lib.decDigits_one (by omega)]
  rfl
theorem ex_print2 : printL (bnd 384) = [49, 46, 53] := by
  have e : bnd 384 = 384 := by decide
  have e2 : tail8 128 = [53] := by decide +kernel
  rw [e]
  show Lib.decDigits 1 ++ 46 :: tail8 128 = _
  rw [e2, Lib.decDigits_one (by omega)]
  rfl
theorem ex_read : readS [49, 46, 53] = some 384 := by decide +kernel
theorem ex_parse : parseS [49, 46, 53] = some 384 := by
  unfold parseS
  rw [ex_read]
  exact if_pos ex_print2

theorem a_div (w : World) : Calls Tryd.prog 10 #[.int .i64 256, .int .i64 768] w fun e w' => e = .returned (.tuple #[.int .i64 85, .int .i64 0]) ∧ w' = w := by
  have := div_any 256 768 w
  rwa [ex_div, ex_dive] at this
theorem a_root (w : World) : Calls Tryd.prog 18 #[.int .i64 512] w fun e w' => e = .returned (.tuple #[.int .i64 362, .int .i64 0]) ∧ w' = w := by
  have := root_any 512 w
  rwa [ex_root, ex_rootE] at this
theorem a_parse (w : World) (ht : Tab w) : Calls Tryd.prog 33 #[.string ⟨#[49, 46, 53]⟩] w fun e w' => e = .returned (.tuple #[.int .i64 384, .int .i64 0]) ∧ Hid (Below w.heap.size w w') := by
  have := parse_any ⟨#[49, 46, 53]⟩ (by decide) w ht
  have e : (ByteArray.mk #[49, 46, 53]).data.toList = [49, 46, 53] := rfl
  rw [e, ex_parse] at this
  exact this
theorem a_bound (w : World) : Calls Tryd.prog 20 #[.int .i64 1099511627776] w fun e w' => e = .returned (.int .i64 2147483647) ∧ w' = w := by
  have := bound_any 1099511627776 w
  rwa [ex_bnd] at this
theorem a_of (w : World) : Calls Tryd.prog 22 #[.int .i64 3] w fun e w' => e = .returned (.int .i64 768) ∧ w' = w := by
  have := of_any 3 w
  rwa [ex_off] at this
theorem a_whole (w : World) : Calls Tryd.prog 24 #[.int .i64 (-1)] w fun e w' => e = .returned (.int .i64 (-1)) ∧ w' = w := by
  have := whole_any (-1) w
  rwa [ex_whole] at this
theorem a_add (w : World) : Calls Tryd.prog 12 #[.int .i64 1, .int .i64 2] w fun e w' => e = .returned (.int .i64 3) ∧ w' = w := by
  have := add_any 1 2 w
  rwa [ex_add] at this
theorem a_sub (w : World) : Calls Tryd.prog 14 #[.int .i64 1, .int .i64 2] w fun e w' => e = .returned (.int .i64 (-1)) ∧ w' = w := by
  have := sub_any 1 2 w
  rwa [ex_sub] at this
theorem a_mul (w : World) : Calls Tryd.prog 16 #[.int .i64 384, .int .i64 512] w fun e w' => e = .returned (.int .i64 768) ∧ w' = w := by
  have := mul_any 384 512 w
  rwa [ex_mul] at this
theorem a_abs (w : World) : Calls Tryd.prog 26 #[.int .i64 (-5)] w fun e w' => e = .returned (.int .i64 5) ∧ w' = w := by
  have := abs_any (-5) w
  rwa [ex_abs] at this
theorem a_clamp (w : World) : Calls Tryd.prog 30 #[.int .i64 5, .int .i64 10, .int .i64 20] w fun e w' => e = .returned (.int .i64 10) ∧ w' = w := by
  have := clamp_any 5 10 20 w
  rwa [ex_clamp] at this
theorem a_blend (w : World) : Calls Tryd.prog 28 #[.int .i64 0, .int .i64 100, .int .i64 128] w fun e w' => e = .returned (.int .i64 50) ∧ w' = w := by
  have := blend_any 0 100 128 w
  rwa [ex_blend] at this
theorem a_print (w : World) (ht : Tab w) : Calls Tryd.prog 32 #[.int .i64 (-1)] w fun e w' => e = .returned (.string ⟨#[45, 48, 46, 48, 48, 51, 57, 48, 54, 50, 53]⟩) ∧ Hid (Below w.heap.size w w') :=
  print_is (-1) ⟨#[45, 48, 46, 48, 48, 51, 57, 48, 54, 50, 53]⟩ (by rw [ex_print]) w ht

theorem awake_any (w : World) (ht : Tab w) : Calls Tryd.prog 9 #[] w fun e w' => e = .returned (.bool true) ∧ Below w.heap.size w w' := by
  go_enter Tryd.func9, Tryd.ntmps9
  go_wp2_with (first
    | (go_at_call 10; refine (a_div _).mono ?_; rintro e w' ⟨rfl, rfl⟩)
    | (go_at_call 18; refine (a_root _).mono ?_; rintro e w' ⟨rfl, rfl⟩)
    | (go_at_call 33; refine (a_parse _ ht).mono ?_; rintro e w1 ⟨rfl, HB⟩)
    | (go_at_call 20; refine (a_bound _).mono ?_; rintro e w' ⟨rfl, rfl⟩)
    | (go_at_call 22; refine (a_of _).mono ?_; rintro e w' ⟨rfl, rfl⟩)
    | (go_at_call 24; refine (a_whole _).mono ?_; rintro e w' ⟨rfl, rfl⟩)
    | (go_at_call 12; refine (a_add _).mono ?_; rintro e w' ⟨rfl, rfl⟩)
    | (go_at_call 14; refine (a_sub _).mono ?_; rintro e w' ⟨rfl, rfl⟩)
    | (go_at_call 16; refine (a_mul _).mono ?_; rintro e w' ⟨rfl, rfl⟩)
    | (go_at_call 26; refine (a_abs _).mono ?_; rintro e w' ⟨rfl, rfl⟩)
    | (go_at_call 30; refine (a_clamp _).mono ?_; rintro e w' ⟨rfl, rfl⟩)
    | (go_at_call 28; refine (a_blend _).mono ?_; rintro e w' ⟨rfl, rfl⟩)
    | (go_at_call 32; refine (a_print _ (ht.on HB.out)).mono ?_; rintro e w2 ⟨rfl, HC⟩))
  go_ret
  exact ⟨rfl, below_more HB.out HC.out⟩
end Go.Proofs.YtihcicijoeplkaaDoor
