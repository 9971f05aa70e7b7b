/- Contracts of the texts that package fixed prints. -/
import Derived.Test.YtihcicijoeplkaaDoorParts
import Derived.Test.YtihcicijoeplkaaDoorShelf
import Derived.Test.YtihcicijoeplkaaDoorTp
import Derived.Lib.Hide
import Derived.Lib.OthersKept
import Derived.Lib.Strings
import Derived.Lib.AppendIntMem
namespace Go.Proofs.YtihcicijoeplkaaDoor
open Go.ChangeShapes Go.WideShapes Go.ChangeAt Go.RowKit
open Pu

/-- The library's table lies as its text lays it. -/
def Tab (w : World) : Prop := Lib.TabIs Tryd.prog w "internal/strconv.uint64pow10" .u64 Lib.pow10Tab
theorem Tab.on {w w' : World} (h : Tab w) (hb : Below w.heap.size w w') : Tab w' := (Lib.tabBelow_of_tabIs h) w' hb
theorem below_more {w w1 w2 : World} (h : Below w.heap.size w w1) (k : Below w1.heap.size w1 w2) : Below w.heap.size w w2 := h.trans (k.mono h.size)
theorem itoa_any (n : Int) (h0 : 0 ≤ n) (h1 : n ≤ 9223372036854775807) (w : World) (ht : Tab w) :
    Calls Tryd.prog 40 #[.int .i64 n] w fun e w' => ∃ t : ByteArray, e = .returned (.string t) ∧ t.data.toList = Lib.decDigits n.toNat ∧ Below w.heap.size w w' := by
  refine (Tryd.strconv_Itoa n (by omega) h1 w ht).mono ?_
  rintro e w' ⟨rfl, k, os, rfl⟩
  refine ⟨_, rfl, ?_, ?_⟩
  · have : Lib.itoa n = Lib.decDigits n.toNat := by unfold Lib.itoa; rw [if_neg (by omega)]
    rw [this]
  · exact Lib.below_grow _ _ (Nat.le_refl _) _ _
theorem itoa_rest (r : Int) (h0 : 0 ≤ r) (h1 : r ≤ 255) (w : World) (ht : Tab w) :
    Calls Tryd.prog 40 #[.int .i64 (100000000 + r * 390625)] w fun e w' => ∃ t : ByteArray, e = .returned (.string t) ∧ t.size = 9 ∧ Hid (t.data.toList = 49 :: pad 8 (r.toNat * 390625)) ∧ Hid (Below w.heap.size w w') := by
  refine (itoa_any (100000000 + r * 390625) (by omega) (by omega) w ht).mono ?_
  rintro e w' ⟨t, rfl, ht, hb⟩
  have e : (100000000 + r * 390625).toNat = 100000000 + r.toNat * 390625 := by omega
  rw [e, dec_rest (by omega)] at ht
  refine ⟨t, rfl, ?_, ht, hb⟩
  rw [Lib.size_eq, ht, List.length_cons, pad_length]
theorem trim_rest (t : ByteArray) (hsz : t.size = 9) (w : World) :
    Calls Tryd.prog 46 #[.string (t.extract 1 9), .string ⟨#[48]⟩] w fun e w' => ∃ u : ByteArray, e = .returned (.string u) ∧ Hid (u.data.toList = Lib.trimRightB (t.data.toList.drop 1) 48) ∧ w' = w := by
  refine (Tryd.strings_TrimRight_one (t.extract 1 9) 48 (by decide) w (by rw [ByteArray.size_extract]; omega)).mono ?_
  rintro e w' ⟨rfl, rfl⟩
  refine ⟨_, rfl, ?_, rfl⟩
  have e : (t.extract 1 9).data.toList = t.data.toList.drop 1 := by
    rw [Lib.size_eq] at hsz
    rw [ByteArray.data_extract, Array.toList_extract, List.extract_eq_take_drop, List.take_of_length_le (by rw [List.length_drop]; omega)]
  show _ = _
  rw [e]
theorem printRest_any (r : Int) (h0 : 0 ≤ r) (h1 : r ≤ 255) (w : World) (ht : Tab w) :
    Calls Tryd.prog 41 #[.int .i64 r] w fun e w' => ∃ t : ByteArray, e = .returned (.string t) ∧ t.data.toList = tail8 r.toNat ∧ Below w.heap.size w w' := by
  go_enter Tryd.func41, Tryd.ntmps41
  go_wp2_with (go_at_call 40; refine (itoa_rest _ h0 h1 _ ht).mono ?_; rintro e w' ⟨t, rfl, hsz, HT, HB⟩)
  refine (trim_rest t hsz w').mono ?_
  rintro e w2 ⟨u, rfl, HU, rfl⟩
  go_wp2_with fail
  go_ret
  refine ⟨u, rfl, ?_, HB.out⟩
  rw [HU.out, HT.out]; rfl
theorem itoa_whole (n : Int) (h0 : 0 ≤ n) (h1 : n ≤ 8388607) (w : World) (ht : Tab w) :
    Calls Tryd.prog 40 #[.int .i64 n] w fun e w' => ∃ t : ByteArray, e = .returned (.string t) ∧ t.size ≤ 7 ∧ Hid (t.data.toList = Lib.decDigits n.toNat) ∧ Hid (Below w.heap.size w w') := by
  refine (itoa_any n h0 (by omega) w ht).mono ?_
  rintro e w' ⟨t, rfl, ht, hb⟩
  refine ⟨t, rfl, ?_, ht, hb⟩
  rw [Lib.size_eq, ht]; exact dec_le (by omega)
theorem printRest_hid (r : Int) (h0 : 0 ≤ r) (h1 : r ≤ 255) (w : World) (ht : Tab w) :
    Calls Tryd.prog 41 #[.int .i64 r] w fun e w' => ∃ t : ByteArray, e = .returned (.string t) ∧ t.size ≤ 8 ∧ Hid (t.data.toList = tail8 r.toNat) ∧ Hid (Below w.heap.size w w') := by
  refine (printRest_any r h0 h1 w ht).mono ?_
  rintro e w' ⟨t, rfl, ht, hb⟩
  refine ⟨t, rfl, ?_, ht, hb⟩
  rw [Lib.size_eq, ht]; exact tail8_le _
theorem printL_of (x : Int) : printL (bnd x) = (if x < 0 then [45] else []) ++ (Lib.decDigits (absf x / 256).toNat ++ if absf x % 256 = 0 then [] else 46 :: tail8 (absf x % 256).toNat) := by
  have a1 := bnd_lo x
  have a2 := bnd_hi x
  have hs : bnd x < 0 ↔ x < 0 := by
    unfold bnd; repeat' split
    all_goals omega
  have key : ∀ n : Int, 0 ≤ n → sizeL n.toNat = Lib.decDigits (n / 256).toNat ++ if n % 256 = 0 then [] else 46 :: tail8 (n % 256).toNat := by
    intro n hn
    unfold sizeL
    have e1 : n.toNat / 256 = (n / 256).toNat := by omega
    have e2 : n.toNat % 256 = (n % 256).toNat := by omega
    rw [e1, e2]
    by_cases h : n % 256 = 0
    · rw [if_pos h, if_pos (by omega)]
    · rw [if_neg h, if_neg (by omega)]
  unfold printL absf
  by_cases h : x < 0
  · have h' := hs.2 h
    rw [if_pos h', if_pos h', if_pos h, key _ (by omega)]; rfl
  · have h' : ¬ bnd x < 0 := fun k => h (hs.1 k)
    rw [if_neg h', if_neg h', if_neg h, key _ (by omega)]; rfl
theorem print_any (x : Int) (w : World) (ht : Tab w) :
    Calls Tryd.prog 32 #[.int .i64 x] w fun e w' => ∃ t : ByteArray, e = .returned (.string t) ∧ t.data.toList = printL (bnd x) ∧ Below w.heap.size w w' := by
  have hp := Lib.hid (printL_of x)
  have b0 : 0 ≤ absf x := by unfold absf; split <;> omega
  have b1 : absf x ≤ 2147483647 := by have a1 := bnd_lo x; have a2 := bnd_hi x; unfold absf; split <;> omega
  by_cases hr : absf x % 256 = 0
  · have HR := Lib.hid hr
    have hr' : (absf x % 256 != 0) = false := by simp [hr]
    clear hr
    by_cases hx : x < 0
    · go_enter Tryd.func32, Tryd.ntmps32
      go_wp2_with (first | (go_at_call 26; refine (abs_any _ _).mono ?_; rintro e w' ⟨rfl, rfl⟩) | (go_at_call 40; refine (itoa_whole _ (by omega) (by omega) _ ht).mono ?_; rintro e w1 ⟨t, rfl, hsz, HT, HB⟩))
      go_ret
      refine ⟨_, rfl, ?_, HB.out⟩
      rw [hp.out, if_pos hx, if_pos HR.out, ← HT.out]
      simp [ByteArray.data_append]
    · go_enter Tryd.func32, Tryd.ntmps32
      go_wp2_with (first | (go_at_call 26; refine (abs_any _ _).mono ?_; rintro e w' ⟨rfl, rfl⟩) | (go_at_call 40; refine (itoa_whole _ (by omega) (by omega) _ ht).mono ?_; rintro e w1 ⟨t, rfl, hsz, HT, HB⟩))
      go_ret
      refine ⟨_, rfl, ?_, HB.out⟩
      rw [hp.out, if_neg (show ¬ x < 0 by omega), if_pos HR.out, ← HT.out]
      simp
  · have HR := Lib.hid hr
    have hr' : (absf x % 256 != 0) = true := by simp [hr]
    clear hr
    by_cases hx : x < 0
    · go_enter Tryd.func32, Tryd.ntmps32
      go_wp2_with (first | (go_at_call 26; refine (abs_any _ _).mono ?_; rintro e w' ⟨rfl, rfl⟩) | (go_at_call 40; refine (itoa_whole _ (by omega) (by omega) _ ht).mono ?_; rintro e w1 ⟨t, rfl, hsz, HT, HB⟩) | (go_at_call 41; refine (printRest_hid _ (by omega) (by omega) _ (ht.on HB.out)).mono ?_; rintro e w2 ⟨u, rfl, hsu, HU, HC⟩))
      go_ret
      refine ⟨_, rfl, ?_, below_more HB.out HC.out⟩
      rw [hp.out, if_pos hx, if_neg HR.out, ← HT.out, ← HU.out]
      simp [ByteArray.data_append]
    · go_enter Tryd.func32, Tryd.ntmps32
      go_wp2_with (first | (go_at_call 26; refine (abs_any _ _).mono ?_; rintro e w' ⟨rfl, rfl⟩) | (go_at_call 40; refine (itoa_whole _ (by omega) (by omega) _ ht).mono ?_; rintro e w1 ⟨t, rfl, hsz, HT, HB⟩) | (go_at_call 41; refine (printRest_hid _ (by omega) (by omega) _ (ht.on HB.out)).mono ?_; rintro e w2 ⟨u, rfl, hsu, HU, HC⟩))
      go_ret
      refine ⟨_, rfl, ?_, below_more HB.out HC.out⟩
      rw [hp.out, if_neg (show ¬ x < 0 by omega), if_neg HR.out, ← HT.out, ← HU.out]
      simp [ByteArray.data_append]
end Go.Proofs.YtihcicijoeplkaaDoor
