/- The contract of fixed.Parse: any text. -/
import Derived.Test.YtihcicijoeplkaaDoorRead
namespace Go.Proofs.YtihcicijoeplkaaDoor
open Go.ChangeShapes Go.WideShapes Go.ChangeAt Go.RowKit
open Pu

def parseV : Option Int → Value
  | none => .tuple #[.int .i64 0, .int .i64 12]
  | some n => .tuple #[.int .i64 n, .int .i64 0]
theorem read_none (s : ByteArray) (hs : s.size ≤ maxLen) (h : readS s.data.toList = none) (w : World) :
    Calls Tryd.prog 42 #[.string s] w fun e w' => e = .returned (.tuple #[.int .i64 0, .bool false]) ∧ Hid (Below w.heap.size w w') := by
  have := read_any s hs w
  rw [h] at this
  exact this
theorem read_some (s : ByteArray) (hs : s.size ≤ maxLen) (n : Int) (h : readS s.data.toList = some n) (w : World) :
    Calls Tryd.prog 42 #[.string s] w fun e w' => e = .returned (.tuple #[.int .i64 n, .bool true]) ∧ Hid (Below w.heap.size w w') := by
  have := read_any s hs w
  rw [h] at this
  exact this
theorem print_hid (x : Int) (w : World) (ht : Tab w) :
    Calls Tryd.prog 32 #[.int .i64 x] w fun e w' => ∃ t : ByteArray, e = .returned (.string t) ∧ Hid (t.data.toList = printL (bnd x)) ∧ Hid (Below w.heap.size w w') := by
  exact print_any x w ht
theorem bytes_ext {s t : ByteArray} (h : s.data.toList = t.data.toList) : s = t := by
  cases s; cases t
  simp only [ByteArray.mk.injEq]
  exact Array.toList_inj.1 h
theorem print_is (x : Int) (s : ByteArray) (hs : printL (bnd x) = s.data.toList) (w : World) (ht : Tab w) :
    Calls Tryd.prog 32 #[.int .i64 x] w fun e w' => e = .returned (.string s) ∧ Hid (Below w.heap.size w w') := by
  refine (print_any x w ht).mono ?_
  rintro e w' ⟨t, rfl, h, hb⟩
  rw [bytes_ext (h.trans hs)]
  exact ⟨rfl, hb⟩
theorem print_isnt (x : Int) (s : ByteArray) (hs : ¬ printL (bnd x) = s.data.toList) (w : World) (ht : Tab w) :
    Calls Tryd.prog 32 #[.int .i64 x] w fun e w' => ∃ t : ByteArray, e = .returned (.string t) ∧ (t.toList == s.toList) = false ∧ Hid (Below w.heap.size w w') := by
  refine (print_any x w ht).mono ?_
  rintro e w' ⟨t, rfl, h, hb⟩
  refine ⟨t, rfl, ?_, hb⟩
  rw [Bool.eq_false_iff]
  intro k
  rw [beq_iff_eq, ByteArray.toList_eq, ByteArray.toList_eq] at k
  exact hs (h.symm.trans k)
theorem parse_any (s : ByteArray) (hs : s.size ≤ maxLen) (w : World) (ht : Tab w) :
    Calls Tryd.prog 33 #[.string s] w fun e w' => e = .returned (parseV (parseS s.data.toList)) ∧ Below w.heap.size w w' := by
  cases hr : readS s.data.toList with
  | none =>
    have e : parseS s.data.toList = none := by unfold parseS; rw [hr]
    rw [e]; clear e
    have HR := Lib.hid hr
    clear hr
    go_enter Tryd.func33, Tryd.ntmps33
    go_wp2_with (go_at_call 42; refine (read_none s hs HR.out _).mono ?_; rintro e w1 ⟨rfl, HB⟩)
    go_ret2
    exact ⟨rfl, HB.out⟩
  | some n =>
    have HR := Lib.hid hr
    by_cases hq : printL (bnd n) = s.data.toList
    · have e : parseS s.data.toList = some n := by unfold parseS; rw [hr]; exact if_pos hq
      rw [e]; clear e hr
      have HQ := Lib.hid hq
      clear hq
      go_enter Tryd.func33, Tryd.ntmps33
      go_wp2_with (first | (go_at_call 42; refine (read_some s hs n HR.out _).mono ?_; rintro e w1 ⟨rfl, HB⟩) | (go_at_call 32; refine (print_is _ s HQ.out _ (ht.on HB.out)).mono ?_; rintro e w2 ⟨rfl, HC⟩))
      go_ret2
      exact ⟨rfl, below_more HB.out HC.out⟩
    · have e : parseS s.data.toList = none := by unfold parseS; rw [hr]; exact if_neg hq
      rw [e]; clear e hr
      have HQ := Lib.hid hq
      clear hq
      go_enter Tryd.func33, Tryd.ntmps33
      go_wp2_with (first | (go_at_call 42; refine (read_some s hs n HR.out _).mono ?_; rintro e w1 ⟨rfl, HB⟩) | (go_at_call 32; refine (print_isnt _ s HQ.out _ (ht.on HB.out)).mono ?_; rintro e w2 ⟨t, rfl, hT, HC⟩))
      go_ret2
      exact ⟨rfl, below_more HB.out HC.out⟩
end Go.Proofs.YtihcicijoeplkaaDoor
