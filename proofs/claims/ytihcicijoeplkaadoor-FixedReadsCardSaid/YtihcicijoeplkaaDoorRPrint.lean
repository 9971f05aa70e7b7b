/- The contract of the document's Print. -/
import Derived.Test.YtihcicijoeplkaaDoorDigits
namespace Go.Proofs.YtihcicijoeplkaaDoor
open Go.ChangeShapes Go.WideShapes Go.ChangeAt Go.RowKit
open Pu

theorem digits_whole (n : Int) (h0 : 0 ≤ n) (h1 : n ≤ 8388607) (w : World) :
    Calls Tryd.prog 43 #[.int .i64 n, .int .i64 1] w fun e w' => ∃ t : ByteArray, e = .returned (.string t) ∧ t.size ≤ 7 ∧ Hid (t.data.toList = Lib.decDigits n.toNat) ∧ Hid (Below w.heap.size w w') := by
  refine (digits_any n 1 h0 (by omega) (by omega) (by omega) w).mono ?_
  rintro e w' ⟨t, rfl, ht, hb⟩
  have e1 : (1 : Int).toNat = 1 := rfl
  rw [e1, dlF_one (Nat.le_refl _)] at ht
  refine ⟨t, rfl, ?_, ht, hb⟩
  rw [Lib.size_eq, ht]; exact dec_le (by omega)
theorem digits_rest (r : Int) (h0 : 0 ≤ r) (h1 : r ≤ 255) (w : World) :
    Calls Tryd.prog 43 #[.int .i64 (r * 390625), .int .i64 8] w fun e w' => ∃ t : ByteArray, e = .returned (.string t) ∧ t.size = 8 ∧ Hid (t.data.toList = pad 8 (r.toNat * 390625)) ∧ Hid (Below w.heap.size w w') := by
  refine (digits_any (r * 390625) 8 (by omega) (by omega) (by omega) (by omega) w).mono ?_
  rintro e w' ⟨t, rfl, ht, hb⟩
  have e1 : (8 : Int).toNat = 8 := rfl
  have e2 : (r * 390625).toNat = r.toNat * 390625 := by omega
  rw [e1, e2, dlF_pad 8 _ _ (by omega) (Nat.le_refl _)] at ht
  refine ⟨t, rfl, ?_, ht, hb⟩
  rw [Lib.size_eq, ht, pad_length]
def strLen : Value → Nat
  | .string s => s.size
  | _ => 0
theorem trim_snoc (l : List UInt8) : Lib.trimRightB (l ++ [48]) 48 = Lib.trimRightB l 48 := by
  unfold Lib.trimRightB
  rw [List.reverse_append]
  simp
theorem trim_ne (l : List UInt8) (c : UInt8) (h : c ≠ 48) : Lib.trimRightB (l ++ [c]) 48 = l ++ [c] := by
  unfold Lib.trimRightB
  rw [List.reverse_append]
  simp [h]
theorem last_split (v : ByteArray) (h : 0 < v.size) : v.data.toList = (v.extract 0 (v.size - 1)).data.toList ++ [v[v.size - 1]] := by
  have hl : v.data.toList.length = v.size := (Lib.size_eq v).symm
  rw [Lib.extract_data, List.drop_zero, Nat.sub_zero]
  have h1 : v.data.toList = v.data.toList.take (v.size - 1) ++ v.data.toList.drop (v.size - 1) := (List.take_append_drop _ _).symm
  have h2 : v.data.toList.drop (v.size - 1) = [v[v.size - 1]] := by
    rw [List.drop_eq_getElem_cons (by omega), List.drop_of_length_le (by omega)]
    rfl
  rw [← h2]; exact h1
set_option maxHeartbeats 1000000 in
theorem rprint_any (x : Int) (w : World) :
    Calls Tryd.prog 34 #[.int .i64 x] w fun e w' => ∃ t : ByteArray, e = .returned (.string t) ∧ t.data.toList = printL (bnd x) ∧ Below w.heap.size w w' := by
  have hp := Lib.hid (printL_of x)
  have b0 : 0 ≤ absf x := by unfold absf; split <;> omega
  have b1 : absf x ≤ 2147483647 := by have a1 := bnd_lo x; have a2 := bnd_hi x; unfold absf; split <;> omega
  have hs := Lib.hid (show bnd x < 0 ↔ x < 0 by
    unfold bnd; repeat' split
    all_goals omega)
  go_enter Tryd.func34, Tryd.ntmps34
  go_wp2_with (go_at_call 27; refine (rabs_any _ _).mono ?_; rintro e w' ⟨rfl, rfl⟩)
  refine (digits_whole _ (by omega) (by omega) _).mono ?_
  rintro e w1 ⟨t, rfl, hsz, HT, HB⟩
  go_wp2_with fail
  refine (digits_rest _ (by omega) (by omega) _).mono ?_
  rintro e w2 ⟨u, rfl, hsu, HU, HC⟩
  have HSU := Lib.hid hsu
  clear hsu
  go_wp2
  go_loop [5] (fun s => ∃ v : ByteArray, s = .string v ∧ v.size ≤ 8 ∧ Lib.trimRightB v.data.toList 48 = tail8 (absf x % 256).toNat) (fun s => strLen s)
  case atStart => exact ⟨u, rfl, by have := HSU.out; omega, by rw [HU.out]; rfl⟩
  case round =>
    obtain ⟨v, rfl, hv, htr⟩ := hrel
    by_cases c : 0 < v.size
    · have hsp := last_split v c
      by_cases c2 : v[v.size - 1] = 48
      · have hlast : ((v[v.size - 1].toNat : Int) == 48) = true := by rw [c2]; rfl
        rw [c2] at hsp
        rw [hsp, trim_snoc] at htr
        have HTR := Lib.hid htr
        clear htr hsp c2
        go_wp2
        go_round
        case rel => exact ⟨_, rfl, by rw [ByteArray.size_extract]; omega, HTR.out⟩
        case measure => simp only [strLen]; rw [ByteArray.size_extract]; omega
      · have hlast : ((v[v.size - 1].toNat : Int) == 48) = false := by
          rw [Bool.eq_false_iff]
          intro k
          rw [beq_iff_eq] at k
          exact c2 (UInt8.toNat_inj.1 (by have e : (48 : UInt8).toNat = 48 := rfl; rw [e]; omega))
        rw [hsp, trim_ne _ _ c2, ← hsp] at htr
        have hne : v.toList.isEmpty = false := by
          rw [ByteArray.toList_eq, List.isEmpty_eq_false_iff]
          intro k
          rw [Lib.size_eq, k] at c
          simp at c
        have hr : ¬ absf x % 256 = 0 := by
          intro k
          have h0 := tail_none ⟨(absf x % 256).toNat, by omega⟩
          have h1 : tail8 (absf x % 256).toNat = [] := h0.mpr (by show (absf x % 256).toNat = 0; omega)
          rw [h1] at htr
          rw [Lib.size_eq, htr] at c
          simp at c
        have HTR := Lib.hid htr
        have HR := Lib.hid hr
        clear htr hsp c2 hr
        by_cases hx : x < 0
        · have hbx : bnd x < 0 := hs.out.2 hx
          go_wp2_with (go_at_call 21; refine (rbound_any _ _).mono ?_; rintro e w' ⟨rfl, rfl⟩)
          go_ret
          refine ⟨_, rfl, ?_, below_more HB.out HC.out⟩
          rw [hp.out, if_pos hx, if_neg HR.out, ← HT.out, ← HTR.out]
          simp [ByteArray.data_append]
        · have hbx : ¬ bnd x < 0 := fun k => hx (hs.out.1 k)
          go_wp2_with (go_at_call 21; refine (rbound_any _ _).mono ?_; rintro e w' ⟨rfl, rfl⟩)
          go_ret
          refine ⟨_, rfl, ?_, below_more HB.out HC.out⟩
          rw [hp.out, if_neg (show ¬ x < 0 by omega), if_neg HR.out, ← HT.out, ← HTR.out]
          simp [ByteArray.data_append]
    · have hnil : v.data.toList = [] := by
        rw [← List.length_eq_zero_iff, ← Lib.size_eq]; omega
      have hem : v.toList.isEmpty = true := by rw [ByteArray.toList_eq, hnil]; rfl
      have hr : absf x % 256 = 0 := by
        rw [hnil] at htr
        have h0 := tail_none ⟨(absf x % 256).toNat, by omega⟩
        have h1 : (absf x % 256).toNat = 0 := h0.mp htr.symm
        omega
      have HR := Lib.hid hr
      clear htr hr hnil
      by_cases hx : x < 0
      · have hbx : bnd x < 0 := hs.out.2 hx
        go_wp2_with (go_at_call 21; refine (rbound_any _ _).mono ?_; rintro e w' ⟨rfl, rfl⟩)
        go_ret
        refine ⟨_, rfl, ?_, below_more HB.out HC.out⟩
        rw [hp.out, if_pos hx, if_pos HR.out, ← HT.out]
        simp [ByteArray.data_append]
      · have hbx : ¬ bnd x < 0 := fun k => hx (hs.out.1 k)
        go_wp2_with (go_at_call 21; refine (rbound_any _ _).mono ?_; rintro e w' ⟨rfl, rfl⟩)
        go_ret
        refine ⟨_, rfl, ?_, below_more HB.out HC.out⟩
        rw [hp.out, if_neg (show ¬ x < 0 by omega), if_pos HR.out, ← HT.out]
        simp
end Go.Proofs.YtihcicijoeplkaaDoor
