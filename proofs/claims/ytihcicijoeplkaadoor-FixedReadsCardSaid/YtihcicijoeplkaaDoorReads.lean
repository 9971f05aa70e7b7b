/- The contract of the document's Parse, and the walk of the law FixedReads. -/
import Derived.Test.YtihcicijoeplkaaDoorValue
namespace Go.Proofs.YtihcicijoeplkaaDoor
open Go.ChangeShapes Go.WideShapes Go.ChangeAt Go.RowKit
open Pu

theorem rprint_is (x : Int) (s : ByteArray) (hs : printL (bnd x) = s.data.toList) (w : World) :
    Calls Tryd.prog 34 #[.int .i64 x] w fun e w' => e = .returned (.string s) ∧ Hid (Below w.heap.size w w') := by
  refine (rprint_any x w).mono ?_
  rintro e w' ⟨t, rfl, h, hb⟩
  rw [bytes_ext (h.trans hs)]
  exact ⟨rfl, hb⟩
theorem rprint_isnt (x : Int) (s : ByteArray) (hs : ¬ printL (bnd x) = s.data.toList) (w : World) :
    Calls Tryd.prog 34 #[.int .i64 x] w fun e w' => ∃ t : ByteArray, e = .returned (.string t) ∧ (t.toList == s.toList) = false ∧ Hid (Below w.heap.size w w') := by
  refine (rprint_any x w).mono ?_
  rintro e w' ⟨t, rfl, h, hb⟩
  refine ⟨t, rfl, ?_, hb⟩
  rw [Bool.eq_false_iff]
  intro k
  rw [beq_iff_eq, ByteArray.toList_eq, ByteArray.toList_eq] at k
  exact hs (h.symm.trans k)
theorem rprint_any' (x : Int) (w : World) :
    Calls Tryd.prog 34 #[.int .i64 x] w fun e w' => ∃ t : ByteArray, e = .returned (.string t) ∧ Hid (Below w.heap.size w w') := by
  refine (rprint_any x w).mono ?_
  rintro e w' ⟨t, rfl, h, hb⟩
  exact ⟨t, rfl, hb⟩
theorem rparse_plain {l : List UInt8} (h : ∀ b r, l = b :: r → b.toNat ≠ 45) : rparse l = if valL 0 0 0 l < 0 ∨ ¬ printL (bnd (valL 0 0 0 l)) = l then none else some (valL 0 0 0 l) := by
  cases l with
  | nil => rfl
  | cons b r => rw [rparse, if_neg (h b r rfl)]
theorem rparse_minus {b : UInt8} {r : List UInt8} (h : b.toNat = 45) : rparse (b :: r) = if valL 0 0 0 r < 0 ∨ ¬ printL (bnd (valL 0 0 0 r)) = r ∨ valL 0 0 0 r = 0 then none else some (-valL 0 0 0 r) := by
  rw [rparse, if_pos h]
set_option maxHeartbeats 1000000 in
theorem rparse_no (s : ByteArray) (hs : s.size ≤ maxLen) (hd : ∀ b r, s.data.toList = b :: r → b.toNat ≠ 45) (hm : s.size = 0 ∨ ∃ _ : 0 < s.size, ((s[0].toNat : Int) == 45) = false) (w : World) :
    Calls Tryd.prog 35 #[.string s] w fun e w' => e = .returned (parseV (rparse s.data.toList)) ∧ Below w.heap.size w w' := by
  obtain ⟨v, hv⟩ : ∃ v, v = valL 0 0 0 s.data.toList := ⟨_, rfl⟩
  have hval := Lib.hid fun w => (value_any s hs w)
  rw [← hv] at hval
  have hb := val0 s.data.toList
  rw [← hv] at hb
  rw [rparse_plain hd, ← hv]
  clear hv hd
  obtain ⟨v1, v2⟩ := hb
  by_cases c1 : v < 0
  · rw [if_pos (Or.inl c1)]
    rcases hm with hm | ⟨h0, hm⟩
    · go_enter Tryd.func35, Tryd.ntmps35
      go_wp2_with (first
        | (go_at_call 44; refine (hval.out _).mono ?_; rintro e w' ⟨rfl, rfl⟩)
        | (go_at_call 34; refine (rprint_any' _ _).mono ?_; rintro e w1 ⟨t, rfl, HB⟩))
      go_ret2
      exact ⟨rfl, HB.out⟩
    · go_enter Tryd.func35, Tryd.ntmps35
      go_wp2_with (first
        | (go_at_call 44; refine (hval.out _).mono ?_; rintro e w' ⟨rfl, rfl⟩)
        | (go_at_call 34; refine (rprint_any' _ _).mono ?_; rintro e w1 ⟨t, rfl, HB⟩))
      go_ret2
      exact ⟨rfl, HB.out⟩
  · by_cases c2 : printL (bnd v) = s.data.toList
    · rw [if_neg (by intro k; rcases k with k | k; exact c1 k; exact k c2)]
      have HP := Lib.hid c2
      clear c2
      rcases hm with hm | ⟨h0, hm⟩
      · go_enter Tryd.func35, Tryd.ntmps35
        go_wp2_with (first
          | (go_at_call 44; refine (hval.out _).mono ?_; rintro e w' ⟨rfl, rfl⟩)
          | (go_at_call 34; refine (rprint_is _ s HP.out _).mono ?_; rintro e w1 ⟨rfl, HB⟩))
        go_ret2
        exact ⟨rfl, HB.out⟩
      · go_enter Tryd.func35, Tryd.ntmps35
        go_wp2_with (first
          | (go_at_call 44; refine (hval.out _).mono ?_; rintro e w' ⟨rfl, rfl⟩)
          | (go_at_call 34; refine (rprint_is _ s HP.out _).mono ?_; rintro e w1 ⟨rfl, HB⟩))
        go_ret2
        exact ⟨rfl, HB.out⟩
    · rw [if_pos (Or.inr c2)]
      have HP := Lib.hid c2
      clear c2
      rcases hm with hm | ⟨h0, hm⟩
      · go_enter Tryd.func35, Tryd.ntmps35
        go_wp2_with (first
          | (go_at_call 44; refine (hval.out _).mono ?_; rintro e w' ⟨rfl, rfl⟩)
          | (go_at_call 34; refine (rprint_isnt _ s HP.out _).mono ?_; rintro e w1 ⟨t, rfl, hT, HB⟩))
        go_ret2
        exact ⟨rfl, HB.out⟩
      · go_enter Tryd.func35, Tryd.ntmps35
        go_wp2_with (first
          | (go_at_call 44; refine (hval.out _).mono ?_; rintro e w' ⟨rfl, rfl⟩)
          | (go_at_call 34; refine (rprint_isnt _ s HP.out _).mono ?_; rintro e w1 ⟨t, rfl, hT, HB⟩))
        go_ret2
        exact ⟨rfl, HB.out⟩
set_option maxHeartbeats 1000000 in
theorem rparse_yes (s : ByteArray) (hs : s.size ≤ maxLen) (h0 : 0 < s.size) (h45 : s[0].toNat = 45) (w : World) :
    Calls Tryd.prog 35 #[.string s] w fun e w' => e = .returned (parseV (rparse s.data.toList)) ∧ Below w.heap.size w w' := by
  have hs2 : s.size ≤ 9223372036854775807 := by unfold maxLen at hs; omega
  have hm : ((s[0].toNat : Int) == 45) = true := by rw [h45]; rfl
  have e0 : s.data.toList = s[0] :: (s.extract 1 s.size).data.toList := by
    rw [Lib.extract_data, List.take_of_length_le (by rw [List.length_drop, ← Lib.size_eq]; omega)]
    have := drop_cons s 0 h0
    rwa [List.drop_zero] at this
  have hu : (s.extract 1 s.size).size ≤ maxLen := by rw [ByteArray.size_extract]; omega
  obtain ⟨v, hv⟩ : ∃ v, v = valL 0 0 0 (s.extract 1 s.size).data.toList := ⟨_, rfl⟩
  have hval := Lib.hid fun w => (value_any (s.extract 1 s.size) hu w)
  rw [← hv] at hval
  have hb := val0 (s.extract 1 s.size).data.toList
  rw [← hv] at hb
  rw [e0, rparse_minus h45, ← hv]
  clear hv e0 hu h45 hs
  obtain ⟨v1, v2⟩ := hb
  by_cases c1 : v < 0
  · rw [if_pos (Or.inl c1)]
    go_enter Tryd.func35, Tryd.ntmps35
    go_wp2_with (first
      | (go_at_call 44; refine (hval.out _).mono ?_; rintro e w' ⟨rfl, rfl⟩)
      | (go_at_call 34; refine (rprint_any' _ _).mono ?_; rintro e w1 ⟨t, rfl, HB⟩))
    go_ret2
    exact ⟨rfl, HB.out⟩
  · by_cases c2 : printL (bnd v) = (s.extract 1 s.size).data.toList
    · have HP := Lib.hid c2
      by_cases c3 : v = 0
      · rw [if_pos (Or.inr (Or.inr c3))]
        subst c3
        clear c2
        go_enter Tryd.func35, Tryd.ntmps35
        go_wp2_with (first
          | (go_at_call 44; refine (hval.out _).mono ?_; rintro e w' ⟨rfl, rfl⟩)
          | (go_at_call 34; refine (rprint_is _ (s.extract 1 s.size) HP.out _).mono ?_; rintro e w1 ⟨rfl, HB⟩))
        go_ret2
        exact ⟨rfl, HB.out⟩
      · rw [if_neg (by intro k; rcases k with k | k | k; exact c1 k; exact k c2; exact c3 k)]
        have c3' : (v == 0) = false := by simpa using c3
        clear c2 c3
        go_enter Tryd.func35, Tryd.ntmps35
        go_wp2_with (first
          | (go_at_call 44; refine (hval.out _).mono ?_; rintro e w' ⟨rfl, rfl⟩)
          | (go_at_call 34; refine (rprint_is _ (s.extract 1 s.size) HP.out _).mono ?_; rintro e w1 ⟨rfl, HB⟩))
        go_ret2
        exact ⟨rfl, HB.out⟩
    · rw [if_pos (Or.inr (Or.inl c2))]
      have HP := Lib.hid c2
      clear c2
      go_enter Tryd.func35, Tryd.ntmps35
      go_wp2_with (first
        | (go_at_call 44; refine (hval.out _).mono ?_; rintro e w' ⟨rfl, rfl⟩)
        | (go_at_call 34; refine (rprint_isnt _ (s.extract 1 s.size) HP.out _).mono ?_; rintro e w1 ⟨t, rfl, hT, HB⟩))
      go_ret2
      exact ⟨rfl, HB.out⟩
theorem rparse_any (s : ByteArray) (hs : s.size ≤ maxLen) (w : World) :
    Calls Tryd.prog 35 #[.string s] w fun e w' => e = .returned (parseV (parseS s.data.toList)) ∧ Hid (Below w.heap.size w w') := by
  rw [← rparse_eq]
  by_cases h0 : 0 < s.size
  · have e0 : s.data.toList = s[0] :: s.data.toList.drop 1 := by
      have := drop_cons s 0 h0
      rwa [List.drop_zero] at this
    by_cases h45 : s[0].toNat = 45
    · exact rparse_yes s hs h0 h45 w
    · refine rparse_no s hs ?_ (Or.inr ⟨h0, ?_⟩) w
      · intro b r h
        rw [e0] at h
        injection h with h1 h2
        rw [← h1]; exact h45
      · simp; omega
  · refine rparse_no s hs ?_ (Or.inl (by omega)) w
    intro b r h
    have := congrArg List.length h
    rw [← Lib.size_eq] at this
    simp at this
    omega
theorem awake_hid (w : World) (ht : Tab w) : Calls Tryd.prog 9 #[] w fun e w' => e = .returned (.bool true) ∧ Hid (Below w.heap.size w w') := awake_any w ht
theorem parse_hid (s : ByteArray) (hs : s.size ≤ maxLen) (w : World) (ht : Tab w) :
    Calls Tryd.prog 33 #[.string s] w fun e w' => e = .returned (parseV (parseS s.data.toList)) ∧ Hid (Below w.heap.size w w') := parse_any s hs w ht
theorem reads_walk (s : ByteArray) (hs : s.size ≤ maxLen) (w : World) (ht : Tab w) :
    Calls Tryd.prog 7 #[.string s] w fun e w' => e = .returned (.bool true) ∧ Below w.heap.size w w' := by
  have P1 := Lib.hid fun (w : World) (ht : Tab w) => parse_hid s hs w ht
  have P2 := Lib.hid fun w : World => rparse_any s hs w
  cases hp : parseS s.data.toList with
  | none =>
    rw [hp] at P1 P2
    have P1' : Hid (∀ w : World, Tab w → Calls Tryd.prog 33 #[.string s] w fun e w' => e = .returned (.tuple #[.int .i64 0, .int .i64 12]) ∧ Hid (Below w.heap.size w w')) := P1
    have P2' : Hid (∀ w : World, Calls Tryd.prog 35 #[.string s] w fun e w' => e = .returned (.tuple #[.int .i64 0, .int .i64 12]) ∧ Hid (Below w.heap.size w w')) := P2
    clear P1 P2 hp
    go_enter Tryd.func7, Tryd.ntmps7
    go_wp2_with (first
      | (go_at_call 9; refine (awake_hid _ ht).mono ?_; rintro e w1 ⟨rfl, HB⟩)
      | (go_at_call 33; refine (P1'.out _ (ht.on HB.out)).mono ?_; rintro e w2 ⟨rfl, HC⟩)
      | (go_at_call 35; refine (P2'.out _).mono ?_; rintro e w3 ⟨rfl, HD⟩))
    go_ret
    exact ⟨rfl, below_more (below_more HB.out HC.out) HD.out⟩
  | some n =>
    rw [hp] at P1 P2
    have P1' : Hid (∀ w : World, Tab w → Calls Tryd.prog 33 #[.string s] w fun e w' => e = .returned (.tuple #[.int .i64 n, .int .i64 0]) ∧ Hid (Below w.heap.size w w')) := P1
    have P2' : Hid (∀ w : World, Calls Tryd.prog 35 #[.string s] w fun e w' => e = .returned (.tuple #[.int .i64 n, .int .i64 0]) ∧ Hid (Below w.heap.size w w')) := P2
    obtain ⟨n1, n2, n3⟩ := parse_bd hp
    have HP := Lib.hid (show printL (bnd n) = s.data.toList by rw [bnd_id n1 n2]; exact n3)
    clear P1 P2 hp n3
    go_enter Tryd.func7, Tryd.ntmps7
    go_wp2_with (first
      | (go_at_call 9; refine (awake_hid _ ht).mono ?_; rintro e w1 ⟨rfl, HB⟩)
      | (go_at_call 33; refine (P1'.out _ (ht.on HB.out)).mono ?_; rintro e w2 ⟨rfl, HC⟩)
      | (go_at_call 35; refine (P2'.out _).mono ?_; rintro e w3 ⟨rfl, HD⟩)
      | (go_at_call 32; refine (print_is _ s HP.out _ (((ht.on HB.out).on HC.out).on HD.out)).mono ?_; rintro e w4 ⟨rfl, HE⟩))
    go_ret
    exact ⟨rfl, below_more (below_more (below_more HB.out HC.out) HD.out) HE.out⟩
end Go.Proofs.YtihcicijoeplkaaDoor
