/- Which maps are formed: the program's answer. -/
import Derived.Test.YtnoaomocdmkigabCh
import Derived.Test.YtnoaomocdmkigabWl
import Derived.Test.YtnoaomocdmkigabShelf
namespace Go.Proofs.Ytnoaomocdmkigab
open Go.RowKit
open Pu Gp Ap

theorem within_any (n l m : Int) (w : World) : Calls Try.prog 53 #[.int .i64 n, .int .i64 l, .int .i64 m] w fun e w' => e = .returned (.bool (decide (l ≤ n) && decide (n ≤ m))) ∧ w' = w := by
  by_cases h : l ≤ n
  · rw [decide_eq_true h, Bool.true_and]
    go_enter Try.func53, Try.ntmps53
    go_wp2
    go_ret
    exact ⟨rfl, rfl⟩
  · rw [decide_eq_false h, Bool.false_and]
    have h' : decide (l ≤ n) = false := decide_eq_false h
    go_enter Try.func53, Try.ntmps53
    go_wp2
    go_ret
    exact ⟨rfl, rfl⟩
def staC (c : Int) : Bool := decide (49 ≤ c) && decide (c ≤ 54)
theorem isStart_any (c : Int) (w : World) : Calls Try.prog 71 #[.int .u8 c] w fun e w' => e = .returned (.bool (staC c)) ∧ w' = w := by
  unfold staC
  by_cases h : 49 ≤ c
  · rw [decide_eq_true h, Bool.true_and]
    go_enter Try.func71, Try.ntmps71
    go_wp2
    go_ret
    exact ⟨rfl, rfl⟩
  · rw [decide_eq_false h, Bool.false_and]
    have h' : decide (49 ≤ c) = false := decide_eq_false h
    go_enter Try.func71, Try.ntmps71
    go_wp2
    go_ret
    exact ⟨rfl, rfl⟩
def marC (c : Int) : Bool := staC c || c == 42
theorem marked_any (c : Int) (w : World) : Calls Try.prog 59 #[.int .u8 c] w fun e w' => e = .returned (.bool (marC c)) ∧ w' = w := by
  unfold marC
  have h := isStart_any c
  obtain ⟨b, eb⟩ : ∃ b, staC c = b := ⟨_, rfl⟩
  rw [eb] at h ⊢
  clear eb
  have H := hid h
  clear h
  cases b with
  | true =>
    rw [Bool.true_or]
    go_enter Try.func59, Try.ntmps59
    go_wp2_with (go_at_call 71; refine (H.out _).mono ?_; rintro e w' ⟨he, hw⟩; rw [he, hw]; clear he hw w')
    go_ret
    exact ⟨rfl, rfl⟩
  | false =>
    rw [Bool.false_or]
    go_enter Try.func59, Try.ntmps59
    go_wp2_with (go_at_call 71; refine (H.out _).mono ?_; rintro e w' ⟨he, hw⟩; rw [he, hw]; clear he hw w')
    go_ret
    exact ⟨rfl, rfl⟩
theorem marked_is (c : Int) {t : Bool} (h : marC c = t) (w : World) : Calls Try.prog 59 #[.int .u8 c] w fun e w' => e = .returned (.bool t) ∧ w' = w := by
  rw [← h]; exact marked_any c w
set_option maxHeartbeats 2000000 in
theorem allSigns_any (s : ByteArray) (hz : s.size ≤ 281474976710656) (w : World) :
    Calls Try.prog 54 #[.string s] w fun e w' => e = .returned (.bool (sgnsB s s.size)) ∧ w' = w := by
  obtain ⟨T, eT⟩ : ∃ T, T = sgnsB s s.size := ⟨_, rfl⟩
  have HT := hid eT
  rw [← eT]
  clear eT
  go_enter Try.func54, Try.ntmps54
  go_wp2_with fail
  go_loop [6] (fun v => ∃ j : Nat, j ≤ s.size ∧ v = .int .i64 (j : Int) ∧ sgnsB s j = true) (fun v => s.size - (intOf v).toNat)
  case atStart => exact ⟨0, by omega, rfl, rfl⟩
  case round =>
    obtain ⟨j, hj, rfl, hf⟩ := hrel
    by_cases hlt : j < s.size
    · have e := byt_at s j hlt
      obtain ⟨b, eb⟩ : ∃ b, byt s j = b := ⟨_, rfl⟩
      rw [eb] at e
      have HX := hid (show sgnsB s (j + 1) = okC b by rw [sgnsB, hf, eb]; rfl)
      have HY := hid (show okC b = false → false = T from fun h => by
        rw [HT.out]
        exact (sgns_more (n := j + 1) (by omega) (HX.out.trans h)).symm)
      clear hf eb
      have hw : b = 35 ∨ b = 46 ∨ ((b != 35) = true ∧ (b != 46) = true) := by
        by_cases h1 : b = 35
        · exact .inl h1
        by_cases h2 : b = 46
        · exact .inr (.inl h2)
        exact .inr (.inr ⟨by simpa using h1, by simpa using h2⟩)
      rcases hw with rfl | rfl | ⟨h1, h2⟩
      · go_wp2_with fail
        go_round
        case rel => exact ⟨j + 1, by omega, by go_num, HX.out⟩
        case measure => simp [intOf]; omega
      · go_wp2_with fail
        go_round
        case rel => exact ⟨j + 1, by omega, by go_num, HX.out⟩
        case measure => simp [intOf]; omega
      · have HO := hid (show okC b = marC b by
          unfold okC marC staC
          rw [show (b == 35) = false by simpa using h1, show (b == 46) = false by simpa using h2, Bool.false_or, Bool.false_or, Bool.or_comm])
        cases hm : marC b with
        | true =>
          have HM := hid (fun u => marked_is b hm u)
          have HN := hid (HX.out.trans (HO.out.trans hm))
          clear hm HX HY HO
          go_wp2_with (go_at_call 59; refine (HM.out _).mono ?_; rintro e w' ⟨he, hw⟩; rw [he, hw]; clear he hw w')
          go_round
          case rel => exact ⟨j + 1, by omega, by go_num, HN.out⟩
          case measure => simp [intOf]; omega
        | false =>
          have HM := hid (fun u => marked_is b hm u)
          have HN := hid (HY.out (HO.out.trans hm))
          clear hm HX HY HO
          go_wp2_with (go_at_call 59; refine (HM.out _).mono ?_; rintro e w' ⟨he, hw⟩; rw [he, hw]; clear he hw w')
          go_ret
          exact ⟨ret_bool HN.out, rfl⟩
    · have HF := hid (show true = T by rw [HT.out, ← hf, show j = s.size by omega])
      clear hf
      go_wp2_with fail
      go_ret
      exact ⟨ret_bool HF.out, rfl⟩
/-- walls along the upper and the lower edge, as far as the n-th column; along the left and the right one -/
def colsB (C R : Int) (s : ByteArray) : Nat → Bool
  | 0 => true
  | n + 1 => colsB C R s n && (solB C R s (n : Int) 0 && solB C R s (n : Int) (R - 1))
def rowsB (C R : Int) (s : ByteArray) : Nat → Bool
  | 0 => true
  | n + 1 => rowsB C R s n && (solB C R s 0 (n : Int) && solB C R s (C - 1) (n : Int))
theorem cols_more {C R : Int} {s : ByteArray} : ∀ {n m : Nat}, n ≤ m → colsB C R s n = false → colsB C R s m = false
  | n, 0, h, k => by obtain rfl : n = 0 := by omega
                     exact k
  | n, m + 1, h, k => by
    by_cases e : n = m + 1
    · subst e; exact k
    · rw [colsB, cols_more (n := n) (m := m) (by omega) k]; rfl
theorem rows_more {C R : Int} {s : ByteArray} : ∀ {n m : Nat}, n ≤ m → rowsB C R s n = false → rowsB C R s m = false
  | n, 0, h, k => by obtain rfl : n = 0 := by omega
                     exact k
  | n, m + 1, h, k => by
    by_cases e : n = m + 1
    · subst e; exact k
    · rw [rowsB, rows_more (n := n) (m := m) (by omega) k]; rfl
theorem cols_iff {C R : Int} {s : ByteArray} : ∀ {n : Nat}, colsB C R s n = true ↔ ∀ i : Nat, i < n → solB C R s (i : Int) 0 = true ∧ solB C R s (i : Int) (R - 1) = true
  | 0 => ⟨fun _ i h => by omega, fun _ => rfl⟩
  | n + 1 => by
    rw [colsB, Bool.and_eq_true, Bool.and_eq_true, cols_iff]
    constructor
    · rintro ⟨h1, h2⟩ i hi
      by_cases e : i = n
      · subst e; exact h2
      · exact h1 i (by omega)
    · intro h
      exact ⟨fun i hi => h i (by omega), h n (by omega)⟩
theorem rows_iff {C R : Int} {s : ByteArray} : ∀ {n : Nat}, rowsB C R s n = true ↔ ∀ i : Nat, i < n → solB C R s 0 (i : Int) = true ∧ solB C R s (C - 1) (i : Int) = true
  | 0 => ⟨fun _ i h => by omega, fun _ => rfl⟩
  | n + 1 => by
    rw [rowsB, Bool.and_eq_true, Bool.and_eq_true, rows_iff]
    constructor
    · rintro ⟨h1, h2⟩ i hi
      by_cases e : i = n
      · subst e; exact h2
      · exact h1 i (by omega)
    · intro h
      exact ⟨fun i hi => h i (by omega), h n (by omega)⟩
set_option maxHeartbeats 2000000 in
theorem walledIn_any (C R : Nat) (s : ByteArray) (hC : C ≤ 32) (hR : R ≤ 24) (hC0 : 3 ≤ C) (hR0 : 3 ≤ R) (hz : s.size ≤ 768) (w : World) :
    Calls Try.prog 55 #[ar (C : Int) (R : Int) s] w fun e w' => e = .returned (.bool (colsB C R s C && rowsB C R s R)) ∧ Still w w' := by
  obtain ⟨T, eT⟩ : ∃ T, T = (colsB (C : Int) (R : Int) s C && rowsB (C : Int) (R : Int) s R) := ⟨_, rfl⟩
  have HT := hid eT
  rw [← eT]
  clear eT
  have p := newA_ab w (C : Int) (R : Int) s
  have HS0 := hid (Still.alloc w (.cells #[.int .i64 (C : Int), .int .i64 (R : Int), .string s] 23))
  obtain ⟨c0, c1, c2, cf⟩ := p.cells
  go_enter Try.func55, Try.ntmps55
  go_wp2_with fail
  go_loopw [7] (fun v wr => ∃ j : Nat, j ≤ C ∧ v = .int .i64 (j : Int) ∧ colsB C R s j = true ∧ Ab wr w.heap.size (C : Int) (R : Int) s ∧ Still w wr) (fun v _ => C - (intOf v).toNat)
  case atStart => exact ⟨0, by omega, rfl, rfl, p, HS0.out⟩
  case round =>
    obtain ⟨j, hj, rfl, hf, a1, hs⟩ := hrel
    have HS1 := hid hs
    clear hs p HS0 c0 c1 c2 cf
    obtain ⟨c0, c1, c2, cf⟩ := a1.cells
    by_cases hlt : j < C
    · have HX := hid (show colsB C R s (j + 1) = (solB C R s (j : Int) 0 && solB C R s (j : Int) ((R : Int) - 1)) by rw [colsB, hf]; rfl)
      have HY := hid (show (solB C R s (j : Int) 0 && solB C R s (j : Int) ((R : Int) - 1)) = false → false = T from fun h => by
        rw [HT.out, cols_more (n := j + 1) (m := C) (by omega) (HX.out.trans h)]; rfl)
      clear hf
      go_wp2_with fail
      cases h1 : solB C R s (j : Int) 0 with
      | false =>
        refine (solid_is C R (j : Int) 0 s (by omega) h1 _).mono ?_
        rintro e w2 ⟨rfl, h2⟩
        have HN := hid (HY.out (by rw [h1]; rfl))
        have HS2 := hid (HS1.out.trans h2)
        clear h1 h2 a1 HS1 HX HY c0 c1 c2 cf
        go_wp2_with fail
        go_ret
        exact ⟨ret_bool HN.out, HS2.out⟩
      | true =>
        refine (solid_is C R (j : Int) 0 s (by omega) h1 _).mono ?_
        rintro e w2 ⟨rfl, h2⟩
        have a2 := a1.still h2
        have HS2 := hid (HS1.out.trans h2)
        rw [h1, Bool.true_and] at HX HY
        clear h1 h2 a1 HS1 c0 c1 c2 cf
        obtain ⟨c0, c1, c2, cf⟩ := a2.cells
        go_wp2_with fail
        cases h1 : solB C R s (j : Int) ((R : Int) - 1) with
        | false =>
          refine (solid_is C R (j : Int) ((R : Int) - 1) s (by omega) h1 _).mono ?_
          rintro e w3 ⟨rfl, h3⟩
          have HN := hid (HY.out h1)
          have HS3 := hid (HS2.out.trans h3)
          clear h1 h3 a2 HS2 HX HY c0 c1 c2 cf
          go_wp2_with fail
          go_ret
          exact ⟨ret_bool HN.out, HS3.out⟩
        | true =>
          refine (solid_is C R (j : Int) ((R : Int) - 1) s (by omega) h1 _).mono ?_
          rintro e w3 ⟨rfl, h3⟩
          have HN := hid (HX.out.trans h1)
          have a3 := a2.still h3
          have HS3 := hid (HS2.out.trans h3)
          clear h1 h3 a2 HS2 HX HY c0 c1 c2 cf
          go_wp2_with fail
          go_roundw
          case rel => exact ⟨j + 1, by omega, by go_num, HN.out, a3, HS3.out⟩
          case measure => simp [intOf]; omega
    · obtain rfl : j = C := by omega
      have HF := hid hf
      clear hf
      go_wp2_with fail
      go_loopw [26] (fun v wr => ∃ i : Nat, i ≤ R ∧ v = .int .i64 (i : Int) ∧ rowsB j R s i = true ∧ Ab wr w.heap.size (j : Int) (R : Int) s ∧ Still w wr) (fun v _ => R - (intOf v).toNat)
      case atStart => exact ⟨0, by omega, rfl, rfl, a1, HS1.out⟩
      case round =>
        obtain ⟨i, hi, rfl, hf, a1, hs⟩ := hrel
        clear HS1
        have HS1 := hid hs
        clear hs c0 c1 c2 cf
        obtain ⟨c0, c1, c2, cf⟩ := a1.cells
        by_cases hlt : i < R
        · have HX := hid (show rowsB j R s (i + 1) = (solB j R s 0 (i : Int) && solB j R s ((j : Int) - 1) (i : Int)) by rw [rowsB, hf]; rfl)
          have HY := hid (show (solB j R s 0 (i : Int) && solB j R s ((j : Int) - 1) (i : Int)) = false → false = T from fun h => by
            rw [HT.out, rows_more (n := i + 1) (m := R) (by omega) (HX.out.trans h), Bool.and_false])
          clear hf
          go_wp2_with fail
          cases h1 : solB j R s 0 (i : Int) with
          | false =>
            refine (solid_is j R 0 (i : Int) s (by omega) h1 _).mono ?_
            rintro e w2 ⟨rfl, h2⟩
            have HN := hid (HY.out (by rw [h1]; rfl))
            have HS2 := hid (HS1.out.trans h2)
            clear h1 h2 a1 HS1 HX HY c0 c1 c2 cf
            go_wp2_with fail
            go_ret
            exact ⟨ret_bool HN.out, HS2.out⟩
          | true =>
            refine (solid_is j R 0 (i : Int) s (by omega) h1 _).mono ?_
            rintro e w2 ⟨rfl, h2⟩
            have a2 := a1.still h2
            have HS2 := hid (HS1.out.trans h2)
            rw [h1, Bool.true_and] at HX HY
            clear h1 h2 a1 HS1 c0 c1 c2 cf
            obtain ⟨c0, c1, c2, cf⟩ := a2.cells
            go_wp2_with fail
            cases h1 : solB j R s ((j : Int) - 1) (i : Int) with
            | false =>
              refine (solid_is j R ((j : Int) - 1) (i : Int) s (by omega) h1 _).mono ?_
              rintro e w3 ⟨rfl, h3⟩
              have HN := hid (HY.out h1)
              have HS3 := hid (HS2.out.trans h3)
              clear h1 h3 a2 HS2 HX HY c0 c1 c2 cf
              go_wp2_with fail
              go_ret
              exact ⟨ret_bool HN.out, HS3.out⟩
            | true =>
              refine (solid_is j R ((j : Int) - 1) (i : Int) s (by omega) h1 _).mono ?_
              rintro e w3 ⟨rfl, h3⟩
              have HN := hid (HX.out.trans h1)
              have a3 := a2.still h3
              have HS3 := hid (HS2.out.trans h3)
              clear h1 h3 a2 HS2 HX HY c0 c1 c2 cf
              go_wp2_with fail
              go_roundw
              case rel => exact ⟨i + 1, by omega, by go_num, HN.out, a3, HS3.out⟩
              case measure => simp [intOf]; omega
        · have HN := hid (show true = T by
            rw [HT.out, HF.out, show R = i by omega]
            rw [show R = i by omega] at hf
            rw [hf]; rfl)
          clear hf
          go_wp2_with fail
          go_ret
          exact ⟨ret_bool HN.out, HS1.out⟩
/-! ### The same as the document's -/
theorem sol_in {c r : Nat} {s : ByteArray} (hs : s.size = c * r) {i j : Nat} (hi : i < c) (hj : j < r) : solB (c : Int) (r : Int) s (i : Int) (j : Int) = (byt s (j * c + i) == 35) := by
  have h1 : j * c + i < s.size := by
    rw [hs]
    have : (j + 1) * c ≤ r * c := Nat.mul_le_mul_right c (by omega)
    rw [Nat.succ_mul] at this
    rw [Nat.mul_comm c r]
    omega
  exact sol_at (k := j * c + i) (by omega) (by rw [Int.natCast_add, Int.natCast_mul]) h1
theorem goodN_of {C R : Int} {s : ByteArray} : ∀ {n : Nat}, (∀ i, i < n → goodC C R s i = true) → goodN C R s n = true
  | 0, _ => rfl
  | n + 1, h => by rw [goodN, goodN_of (fun i hi => h i (by omega)), h n (by omega)]; rfl
theorem edg_is (c r i : Nat) (hr : 1 ≤ r) (hc : 1 ≤ c) : edgB (c : Int) (r : Int) i = true ↔ (i % c = 0 ∨ i / c = 0 ∨ i % c = c - 1 ∨ i / c = r - 1) := by
  unfold edgB
  have e1 : (i : Int) % (c : Int) = ((i % c : Nat) : Int) := (Int.natCast_emod i c).symm
  have e2 : (i : Int) / (c : Int) = ((i / c : Nat) : Int) := (Int.natCast_ediv i c).symm
  rw [e1, e2]
  simp only [Bool.or_eq_true, decide_eq_true_eq]
  omega
theorem good_is (c r : Nat) (s : ByteArray) (hc : 3 ≤ c) (hr : 3 ≤ r) (hs : s.size = c * r) : goodN (c : Int) (r : Int) s s.size = (sgnsB s s.size && (colsB c r s c && rowsB c r s r)) := by
  rw [Bool.eq_iff_iff, Bool.and_eq_true, Bool.and_eq_true]
  have pl : ∀ i j : Nat, i < c → j < r → j * c + i < s.size := fun i j hi hj => by
    have : (j + 1) * c ≤ r * c := Nat.mul_le_mul_right c (by omega)
    rw [Nat.succ_mul] at this
    rw [hs, Nat.mul_comm c r]
    omega
  have md : ∀ i j : Nat, i < c → (j * c + i) % c = i ∧ (j * c + i) / c = j := fun i j hi => by
    constructor
    · rw [Nat.mul_comm, Nat.mul_add_mod, Nat.mod_eq_of_lt hi]
    · rw [Nat.mul_comm, Nat.mul_add_div (by omega), Nat.div_eq_of_lt hi, Nat.add_zero]
  constructor
  · intro h
    have hg := goodN_iff h
    have sg : ∀ i j : Nat, i < c → j < r → (i = 0 ∨ j = 0 ∨ i = c - 1 ∨ j = r - 1) → solB (c : Int) (r : Int) s (i : Int) (j : Int) = true := fun i j hi hj he => by
      rw [sol_in hs hi hj]
      have k := hg (j * c + i) (pl i j hi hj)
      have ed : edgB (c : Int) (r : Int) (j * c + i) = true := (edg_is c r (j * c + i) (by omega) (by omega)).2 (by
        rw [(md i j hi).1, (md i j hi).2]; exact he)
      unfold goodC at k
      rw [ed] at k
      simpa using k
    refine ⟨sgns_iff.2 fun i hi => ?_, cols_iff.2 fun i hi => ⟨?_, ?_⟩, rows_iff.2 fun i hi => ⟨?_, ?_⟩⟩
    · have k := hg i hi
      unfold goodC at k
      rw [Bool.or_eq_true, Bool.and_eq_true] at k
      rcases k with k | k
      · rw [beq_iff_eq.1 k]; decide
      · exact k.2
    · have := sg i 0 hi (by omega) (by omega); simpa using this
    · have := sg i (r - 1) hi (by omega) (by omega)
      rw [show ((r - 1 : Nat) : Int) = (r : Int) - 1 by omega] at this
      exact this
    · have := sg 0 i (by omega) hi (by omega); simpa using this
    · have := sg (c - 1) i (by omega) hi (by omega)
      rw [show ((c - 1 : Nat) : Int) = (c : Int) - 1 by omega] at this
      exact this
  · rintro ⟨h1, h2, h3⟩
    refine goodN_of fun i hi => ?_
    have e := Nat.div_add_mod i c
    have m1 : i % c < c := Nat.mod_lt _ (by omega)
    have d1 : i / c < r := by
      rw [Nat.div_lt_iff_lt_mul (by omega), Nat.mul_comm r c, ← hs]
      exact hi
    have so := sol_in hs m1 d1
    rw [show i / c * c + i % c = i by rw [Nat.mul_comm]; exact e] at so
    unfold goodC
    cases ed : edgB (c : Int) (r : Int) i with
    | false => rw [sgns_iff.1 h1 i hi]; simp
    | true =>
      have k := (edg_is c r i (by omega) (by omega)).1 ed
      have hsol : solB (c : Int) (r : Int) s ((i % c : Nat) : Int) ((i / c : Nat) : Int) = true := by
        rcases k with k | k | k | k
        · rw [k]; exact (rows_iff.1 h3 (i / c) d1).1
        · rw [k]; exact (cols_iff.1 h2 (i % c) m1).1
        · rw [k, show ((c - 1 : Nat) : Int) = (c : Int) - 1 by omega]; exact (rows_iff.1 h3 (i / c) d1).2
        · rw [k, show ((r - 1 : Nat) : Int) = (r : Int) - 1 by omega]; exact (cols_iff.1 h2 (i % c) m1).2
      rw [hsol] at so
      rw [← so]; rfl
theorem spo_take (s : ByteArray) : ∀ n, n ≤ s.size → spoN s n = (s.data.toList.take n).count 42
  | 0, _ => by simp [spoN]
  | n + 1, h => by
    have hl : n < s.data.toList.length := by rw [Array.length_toList]; exact h
    rw [spoN, spo_take s n (by omega), List.take_succ_eq_append_getElem hl, List.count_append]
    congr 1
    have e : byt s n = ((s.data.toList[n]).toNat : Int) := by
      unfold byt
      rw [List.getD_eq_getElem?_getD, List.getElem?_eq_getElem hl]; rfl
    rw [e]
    obtain ⟨b, eb⟩ : ∃ b, s.data.toList[n] = b := ⟨_, rfl⟩
    rw [eb, List.count_singleton]
    by_cases hb : b = 42
    · subst hb; rfl
    · have h1 : ¬ ((b.toNat : Int) = 42) := fun h => hb (UInt8.toNat_inj.1 (by simpa using (show b.toNat = 42 by omega)))
      rw [if_neg h1, if_neg (by simpa using hb)]
theorem count_is (s : ByteArray) : Lib.countByte s.data.toList 42 = spoN s s.size := by
  rw [spo_take s s.size (Nat.le_refl _), List.take_of_length_le (by rw [Array.length_toList]; exact Nat.le_refl _)]
  rfl
end Go.Proofs.Ytnoaomocdmkigab
