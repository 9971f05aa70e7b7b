/- Which maps are formed: the document's answer. -/
import Derived.Test.YtnoaomocdmkigaaFo
namespace Go.Proofs.Ytnoaomocdmkigaa
open Go.RowKit
open Pu Gp Ap

/-- is the i-th cell at the edge -/
def edgB (C R : Int) (i : Nat) : Bool := decide ((i : Int) % C = 0) || decide ((i : Int) / C = 0) || decide ((i : Int) % C = C - 1) || decide ((i : Int) / C = R - 1)
/-- is the i-th sign where it may be -/
def goodC (C R : Int) (s : ByteArray) (i : Nat) : Bool := byt s i == 35 || (!edgB C R i && okC (byt s i))
def goodN (C R : Int) (s : ByteArray) : Nat → Bool
  | 0 => true
  | n + 1 => goodN C R s n && goodC C R s n
def spoN (s : ByteArray) : Nat → Nat
  | 0 => 0
  | n + 1 => spoN s n + if byt s n = 42 then 1 else 0
def shaB (C R : Int) (s : ByteArray) : Bool := decide (3 ≤ C ∧ C ≤ 32 ∧ 3 ≤ R ∧ R ≤ 24 ∧ (s.size : Int) = C * R)
def forB (C R : Int) (s : ByteArray) : Bool := shaB C R s && (goodN C R s s.size && decide (spoN s s.size ≤ 16))
theorem good_more {C R : Int} {s : ByteArray} : ∀ {n m : Nat}, n ≤ m → goodN C R s n = false → goodN C R s m = false
  | n, 0, h, k => by obtain rfl : n = 0 := by omega
                     exact k
  | n, m + 1, h, k => by
    by_cases e : n = m + 1
    · subst e; exact k
    · rw [goodN, good_more (n := n) (m := m) (by omega) k]; rfl
theorem spo_le (s : ByteArray) : ∀ n, spoN s n ≤ n
  | 0 => Nat.le_refl _
  | n + 1 => by
    have := spo_le s n
    rw [spoN]
    split <;> omega
/-- the shape -/
theorem rform_no (C R : Int) (s : ByteArray) (h : shaB C R s = false) (w : World) : Calls Try.prog 40 #[ar C R s] w fun e w' => e = .returned (.bool false) ∧ Still w w' := by
  unfold shaB at h
  have h' := of_decide_eq_false h
  have hw : (decide (C < 3) = true) ∨ (decide (C < 3) = false ∧ decide (32 < C) = true) ∨ (decide (C < 3) = false ∧ decide (32 < C) = false ∧ decide (R < 3) = true) ∨ (decide (C < 3) = false ∧ decide (32 < C) = false ∧ decide (R < 3) = false ∧ decide (24 < R) = true) ∨
      (decide (C < 3) = false ∧ decide (32 < C) = false ∧ decide (R < 3) = false ∧ decide (24 < R) = false ∧ ((s.size : Int) != C * R) = true) := by
    by_cases x1 : C < 3
    · exact .inl (by simpa using x1)
    by_cases x2 : 32 < C
    · exact .inr (.inl ⟨by simpa using x1, by simpa using x2⟩)
    by_cases x3 : R < 3
    · exact .inr (.inr (.inl ⟨by simpa using x1, by simpa using x2, by simpa using x3⟩))
    by_cases x4 : 24 < R
    · exact .inr (.inr (.inr (.inl ⟨by simpa using x1, by simpa using x2, by simpa using x3, by simpa using x4⟩)))
    · refine .inr (.inr (.inr (.inr ⟨by simpa using x1, by simpa using x2, by simpa using x3, by simpa using x4, ?_⟩)))
      have : ¬ (s.size : Int) = C * R := fun e => h' ⟨by omega, by omega, by omega, by omega, e⟩
      simpa using this
  have hm : (3 ≤ C ∧ C ≤ 32 ∧ 3 ≤ R ∧ R ≤ 24) → 0 ≤ C * R ∧ C * R ≤ 768 := by
    rintro ⟨a, b, c, d⟩
    have h1 : 0 ≤ C * R := Int.mul_nonneg (by omega) (by omega)
    have h2 : C * R ≤ 32 * 24 := Int.mul_le_mul b d (by omega) (by omega)
    omega
  clear h h'
  rcases hw with x1 | ⟨x1, x2⟩ | ⟨x1, x2, x3⟩ | ⟨x1, x2, x3, x4⟩ | ⟨x1, x2, x3, x4, x5⟩
  case inr.inr.inr.inr =>
    obtain ⟨m0, m1⟩ := hm ⟨by simpa using x1, by simpa using x2, by simpa using x3, by simpa using x4⟩
    clear hm
    go_enter Try.func40, Try.ntmps40
    go_wp2_with fail
    go_ret
    exact ⟨rfl, Still.alloc w _⟩
  all_goals
    clear hm
    go_enter Try.func40, Try.ntmps40
    go_wp2_with fail
    go_ret
    exact ⟨rfl, Still.alloc w _⟩
/-- the ways of the edge, as the tests ask -/
theorem edge_ways (C R q m : Int) : ((decide (m = 0) || decide (q = 0) || decide (m = C - 1) || decide (q = R - 1)) = true ∧ ((m == 0) = true ∨ ((m == 0) = false ∧ (q == 0) = true) ∨ ((m == 0) = false ∧ (q == 0) = false ∧ (m == C - 1) = true) ∨ ((m == 0) = false ∧ (q == 0) = false ∧ (m == C - 1) = false ∧ (q == R - 1) = true))) ∨
    ((decide (m = 0) || decide (q = 0) || decide (m = C - 1) || decide (q = R - 1)) = false ∧ (m == 0) = false ∧ (q == 0) = false ∧ (m == C - 1) = false ∧ (q == R - 1) = false) := by
  by_cases h1 : m = 0
  · exact .inl ⟨by simp [h1], .inl (by simpa using h1)⟩
  by_cases h2 : q = 0
  · exact .inl ⟨by simp [h2], .inr (.inl ⟨by simpa using h1, by simpa using h2⟩)⟩
  by_cases h3 : m = C - 1
  · exact .inl ⟨by simp [h3], .inr (.inr (.inl ⟨by simpa using h1, by simpa using h2, by simpa using h3⟩))⟩
  by_cases h4 : q = R - 1
  · exact .inl ⟨by simp [h4], .inr (.inr (.inr ⟨by simpa using h1, by simpa using h2, by simpa using h3, by simpa using h4⟩))⟩
  · exact .inr ⟨by simp [h1, h2, h3, h4], by simpa using h1, by simpa using h2, by simpa using h3, by simpa using h4⟩
set_option maxHeartbeats 8000000 in
set_option maxRecDepth 100000 in
theorem rform_in (C R : Int) (s : ByteArray) (h : shaB C R s = true) (w : World) : Calls Try.prog 40 #[ar C R s] w fun e w' => e = .returned (.bool (goodN C R s s.size && decide (spoN s s.size ≤ 16))) ∧ Still w w' := by
  unfold shaB at h
  obtain ⟨h1, h2, h3, h4, h5⟩ := of_decide_eq_true h
  have m0 : 0 ≤ C * R := Int.mul_nonneg (by omega) (by omega)
  have m1 : C * R ≤ 768 := by
    have : C * R ≤ 32 * 24 := Int.mul_le_mul h2 h4 (by omega) (by omega)
    omega
  have hz : s.size ≤ 768 := by omega
  have h5' : ((s.size : Int) != C * R) = false := by simpa using h5
  obtain ⟨T, eT⟩ : ∃ T, T = (goodN C R s s.size && decide (spoN s s.size ≤ 16)) := ⟨_, rfl⟩
  have HT := hid eT
  have H5 := hid h5
  rw [← eT]
  clear eT h h5
  have p := newA_ab w C R s
  obtain ⟨c0, c1, c2, cf⟩ := p.cells
  simp only [newA] at c0 c1 c2 cf
  go_enter Try.func40, Try.ntmps40
  go_wp2_with fail
  go_loop [3, 4] (fun v u => ∃ i : Nat, i ≤ s.size ∧ u = .int .i64 (i : Int) ∧ v = .int .i64 (spoN s i : Nat) ∧ goodN C R s i = true) (fun _ u => s.size - (intOf u).toNat)
  case atStart => exact ⟨0, by omega, rfl, rfl, rfl⟩
  case round =>
    obtain ⟨i, hi, rfl, rfl, hg⟩ := hrel
    have sl := spo_le s i
    obtain ⟨S, eS⟩ : ∃ S, spoN s i = S := ⟨_, rfl⟩
    rw [eS] at sl ⊢
    have HS := hid eS
    clear eS
    by_cases hlt : i < s.size
    · have e := byt_at s i hlt
      obtain ⟨b, eb⟩ : ∃ b, byt s i = b := ⟨_, rfl⟩
      rw [eb] at e
      have HB := hid eb
      clear eb
      obtain ⟨m, em⟩ : ∃ m, (i : Int) % C = m := ⟨_, rfl⟩
      obtain ⟨q, eq⟩ : ∃ q, (i : Int) / C = q := ⟨_, rfl⟩
      have b1 : 0 ≤ m ∧ m < C := by rw [← em]; exact ⟨Int.emod_nonneg _ (by omega), Int.emod_lt_of_pos _ (by omega)⟩
      have b2 : 0 ≤ q ∧ q ≤ (i : Int) := by rw [← eq]; exact ⟨Int.ediv_nonneg (by omega) (by omega), Int.ediv_le_self _ (by omega)⟩
      obtain ⟨b10, b11⟩ := b1
      obtain ⟨b20, b21⟩ := b2
      have et : (i : Int).tmod C = m := by rw [Int.tmod_eq_emod_of_nonneg (by omega), em]
      have ed : (i : Int).tdiv C = q := by rw [Int.tdiv_eq_ediv_of_nonneg (by omega), eq]
      have HE := hid (show edgB C R i = (decide (m = 0) || decide (q = 0) || decide (m = C - 1) || decide (q = R - 1)) by unfold edgB; rw [em, eq])
      have HG := hid hg
      clear hg
      rcases edge_ways C R q m with ⟨hE, hw⟩ | ⟨hE, x1, x2, x3, x4⟩
      · have HE' := hid (HE.out.trans hE)
        clear hE HE
        by_cases h35 : b = 35
        · have HN := hid (show goodN C R s (i + 1) = true ∧ spoN s (i + 1) = S by
            rw [goodN, spoN, HG.out, goodC, HB.out, h35, HS.out]; exact ⟨rfl, rfl⟩)
          subst h35
          clear HB HG HE' HS
          rcases hw with x1 | ⟨x1, x2⟩ | ⟨x1, x2, x3⟩ | ⟨x1, x2, x3, x4⟩
          all_goals
            go_wp2_with fail
            go_round
            case rel => exact ⟨i + 1, by omega, by go_num, by rw [HN.out.2], HN.out.1⟩
            case measure => simp [intOf]; omega
        · have n35 : (b != 35) = true := by simpa using h35
          have HF := hid (show false = T by
            rw [HT.out, good_more (n := i + 1) (m := s.size) (by omega) (by
              rw [goodN, HG.out, goodC, HB.out, HE'.out, show (b == 35) = false by simpa using h35]; rfl)]
            rfl)
          clear HB HG HE' HS h35
          rcases hw with x1 | ⟨x1, x2⟩ | ⟨x1, x2, x3⟩ | ⟨x1, x2, x3, x4⟩
          all_goals
            go_wp2_with fail
            go_ret
            exact ⟨ret_bool HF.out, Still.alloc w _⟩
      · have HE' := hid (HE.out.trans hE)
        clear hE HE
        rcases sign_ways b with ⟨hok, hw⟩ | ⟨hok, n1, n2, n3, hw⟩
        · have HN := hid (show goodN C R s (i + 1) = true by
            rw [goodN, HG.out, goodC, HB.out, HE'.out, hok]; simp)
          have HP := hid (show spoN s (i + 1) = S + if b = 42 then 1 else 0 by rw [spoN, HB.out, HS.out])
          clear HB HG HE' HS hok
          rcases hw with rfl | rfl | rfl | ⟨n1, n2, n3, n4, n5⟩
          case inr.inr.inl =>
            go_wp2_with fail
            go_round
            case rel => exact ⟨i + 1, by omega, by go_num, by rw [HP.out]; simp, HN.out⟩
            case measure => simp [intOf]; omega
          case inr.inr.inr =>
            have n6 : (b == 42) = false := by simpa using n3
            go_wp2_with fail
            go_round
            case rel => exact ⟨i + 1, by omega, by go_num, by rw [HP.out, if_neg (by simpa using n3)]; rfl, HN.out⟩
            case measure => simp [intOf]; omega
          all_goals
            go_wp2_with fail
            go_round
            case rel => exact ⟨i + 1, by omega, by go_num, by rw [HP.out]; rfl, HN.out⟩
            case measure => simp [intOf]; omega
        · have HF := hid (show false = T by
            rw [HT.out, good_more (n := i + 1) (m := s.size) (by omega) (by
              rw [goodN, HG.out, goodC, HB.out, HE'.out, hok, show (b == 35) = false by simpa using n1]; rfl)]
            rfl)
          clear HB HG HE' HS hok
          rcases hw with n4 | ⟨n4, n5⟩
          all_goals
            go_wp2_with fail
            go_ret
            exact ⟨ret_bool HF.out, Still.alloc w _⟩
    · have HF := hid (show decide (S ≤ 16) = T by
        rw [HT.out, show s.size = i by omega, hg, HS.out]; rfl)
      clear hg HS
      go_wp2_with fail
      go_ret
      exact ⟨ret_bool ((show decide ((S : Int) ≤ 16) = decide (S ≤ 16) from decide_eq_decide.2 (by omega)).trans HF.out), Still.alloc w _⟩
theorem rformed_any (C R : Int) (s : ByteArray) (w : World) : Calls Try.prog 40 #[ar C R s] w fun e w' => e = .returned (.bool (forB C R s)) ∧ Still w w' := by
  unfold forB
  cases h : shaB C R s with
  | false => exact rform_no C R s h w
  | true =>
    rw [Bool.true_and]
    exact rform_in C R s h w
end Go.Proofs.Ytnoaomocdmkigaa
