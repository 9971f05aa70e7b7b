/- RngOnce: the walk. -/
import Derived.Test.YtbadpcdlhgbegaaDoorNu
namespace Go.Proofs.YtbadpcdlhgbegaaDoor
open Go.RowKit

theorem count_step {l : List Int} {i : Nat} (h : i < l.length) (m : Int) : (l.take (i + 1)).count m = (l.take i).count m + (if l[i] = m then 1 else 0) := by
  rw [List.take_succ_eq_append_getElem h, List.count_append, List.count_singleton]
  simp
theorem count_le (l : List Int) (m : Int) : l.count m ≤ l.length := List.count_le_length
set_option maxHeartbeats 4000000 in
set_option maxRecDepth 100000 in
theorem once_in (s f u c : Int) (n : Nat) (h64 : n ≤ 64) (w : World) (ht : Tab w) :
    Calls Tryd.prog 7 #[.agg #[.int .u64 s, .int .i64 f, .int .i64 u, .int .i64 (n : Int), .int .i64 c]] w fun e w' => e = .returned (.bool true) ∧ Still w w' := by
  have hq := put_qu w s f u (n : Int) c
  have hs0 : Still w (put w s f u (n : Int) c) := Still.alloc w _
  have ht0 := ht.still hs0
  have HO := hid fun w ht => order_some s f u n h64 w ht
  have HL := hid (fun m => ordL_count (atI s f u) n m)
  have HN := hid (ordL_length (atI s f u) n)
  obtain ⟨L, eL⟩ : ∃ L, ordL (atI s f u) n = L := ⟨_, rfl⟩
  rw [eL] at HO HL HN
  clear eL
  go_enter Tryd.func7, Tryd.ntmps7
  go_wp2_with fail
  refine (awake_any _ ht0).mono ?_
  rintro e w1 ⟨rfl, h1⟩
  have q1 := hq.still h1
  have t1 := ht0.still h1
  have s1 := hs0.trans h1
  obtain ⟨b, eb⟩ : ∃ b, b = w.heap.size := ⟨_, rfl⟩
  rw [← eb] at q1 ⊢
  clear hq h1 hs0 ht0 ht eb
  obtain ⟨d0, d1, d2, d3, d4⟩ := q1.cells
  go_wp2_with fail
  refine (HO.out w1 t1).mono ?_
  rintro e w2 ⟨g, rfl, ho, h2, hg⟩
  have q2 := q1.still h2
  have s2 := s1.trans h2
  have rd := ho.rd
  clear q1 t1 s1 h2 hg ho d0 d1 d2 d3 d4 HO
  obtain ⟨d0, d1, d2, d3, d4⟩ := q2.cells
  have HS := hid s2
  clear s2 q2 d0 d1 d2 d4
  go_wp2_with fail
  go_loopw [6] (fun vm wr => ∃ m : Nat, m ≤ n ∧ vm = .int .i64 (m : Int) ∧ wr = w2) (fun vm _ => n - (intOf vm).toNat)
  case atStart => exact ⟨0, Nat.zero_le _, rfl, rfl⟩
  case round =>
    obtain ⟨m, hm, rfl, rfl⟩ := hrel
    by_cases hlt : m < n
    · go_wp2_with fail
      go_loopw [7, 8] (fun vc vi wt => ∃ (i k : Nat), i ≤ n ∧ k ≤ i ∧ vc = .int .i64 (k : Int) ∧ vi = .int .i64 (i : Int) ∧ Hid (k = (L.take i).count (m : Int)) ∧ wt = wr) (fun _ vi _ => n - (intOf vi).toNat)
      case atStart => exact ⟨0, 0, Nat.zero_le _, Nat.le_refl _, rfl, rfl, rfl, rfl⟩
      case round =>
        obtain ⟨i, k, hi, hk, rfl, rfl, HK, rfl⟩ := hrel
        by_cases hin : i < n
        · have hil : i < L.length := by have := HN.out; omega
          have hc := rd.byte hil
          have HC := hid (count_step hil (m : Int))
          obtain ⟨x, ex⟩ : ∃ x, L[i] = x := ⟨_, rfl⟩
          rw [ex] at hc HC
          rw [Nat.zero_add] at hc
          clear ex hil
          by_cases hx : x = (m : Int)
          · rw [if_pos hx] at HC
            subst hx
            go_wp2
            go_roundw
            case rel => exact ⟨i + 1, k + 1, by omega, by omega, by go_num, by go_num, hid (by rw [HC.out, ← HK.out]), by trivial⟩
            case measure => simp [intOf]; omega
          · rw [if_neg hx] at HC
            go_wp2
            go_roundw
            case rel => exact ⟨i + 1, k, by omega, by omega, rfl, by go_num, hid (by rw [HC.out, ← HK.out]; rfl), by trivial⟩
            case measure => simp [intOf]; omega
        · have hk1 : k = 1 := by
            have h1 := HK.out
            rw [List.take_of_length_le (by have := HN.out; omega), HL.out m, if_pos hlt] at h1
            exact h1
          subst hk1
          clear HK
          go_wp2
          go_roundw
          case rel => exact ⟨m + 1, by omega, by go_num, by trivial⟩
          case measure => simp [intOf]; omega
    · go_wp2
      go_ret
      exact ⟨rfl, HS.out⟩
set_option maxHeartbeats 2000000 in
set_option maxRecDepth 100000 in
theorem once_out (s f u a c : Int) (ha : a < 0 ∨ 64 < a) (w : World) (ht : Tab w) :
    Calls Tryd.prog 7 #[.agg #[.int .u64 s, .int .i64 f, .int .i64 u, .int .i64 a, .int .i64 c]] w fun e w' => e = .returned (.bool true) ∧ Still w w' := by
  have hq := put_qu w s f u a c
  have hs0 : Still w (put w s f u a c) := Still.alloc w _
  have ht0 := ht.still hs0
  have HO := hid fun w => order_none s f u a ha w
  rcases ha with ha | ha
  · go_enter Tryd.func7, Tryd.ntmps7
    go_wp2_with fail
    refine (awake_any _ ht0).mono ?_
    rintro e w1 ⟨rfl, h1⟩
    have q1 := hq.still h1
    have s1 := hs0.trans h1
    obtain ⟨d0, d1, d2, d3, d4⟩ := q1.cells
    clear q1 hq hs0
    go_wp2_with fail
    refine (HO.out w1).mono ?_
    rintro e w2 ⟨rfl, rfl⟩
    go_wp2_with fail
    go_ret
    exact ⟨rfl, s1⟩
  · have h0 : ¬ a < 0 := by omega
    go_enter Tryd.func7, Tryd.ntmps7
    go_wp2_with fail
    refine (awake_any _ ht0).mono ?_
    rintro e w1 ⟨rfl, h1⟩
    have q1 := hq.still h1
    have s1 := hs0.trans h1
    obtain ⟨d0, d1, d2, d3, d4⟩ := q1.cells
    clear q1 hq hs0
    go_wp2_with fail
    refine (HO.out w1).mono ?_
    rintro e w2 ⟨rfl, rfl⟩
    go_wp2_with fail
    go_ret
    exact ⟨rfl, s1⟩
theorem once_law (s f u a c : Int) (_ : AskIn f u a c) (w : World) (ht : Tab w) :
    Calls Tryd.prog 7 #[.agg #[.int .u64 s, .int .i64 f, .int .i64 u, .int .i64 a, .int .i64 c]] w fun e w' => e = .returned (.bool true) ∧ Still w w' := by
  by_cases h : a < 0 ∨ 64 < a
  · exact once_out s f u a c h w ht
  · obtain ⟨n, rfl⟩ : ∃ n : Nat, a = (n : Int) := ⟨a.toNat, by omega⟩
    exact once_in s f u c n (by omega) w ht
end Go.Proofs.YtbadpcdlhgbegaaDoor
