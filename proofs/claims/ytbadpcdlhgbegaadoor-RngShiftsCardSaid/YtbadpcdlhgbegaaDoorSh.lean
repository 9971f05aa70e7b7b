/- RngShifts: the walk. -/
import Derived.Test.YtbadpcdlhgbegaaDoorNu
namespace Go.Proofs.YtbadpcdlhgbegaaDoor
open Go.RowKit

set_option maxHeartbeats 2000000 in
set_option maxRecDepth 100000 in
theorem shifts_in (s f u a c : Int) (ha0 : 1 ≤ a) (ha1 : a ≤ 1099511627776) (hc0 : -1099511627776 ≤ c) (hc1 : c ≤ 1099511627776) (w : World) (ht : Tab w) :
    Calls Tryd.prog 8 #[.agg #[.int .u64 s, .int .i64 f, .int .i64 u, .int .i64 a, .int .i64 c]] w fun e w' => e = .returned (.bool true) ∧ Still w w' := by
  have hq := put_qu w s f u a c
  have hs0 : Still w (put w s f u a c) := Still.alloc w _
  have ht0 := ht.still hs0
  have n0 := (at_in s f u).1
  have HB := hid fun w ht => below_any s f u a (by omega) w ht
  have HT := hid fun w ht => between_any s f u c (c + a - 1) (by omega) (by omega) w ht
  have HC := hid fun o w ht => chance_any s f u o a (by omega) w ht
  have HA := hid fun w ht => at_any s f u w ht
  have hm := mod_in (m := a) n0 (by omega)
  obtain ⟨N, eN⟩ : ∃ N, atI s f u = N := ⟨_, rfl⟩
  rw [eN] at HB HT HC HA hm n0
  have htm : N.tmod a = N % a := Int.tmod_eq_emod_of_nonneg n0
  obtain ⟨r, er⟩ : ∃ r, N % a = r := ⟨_, rfl⟩
  have e1 : bel N a = r := by unfold bel; rw [if_neg (by omega), er]
  have e2 : belE a = 0 := by unfold belE; rw [if_neg (by omega)]
  have e3 : bet N c (c + a - 1) = c + r := by
    unfold bet
    rw [if_neg (by omega), if_neg (by omega), show c + a - 1 - c + 1 = a by omega, er]
  have e4 : betE c (c + a - 1) = 0 := by unfold betE; rw [if_neg (by omega)]
  rw [er] at hm htm
  have e5 : cha N r a = false := by
    unfold cha
    rw [if_neg (by omega), if_neg (by omega), er]
    simp
  have e6 : cha N (r + 1) a = true := by
    unfold cha
    rw [if_neg (by omega), if_neg (by omega), er]
    simp; omega
  have e7 : chaE r a = 0 := by unfold chaE; rw [if_neg (by omega), if_neg (by omega)]
  have e8 : chaE (r + 1) a = 0 := by unfold chaE; rw [if_neg (by omega), if_neg (by omega)]
  have HC1 := hid (HC.out r)
  have HC2 := hid (HC.out (r + 1))
  rw [e1, e2] at HB
  rw [e3, e4] at HT
  rw [e5, e7] at HC1
  rw [e6, e8] at HC2
  have hr0 := hm.1
  have hr1 := hm.2.1
  clear e1 e2 e3 e4 e5 e6 e7 e8 er eN n0 hm HC
  have h1 : ¬ a < 1 := by omega
  have h2 : ¬ 1099511627776 < a := by omega
  have h3 : ¬ c < -1099511627776 := by omega
  have h4 : ¬ 1099511627776 < c := by omega
  go_enter Tryd.func8, Tryd.ntmps8
  go_wp2_with fail
  refine (awake_any _ ht0).mono ?_
  rintro e w1 ⟨rfl, h1⟩
  have q1 := hq.still h1
  have t1 := ht0.still h1
  have s1 := hs0.trans h1
  obtain ⟨b, eb⟩ : ∃ b, b = w.heap.size := ⟨_, rfl⟩
  rw [← eb] at q1 ⊢
  clear hq h1 hs0 ht0 ht eb
  obtain ⟨d0, d1, d2, d3, d4⟩ := q1.cells
  go_wp2_with fail
  refine (HB.out w1 t1).mono ?_
  rintro e w2 ⟨rfl, h2⟩
  have q2 := q1.still h2
  have t2 := t1.still h2
  have s2 := s1.trans h2
  clear q1 t1 s1 h2 d0 d1 d2 d3 d4
  obtain ⟨d0, d1, d2, d3, d4⟩ := q2.cells
  go_wp2_with fail
  refine (HT.out w2 t2).mono ?_
  rintro e w4 ⟨rfl, h4⟩
  have q4 := q2.still h4
  have t4 := t2.still h4
  have s4 := s2.trans h4
  clear q2 t2 s2 h4 d0 d1 d2 d3 d4
  obtain ⟨d0, d1, d2, d3, d4⟩ := q4.cells
  go_wp2_with fail
  refine (HC1.out w4 t4).mono ?_
  rintro e w5 ⟨rfl, h5⟩
  have q5 := q4.still h5
  have t5 := t4.still h5
  have s5 := s4.trans h5
  clear q4 t4 s4 h5 d0 d1 d2 d3 d4
  obtain ⟨d0, d1, d2, d3, d4⟩ := q5.cells
  go_wp2_with fail
  refine (HC2.out w5 t5).mono ?_
  rintro e w6 ⟨rfl, h6⟩
  have q6 := q5.still h6
  have t6 := t5.still h6
  have s6 := s5.trans h6
  clear q5 t5 s5 h6 d0 d1 d2 d3 d4
  obtain ⟨d0, d1, d2, d3, d4⟩ := q6.cells
  go_wp2_with fail
  refine (HA.out w6 t6).mono ?_
  rintro e w7 ⟨rfl, h7⟩
  have q7 := q6.still h7
  have s7 := s6.trans h7
  clear q6 t6 s6 h7 d0 d1 d2 d3 d4
  obtain ⟨d0, d1, d2, d3, d4⟩ := q7.cells
  have HS := hid s7
  clear s7 q7 HA HB HT HC1 HC2
  go_wp2_with fail
  go_ret
  exact ⟨rfl, HS.out⟩
set_option maxHeartbeats 2000000 in
set_option maxRecDepth 100000 in
theorem shifts_out (s f u a c : Int) (hout : a < 1 ∨ 1099511627776 < a ∨ c < -1099511627776 ∨ 1099511627776 < c) (w : World) (ht : Tab w) :
    Calls Tryd.prog 8 #[.agg #[.int .u64 s, .int .i64 f, .int .i64 u, .int .i64 a, .int .i64 c]] w fun e w' => e = .returned (.bool true) ∧ Still w w' := by
  have hq := put_qu w s f u a c
  have hs0 : Still w (put w s f u a c) := Still.alloc w _
  have ht0 := ht.still hs0
  by_cases h1 : a < 1
  · clear hout
    go_enter Tryd.func8, Tryd.ntmps8
    go_wp2_with fail
    refine (awake_any _ ht0).mono ?_
    rintro e w1 ⟨rfl, h1⟩
    have q1 := hq.still h1
    have s1 := hs0.trans h1
    obtain ⟨d0, d1, d2, d3, d4⟩ := q1.cells
    clear q1 hq hs0
    go_wp2_with fail
    go_ret
    exact ⟨rfl, s1⟩
  · by_cases h2 : 1099511627776 < a
    · clear hout
      go_enter Tryd.func8, Tryd.ntmps8
      go_wp2_with fail
      refine (awake_any _ ht0).mono ?_
      rintro e w1 ⟨rfl, h1⟩
      have q1 := hq.still h1
      have s1 := hs0.trans h1
      obtain ⟨d0, d1, d2, d3, d4⟩ := q1.cells
      clear q1 hq hs0
      go_wp2_with fail
      go_ret
      exact ⟨rfl, s1⟩
    · by_cases h3 : c < -1099511627776
      · clear hout
        go_enter Tryd.func8, Tryd.ntmps8
        go_wp2_with fail
        refine (awake_any _ ht0).mono ?_
        rintro e w1 ⟨rfl, h1⟩
        have q1 := hq.still h1
        have s1 := hs0.trans h1
        obtain ⟨d0, d1, d2, d3, d4⟩ := q1.cells
        clear q1 hq hs0
        go_wp2_with fail
        go_ret
        exact ⟨rfl, s1⟩
      · have h4 : 1099511627776 < c := by omega
        clear hout
        go_enter Tryd.func8, Tryd.ntmps8
        go_wp2_with fail
        refine (awake_any _ ht0).mono ?_
        rintro e w1 ⟨rfl, h1⟩
        have q1 := hq.still h1
        have s1 := hs0.trans h1
        obtain ⟨d0, d1, d2, d3, d4⟩ := q1.cells
        clear q1 hq hs0
        go_wp2_with fail
        go_ret
        exact ⟨rfl, s1⟩
theorem shifts_law (s f u a c : Int) (_ : AskIn f u a c) (w : World) (ht : Tab w) :
    Calls Tryd.prog 8 #[.agg #[.int .u64 s, .int .i64 f, .int .i64 u, .int .i64 a, .int .i64 c]] w fun e w' => e = .returned (.bool true) ∧ Still w w' := by
  by_cases h : a < 1 ∨ 1099511627776 < a ∨ c < -1099511627776 ∨ 1099511627776 < c
  · exact shifts_out s f u a c h w ht
  · exact shifts_in s f u a c (by omega) (by omega) (by omega) (by omega) w ht
end Go.Proofs.YtbadpcdlhgbegaaDoor
