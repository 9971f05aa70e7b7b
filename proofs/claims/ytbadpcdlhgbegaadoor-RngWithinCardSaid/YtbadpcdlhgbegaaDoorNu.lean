/- RngNumbers: the walk. -/
import Derived.Test.YtbadpcdlhgbegaaDoorAw
import Derived.Test.YtbadpcdlhgbegaaDoorOb
namespace Go.Proofs.YtbadpcdlhgbegaaDoor
open Go.RowKit

/-- the world with a question in a new block -/
abbrev put (w : World) (s f u a c : Int) : World := w.alloc (.cells #[.int .u64 s, .int .i64 f, .int .i64 u, .int .i64 a, .int .i64 c] 24)
theorem put_qu (w : World) (s f u a c : Int) : Qu (put w s f u a c) w.heap.size s f u a c := heap_alloc_new w _
set_option maxHeartbeats 2000000 in
set_option maxRecDepth 100000 in
theorem numbers_walk (s f u a c : Int) (a0 : -9223372036854775808 ≤ a) (a1 : a ≤ 9223372036854775807) (c1 : c ≤ 9223372036854775807) (w : World) (ht : Tab w) :
    Calls Tryd.prog 3 #[.agg #[.int .u64 s, .int .i64 f, .int .i64 u, .int .i64 a, .int .i64 c]] w fun e w' => e = .returned (.bool true) ∧ Still w w' := by
  have hq := put_qu w s f u a c
  have hs0 : Still w (put w s f u a c) := Still.alloc w _
  have ht0 := ht.still hs0
  go_enter Tryd.func3, Tryd.ntmps3
  go_wp2_with fail
  refine (awake_any _ ht0).mono ?_
  rintro e w1 ⟨rfl, h1⟩
  have q1 := hq.still h1
  have t1 := ht0.still h1
  have s1 := hs0.trans h1
  obtain ⟨b, eb⟩ : ∃ b, b = w.heap.size := ⟨_, rfl⟩
  rw [← eb] at q1 ⊢
  clear hq h1 hs0 ht0 ht eb
  obtain ⟨d0, d1, d2, d3, d4⟩ := q1.cells
  go_wp2_with fail
  refine (below_any s f u a a1 w1 t1).mono ?_
  rintro e w2 ⟨rfl, h2⟩
  have q2 := q1.still h2
  have t2 := t1.still h2
  have s2 := s1.trans h2
  clear q1 t1 s1 h2 d0 d1 d2 d3 d4
  obtain ⟨d0, d1, d2, d3, d4⟩ := q2.cells
  go_wp2_with fail
  refine (rbelow_any s f u a a1 w2).mono ?_
  rintro e w3 ⟨rfl, rfl⟩
  go_wp2_with fail
  refine (between_any s f u a c a0 c1 _ t2).mono ?_
  rintro e w4 ⟨rfl, h4⟩
  have q4 := q2.still h4
  have t4 := t2.still h4
  have s4 := s2.trans h4
  clear q2 t2 s2 h4 d0 d1 d2 d3 d4
  obtain ⟨d0, d1, d2, d3, d4⟩ := q4.cells
  go_wp2_with fail
  refine (rbetween_any s f u a c a0 c1 _).mono ?_
  rintro e w5 ⟨rfl, rfl⟩
  go_wp2_with fail
  refine (chance_any s f u a c c1 _ t4).mono ?_
  rintro e w6 ⟨rfl, h6⟩
  have q6 := q4.still h6
  have t6 := t4.still h6
  have s6 := s4.trans h6
  clear q4 t4 s4 h6 d0 d1 d2 d3 d4
  obtain ⟨d0, d1, d2, d3, d4⟩ := q6.cells
  go_wp2_with fail
  refine (rchance_any s f u a c c1 _).mono ?_
  rintro e w7 ⟨rfl, rfl⟩
  go_wp2_with fail
  go_quiet ((first | (go_at_call 16; exact Calls.quiet_of (at_q s f u _ (by first | exact t6 | exact t6.drewN _))) | (go_at_call 17; exact Calls.quiet_of_same (rat_any s f u _))))
  have s7 : Still w (w7.drewN nq) := s6.drewN nq
  have HS := hid s7
  clear s6 s7 t6 q6 d0 d1 d2 d3 d4 a0 a1 c1
  go_wp2_with fail
  go_ret
  exact ⟨rfl, HS.out⟩
theorem numbers_law (s f u a c : Int) (h : AskIn f u a c) (w : World) (ht : Tab w) :
    Calls Tryd.prog 3 #[.agg #[.int .u64 s, .int .i64 f, .int .i64 u, .int .i64 a, .int .i64 c]] w fun e w' => e = .returned (.bool true) ∧ Still w w' :=
  numbers_walk s f u a c h.2.2.1.1 h.2.2.1.2 h.2.2.2.2 w ht
end Go.Proofs.YtbadpcdlhgbegaaDoor
