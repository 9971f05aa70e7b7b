/- RngWeighted: the walk. -/
import Derived.Test.YtbadpcdlhgbegaaDoorNu
import Derived.Test.YtbadpcdlhgbegaaDoorLe
namespace Go.Proofs.YtbadpcdlhgbegaaDoor
open Go.RowKit

set_option maxHeartbeats 2000000 in
set_option maxRecDepth 100000 in
theorem weighted_law {w : World} (s f u a c : Int) (_ : AskIn f u a c) (ao : Option Addr) (n cap : Nat) (bs : List Int) (hr : RdI w ao n cap bs) (h44 : n + 2 ≤ 17592186044416) (ht : Tab w) :
    Calls Tryd.prog 4 #[.agg #[.int .u64 s, .int .i64 f, .int .i64 u, .int .i64 a, .int .i64 c], .slice ao n cap] w fun e w' => e = .returned (.bool true) ∧ Still w w' := by
  have hq := put_qu w s f u a c
  have hs0 : Still w (put w s f u a c) := Still.alloc w _
  have ht0 := ht.still hs0
  go_enter Tryd.func4, Tryd.ntmps4
  go_wp2_with fail
  refine (awake_any _ ht0).mono ?_
  rintro e w1 ⟨rfl, h1⟩
  have q1 := hq.still h1
  have t1 := ht0.still h1
  have s1 := hs0.trans h1
  obtain ⟨b, eb⟩ : ∃ b, b = w.heap.size := ⟨_, rfl⟩
  rw [← eb] at q1 ⊢
  clear hq h1 hs0 ht0 ht eb
  go_wp2_with fail
  refine (lent_any ao n cap bs w1 (hr.still s1) h44).mono ?_
  rintro e w2 ⟨g, rfl, ho, h2, hg⟩
  have q2 := q1.still h2
  have t2 := t1.still h2
  have s2 := s1.trans h2
  have hl : RdI w2 (some ⟨g, 0, none⟩) n (n + 2) bs := by
    have := ho.rd.take (i := n) (by omega)
    rwa [List.take_left' hr.len] at this
  have rl := ho.rd
  clear q1 t1 s1 h2 hg ho
  obtain ⟨d0, d1, d2, d3, d4⟩ := q2.cells
  go_wp2_with fail
  refine (weighted_any s f u _ n (n + 2) bs w2 hl t2).mono ?_
  rintro e w3 ⟨rfl, h3⟩
  have q3 := q2.still h3
  have s3 := s2.trans h3
  have r3 := rl.still h3
  clear q2 t2 s2 h3 hl rl d0 d1 d2 d3 d4
  obtain ⟨d0, d1, d2, d3, d4⟩ := q3.cells
  go_wp2_with fail
  refine (rweighted_any s f u ao n cap bs w3 (hr.still s3)).mono ?_
  rintro e w4 ⟨rfl, rfl⟩
  clear d0 d1 d2 d3 d4 q3
  go_wp2_with fail
  refine (still_any g ao n cap bs _ (hr.still s3) r3 h44).mono ?_
  rintro e w5 ⟨rfl, h5⟩
  have HS := hid (s3.trans h5)
  clear s3 h5 r3 hr
  go_wp2_with fail
  go_ret
  exact ⟨rfl, HS.out⟩
end Go.Proofs.YtbadpcdlhgbegaaDoor
