/- Contracts: Order, the program's and the document's. -/
import Derived.Test.YtbadpcdlhgbegaaDoorRp
import Derived.Test.YtbadpcdlhgbegaaDoorRq
namespace Go.Proofs.YtbadpcdlhgbegaaDoor
open Go.RowKit

set_option maxRecDepth 100000 in
theorem order_some (s f u : Int) (n : Nat) (h64 : n ≤ 64) (w : World) (ht : Tab w) :
    Calls Tryd.prog 22 #[.int .u64 s, .int .i64 f, .int .i64 u, .int .i64 (n : Int)] w fun e w' => ∃ g, e = .returned (.tuple #[.slice (some ⟨g, 0, none⟩) n n, .int .i64 0]) ∧ OwI 3 w' (some ⟨g, 0, none⟩) n n (ordL (atI s f u) n) ∧ Still w w' ∧ w.heap.size ≤ g := by
  have hmf : ∀ (fn : Fn) (first cap : Array Value) (w : World), (Instr.makeFunc fn first cap).run Tryd.prog w = .ok (.func fn first cap) w := fun _ _ _ _ => rfl
  have HA := hid (at_any s f u w ht)
  obtain ⟨N, eN⟩ : ∃ N, atI s f u = N := ⟨_, rfl⟩
  rw [eN] at HA ⊢
  clear eN
  go_enter Tryd.func22, Tryd.ntmps22
  go_wp2_with fail
  refine HA.out.mono ?_
  rintro e w1 ⟨rfl, h1⟩
  have hc : (w1.alloc (.cells #[.int .u64 N] 22)).cell? ⟨w1.heap.size, 0, none⟩ = some (.int .u64 N) := by
    rw [cell_of_row _ _ _ _ _ _ (heap_alloc_new w1 _)]
    rfl
  have h2 : Still w (w1.alloc (.cells #[.int .u64 N] 22)) := Fr.alloc h1 _
  have HM := hid (mixed_any N n w1.heap.size h64 _ hc (ht.still h2))
  have H2 := hid h2
  clear hc h1 h2
  go_wp2_with fail
  refine HM.out.mono ?_
  rintro e w2 ⟨g, rfl, ho, h3, hg⟩
  have HO := hid (And.intro ho (And.intro (H2.out.trans h3) (show w.heap.size ≤ g from Nat.le_trans H2.out.size hg)))
  clear ho h3 hg HM H2
  go_wp2_with fail
  go_ret2
  exact ⟨g, rfl, HO.out⟩
set_option maxRecDepth 100000 in
theorem order_none (s f u k : Int) (hk : k < 0 ∨ 64 < k) (w : World) :
    Calls Tryd.prog 22 #[.int .u64 s, .int .i64 f, .int .i64 u, .int .i64 k] w fun e w' => e = .returned (.tuple #[.slice none 0 0, .int .i64 1]) ∧ w' = w := by
  rcases hk with hk | hk
  · go_enter Tryd.func22, Tryd.ntmps22
    go_wp2
    go_ret2
    exact ⟨rfl, rfl⟩
  · have h0 : ¬ k < 0 := by omega
    go_enter Tryd.func22, Tryd.ntmps22
    go_wp2
    go_ret2
    exact ⟨rfl, rfl⟩
set_option maxRecDepth 100000 in
theorem rorder_none (s f u k : Int) (hk : k < 0 ∨ 64 < k) (w : World) :
    Calls Tryd.prog 23 #[.int .u64 s, .int .i64 f, .int .i64 u, .int .i64 k] w fun e w' => e = .returned (.tuple #[.slice none 0 0, .int .i64 1]) ∧ w' = w := by
  rcases hk with hk | hk
  · go_enter Tryd.func23, Tryd.ntmps23
    go_wp2
    go_ret2
    exact ⟨rfl, rfl⟩
  · have h0 : ¬ k < 0 := by omega
    go_enter Tryd.func23, Tryd.ntmps23
    go_wp2
    go_ret2
    exact ⟨rfl, rfl⟩
end Go.Proofs.YtbadpcdlhgbegaaDoor
