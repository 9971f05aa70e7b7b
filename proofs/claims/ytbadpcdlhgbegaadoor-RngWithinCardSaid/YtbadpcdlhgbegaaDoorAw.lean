/- awake; a question in its block. -/
import Derived.Test.YtbadpcdlhgbegaaDoorRr
import Derived.Test.YtbadpcdlhgbegaaDoorRx
namespace Go.Proofs.YtbadpcdlhgbegaaDoor
open Go.RowKit

theorem at_q (s f u : Int) (w : World) (ht : Tab w) : Calls Tryd.prog 16 #[.int .u64 s, .int .i64 f, .int .i64 u] w fun e w' => e = .returned (.int .u64 (atI s f u)) ∧ ∃ k, w' = w.drewN k := by
  go_enter Tryd.func16, Tryd.ntmps16
  go_wp2_with fail
  refine (chain_any _ _ _ ht).mono ?_
  rintro e w1 ⟨rfl, k, rfl⟩
  go_wp2_with fail
  refine (chain_any _ _ _ (ht.drewN k)).mono ?_
  rintro e w2 ⟨rfl, m, rfl⟩
  go_wp2_with fail
  go_ret
  exact ⟨rfl, _, rfl⟩
theorem between_55 (w : World) (ht : Tab w) : Calls Tryd.prog 12 #[.int .u64 7, .int .i64 1, .int .i64 0, .int .i64 5, .int .i64 5] w fun e w' => e = .returned (.tuple #[.int .i64 5, .int .i64 0]) ∧ Still w w' := by
  refine (between_any 7 1 0 5 5 (by omega) (by omega) w ht).mono ?_
  rintro e w' ⟨rfl, h⟩
  obtain ⟨N, eN⟩ : ∃ N, atI 7 1 0 = N := ⟨_, rfl⟩
  rw [eN]
  refine ⟨?_, h⟩
  have e1 : bet N 5 5 = 5 := by simp [bet]
  have e2 : betE 5 5 = 0 := by simp [betE]
  rw [e1, e2]
theorem chance_33 (w : World) (ht : Tab w) : Calls Tryd.prog 14 #[.int .u64 7, .int .i64 1, .int .i64 0, .int .i64 3, .int .i64 3] w fun e w' => e = .returned (.tuple #[.bool true, .int .i64 0]) ∧ Still w w' := by
  refine (chance_any 7 1 0 3 3 (by omega) w ht).mono ?_
  rintro e w' ⟨rfl, h⟩
  obtain ⟨N, eN⟩ : ∃ N, atI 7 1 0 = N := ⟨_, rfl⟩
  rw [eN]
  refine ⟨?_, h⟩
  have e1 : cha N 3 3 = true := by simp [cha]; omega
  have e2 : chaE 3 3 = 0 := by simp [chaE]
  rw [e1, e2]
theorem rd_009 (w : World) : RdI (w.alloc (.cells #[.int .i64 0, .int .i64 0, .int .i64 9] 3)) (some ⟨w.heap.size, 0, none⟩) 3 3 [0, 0, 9] :=
  (OwI.fresh (e := 3) w _ 3 3 [0, 0, 9] rfl (Nat.le_refl _) (by unfold maxLen; omega) rfl (fun j hj => by
    simp at hj
    rcases (show j = 0 ∨ j = 1 ∨ j = 2 by omega) with rfl | rfl | rfl <;> rfl)).rd
theorem weighted_009 (w : World) (ht : Tab w) : Calls Tryd.prog 19 #[.int .u64 7, .int .i64 1, .int .i64 0, .slice (some ⟨w.heap.size, 0, none⟩) 3 3] (w.alloc (.cells #[.int .i64 0, .int .i64 0, .int .i64 9] 3)) fun e w' => e = .returned (.tuple #[.int .i64 2, .int .i64 0]) ∧ Still w w' := by
  refine (weighted_any 7 1 0 _ 3 3 [0, 0, 9] _ (rd_009 w) (ht.still (Still.alloc w _))).mono ?_
  rintro e w' ⟨rfl, h⟩
  have n0 := (at_in 7 1 0).1
  obtain ⟨N, eN⟩ : ∃ N, atI 7 1 0 = N := ⟨_, rfl⟩
  rw [eN] at n0 ⊢
  refine ⟨?_, (Still.alloc w _).trans h⟩
  have e2 : wgtE [0, 0, 9] = 0 := by decide
  have hm := mod_in (m := 9) n0 (by omega)
  have e1 : wgt N [0, 0, 9] = 2 := by
    simp only [wgt, e2, if_true]
    have hs : Rg.sum [0, 0, 9] = 9 := by decide
    rw [hs]
    have : Rg.pick (N % 9) [0, 0, 9] = 2 := by
      have a1 : ¬ N % 9 < 0 := by omega
      have a2 : N % 9 < 9 := hm.2.1
      simp [Rg.pick, a1, a2]
    rw [this]
    rfl
  rw [e1, e2]
set_option maxHeartbeats 1000000 in
set_option maxRecDepth 100000 in
theorem awake_any (w : World) (ht : Tab w) : Calls Tryd.prog 9 #[] w fun e w' => e = .returned (.bool true) ∧ Still w w' := by
  go_enter Tryd.func9, Tryd.ntmps9
  go_wp2_with fail
  refine (between_55 w ht).mono ?_
  rintro e w1 ⟨rfl, h1⟩
  have ht1 := ht.still h1
  go_wp2_with fail
  refine (chance_33 w1 ht1).mono ?_
  rintro e w2 ⟨rfl, h2⟩
  have ht2 := ht1.still h2
  go_wp2_with fail
  refine (weighted_009 w2 ht2).mono ?_
  rintro e w3 ⟨rfl, h3⟩
  have ht3 := ht2.still h3
  go_wp2_with fail
  refine (order_some 7 1 0 1 (by omega) w3 ht3).mono ?_
  rintro e w4 ⟨g, rfl, ho, h4, hg⟩
  clear ho hg ht1 ht2 ht3
  go_wp2_with fail
  go_ret
  exact ⟨rfl, h1.trans (h2.trans (h3.trans h4))⟩
/-- a question in its block -/
def Qu (w : World) (b : Nat) (s f u a c : Int) : Prop := w.heap[b]? = some (.cells #[.int .u64 s, .int .i64 f, .int .i64 u, .int .i64 a, .int .i64 c] 24 (0, 0))
theorem Qu.still {w w' : World} {b : Nat} {s f u a c : Int} (h : Qu w b s f u a c) (hs : Still w w') : Qu w' b s f u a c := hs.kept_still h
theorem Qu.cells {w : World} {b : Nat} {s f u a c : Int} (h : Qu w b s f u a c) :
    w.cell? ⟨b, 0, none⟩ = some (.int .u64 s) ∧ w.cell? ⟨b, 1, none⟩ = some (.int .i64 f) ∧ w.cell? ⟨b, 2, none⟩ = some (.int .i64 u) ∧ w.cell? ⟨b, 3, none⟩ = some (.int .i64 a) ∧ w.cell? ⟨b, 4, none⟩ = some (.int .i64 c) := by
  refine ⟨?_, ?_, ?_, ?_, ?_⟩ <;> (rw [cell_of_row _ _ _ _ _ _ h]; rfl)
end Go.Proofs.YtbadpcdlhgbegaaDoor
