/- The document's Check. -/
import Derived.Test.YtaalbkmdmocdeabDoorVo
namespace Go.Proofs.YtaalbkmdmocdeabDoor
open Go.RowKit
open Vp
set_option maxRecDepth 100000

/-- what is given, by number -/
def gv (a b c : Int) (i : Nat) : Int := [a, b, c].getD i 0
/-- is the i-th in its range -/
def okI (ps : List (ByteArray × Int × Int)) (x : Int) (i : Nat) : Bool := match ps[i]? with
  | some p => decide (p.2.1 ≤ x) && decide (x ≤ p.2.2)
  | none => decide (x = 0)
def Arb (w : World) (g : Nat) (a b c : Int) : Prop := w.heap[g]? = some (.cells #[.int .i64 a, .int .i64 b, .int .i64 c] 63 (0, 0))
theorem Arb.still {w w' : World} {g : Nat} {a b c : Int} (h : Arb w g a b c) (hs : Still w w') : Arb w' g a b c := hs.kept_still h
theorem Arb.at {w : World} {g : Nat} {a b c : Int} (h : Arb w g a b c) (i : Nat) (hi : i < 3) : w.cell? ⟨g, i, none⟩ = some (.int .i64 (gv a b c i)) := by
  rcases (show i = 0 ∨ i = 1 ∨ i = 2 by omega) with rfl | rfl | rfl <;> (rw [cell_of_row _ _ _ _ _ _ h]; rfl)
theorem newArr (w : World) (a b c : Int) : Arb (w.alloc (.cells #[.int .i64 a, .int .i64 b, .int .i64 c] 63)) w.heap.size a b c := heap_alloc_new w _
theorem okI_out {ps : List (ByteArray × Int × Int)} {x : Int} {i : Nat} (h : ps.length ≤ i) : okI ps x i = decide (x = 0) := by unfold okI; rw [List.getElem?_eq_none h]
theorem okI_in {ps : List (ByteArray × Int × Int)} {x : Int} {i : Nat} (h : i < ps.length) : okI ps x i = (decide ((ps[i]).2.1 ≤ x) && decide (x ≤ (ps[i]).2.2)) := by unfold okI; rw [List.getElem?_eq_getElem h]
theorem ok3 {ps : List (ByteArray × Int × Int)} {a b c : Int} (h : ∀ i, i < 3 → okI ps (gv a b c i) i = true) : (0 : Int) = if okI ps a 0 && okI ps b 1 && okI ps c 2 then 0 else 71 := by
  have h0 := h 0 (by omega)
  have h1 := h 1 (by omega)
  have h2 := h 2 (by omega)
  simp only [gv, List.getD_cons_zero, List.getD_cons_succ] at h0 h1 h2
  rw [h0, h1, h2]; rfl
theorem no3 {ps : List (ByteArray × Int × Int)} {a b c : Int} {i : Nat} (hi : i < 3) (h : okI ps (gv a b c i) i = false) : (71 : Int) = if okI ps a 0 && okI ps b 1 && okI ps c 2 then 0 else 71 := by
  rcases (show i = 0 ∨ i = 1 ∨ i = 2 by omega) with rfl | rfl | rfl <;> simp only [gv, List.getD_cons_zero, List.getD_cons_succ] at h <;> rw [h] <;> simp
theorem okI_all {v a b c : Int} (h : isV v = true) : (okI (opV v) a 0 && okI (opV v) b 1 && okI (opV v) c 2) = okO v a b c := by
  rcases verbs h with rfl | rfl | rfl | rfl | rfl | rfl | rfl
  · rw [show opV 1 = [(⟨#[120]⟩, -8, 8), (⟨#[121]⟩, -8, 8)] from rfl]
    unfold okO
    rw [show lo ((1 : Int) - 1).toNat = -8 from rfl, show hi ((1 : Int) - 1).toNat = 8 from rfl, if_pos rfl]
    rfl
  · rw [show opV 2 = [] from rfl]
    unfold okO
    rw [show lo ((2 : Int) - 1).toNat = 0 from rfl, show hi ((2 : Int) - 1).toNat = 0 from rfl, if_neg (by decide)]
    show (decide (a = 0) && decide (b = 0) && decide (c = 0)) = _
    rw [Bool.eq_iff_iff]
    simp only [Bool.and_eq_true, decide_eq_true_eq]
    omega
  all_goals
    unfold okO
    rw [if_neg (by decide)]
    rfl
end Go.Proofs.YtaalbkmdmocdeabDoor
