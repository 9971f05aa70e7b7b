/- Which cells one comes to: the document's answer. -/
import Derived.Test.YtnoaomocdmkigabRb
namespace Go.Proofs.Ytnoaomocdmkigab
open Go.RowKit
open Pu Gp Ap

theorem made_row (n : Nat) : madeCells #[Value.bool false] (n * 1) = rowB (fun _ => false) n := by
  apply Array.ext_getElem?
  intro i
  by_cases h : i < n
  · rw [rowB_at _ h]; simp [madeCells, h, Nat.mod_one]
  · rw [Array.getElem?_eq_none (by rw [size_madeCells]; omega), Array.getElem?_eq_none (by rw [rowB_size]; omega)]
theorem make_row (w : World) (n : Nat) (h : n ≤ 281474976710656) : (Instr.makeSlice 88 (.int .i64 (n : Int)) (.int .i64 (n : Int))).run Try.prog w = .ok (.slice (some ⟨w.heap.size, 0, none⟩) n n) (w.alloc (.cells (rowB (fun _ => false) n) 4)) := by
  obtain ⟨i, hi, hz, h1, h2⟩ : ∃ i, Try.prog.info? 4 = some i ∧ i.zero = some (.bool false) ∧ i.size = 1 ∧ i.bytes = 1 := ⟨_, rfl, rfl, rfl, rfl⟩
  have hr := run_make (P := Try.prog) w 88 4 i (.bool false) Try.underlying88 hi hz .i64 .i64 (n : Int) (n : Int) (by omega) (by omega) (by rw [h2]; omega) (by omega)
  rw [h1] at hr
  simp only [Int.toNat_natCast] at hr
  rw [hr, ← made_row]
  rfl
def boolN (v : Value) : Nat := match v with
  | .bool true => 1
  | _ => 0
end Go.Proofs.Ytnoaomocdmkigab
