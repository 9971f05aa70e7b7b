/- Maps: their blocks; contracts of the document's answer on cells. -/
import Derived.Test.YtaalbkmdmocdeabDoorMt
import Derived.Test.YtaalbkmdmocdeabDoorAp
import Derived.Lib.Strings
namespace Go.Proofs.YtaalbkmdmocdeabDoor
open Go.RowKit
open Pu Gp Ap

/-- a map as a value -/
abbrev ar (C R : Int) (s : ByteArray) : Value := .agg #[.int .i64 C, .int .i64 R, .string s]
/-- block b holds a map -/
def Ab (w : World) (b : Nat) (C R : Int) (s : ByteArray) : Prop := w.heap[b]? = some (.cells #[.int .i64 C, .int .i64 R, .string s] 29 (0, 0))
theorem Ab.still {w w' : World} {b : Nat} {C R : Int} {s : ByteArray} (h : Ab w b C R s) (hs : Still w w') : Ab w' b C R s := hs.kept_still h
theorem Ab.cells {w : World} {b : Nat} {C R : Int} {s : ByteArray} (h : Ab w b C R s) :
    w.cell? ⟨b, 0, none⟩ = some (.int .i64 C) ∧ w.cell? ⟨b, 1, none⟩ = some (.int .i64 R) ∧ w.cell? ⟨b, 2, none⟩ = some (.string s) ∧ ∀ o, w.frozen? ⟨b, o, none⟩ = false := by
  refine ⟨?_, ?_, ?_, fun o => frozen_of_row w b o _ _ h⟩ <;> (rw [cell_of_row _ _ _ _ _ _ h]; rfl)
abbrev newA (w : World) (C R : Int) (s : ByteArray) : World := w.alloc (.cells #[.int .i64 C, .int .i64 R, .string s] 29)
theorem newA_ab (w : World) (C R : Int) (s : ByteArray) : Ab (newA w C R s) w.heap.size C R s := heap_alloc_new w _

/-- the byte at n -/
def byt (s : ByteArray) (n : Nat) : Int := ((s.data.toList.getD n 0).toNat : Int)
theorem data_at (s : ByteArray) (n : Nat) (h : n < s.size) : s.data.toList[n]? = some s[n] := by
  rw [Array.getElem?_toList, Array.getElem?_eq_getElem h]; rfl
theorem byt_at (s : ByteArray) (n : Nat) (h : n < s.size) : ((s[n]'h).toNat : Int) = byt s n := by
  unfold byt
  rw [List.getD_eq_getElem?_getD, data_at s n h]
  rfl
/-- is a cell solid -/
def solB (C R : Int) (s : ByteArray) (col row : Int) : Bool := if col < 0 ∨ C ≤ col ∨ row < 0 ∨ R ≤ row then true else if (s.size : Int) ≤ row * C + col then true else byt s (row * C + col).toNat == 35
theorem sol_out {C R col row : Int} {s : ByteArray} (h : col < 0 ∨ C ≤ col ∨ row < 0 ∨ R ≤ row) : solB C R s col row = true := by unfold solB; rw [if_pos h]
theorem sol_end {C R col row : Int} {s : ByteArray} (h : (s.size : Int) ≤ row * C + col) : solB C R s col row = true := by
  unfold solB
  by_cases k : col < 0 ∨ C ≤ col ∨ row < 0 ∨ R ≤ row
  · rw [if_pos k]
  · rw [if_neg k, if_pos h]
theorem sol_at {C R col row : Int} {s : ByteArray} {k : Nat} (h : ¬ (col < 0 ∨ C ≤ col ∨ row < 0 ∨ R ≤ row)) (hk : row * C + col = (k : Int)) (hs : k < s.size) : solB C R s col row = (byt s k == 35) := by
  unfold solB
  rw [if_neg h, if_neg (by omega), hk]
  rfl
end Go.Proofs.YtaalbkmdmocdeabDoor
