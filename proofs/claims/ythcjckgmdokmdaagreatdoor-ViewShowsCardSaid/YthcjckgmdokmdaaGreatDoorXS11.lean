/- Parts of the proof, laid end to end. -/
import Derived.Test.YthcjckgmdokmdaaGreatDoorXS09
import Derived.Test.YthcjckgmdokmdaaGreatDoorXS04
import Derived.Test.YthcjckgmdokmdaaGreatDoorXS01
import Derived.Test.YthcjckgmdokmdaaGreatDoorXS07
namespace Go.Proofs.YthcjckgmdokmdaaGreatDoor
open Go.RowKit
open Ea
set_option maxRecDepth 100000
abbrev ccs (x : Scr) : Array Value := #[.int .i64 x.p, .int .i64 x.h, .int .i64 x.o, .int .i64 x.k]
abbrev cv (x : Scr) : Value := .agg (ccs x)
def Cb (w : World) (g : Nat) (x : Scr) : Prop := w.heap[g]? = some (.cells (ccs x) 61 (0, 0))
theorem Cb.still {w w' : World} {g : Nat} {x : Scr} (h : Cb w g x) (hs : Still w w') : Cb w' g x := hs.kept_still h
theorem Cb.cells {w : World} {g : Nat} {x : Scr} (h : Cb w g x) : w.cell? ⟨g, 0, none⟩ = some (.int .i64 x.p) /\ w.cell? ⟨g, 1, none⟩ = some (.int .i64 x.h) /\ w.cell? ⟨g, 2, none⟩ = some (.int .i64 x.o) /\ w.cell? ⟨g, 3, none⟩ = some (.int .i64 x.k) /\ ∀ o, w.frozen? ⟨g, o, none⟩ = false := by
 refine ⟨?_, ?_, ?_, ?_, fun o => frozen_of_row w g o _ _ h⟩ <;> (rw [cell_of_row _ _ _ _ _ _ h]; rfl)
abbrev newC (w : World) (x : Scr) : World := w.alloc (.cells (ccs x) 61)
theorem newC_cb (w : World) (x : Scr) : Cb (newC w x) w.heap.size x := heap_alloc_new w _
def KC : Kd Scr := ⟨fun m => (ccs m).toList, 4, zC, fun _ => rfl, fun m u hu => by
 simp at hu
 rcases hu with rfl | rfl | rfl | rfl <;> rfl, by decide⟩
theorem infoC : ∃ i, Tryz.prog.info? 61 = some i /\ i.zero = some (.agg (KC.f KC.d).toArray) /\ i.size = KC.k /\ i.bytes = 32 := ⟨_, rfl, rfl, rfl, rfl⟩
theorem rdC {w : World} {B o n : Nat} {L : List Scr} (h : RdG KC w (some ⟨B, o, none⟩) n L) {i : Nat} (hi : i < n) : w.cell? ⟨B, o + i * 4, none⟩ = some (.int .i64 (sc L i).p) /\ w.cell? ⟨B, o + i * 4 + 1, none⟩ = some (.int .i64 (sc L i).h) /\ w.cell? ⟨B, o + i * 4 + 2, none⟩ = some (.int .i64 (sc L i).o) /\ w.cell? ⟨B, o + i * 4 + 3, none⟩ = some (.int .i64 (sc L i).k) :=
 ⟨h.get hi 0 _ rfl, h.get hi 1 _ rfl, h.get hi 2 _ rfl, h.get hi 3 _ rfl⟩
end Go.Proofs.YthcjckgmdokmdaaGreatDoor
set_option maxRecDepth 100000
namespace Go.Proofs.YthcjckgmdokmdaaGreatDoor.Ea
def pl (R : List Int) (a : Nat) : Nat := (R.getD a 0).toNat
end Go.Proofs.YthcjckgmdokmdaaGreatDoor.Ea
set_option maxRecDepth 100000
namespace Go.Proofs.YthcjckgmdokmdaaGreatDoor
open Go.RowKit
section
variable {P : Program}
end
end Go.Proofs.YthcjckgmdokmdaaGreatDoor
