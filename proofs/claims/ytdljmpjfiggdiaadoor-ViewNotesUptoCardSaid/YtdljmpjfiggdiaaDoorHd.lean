/- Worlds in memory; the document's Same, of worlds that are the same. -/
import Derived.Test.YtdljmpjfiggdiaaDoorHb
import Derived.Test.YtdljmpjfiggdiaaDoorHm
import Derived.Test.YtdljmpjfiggdiaaDoorJb
import Derived.Test.YtdljmpjfiggdiaaDoorEb
import Derived.Test.YtdljmpjfiggdiaaDoorKb
namespace Go.Proofs.YtdljmpjfiggdiaaDoor
open Go.RowKit
open Pu Gp Ap Vp Np Za Ka Ja Ea Ha
set_option maxRecDepth 100000

/-- rows of pickups -/
def KQ : Kd Pk := ⟨fun p => [.int .i64 p.no, .int .i64 p.sp, .int .i64 p.kd], 3, zK, fun _ => rfl, fun m u hu => by
  simp at hu
  rcases hu with rfl | rfl | rfl <;> rfl, by decide⟩
theorem rdQ {w : World} {B o n : Nat} {L : List Pk} (h : RdG KQ w (some ⟨B, o, none⟩) n L) {i : Nat} (hi : i < n) : w.cell? ⟨B, o + i * 3, none⟩ = some (.int .i64 (pk L i).no) ∧ w.cell? ⟨B, o + i * 3 + 1, none⟩ = some (.int .i64 (pk L i).sp) ∧ w.cell? ⟨B, o + i * 3 + 2, none⟩ = some (.int .i64 (pk L i).kd) :=
  ⟨h.get hi 0 _ rfl, h.get hi 1 _ rfl, h.get hi 2 _ rfl⟩
theorem rdK_ofQ {w : World} {ao : Option Addr} {n : Nat} {L : List Pk} (h : RdG KQ w ao n L) : RdK w ao n L := by
  refine ⟨h.1, h.2.1, ?_⟩
  rcases h.2.2 with h0 | ⟨B, o, e, hc⟩
  · exact .inl h0
  · exact .inr ⟨B, o, e, fun i hi => ⟨hc i hi 0 _ rfl, hc i hi 1 _ rfl, hc i hi 2 _ rfl⟩⟩
theorem neq_sv_f (s : Sh) (w : World) : (binOp .neq 153 (sv s) (sv s)).run Tryd.prog w = .ok (.bool false) w := by
  have h := eql_sv_t s w
  rw [run_eql_struct] at h
  rw [run_neq_struct]
  revert h
  generalize (Op.equalIn 10000 153 (sv s) (sv s)).run Tryd.prog w = r
  intro h
  cases r with
  | ok b w' =>
    simp [Result.andThen] at h ⊢
    obtain ⟨h1, h2⟩ := h
    subst h1 h2
    exact ⟨rfl, rfl⟩
  | _ => simp [Result.andThen] at h
/-- a world's cells -/
abbrev wdcs (fr nx : Int) (a b c d : Value) : Array Value := #[.int .i64 fr, a, b, c, d, .int .i64 nx]
/-- block g holds a world -/
def Wdb (w : World) (g : Nat) (fr nx : Int) (a b c d : Value) : Prop := w.heap[g]? = some (.cells (wdcs fr nx a b c d) 27 (0, 0))
theorem Wdb.still {w w' : World} {g : Nat} {fr nx : Int} {a b c d : Value} (h : Wdb w g fr nx a b c d) (hs : Still w w') : Wdb w' g fr nx a b c d := hs.kept_still h
theorem Wdb.cells {w : World} {g : Nat} {fr nx : Int} {a b c d : Value} (h : Wdb w g fr nx a b c d) : w.cell? ⟨g, 0, none⟩ = some (.int .i64 fr) ∧ w.cell? ⟨g, 1, none⟩ = some a ∧ w.cell? ⟨g, 2, none⟩ = some b ∧ w.cell? ⟨g, 3, none⟩ = some c ∧ w.cell? ⟨g, 4, none⟩ = some d ∧ w.cell? ⟨g, 5, none⟩ = some (.int .i64 nx) ∧ ∀ o, w.frozen? ⟨g, o, none⟩ = false := by
  refine ⟨?_, ?_, ?_, ?_, ?_, ?_, fun o => frozen_of_row w g o _ _ h⟩ <;> (rw [cell_of_row _ _ _ _ _ _ h]; rfl)
abbrev newWd (w : World) (fr nx : Int) (a b c d : Value) : World := w.alloc (.cells (wdcs fr nx a b c d) 27)
theorem newWd_wb (w : World) (fr nx : Int) (a b c d : Value) : Wdb (newWd w fr nx a b c d) w.heap.size fr nx a b c d := heap_alloc_new w _
/-- a slice value reads a list -/
def Sl {α : Type} (K : Kd α) (w : World) (v : Value) (L : List α) : Prop := ∃ ao cap, v = .slice ao L.length cap ∧ L.length ≤ cap ∧ (ao = none → cap = 0) ∧ RdG K w ao L.length L
theorem Sl.still {α : Type} {K : Kd α} {w w' : World} {v : Value} {L : List α} (h : Sl K w v L) (hs : Still w w') : Sl K w' v L := by
  obtain ⟨ao, cap, e, h1, h2, h3⟩ := h
  exact ⟨ao, cap, e, h1, h2, h3.still hs⟩
/-- a value is this world -/
def RdW (w : World) (v : Value) (W : Wd) : Prop := ∃ a b c d, v = .agg (wdcs W.fr W.nx a b c d) ∧ Sl KM w a W.ms ∧ Sl KC w b W.cs ∧ Sl KS w c W.hs ∧ Sl KQ w d W.ks
theorem RdW.still {w w' : World} {v : Value} {W : Wd} (h : RdW w v W) (hs : Still w w') : RdW w' v W := by
  obtain ⟨a, b, c, d, e, h1, h2, h3, h4⟩ := h
  exact ⟨a, b, c, d, e, h1.still hs, h2.still hs, h3.still hs, h4.still hs⟩
end Go.Proofs.YtdljmpjfiggdiaaDoor
