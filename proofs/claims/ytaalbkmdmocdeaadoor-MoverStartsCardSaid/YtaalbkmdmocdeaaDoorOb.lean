/- Arguments opened: a point, a box, a number; what a row's list of variables gives. -/
import Derived.Test.YtaalbkmdmocdeaaDoorRows
import Derived.Test.YtaalbkmdmocdeaaDoorUn
import Derived.Deep.Slices
import Derived.Deep.Fields
import Derived.ProofKit
import Derived.Lib.LaidU8
import Derived.LaidMore
import Derived.Stop.Joined
namespace Go.Proofs.YtaalbkmdmocdeaaDoor
open Go.ChangeShapes Go.WideShapes Go.ChangeAt Go.RowKit Go.Deep
open Pu Gp
set_option maxRecDepth 100000

theorem wf_i64 {n : Int} (h : (Lit.int .i64 n).wf = true) : -9223372036854775808 ≤ n ∧ n ≤ 9223372036854775807 := by simpa [Lit.wf, IntKind.min, IntKind.max, IntKind.signed, IntKind.bits] using h
theorem cells_int : Tryd.prog.cellsOf 3 = 1 := by kernel_rfl
theorem cells_pt : Tryd.prog.cellsOf 23 = 2 := by kernel_rfl
theorem cells_bx : Tryd.prog.cellsOf 50 = 4 := by kernel_rfl
theorem laidOut : laidOutB Tryd.prog = true := by kernel_rfl
theorem list2 {α : Type} {l : List α} (h : l.length = 2) : ∃ a b, l = [a, b] := by
  match l, h with
  | [a, b], _ => exact ⟨a, b, rfl⟩
theorem list4 {α : Type} {l : List α} (h : l.length = 4) : ∃ a b c d, l = [a, b, c, d] := by
  match l, h with
  | [a, b, c, d], _ => exact ⟨a, b, c, d, rfl⟩
section
variable {H : Type} {enc : TypeId × Value → H} {w : World}
theorem pt_cells {fuel : Nat} {cs : List Value} {x : DataW H × List MemPlace} (hl : cs.length = 2) (h : DataW.trod enc Tryd.prog w 0 (fun _ => true) true fuel 23 cs = some x) : ∃ a b : Int, cs = [.int .i64 a, .int .i64 b] := by
  obtain ⟨x0, x1, rfl⟩ := list2 hl
  obtain ⟨xs, n, _, _, _, hlen, hfl⟩ := DataW.trod_struct Tryd.underlying23 h
  obtain ⟨z0, z1, rfl⟩ := list2 (l := xs) (by simpa using hlen)
  have g0 := hfl 0 _ rfl
  have g1 := hfl 1 _ rfl
  simp [cells_int] at g0 g1
  obtain ⟨a, e0, _, _⟩ := DataW.trod_int Tryd.underlying3 g0
  obtain ⟨b, e1, _, _⟩ := DataW.trod_int Tryd.underlying3 g1
  simp at e0 e1
  subst e0 e1
  exact ⟨a, b, rfl⟩
/-- A point that came in. -/
theorem open_pt {r : Reach} {b0 : Nat} {v : Value} {d : DataW H} {p : List MemPlace} (hv : Value.okWide Tryd.prog w r b0 23 v) (h : DataW.Trod enc Tryd.prog w 0 (fun _ => true) true 23 v d p) :
    ∃ x y : Int, v = pt x y := by
  obtain ⟨cs, rfl, hsz⟩ := okWide_struct Tryd.underlying23 hv
  obtain ⟨l⟩ := cs
  obtain ⟨fuel, hf⟩ := h
  obtain ⟨a, b, e⟩ := pt_cells (cs := l) (by simpa using hsz.trans cells_pt) (by simpa [Value.cells] using hf)
  subst e
  exact ⟨a, b, rfl⟩
/-- A box that came in. -/
theorem open_bx {r : Reach} {b0 : Nat} {v : Value} {d : DataW H} {p : List MemPlace} (hv : Value.okWide Tryd.prog w r b0 50 v) (h : DataW.Trod enc Tryd.prog w 0 (fun _ => true) true 50 v d p) :
    ∃ x y z u : Int, v = bx x y z u := by
  obtain ⟨cs, rfl, hsz⟩ := okWide_struct Tryd.underlying50 hv
  obtain ⟨l⟩ := cs
  obtain ⟨x0, x1, x2, x3, rfl⟩ := list4 (l := l) (by simpa using hsz.trans cells_bx)
  obtain ⟨fuel, hf⟩ := h
  obtain ⟨xs, n, _, _, _, hlen, hfl⟩ := DataW.trod_struct Tryd.underlying50 hf
  obtain ⟨z0, z1, rfl⟩ := list2 (l := xs) (by simpa using hlen)
  have g0 := hfl 0 _ rfl
  have g1 := hfl 1 _ rfl
  simp [Value.cells, cells_pt] at g0 g1
  obtain ⟨a, b, e0⟩ := pt_cells rfl g0
  obtain ⟨c, d, e1⟩ := pt_cells rfl g1
  simp at e0 e1
  obtain ⟨rfl, rfl⟩ := e0
  obtain ⟨rfl, rfl⟩ := e1
  exact ⟨a, b, c, d, rfl⟩
end
/-- the table as a row lists it -/
def unitsData : DataW Unit := .agg ((List.range 16).map fun i => .agg ([ux i, uy i].map fun z => .lit (.int .i64 z)))
theorem gUnits : Tryd.prog.globalNamed "echelon/geom.units" = some 5 := by kernel_rfl
theorem tab_reads {W : World} (h : Lib.VarReads Tryd.prog W "echelon/geom.units" unitsData) : Tab W := by
  refine ⟨fun i hi => ?_⟩
  obtain ⟨g, t, cs, fuel, p, hg, hty, hvar, hd⟩ := h
  obtain rfl := Option.some.inj (gUnits.symm.trans hg)
  obtain rfl := Option.some.inj ((show (Tryd.prog.globals[5]?).map (·.type) = some 106 by kernel_rfl).symm.trans hty)
  obtain ⟨fuel', d, q, hdi, he⟩ := Lib.array_elem (t := 106) (e := 23) (n := 16) Tryd.underlying106 hd i hi
  simp only [List.getElem?_map, List.getElem?_range hi, Option.map_some, Option.some.injEq] at hdi
  subst hdi
  rw [cells_pt] at he
  have hcs := Lib.ints_of_struct Tryd.underlying23 (fun j f hj => by
    match j, hj with
    | 0, hj => simp at hj; subst hj; exact ⟨Tryd.underlying3, rfl, cells_int⟩
    | 1, hj => simp at hj; subst hj; exact ⟨Tryd.underlying3, rfl, cells_int⟩
    | j + 2, hj => simp at hj) (by rw [cells_pt]; rfl) he
  have e0 := congrArg (·[0]?) hcs
  have e1 := congrArg (·[1]?) hcs
  simp only [List.getElem?_take, List.getElem?_drop] at e0 e1
  constructor
  · rw [World.var?_cell hg hvar (i * 2), ← Array.getElem?_toList]
    simpa using e0
  · rw [World.var?_cell hg hvar (i * 2 + 1), ← Array.getElem?_toList]
    simpa using e1
end Go.Proofs.YtaalbkmdmocdeaaDoor
