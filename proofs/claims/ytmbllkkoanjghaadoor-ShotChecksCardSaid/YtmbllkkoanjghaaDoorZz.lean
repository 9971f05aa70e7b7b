/- Arguments opened: a point, a box, a number; what a row's list of variables gives. What a row's list of variables gives. Arguments opened: a shot, a mover, a map; what a row's list of variables gives. -/
import Derived.Test.YtmbllkkoanjghaaDoorRows
import Derived.Test.YtmbllkkoanjghaaDoorK5b
import Derived.Deep.Slices
import Derived.Deep.Fields
import Derived.ProofKit
import Derived.Lib.LaidU8
import Derived.LaidMore
import Derived.Stop.Joined
import Derived.Lay
import Derived.KernelRfl
import Derived.Test.YtmbllkkoanjghaaDoorZb
import Derived.Test.YtmbllkkoanjghaaDoorK6b
import Derived.Lib.LaidTab
import Derived.SizedLaws
namespace Go.Proofs.YtmbllkkoanjghaaDoor
open Go.ChangeShapes Go.WideShapes Go.ChangeAt Go.RowKit Go.Deep
open Pu Gp
set_option maxRecDepth 100000

theorem wf_i64 {n : Int} (h : (Lit.int .i64 n).wf = true) : -9223372036854775808 ≤ n ∧ n ≤ 9223372036854775807 := by simpa [Lit.wf, IntKind.min, IntKind.max, IntKind.signed, IntKind.bits] using h
theorem cells_int : Tryd.prog.cellsOf 3 = 1 := by kernel_rfl
theorem cells_pt : Tryd.prog.cellsOf 23 = 2 := by kernel_rfl
theorem cells_bx : Tryd.prog.cellsOf 63 = 4 := by kernel_rfl
theorem laidOut : laidOutB Tryd.prog = true := by kernel_rfl
theorem list2 {α : Type} {l : List α} (h : l.length = 2) : ∃ a b, l = [a, b] := by
  match l, h with
  | [a, b], _ => exact ⟨a, b, rfl⟩
theorem list4 {α : Type} {l : List α} (h : l.length = 4) : ∃ a b c d, l = [a, b, c, d] := by
  match l, h with
  | [a, b, c, d], _ => exact ⟨a, b, c, d, rfl⟩
section
variable {H : Type} {enc : TypeId × Value → H} {w : World}
theorem pt_cells {fuel : Nat} {cs : List Value} {x : DataW H × List MemPlace} (hl : cs.length = 2) (h : DataW.trod enc Tryd.prog w 0 (fun _ => true) true fuel 23 cs = some x) : ∃ a b : Int, cs = [.int .i64 a, .int .i64 b] := by
  obtain ⟨x0, x1, rfl⟩ := list2 hl
  obtain ⟨xs, n, _, _, _, hlen, hfl⟩ := DataW.trod_struct Tryd.underlying23 h
  obtain ⟨z0, z1, rfl⟩ := list2 (l := xs) (by simpa using hlen)
  have g0 := hfl 0 _ rfl
  have g1 := hfl 1 _ rfl
  simp [cells_int] at g0 g1
  obtain ⟨a, e0, _, _⟩ := DataW.trod_int Tryd.underlying3 g0
  obtain ⟨b, e1, _, _⟩ := DataW.trod_int Tryd.underlying3 g1
  simp at e0 e1
  subst e0 e1
  exact ⟨a, b, rfl⟩
/-- A point that came in. -/
theorem open_pt {r : Reach} {b0 : Nat} {v : Value} {d : DataW H} {p : List MemPlace} (hv : Value.okWide Tryd.prog w r b0 23 v) (h : DataW.Trod enc Tryd.prog w 0 (fun _ => true) true 23 v d p) :
    ∃ x y : Int, v = pt x y := by
  obtain ⟨cs, rfl, hsz⟩ := okWide_struct Tryd.underlying23 hv
  obtain ⟨l⟩ := cs
  obtain ⟨fuel, hf⟩ := h
  obtain ⟨a, b, e⟩ := pt_cells (cs := l) (by simpa using hsz.trans cells_pt) (by simpa [Value.cells] using hf)
  subst e
  exact ⟨a, b, rfl⟩
/-- A box that came in. -/
theorem open_bx {r : Reach} {b0 : Nat} {v : Value} {d : DataW H} {p : List MemPlace} (hv : Value.okWide Tryd.prog w r b0 63 v) (h : DataW.Trod enc Tryd.prog w 0 (fun _ => true) true 63 v d p) :
    ∃ x y z u : Int, v = bx x y z u := by
  obtain ⟨cs, rfl, hsz⟩ := okWide_struct Tryd.underlying63 hv
  obtain ⟨l⟩ := cs
  obtain ⟨x0, x1, x2, x3, rfl⟩ := list4 (l := l) (by simpa using hsz.trans cells_bx)
  obtain ⟨fuel, hf⟩ := h
  obtain ⟨xs, n, _, _, _, hlen, hfl⟩ := DataW.trod_struct Tryd.underlying63 hf
  obtain ⟨z0, z1, rfl⟩ := list2 (l := xs) (by simpa using hlen)
  have g0 := hfl 0 _ rfl
  have g1 := hfl 1 _ rfl
  simp [Value.cells, cells_pt] at g0 g1
  obtain ⟨a, b, e0⟩ := pt_cells rfl g0
  obtain ⟨c, d, e1⟩ := pt_cells rfl g1
  simp at e0 e1
  obtain ⟨rfl, rfl⟩ := e0
  obtain ⟨rfl, rfl⟩ := e1
  exact ⟨a, b, c, d, rfl⟩
end
/-- the table as a row lists it -/
def unitsData : DataW Unit := .agg ((List.range 16).map fun i => .agg ([ux i, uy i].map fun z => .lit (.int .i64 z)))
theorem gUnits : Tryd.prog.globalNamed "echelon/geom.units" = some 0 := by kernel_rfl
theorem tab_reads {W : World} (h : Lib.VarReads Tryd.prog W "echelon/geom.units" unitsData) : Tab W := by
  refine ⟨fun i hi => ?_⟩
  obtain ⟨g, t, cs, fuel, p, hg, hty, hvar, hd⟩ := h
  obtain rfl := Option.some.inj (gUnits.symm.trans hg)
  obtain rfl := Option.some.inj ((show (Tryd.prog.globals[0]?).map (·.type) = some 67 by kernel_rfl).symm.trans hty)
  obtain ⟨fuel', d, q, hdi, he⟩ := Lib.array_elem (t := 67) (e := 23) (n := 16) Tryd.underlying67 hd i hi
  simp only [List.getElem?_map, List.getElem?_range hi, Option.map_some, Option.some.injEq] at hdi
  subst hdi
  rw [cells_pt] at he
  have hcs := Lib.ints_of_struct Tryd.underlying23 (fun j f hj => by
    match j, hj with
    | 0, hj => simp at hj; subst hj; exact ⟨Tryd.underlying3, rfl, cells_int⟩
    | 1, hj => simp at hj; subst hj; exact ⟨Tryd.underlying3, rfl, cells_int⟩
    | j + 2, hj => simp at hj) (by rw [cells_pt]; rfl) he
  have e0 := congrArg (·[0]?) hcs
  have e1 := congrArg (·[1]?) hcs
  simp only [List.getElem?_take, List.getElem?_drop] at e0 e1
  constructor
  · rw [World.var?_cell hg hvar (i * 2), ← Array.getElem?_toList]
    simpa using e0
  · rw [World.var?_cell hg hvar (i * 2 + 1), ← Array.getElem?_toList]
    simpa using e1
end Go.Proofs.YtmbllkkoanjghaaDoor
namespace Go.Proofs.YtmbllkkoanjghaaDoor
open Go.RowKit
open Pu Gp
set_option maxRecDepth 100000

theorem units_same : (Rows.laid_echelon_geom_units : DataW Unit) = unitsData := by kernel_rfl
theorem tab_one {W : World} (hL : laidMet Tryd.prog [("echelon/geom.units", Rows.laid_echelon_geom_units)] W) : Tab W := by
  rw [units_same] at hL
  exact tab_reads (Lib.laidMet.reads hL (.head _))
theorem gX : Tryd.prog.globalNamed "echelon/echelonref05.unitX" = some 1 := by kernel_rfl
theorem gY : Tryd.prog.globalNamed "echelon/echelonref05.unitY" = some 2 := by kernel_rfl
theorem x_reads {W : World} (h : Lib.VarReads Tryd.prog W "echelon/echelonref05.unitX" (Lib.tabData .i64 unitX)) (i : Nat) (hi : i < 16) : W.cell? ⟨1, i, none⟩ = some (.int .i64 (ux i)) := by
  obtain ⟨g, t, cs, fuel, p, hg, hty, hvar, hd⟩ := h
  obtain rfl := Option.some.inj (gX.symm.trans hg)
  obtain rfl := Option.some.inj ((show (Tryd.prog.globals[1]?).map (·.type) = some 70 by kernel_rfl).symm.trans hty)
  have hcs := Lib.cells_of_tab (t := 70) (e := 3) (n := 16) Tryd.underlying70 Tryd.underlying3 cells_int (by kernel_rfl) hd
  rw [World.var?_cell hg hvar i, ← Array.getElem?_toList, hcs]
  have hl : i < unitX.length := hi
  simp [ux, hl]
theorem y_reads {W : World} (h : Lib.VarReads Tryd.prog W "echelon/echelonref05.unitY" (Lib.tabData .i64 unitY)) (i : Nat) (hi : i < 16) : W.cell? ⟨2, i, none⟩ = some (.int .i64 (uy i)) := by
  obtain ⟨g, t, cs, fuel, p, hg, hty, hvar, hd⟩ := h
  obtain rfl := Option.some.inj (gY.symm.trans hg)
  obtain rfl := Option.some.inj ((show (Tryd.prog.globals[2]?).map (·.type) = some 70 by kernel_rfl).symm.trans hty)
  have hcs := Lib.cells_of_tab (t := 70) (e := 3) (n := 16) Tryd.underlying70 Tryd.underlying3 cells_int (by kernel_rfl) hd
  rw [World.var?_cell hg hvar i, ← Array.getElem?_toList, hcs]
  have hl : i < unitY.length := hi
  simp [uy, hl]
theorem tab_three {W : World} /- 29 -/ (hL : laidMet Tryd.prog [("echelon/echelonref05.unitX", Rows.laid_echelon_echelonref05_unitX), ("echelon/echelonref05.unitY", Rows.laid_echelon_echelonref05_unitY), ("echelon/geom.units", Rows.laid_echelon_geom_units)] W) : Tab W ∧ RTab W := by
  rw [units_same] at hL
  have hL' : laidMet Tryd.prog [("echelon/echelonref05.unitX", Lib.tabData .i64 unitX), ("echelon/echelonref05.unitY", Lib.tabData .i64 unitY), ("echelon/geom.units", unitsData)] W := hL
  exact ⟨tab_reads (Lib.laidMet.reads hL' (.tail _ (.tail _ (.head _)))), ⟨x_reads (Lib.laidMet.reads hL' (.head _)), y_reads (Lib.laidMet.reads hL' (.tail _ (.head _)))⟩⟩
end Go.Proofs.YtmbllkkoanjghaaDoor
namespace Go.Proofs.YtmbllkkoanjghaaDoor
open Go.ChangeShapes Go.WideShapes Go.ChangeAt Go.RowKit Go.Deep
open Pu Gp Ap Vp Np Za
set_option maxRecDepth 100000

theorem cells_bool : Tryd.prog.cellsOf 4 = 1 := by kernel_rfl
theorem cells_str : Tryd.prog.cellsOf 9 = 1 := by kernel_rfl
theorem cells_ar : Tryd.prog.cellsOf 37 = 3 := by kernel_rfl
theorem cells_mv : Tryd.prog.cellsOf 32 = 13 := by kernel_rfl
theorem cells_sv : Tryd.prog.cellsOf 25 = 8 := by kernel_rfl
theorem list3 {α : Type} {l : List α} (h : l.length = 3) : ∃ a b c, l = [a, b, c] := by
  match l, h with
  | [a, b, c], _ => exact ⟨a, b, c, rfl⟩
theorem list10 {α : Type} {l : List α} (h : l.length = 10) : ∃ z0 z1 z2 z3 z4 z5 z6 z7 z8 z9, l = [z0, z1, z2, z3, z4, z5, z6, z7, z8, z9] := by
  match l, h with
  | [z0, z1, z2, z3, z4, z5, z6, z7, z8, z9], _ => exact ⟨z0, z1, z2, z3, z4, z5, z6, z7, z8, z9, rfl⟩
theorem list13 {α : Type} {l : List α} (h : l.length = 13) : ∃ x0 x1 x2 x3 x4 x5 x6 x7 x8 x9 x10 x11 x12, l = [x0, x1, x2, x3, x4, x5, x6, x7, x8, x9, x10, x11, x12] := by
  match l, h with
  | [x0, x1, x2, x3, x4, x5, x6, x7, x8, x9, x10, x11, x12], _ => exact ⟨x0, x1, x2, x3, x4, x5, x6, x7, x8, x9, x10, x11, x12, rfl⟩
theorem list6 {α : Type} {l : List α} (h : l.length = 6) : ∃ a b c d e f, l = [a, b, c, d, e, f] := by
  match l, h with
  | [a, b, c, d, e, f], _ => exact ⟨a, b, c, d, e, f, rfl⟩
theorem list8 {α : Type} {l : List α} (h : l.length = 8) : ∃ a b c d e f g i, l = [a, b, c, d, e, f, g, i] := by
  match l, h with
  | [a, b, c, d, e, f, g, i], _ => exact ⟨a, b, c, d, e, f, g, i, rfl⟩
section
variable {H : Type} {enc : TypeId × Value → H} {w : World}
/-- A mover that came in. -/
theorem open_mv {r : Reach} {b0 : Nat} {v : Value} {d : DataW H} {p : List MemPlace} (hv : Value.okWide Tryd.prog w r b0 32 v) (h : DataW.Trod enc Tryd.prog w 0 (fun _ => true) true 32 v d p) :
    ∃ m : Mv, v = mv m := by
  obtain ⟨cs, rfl, hsz⟩ := okWide_struct Tryd.underlying32 hv
  obtain ⟨l⟩ := cs
  obtain ⟨x0, x1, x2, x3, x4, x5, x6, x7, x8, x9, x10, x11, x12, rfl⟩ := list13 (l := l) (by simpa using hsz.trans cells_mv)
  obtain ⟨fuel, hf⟩ := h
  obtain ⟨xs, n, _, _, _, hlen, hfl⟩ := DataW.trod_struct Tryd.underlying32 hf
  obtain ⟨z0, z1, z2, z3, z4, z5, z6, z7, z8, z9, rfl⟩ := list10 (l := xs) (by simpa using hlen)
  have g0 := hfl 0 _ rfl
  have g1 := hfl 1 _ rfl
  have g2 := hfl 2 _ rfl
  have g3 := hfl 3 _ rfl
  have g4 := hfl 4 _ rfl
  have g5 := hfl 5 _ rfl
  have g6 := hfl 6 _ rfl
  have g7 := hfl 7 _ rfl
  have g8 := hfl 8 _ rfl
  have g9 := hfl 9 _ rfl
  simp [Value.cells, cells_int, cells_pt, cells_bool] at g0 g1 g2 g3 g4 g5 g6 g7 g8 g9
  obtain ⟨a0, a1, e0⟩ := pt_cells rfl g0
  obtain ⟨a2, a3, e1⟩ := pt_cells rfl g1
  obtain ⟨a4, a5, e2⟩ := pt_cells rfl g2
  obtain ⟨a6, e3, _, _⟩ := DataW.trod_int Tryd.underlying3 g3
  obtain ⟨a7, e4, _, _⟩ := DataW.trod_int Tryd.underlying3 g4
  obtain ⟨a8, e5, _, _⟩ := DataW.trod_int Tryd.underlying3 g5
  obtain ⟨a9, e6, _⟩ := DataW.trod_bool Tryd.underlying4 g6
  obtain ⟨a10, e7, _, _⟩ := DataW.trod_int Tryd.underlying3 g7
  obtain ⟨a11, e8, _, _⟩ := DataW.trod_int Tryd.underlying3 g8
  obtain ⟨a12, e9, _, _⟩ := DataW.trod_int Tryd.underlying3 g9
  simp at e0 e1 e2 e3 e4 e5 e6 e7 e8 e9
  obtain ⟨rfl, rfl⟩ := e0
  obtain ⟨rfl, rfl⟩ := e1
  obtain ⟨rfl, rfl⟩ := e2
  subst e3 e4 e5 e6 e7 e8 e9
  exact ⟨⟨a0, a1, a2, a3, a4, a5, a6, a7, a8, a9, a10, a11, a12⟩, rfl⟩
/-- A shot that came in. -/
theorem open_sv {r : Reach} {b0 : Nat} {v : Value} {d : DataW H} {p : List MemPlace} (hv : Value.okWide Tryd.prog w r b0 25 v) (h : DataW.Trod enc Tryd.prog w 0 (fun _ => true) true 25 v d p) :
    ∃ s : Sh, v = sv s := by
  obtain ⟨cs, rfl, hsz⟩ := okWide_struct Tryd.underlying25 hv
  obtain ⟨l⟩ := cs
  obtain ⟨x0, x1, x2, x3, x4, x5, x6, x7, rfl⟩ := list8 (l := l) (by simpa using hsz.trans cells_sv)
  obtain ⟨fuel, hf⟩ := h
  obtain ⟨xs, n, _, _, _, hlen, hfl⟩ := DataW.trod_struct Tryd.underlying25 hf
  obtain ⟨z0, z1, z2, z3, z4, z5, rfl⟩ := list6 (l := xs) (by simpa using hlen)
  have g0 := hfl 0 _ rfl
  have g1 := hfl 1 _ rfl
  have g2 := hfl 2 _ rfl
  have g3 := hfl 3 _ rfl
  have g4 := hfl 4 _ rfl
  have g5 := hfl 5 _ rfl
  simp [Value.cells, cells_int, cells_pt] at g0 g1 g2 g3 g4 g5
  obtain ⟨a0, e0, _, _⟩ := DataW.trod_int Tryd.underlying3 g0
  obtain ⟨a1, e1, _, _⟩ := DataW.trod_int Tryd.underlying3 g1
  obtain ⟨a2, e2, _, _⟩ := DataW.trod_int Tryd.underlying3 g2
  obtain ⟨a3, a4, e3⟩ := pt_cells rfl g3
  obtain ⟨a5, a6, e4⟩ := pt_cells rfl g4
  obtain ⟨a7, e5, _, _⟩ := DataW.trod_int Tryd.underlying3 g5
  simp at e0 e1 e2 e3 e4 e5
  obtain ⟨rfl, rfl⟩ := e3
  obtain ⟨rfl, rfl⟩ := e4
  subst e0 e1 e2 e5
  exact ⟨⟨a0, a1, a2, a3, a4, a5, a6, a7⟩, rfl⟩
/-- A map that came in. -/
theorem open_ar {r : Reach} {b0 : Nat} {v : Value} {d : DataW H} {p : List MemPlace} (hv : Value.okWide Tryd.prog w r b0 37 v) (h : DataW.Trod enc Tryd.prog w 0 (fun _ => true) true 37 v d p) :
    ∃ (C R : Int) (s : ByteArray), v = ar C R s ∧ C ≤ 9223372036854775807 ∧ s.data.toList.length ∈ d.weights Tryd.prog 37 := by
  obtain ⟨cs, rfl, hsz⟩ := okWide_struct Tryd.underlying37 hv
  obtain ⟨l⟩ := cs
  obtain ⟨x0, x1, x2, rfl⟩ := list3 (l := l) (by simpa using hsz.trans cells_ar)
  obtain ⟨fuel, hf⟩ := h
  obtain ⟨xs, n, _, hx, _, hlen, hfl⟩ := DataW.trod_struct Tryd.underlying37 hf
  obtain ⟨z0, z1, z2, rfl⟩ := list3 (l := xs) (by simpa using hlen)
  have g0 := hfl 0 _ rfl
  have g1 := hfl 1 _ rfl
  have g2 := hfl 2 _ rfl
  simp [Value.cells, cells_int, cells_str] at g0 g1 g2
  obtain ⟨a, e0, _, w0⟩ := DataW.trod_int Tryd.underlying3 g0
  obtain ⟨b, e1, _, _⟩ := DataW.trod_int Tryd.underlying3 g1
  obtain ⟨s, e2, k2, _⟩ := DataW.trod_string Tryd.underlying9 g2
  simp at e0 e1 e2
  subst e0 e1 e2
  refine ⟨a, b, s, rfl, (wf_i64 w0).2, ?_⟩
  have hd : d = .agg ([z0, z1, z2].map (·.1)) := by simpa using congrArg (·.1) hx
  rw [hd]
  simp only [DataW.weights, Tryd.underlying37, List.map_cons, List.map_nil, DataW.weightsEach, k2]
  simp
end
theorem sized_ar {H : Type} {ts : List TypeId} {ds : List (DataW H)} (h : (DataW.weightsEach Tryd.prog ts ds).all (· ≤ reachBytes) = true) {j : Nat} {t : TypeId} {d : DataW H} {s : ByteArray} (ht : ts[j]? = some t) (hd : ds[j]? = some d) (hm : s.data.toList.length ∈ d.weights Tryd.prog t) : s.size ≤ 281474976710656 := by
  have := List.all_eq_true.1 h _ (DataW.weights_mem_each ht hd _ hm)
  have hr := reachBytes_lt
  have h2 : s.data.toList.length ≤ reachBytes := by simpa using this
  rw [Array.length_toList] at h2
  show s.data.size ≤ _
  omega
end Go.Proofs.YtmbllkkoanjghaaDoor
