/- Arguments opened: an order; what a row's list of variables gives of the document's tables. -/
import Derived.Test.YtlaehphhfeoklaaDoorRows
import Derived.Test.YtlaehphhfeoklaaDoorVs
import Derived.Deep.Slices
import Derived.Deep.Fields
import Derived.ProofKit
import Derived.Lib.LaidU8
import Derived.Lib.LaidTab
import Derived.LaidMore
import Derived.Stop.Joined
import Derived.Lay
namespace Go.Proofs.YtlaehphhfeoklaaDoor
open Go.ChangeShapes Go.WideShapes Go.ChangeAt Go.RowKit Go.Deep
open Vp
set_option maxRecDepth 100000

theorem wf_i64 {n : Int} (h : (Lit.int .i64 n).wf = true) : -9223372036854775808 ≤ n ∧ n ≤ 9223372036854775807 := by simpa [Lit.wf, IntKind.min, IntKind.max, IntKind.signed, IntKind.bits] using h
theorem cells_int : Tryd.prog.cellsOf 3 = 1 := by kernel_rfl
theorem cells_str : Tryd.prog.cellsOf 9 = 1 := by kernel_rfl
theorem cells_or : Tryd.prog.cellsOf 32 = 4 := by kernel_rfl
theorem laidOut : laidOutB Tryd.prog = true := by kernel_rfl
theorem list4 {α : Type} {l : List α} (h : l.length = 4) : ∃ a b c d, l = [a, b, c, d] := by
  match l, h with
  | [a, b, c, d], _ => exact ⟨a, b, c, d, rfl⟩
section
variable {H : Type} {enc : TypeId × Value → H} {w : World}
/-- An order that came in. -/
theorem open_or {r : Reach} {b0 : Nat} {v : Value} {d : DataW H} {p : List MemPlace} (hv : Value.okWide Tryd.prog w r b0 32 v) (h : DataW.Trod enc Tryd.prog w 0 (fun _ => true) true 32 v d p) :
    ∃ x y z u : Int, v = od x y z u := by
  obtain ⟨cs, rfl, hsz⟩ := okWide_struct Tryd.underlying32 hv
  obtain ⟨l⟩ := cs
  obtain ⟨x0, x1, x2, x3, rfl⟩ := list4 (l := l) (by simpa using hsz.trans cells_or)
  obtain ⟨fuel, hf⟩ := h
  obtain ⟨xs, n, _, _, _, hlen, hfl⟩ := DataW.trod_struct Tryd.underlying32 hf
  obtain ⟨z0, z1, z2, z3, rfl⟩ := list4 (l := xs) (by simpa using hlen)
  have g0 := hfl 0 _ rfl
  have g1 := hfl 1 _ rfl
  have g2 := hfl 2 _ rfl
  have g3 := hfl 3 _ rfl
  simp [Value.cells, cells_int] at g0 g1 g2 g3
  obtain ⟨a, e0, _, _⟩ := DataW.trod_int Tryd.underlying3 g0
  obtain ⟨b, e1, _, _⟩ := DataW.trod_int Tryd.underlying3 g1
  obtain ⟨c, e2, _, _⟩ := DataW.trod_int Tryd.underlying3 g2
  obtain ⟨d, e3, _, _⟩ := DataW.trod_int Tryd.underlying3 g3
  simp at e0 e1 e2 e3
  subst e0 e1 e2 e3
  exact ⟨a, b, c, d, rfl⟩
end
/-- a table of strings as a row lists it -/
def strsData {H : Type} (l : List ByteArray) : DataW H := .agg (l.map fun b => .lit (.string b.data.toList))
theorem strs_at {W : World} {name : String} {g t n : Nat} {l : List ByteArray} (hg : Tryd.prog.globalNamed name = some g) (hty : (Tryd.prog.globals[g]?).map (·.type) = some t) (hu : Tryd.prog.underlying t = some (.array n 9)) (hn : l.length = n)
    (h : Lib.VarReads Tryd.prog W name (strsData l)) (i : Nat) (hi : i < n) : W.cell? ⟨g, i, none⟩ = some (.string (l.getD i ByteArray.empty)) := by
  obtain ⟨g', t', cs, fuel, p, hg', hty', hvar, hd⟩ := h
  obtain rfl := Option.some.inj (hg.symm.trans hg')
  obtain rfl := Option.some.inj (hty.symm.trans hty')
  obtain ⟨fuel', d, q, hdi, he⟩ := Lib.array_elem hu hd i hi
  rw [cells_str, Nat.mul_one] at he
  obtain ⟨s, e1, e2, _⟩ := DataW.trod_string Tryd.underlying9 he
  have hl : i < l.length := by omega
  rw [List.getElem?_map, List.getElem?_eq_getElem hl, Option.map_some, Option.some.injEq] at hdi
  have e3 : d = .lit (.string s.data.toList) := congrArg Prod.fst e2
  rw [← hdi] at e3
  have e4 : (l[i]'hl).data.toList = s.data.toList := by simpa using e3
  have e5 : l[i]'hl = s := ByteArray.ext (Array.toList_inj.1 e4)
  have e0 := congrArg (·[0]?) e1
  simp only [List.getElem?_take, List.getElem?_drop] at e0
  rw [World.var?_cell hg hvar i, ← Array.getElem?_toList]
  simp at e0
  rw [List.getD_eq_getElem?_getD, List.getElem?_eq_getElem hl]
  simp only [Option.getD_some, e5]
  simpa using e0
theorem ints_at {W : World} {name : String} {g t n : Nat} {l : List Int} (hg : Tryd.prog.globalNamed name = some g) (hty : (Tryd.prog.globals[g]?).map (·.type) = some t) (hu : Tryd.prog.underlying t = some (.array n 3)) (hc : Tryd.prog.cellsOf t = n) (hn : l.length = n)
    (h : Lib.VarReads Tryd.prog W name (Lib.tabData .i64 l)) (i : Nat) (hi : i < n) : W.cell? ⟨g, i, none⟩ = some (.int .i64 (l.getD i 0)) := by
  obtain ⟨g', t', cs, fuel, p, hg', hty', hvar, hd⟩ := h
  obtain rfl := Option.some.inj (hg.symm.trans hg')
  obtain rfl := Option.some.inj (hty.symm.trans hty')
  have hcs := Lib.cells_of_tab hu Tryd.underlying3 cells_int hc hd
  rw [World.var?_cell hg hvar i, ← Array.getElem?_toList, hcs]
  have hl : i < l.length := by omega
  simp [hl]
theorem ntab_reads {W : World} (h1 : Lib.VarReads Tryd.prog W "echelon/echelonref07.names" (strsData nmL)) : NTab W :=
  ⟨fun d hd => strs_at (t := 46) (n := 7) (by kernel_rfl) (by kernel_rfl) Tryd.underlying46 rfl h1 d hd⟩
theorem rtab_reads {W : World} (h2 : Lib.VarReads Tryd.prog W "echelon/echelonref07.first" (strsData fsL))
    (h3 : Lib.VarReads Tryd.prog W "echelon/echelonref07.least" (Lib.tabData .i64 loL)) (h4 : Lib.VarReads Tryd.prog W "echelon/echelonref07.most" (Lib.tabData .i64 hiL)) : RTab W :=
  ⟨fun d hd => strs_at (t := 46) (n := 7) (by kernel_rfl) (by kernel_rfl) Tryd.underlying46 rfl h2 d hd,
   fun d hd => ints_at (t := 47) (n := 7) (by kernel_rfl) (by kernel_rfl) Tryd.underlying47 (by kernel_rfl) rfl h3 d hd,
   fun d hd => ints_at (t := 47) (n := 7) (by kernel_rfl) (by kernel_rfl) Tryd.underlying47 (by kernel_rfl) rfl h4 d hd⟩
theorem nm_same : (Rows.laid_echelon_echelonref07_names : DataW Unit) = strsData nmL := by kernel_rfl
theorem fs_same : (Rows.laid_echelon_echelonref07_first : DataW Unit) = strsData fsL := by kernel_rfl
theorem lo_same : (Rows.laid_echelon_echelonref07_least : DataW Unit) = Lib.tabData .i64 loL := by kernel_rfl
theorem hi_same : (Rows.laid_echelon_echelonref07_most : DataW Unit) = Lib.tabData .i64 hiL := by kernel_rfl
end Go.Proofs.YtlaehphhfeoklaaDoor
