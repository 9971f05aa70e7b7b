/- What a row's list of variables gives of the document's tables of orders. -/
import Derived.Test.YtaaongbdincimaaGreatDoorWlt
import Derived.Test.YtaaongbdincimaaGreatDoorWdd
import Derived.Lib.LaidU8
import Derived.Lib.LaidTab
import Derived.LaidMore
import Derived.ProofKit
namespace Go.Proofs.YtaaongbdincimaaGreatDoor
open Go.ChangeShapes Go.WideShapes Go.ChangeAt Go.RowKit Go.Deep
open Vp
set_option maxRecDepth 100000

/-- a table of strings as a row lists it -/
def strsData16 {H : Type} (l : List ByteArray) : DataW H := .agg (l.map fun b => .lit (.string b.data.toList))
theorem strs_at16 {W : World} {name : String} {g t n : Nat} {l : List ByteArray} (hg : Tryz.prog.globalNamed name = some g) (hty : (Tryz.prog.globals[g]?).map (·.type) = some t) (hu : Tryz.prog.underlying t = some (.array n 9)) (hn : l.length = n)
    (h : Lib.VarReads Tryz.prog W name (strsData16 l)) (i : Nat) (hi : i < n) : W.cell? ⟨g, i, none⟩ = some (.string (l.getD i ByteArray.empty)) := by
  obtain ⟨g', t', cs, fuel, p, hg', hty', hvar, hd⟩ := h
  obtain rfl := Option.some.inj (hg.symm.trans hg')
  obtain rfl := Option.some.inj (hty.symm.trans hty')
  obtain ⟨fuel', d, q, hdi, he⟩ := Lib.array_elem hu hd i hi
  rw [cSt16, Nat.mul_one] at he
  obtain ⟨s, e1, e2, _⟩ := DataW.trod_string Tryz.underlying9 he
  have hl : i < l.length := by omega
  rw [List.getElem?_map, List.getElem?_eq_getElem hl, Option.map_some, Option.some.injEq] at hdi
  have e3 : d = .lit (.string s.data.toList) := congrArg Prod.fst e2
  rw [← hdi] at e3
  have e4 : (l[i]'hl).data.toList = s.data.toList := by simpa using e3
  have e5 : l[i]'hl = s := ByteArray.ext (Array.toList_inj.1 e4)
  have e0 := congrArg (·[0]?) e1
  simp only [List.getElem?_take, List.getElem?_drop] at e0
  rw [World.var?_cell hg hvar i, ← Array.getElem?_toList]
  simp at e0
  rw [List.getD_eq_getElem?_getD, List.getElem?_eq_getElem hl]
  simp only [Option.getD_some, e5]
  simpa using e0
theorem ints_at16 {W : World} {name : String} {g t n : Nat} {l : List Int} (hg : Tryz.prog.globalNamed name = some g) (hty : (Tryz.prog.globals[g]?).map (·.type) = some t) (hu : Tryz.prog.underlying t = some (.array n 3)) (hc : Tryz.prog.cellsOf t = n) (hn : l.length = n)
    (h : Lib.VarReads Tryz.prog W name (Lib.tabData .i64 l)) (i : Nat) (hi : i < n) : W.cell? ⟨g, i, none⟩ = some (.int .i64 (l.getD i 0)) := by
  obtain ⟨g', t', cs, fuel, p, hg', hty', hvar, hd⟩ := h
  obtain rfl := Option.some.inj (hg.symm.trans hg')
  obtain rfl := Option.some.inj (hty.symm.trans hty')
  have hcs := Lib.cells_of_tab hu Tryz.underlying3 c16_int hc hd
  rw [World.var?_cell hg hvar i, ← Array.getElem?_toList, hcs]
  have hl : i < l.length := by omega
  simp [hl]
theorem otab_reads16 {W : World} (h2 : Lib.VarReads Tryz.prog W "echelon/echelonref07.first" (strsData16 fsL))
    (h3 : Lib.VarReads Tryz.prog W "echelon/echelonref07.least" (Lib.tabData .i64 loL)) (h4 : Lib.VarReads Tryz.prog W "echelon/echelonref07.most" (Lib.tabData .i64 hiL)) : OTab W :=
  ⟨fun d hd => strs_at16 (t := 105) (n := 7) (by kernel_rfl) (by kernel_rfl) Tryz.underlying105 rfl h2 d hd,
   fun d hd => ints_at16 (t := 106) (n := 7) (by kernel_rfl) (by kernel_rfl) Tryz.underlying106 (by kernel_rfl) rfl h3 d hd,
   fun d hd => ints_at16 (t := 106) (n := 7) (by kernel_rfl) (by kernel_rfl) Tryz.underlying106 (by kernel_rfl) rfl h4 d hd⟩
theorem otab16 {W : World} {r : List (String × DataW Unit)} (hL : laidMet Tryz.prog (("echelon/echelonref07.first", Rows.laid_echelon_echelonref07_first) :: ("echelon/echelonref07.least", Rows.laid_echelon_echelonref07_least) :: ("echelon/echelonref07.most", Rows.laid_echelon_echelonref07_most) :: r) W) : OTab W := by
  have hM : laidMet Tryz.prog (("echelon/echelonref07.first", strsData16 fsL) :: ("echelon/echelonref07.least", Lib.tabData .i64 loL) :: ("echelon/echelonref07.most", Lib.tabData .i64 hiL) :: r) W := hL
  exact otab_reads16 (Lib.laidMet.reads hM (.head _)) (Lib.laidMet.reads hM (.tail _ (.head _))) (Lib.laidMet.reads hM (.tail _ (.tail _ (.head _))))
end Go.Proofs.YtaaongbdincimaaGreatDoor
