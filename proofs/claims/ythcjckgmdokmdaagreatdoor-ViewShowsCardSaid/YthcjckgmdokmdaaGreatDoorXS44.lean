/- Parts of the proof, laid end to end. -/
import Derived.Test.YthcjckgmdokmdaaGreatDoorXS42
import Derived.Test.YthcjckgmdokmdaaGreatDoorXS13
import Derived.Test.YthcjckgmdokmdaaGreatDoorXS36
import Derived.Lib.LaidU8
import Derived.Lib.LaidTab
import Derived.LaidMore
import Derived.Stop.Joined
import Derived.Stop.LaidErr
import Derived.Lay
namespace Go.Proofs.YthcjckgmdokmdaaGreatDoor
open Go.ChangeShapes Go.WideShapes Go.ChangeAt Go.RowKit Go.Deep
open Pu Gp Np Za Ka Ja Ea Ha
set_option maxRecDepth 100000
theorem cellsV_str : Tryz.prog.cellsOf 9 = 1 := by kernel_rfl
theorem cellsV_pk : Tryz.prog.cellsOf 161 = 2 := by kernel_rfl
section
variable {H : Type} {enc : TypeId × Value -> H} {w : World}
end
def kdsV {H : Type} : DataW H := .agg ((List.range 4).map fun i => .agg [.lit (.string (kdN i).data.toList), .lit (.string (kdG i).data.toList)])
theorem gKds : Tryz.prog.globalNamed "echelon/view.pickupKinds" = some 0 := by kernel_rfl
theorem ktab_reads {W : World} (h : Lib.VarReads Tryz.prog W "echelon/view.pickupKinds" kdsV) : KTab W := by
 have key : ∀ i, i < 4 -> W.cell? ⟨0, i * 2, none⟩ = some (.string (kdN i)) /\ W.cell? ⟨0, i * 2 + 1, none⟩ = some (.string (kdG i)) := fun i hi => by
  obtain ⟨g, t, cs, fuel, p, hg, hty, hvar, hd⟩ := h
  obtain rfl := Option.some.inj (gKds.symm.trans hg)
  obtain rfl := Option.some.inj ((show (Tryz.prog.globals[0]?).map (·.type) = some 162 by kernel_rfl).symm.trans hty)
  obtain ⟨fuel', d, q, hdi, he⟩ := Lib.array_elem (t := 162) (e := 161) (n := 4) Tryz.underlying162 hd i hi
  simp only [List.getElem?_map, List.getElem?_range hi, Option.map_some, Option.some.injEq] at hdi
  subst hdi
  rw [cellsV_pk] at he
  obtain ⟨xs, n, _, hx, _, hlen, hfl⟩ := DataW.trod_struct Tryz.underlying161 he
  obtain ⟨z0, z1, rfl⟩ := listG2 (l := xs) (by simpa using hlen)
  have g0 := hfl 0 _ rfl
  have g1 := hfl 1 _ rfl
  simp [cellsV_str] at g0 g1
  obtain ⟨s0, e0, q0, _⟩ := DataW.trod_string Tryz.underlying9 g0
  obtain ⟨s1, e1, q1, _⟩ := DataW.trod_string Tryz.underlying9 g1
  have hxx := congrArg Prod.fst hx
  simp only [List.map_cons, List.map_nil, DataW.agg.injEq, List.cons.injEq, and_true] at hxx
  have k0 : z0.1 = .lit (.string s0.data.toList) := congrArg Prod.fst q0
  have k1 : z1.1 = .lit (.string s1.data.toList) := congrArg Prod.fst q1
  rw [k0, k1] at hxx
  simp at hxx
  obtain ⟨h0, h1⟩ := hxx
  have m0 : kdN i = s0 := ByteArray.ext (by simpa using h0)
  have m1 : kdG i = s1 := ByteArray.ext (by simpa using h1)
  have f0 := congrArg (·[0]?) e0
  have f1 := congrArg (·[0]?) e1
  simp only [List.getElem?_take, List.getElem?_drop] at f0 f1
  simp at f0 f1
  rw [World.var?_cell hg hvar (i * 2), World.var?_cell hg hvar (i * 2 + 1), m0, m1]
  exact ⟨by simpa using f0, by simpa using f1⟩
 exact ⟨fun k hk => (key k hk).1, fun k hk => (key k hk).2⟩
theorem kds_same : (Rows.laid_echelon_view_pickupKinds : DataW Unit) = kdsV := by kernel_rfl
theorem gPowV : Tryz.prog.globalNamed "internal/strconv.uint64pow10" = some 1 := by kernel_rfl
theorem ptabV_of {W : World} {r : List (String × DataW Unit)} (h : laidMet Tryz.prog (("internal/strconv.uint64pow10", Lib.tabData .u64 Lib.pow10Tab) :: r) W) : PTabV W :=
 Lib.tabIs_of_head (t := 212) (e := 22) (n := 20) gPowV (by kernel_rfl) Tryz.underlying212 Tryz.underlying22 (by kernel_rfl) (by kernel_rfl) h
end Go.Proofs.YthcjckgmdokmdaaGreatDoor
