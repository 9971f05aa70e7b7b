/- What a row's list of variables gives of the library's tables. -/
import Derived.Test.YtlaehphhfeoklaaDoorYu
import Derived.Test.YtlaehphhfeoklaaDoorVl
import Derived.Stop.LaidErr
import Derived.Lib.SmallJoins
import Derived.Lib.LaidTab
namespace Go.Proofs.YtlaehphhfeoklaaDoor
open Go.RowKit
open Vp
set_option maxRecDepth 100000

/-- an error of the library as a row lists it -/
abbrev errData {H : Type} (s : List UInt8) : DataW H := .iface "*errors.errorString" (.ptr (.agg [.lit (.string s)]))
theorem gPow : Tryd.prog.globalNamed "internal/strconv.uint64pow10" = some 4 := by kernel_rfl
theorem gES : Tryd.prog.globalNamed "strconv.ErrSyntax" = some 5 := by kernel_rfl
theorem gER : Tryd.prog.globalNamed "strconv.ErrRange" = some 6 := by kernel_rfl
theorem gEST : (Tryd.prog.globals[5]?).map (·.type) = some 63 := by kernel_rfl
theorem gERT : (Tryd.prog.globals[6]?).map (·.type) = some 63 := by kernel_rfl
theorem cellsES : Tryd.prog.cellsOf 105 = 1 := by kernel_rfl
theorem star : "*" ++ "errors.errorString" = "*errors.errorString" := by decide
theorem rowES (u : TypeId) (h : Tryd.prog.typeName? 3 u = some "*errors.errorString") : u = 103 :=
  typeName_ptr_named (nm := "errors.errorString") (by rw [star]; kernel_rfl) (by kernel_rfl) (by decide) u (by rw [star]; exact h)
theorem ptab_of {W : World} {r1 r2 r3 : List (String × DataW Unit)} {s2 s3 : List UInt8} (h1 : laidMet Tryd.prog (("internal/strconv.uint64pow10", Lib.tabData .u64 Lib.pow10Tab) :: r1) W)
    (h2 : laidMet Tryd.prog (("strconv.ErrRange", errData s2) :: r2) W) (h3 : laidMet Tryd.prog (("strconv.ErrSyntax", errData s3) :: r3) W) : PTab W := by
  have t1 := Lib.tabIs_of_head (t := 86) (e := 71) (n := 20) gPow (by kernel_rfl) Tryd.underlying86 Tryd.underlying71 (by kernel_rfl) (by kernel_rfl) h1
  obtain ⟨a2, _, hv2, -, -, -⟩ := laid_sentinel h2 gER gERT Tryd.underlying63 rowES Tryd.underlying103 Tryd.underlying105 rfl rfl Tryd.underlying9 cellsES cells_str
  obtain ⟨a3, _, hv3, -, -, -⟩ := laid_sentinel h3 gES gEST Tryd.underlying63 rowES Tryd.underlying103 Tryd.underlying105 rfl rfl Tryd.underlying9 cellsES cells_str
  exact ⟨t1, ⟨_, _, by simpa using World.var?_cell gES hv3 0⟩, ⟨_, _, by simpa using World.var?_cell gER hv2 0⟩⟩
end Go.Proofs.YtlaehphhfeoklaaDoor
