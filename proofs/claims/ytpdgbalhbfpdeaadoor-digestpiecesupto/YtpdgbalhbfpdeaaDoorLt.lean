/- What a row's list of variables gives: the tables. -/
import Derived.Test.YtpdgbalhbfpdeaaDoorRows
import Derived.Test.YtpdgbalhbfpdeaaDoorTb
import Derived.Lay
import Derived.LaidMore
import Derived.Stop.Joined
import Derived.Stop.LaidErr
import Derived.Lib.SmallJoins
import Derived.Lib.LaidTab
import Derived.KernelRfl
namespace Go.Proofs.YtpdgbalhbfpdeaaDoor
open Go.RowKit

def LL : List (String × DataW Unit) := [("math/bits.deBruijn32tab", Rows.laid_math_bits_deBruijn32tab), ("math/bits.deBruijn64tab", Rows.laid_math_bits_deBruijn64tab), ("internal/strconv.uint64pow10", Rows.laid_internal_strconv_uint64pow10), ("strconv.ErrRange", Rows.laid_strconv_ErrRange), ("strconv.ErrSyntax", Rows.laid_strconv_ErrSyntax), ("echelon/digest.factors", Rows.laid_echelon_digest_factors)]
def facs : List Int := [13787848793156543929, 10723151780598845931, 1099511628211, 11400714819323198485]
def deb : List Int := [0, 1, 56, 2, 57, 49, 28, 3, 61, 58, 42, 50, 38, 29, 17, 4, 62, 47, 59, 36, 45, 43, 51, 22, 53, 39, 33, 30, 24, 18, 12, 5, 63, 55, 48, 27, 60, 41, 37, 16, 46, 35, 44, 21, 52, 32, 23, 11, 54, 26, 40, 15, 34, 20, 31, 10, 25, 14, 19, 9, 13, 8, 7, 6]

theorem gFac : Tryd.prog.globalNamed "echelon/digest.factors" = some 0 := by kernel_rfl
theorem gDeb : Tryd.prog.globalNamed "math/bits.deBruijn64tab" = some 6 := by kernel_rfl
theorem gES : Tryd.prog.globalNamed "strconv.ErrSyntax" = some 2 := by kernel_rfl
theorem gER : Tryd.prog.globalNamed "strconv.ErrRange" = some 3 := by kernel_rfl
theorem gEST : (Tryd.prog.globals[2]?).map (·.type) = some 50 := by kernel_rfl
theorem gERT : (Tryd.prog.globals[3]?).map (·.type) = some 50 := by kernel_rfl
theorem cellsES : Tryd.prog.cellsOf 105 = 1 := by kernel_rfl
theorem cellsStr : Tryd.prog.cellsOf 9 = 1 := by kernel_rfl
theorem star : "*" ++ "errors.errorString" = "*errors.errorString" := by decide
theorem rowES (u : TypeId) (h : Tryd.prog.typeName? 3 u = some "*errors.errorString") : u = 103 :=
  typeName_ptr_named (nm := "errors.errorString") (by rw [star]; kernel_rfl) (by kernel_rfl) (by decide) u (by rw [star]; exact h)

set_option maxRecDepth 100000 in
theorem tab_of {W : World} (hL : laidMet Tryd.prog LL W) : Tab W := by
  have h1 : laidMet Tryd.prog (("math/bits.deBruijn64tab", Lib.tabData .u8 deb) :: [("internal/strconv.uint64pow10", Rows.laid_internal_strconv_uint64pow10), ("strconv.ErrRange", Rows.laid_strconv_ErrRange), ("strconv.ErrSyntax", Rows.laid_strconv_ErrSyntax), ("echelon/digest.factors", Rows.laid_echelon_digest_factors)]) W := laidMet.tail hL
  have h3 : laidMet Tryd.prog (("strconv.ErrRange", .iface "*errors.errorString" (.ptr (.agg [.lit (.string [118, 97, 108, 117, 101, 32, 111, 117, 116, 32, 111, 102, 32, 114, 97, 110, 103, 101])]))) :: [("strconv.ErrSyntax", Rows.laid_strconv_ErrSyntax), ("echelon/digest.factors", Rows.laid_echelon_digest_factors)]) W := laidMet.tail (laidMet.tail h1)
  have h4 : laidMet Tryd.prog (("strconv.ErrSyntax", .iface "*errors.errorString" (.ptr (.agg [.lit (.string [105, 110, 118, 97, 108, 105, 100, 32, 115, 121, 110, 116, 97, 120])]))) :: [("echelon/digest.factors", Rows.laid_echelon_digest_factors)]) W := laidMet.tail h3
  have h5 : laidMet Tryd.prog (("echelon/digest.factors", Lib.tabData .u64 facs) :: []) W := laidMet.tail h4
  have t1 := Lib.tabIs_of_head (t := 107) (e := 5) (n := 64) gDeb (by kernel_rfl) Tryd.underlying107 Tryd.underlying5 (by kernel_rfl) (by kernel_rfl) h1
  have t5 := Lib.tabIs_of_head (t := 54) (e := 22) (n := 4) gFac (by kernel_rfl) Tryd.underlying54 Tryd.underlying22 (by kernel_rfl) (by kernel_rfl) h5
  obtain ⟨a3, s3, hv3, -, -, -⟩ := laid_sentinel h3 gER gERT Tryd.underlying50 rowES Tryd.underlying103 Tryd.underlying105 rfl rfl Tryd.underlying9 cellsES cellsStr
  obtain ⟨a4, s4, hv4, -, -, -⟩ := laid_sentinel h4 gES gEST Tryd.underlying50 rowES Tryd.underlying103 Tryd.underlying105 rfl rfl Tryd.underlying9 cellsES cellsStr
  exact ⟨t5.cell gFac 0 (by decide), t5.cell gFac 1 (by decide), t5.cell gFac 2 (by decide), t5.cell gFac 3 (by decide), t1.cell gDeb 15 (by decide),
    ⟨_, _, by simpa using World.var?_cell gES hv4 0⟩, ⟨_, _, by simpa using World.var?_cell gER hv3 0⟩⟩
end Go.Proofs.YtpdgbalhbfpdeaaDoor
