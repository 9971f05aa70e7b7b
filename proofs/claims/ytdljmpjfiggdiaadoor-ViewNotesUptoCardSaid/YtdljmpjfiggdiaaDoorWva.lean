/- Numbers written as text; letters. No function of the project is named here but the library's Itoa. -/
import Derived.Test.YtdljmpjfiggdiaaDoorK5b
import Derived.Test.YtdljmpjfiggdiaaDoorShelf
import Derived.Lib.AppendIntMem
import Derived.Lib.LaidTab
import Derived.Lib.ItoaLen
import Derived.Deep.DeepCutAuto
namespace Go.Proofs.YtdljmpjfiggdiaaDoor
open Go.RowKit
set_option maxRecDepth 100000

theorem still_of_belowV {w w' : World} (h : Below w.heap.size w w') : Still w w' := ⟨h.os, h.tape, h.output, h.size, fun k hk _ => h.block k hk⟩
/-- the library's table that is read -/
def PTabV (w : World) : Prop := Lib.TabIs Tryd.prog w "internal/strconv.uint64pow10" .u64 Lib.pow10Tab
theorem PTabV.still {w w' : World} (h : PTabV w) (hs : Still w w') : PTabV w' := (Lib.tabBelow_of_tabIs h) w' hs.below
/-- a number of the machine -/
def I64 (n : Int) : Prop := -9223372036854775808 ≤ n ∧ n ≤ 9223372036854775807
/-- a number as text -/
def itS (n : Int) : ByteArray := ⟨(Lib.itoa n).toArray⟩
theorem itS_sz {n : Int} (h : I64 n) : (itS n).size ≤ 21 := by
  have := Lib.itoa_length_le n h.1 h.2
  simpa [itS, ByteArray.size] using this
theorem itoaV_any (n : Int) (h : I64 n) (w : World) (ht : PTabV w) : Calls Tryd.prog 25 #[.int .i64 n] w fun e w' => e = .returned (.string (itS n)) ∧ Still w w' := by
  refine (Tryd.strconv_Itoa n h.1 h.2 w ht).mono ?_
  rintro e w' ⟨rfl, k, os, rfl⟩
  exact ⟨rfl, still_of_belowV (Lib.below_grow _ _ (Nat.le_refl _) _ _)⟩
/-- two texts, one behind the other -/
theorem cat_ex {a b : ByteArray} {m n : Nat} (ha : a.size ≤ m) (hb : b.size ≤ n) (h : m + n ≤ 9223372036854775807) : ∃ y, a ++ b = y ∧ y.size ≤ m + n ∧ Op.stringOp .add a b = pure (.string y) := by
  refine ⟨_, rfl, by rw [ByteArray.size_append]; omega, ?_⟩
  unfold Op.stringOp
  simp only
  rw [if_neg]
  show ¬ ((a.size + b.size : Nat) : Int) > 9223372036854775807
  omega
end Go.Proofs.YtdljmpjfiggdiaaDoor
