/- Arguments opened: ops. -/
import Derived.Test.YtgpmjlibanoapaaQus
import Derived.Test.YtgpmjlibanoapaaQvm
namespace Go.Proofs.Ytgpmjlibanoapaa
open Go.ChangeShapes Go.WideShapes Go.ChangeAt Go.RowKit Go.Deep
set_option maxRecDepth 100000

theorem cellsE_op : Try.prog.cellsOf 40 = 11 := by kernel_rfl
theorem listG11 {α : Type} {l : List α} (h : l.length = 11) : ∃ a b c d e f g i j k m, l = [a, b, c, d, e, f, g, i, j, k, m] := by
  match l, h with
  | [a, b, c, d, e, f, g, i, j, k, m], _ => exact ⟨a, b, c, d, e, f, g, i, j, k, m, rfl⟩
section
variable {H : Type} {enc : TypeId × Value → H} {w : World}
theorem one_op {fuel : Nat} {cs : List Value} {x : DataW H × List MemPlace} (hl : cs.length = 11) (h : DataW.trod enc Try.prog w 0 (fun _ => true) true fuel 40 cs = some x) : ∃ y : Oq, cs = KOq.f y ∧ ((-9223372036854775808 ≤ y.k ∧ y.k ≤ 9223372036854775807) ∧ (-9223372036854775808 ≤ y.n ∧ y.n ≤ 9223372036854775807)) := by
  obtain ⟨x0, x1, x2, x3, x4, x5, x6, x7, x8, x9, x10, rfl⟩ := listG11 hl
  obtain ⟨xs, n, _, _, _, hlen, hfl⟩ := DataW.trod_struct Try.underlying40 h
  obtain ⟨z0, z1, z2, z3, rfl⟩ := listG4 (l := xs) (by simpa using hlen)
  have g0 := hfl 0 _ rfl
  have g1 := hfl 1 _ rfl
  have g2 := hfl 2 _ rfl
  have g3 := hfl 3 _ rfl
  simp [cellsE_int, cellsE_i64, cellsE_en] at g0 g1 g2 g3
  obtain ⟨a, e0, _, w0⟩ := DataW.trod_int Try.underlying3 g0
  obtain ⟨b, e1, _, w1⟩ := DataW.trod_int Try.underlying3 g1
  obtain ⟨y, e2, _⟩ := one_en rfl g2
  obtain ⟨d, e3, _, _⟩ := DataW.trod_int Try.underlying2 g3
  simp [KE] at e0 e1 e2 e3
  subst e0 e1 e3
  obtain ⟨rfl, rfl, rfl, rfl, rfl, rfl, rfl, rfl⟩ := e2
  exact ⟨⟨a, b, y, d⟩, rfl, wfG_i64 w0, wfG_i64 w1⟩
theorem open_ops {fuel : Nat} {cs : List Value} {x : DataW H × List MemPlace} (h : DataW.trod enc Try.prog w 0 (fun _ => true) true fuel 22 cs = some x) :
    ∃ so n cap, cs = [.slice so n cap] ∧ n ≤ cap ∧ (n ≤ 281474976710656 → ∃ L, RdG KOq w so n L ∧ ∀ i, i < n → ((-9223372036854775808 ≤ (L.getD i KOq.d).k ∧ (L.getD i KOq.d).k ≤ 9223372036854775807) ∧ (-9223372036854775808 ≤ (L.getD i KOq.d).n ∧ (L.getD i KOq.d).n ≤ 9223372036854775807))) ∧ (so = none → cap = 0) ∧ (n = 0 ∨ ∃ es sp, x.1 = .slice es sp ∧ es.length = n) :=
  open_rows KOq (fun y => (-9223372036854775808 ≤ y.k ∧ y.k ≤ 9223372036854775807) ∧ (-9223372036854775808 ≤ y.n ∧ y.n ≤ 9223372036854775807)) Try.underlying22 cellsE_op one_op h
end
end Go.Proofs.Ytgpmjlibanoapaa
