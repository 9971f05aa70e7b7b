/- Arguments opened: calls of a script. -/
import Derived.Test.YtlebmimlmakogaaGb
import Derived.Test.YtlebmimlmakogaaGth
namespace Go.Proofs.Ytlebmimlmakogaa
open Go.ChangeShapes Go.WideShapes Go.ChangeAt Go.RowKit Go.Deep
set_option maxRecDepth 100000

theorem cellsG_int : Try.prog.cellsOf 3 = 1 := by kernel_rfl
theorem cellsG_i64 : Try.prog.cellsOf 2 = 1 := by kernel_rfl
theorem cellsG_oq : Try.prog.cellsOf oqT = 6 := by kernel_rfl
section
variable {H : Type} {enc : TypeId × Value → H} {w : World}
theorem one_oqG {fuel : Nat} {cs : List Value} {x : DataW H × List MemPlace} (hl : cs.length = 6) (h : DataW.trod enc Try.prog w 0 (fun _ => true) true fuel oqT cs = some x) : ∃ y : OqG, cs = KQg.f y ∧ BdQ y := by
  obtain ⟨x0, x1, x2, x3, x4, x5, rfl⟩ := listG6 hl
  obtain ⟨xs, n, _, _, _, hlen, hfl⟩ := DataW.trod_struct Try.underlying28 h
  obtain ⟨z0, z1, z2, z3, z4, z5, rfl⟩ := listG6 (l := xs) (by simpa using hlen)
  have g0 := hfl 0 _ rfl
  have g1 := hfl 1 _ rfl
  have g2 := hfl 2 _ rfl
  have g3 := hfl 3 _ rfl
  have g4 := hfl 4 _ rfl
  have g5 := hfl 5 _ rfl
  simp [cellsG_int, cellsG_i64] at g0 g1 g2 g3 g4 g5
  obtain ⟨a, e0, _, w0⟩ := DataW.trod_int Try.underlying3 g0
  obtain ⟨b, e1, _, w1⟩ := DataW.trod_int Try.underlying3 g1
  obtain ⟨c, e2, _, _⟩ := DataW.trod_int Try.underlying3 g2
  obtain ⟨d, e3, _, _⟩ := DataW.trod_int Try.underlying2 g3
  obtain ⟨e, e4, _, _⟩ := DataW.trod_int Try.underlying2 g4
  obtain ⟨f, e5, _, _⟩ := DataW.trod_int Try.underlying3 g5
  simp at e0 e1 e2 e3 e4 e5
  subst e0 e1 e2 e3 e4 e5
  exact ⟨⟨a, b, c, d, e, f⟩, rfl, wfG_i64 w0, wfG_i64 w1⟩
theorem open_oqG {fuel : Nat} {cs : List Value} {x : DataW H × List MemPlace} (h : DataW.trod enc Try.prog w 0 (fun _ => true) true fuel 22 cs = some x) :
    ∃ so n cap, cs = [.slice so n cap] ∧ n ≤ cap ∧ (n ≤ 281474976710656 → ∃ L, RdG KQg w so n L ∧ ∀ i, i < n → BdQ (L.getD i KQg.d)) ∧ (so = none → cap = 0) ∧ (n = 0 ∨ ∃ es sp, x.1 = .slice es sp ∧ es.length = n) :=
  open_rows KQg BdQ Try.underlying22 cellsG_oq one_oqG h
end
end Go.Proofs.Ytlebmimlmakogaa
