/- Arguments opened: the script's calls. -/
import Derived.Test.YtakdfckkljbghaaBgo
import Derived.Test.YtakdfckkljbghaaBgv
namespace Go.Proofs.Ytakdfckkljbghaa
open Go.ChangeShapes Go.WideShapes Go.ChangeAt Go.RowKit Go.Deep
set_option maxRecDepth 100000
set_option linter.unusedVariables false

theorem c17_op : Try.prog.cellsOf 35 = 7 := by kernel_rfl
theorem b17_op : Try.prog.bytesOf 35 = 72 := by kernel_rfl
theorem listG7 {α : Type} {l : List α} (h : l.length = 7) : ∃ a b c d e f g, l = [a, b, c, d, e, f, g] := by
  match l, h with
  | [a, b, c, d, e, f, g], _ => exact ⟨a, b, c, d, e, f, g, rfl⟩
section
variable {H : Type} {enc : TypeId × Value → H} {w : World}
/-- what is known of a call beside its reading -/
def Gl17 (w : World) (d : DataW H) (x : Oq17) : Prop := (-9223372036854775808 ≤ x.k ∧ x.k ≤ 9223372036854775807) ∧ (-9223372036854775808 ≤ x.wh ∧ x.wh ≤ 9223372036854775807) ∧ (-9223372036854775808 ≤ x.no ∧ x.no ≤ 9223372036854775807) ∧ Rd w x.ao x.n x.cap x.bs ∧ ∃ d0 d1 d2 d3 d4 d5 d6, d = .agg [d0, d1, d2, d3, d4, d5, d6] ∧ Lies17 d4 x.n x.cap
theorem one_op17 {fuel : Nat} {cs : List Value} {x : DataW H × List MemPlace} (hl : cs.length = KO17.k) (h : DataW.trod enc Try.prog w 0 (fun _ => true) true fuel 35 cs = some x) : ∃ y : Oq17, cs = KO17.f y ∧ Gl17 w x.1 y := by
  obtain ⟨x0, x1, x2, x3, x4, x5, x6, rfl⟩ := listG7 (l := cs) hl
  obtain ⟨xs, n, _, hx, _, hlen, hfl⟩ := DataW.trod_struct Try.underlying35 h
  obtain ⟨z0, z1, z2, z3, z4, z5, z6, rfl⟩ := listG7 (l := xs) (by simpa using hlen)
  have g0 := hfl 0 _ rfl
  have g1 := hfl 1 _ rfl
  have g2 := hfl 2 _ rfl
  have g3 := hfl 3 _ rfl
  have g4 := hfl 4 _ rfl
  have g5 := hfl 5 _ rfl
  have g6 := hfl 6 _ rfl
  simp [c17_int, c17_bytes, c17_bool] at g0 g1 g2 g3 g4 g5 g6
  obtain ⟨a0, e0, _, w0⟩ := DataW.trod_int Try.underlying3 g0
  obtain ⟨a1, e1, _, w1⟩ := DataW.trod_int Try.underlying3 g1
  obtain ⟨a2, e2, _, w2⟩ := DataW.trod_int Try.underlying3 g2
  obtain ⟨a3, e3, _, w3⟩ := DataW.trod_int Try.underlying3 g3
  obtain ⟨ao, m, cap, bs, e4, hr, hl4⟩ := open_bytes17 g4
  obtain ⟨a5, e5, _, w5⟩ := DataW.trod_int Try.underlying3 g5
  obtain ⟨a6, e6, _⟩ := DataW.trod_bool Try.underlying4 g6
  simp at e0 e1 e2 e3 e4 e5 e6
  subst e0 e1 e2 e3 e4 e5 e6
  refine ⟨⟨a0, a1, a2, a3, ao, m, cap, bs, a5, a6⟩, rfl, wfG_i64 w0, wfG_i64 w1, wfG_i64 w5, hr, z0.1, z1.1, z2.1, z3.1, z4.1, z5.1, z6.1, ?_, hl4⟩
  rw [hx]; rfl
theorem open_ops17 {fuel : Nat} {cs : List Value} {x : DataW H × List MemPlace} (h : DataW.trod enc Try.prog w 0 (fun _ => true) true fuel 22 cs = some x) (hw : ∀ y ∈ x.1.weights Try.prog 22, y ≤ reachBytes) :
    ∃ so n cap, cs = [.slice so n cap] ∧ 72 * n ≤ 140737488351232 ∧ ∃ L, RdG KO17 w so n L ∧ ∀ i, i < n → Gd17 w (L.getD i KO17.d) := by
  obtain ⟨so, n, cap, e, _, _, D, sp, hd, hL⟩ := open_rowsD KO17 (Gl17 w) Try.underlying22 c17_op one_op17 h
  obtain ⟨h1, h2⟩ := reach_rows Try.underlying22 hd hw
  rw [b17_op] at h1
  have hr : reachBytes = 140737488351232 := rfl
  obtain ⟨L, hrd, hp⟩ := hL (by omega)
  refine ⟨so, n, cap, e, by omega, L, hrd, fun i hi => ?_⟩
  obtain ⟨k1, k2, k3, k4, d0, d1, d2, d3, d4, d5, d6, e, hl⟩ := hp i hi
  refine ⟨k1, k2, k3, lies17_reach hl (fun y hy => h2 i hi y ?_), k4⟩
  rw [e]
  simp only [DataW.weights, Try.underlying35]
  exact DataW.weights_mem_each (j := 4) (t := 33) (d := d4) rfl rfl y hy
end
end Go.Proofs.Ytakdfckkljbghaa
