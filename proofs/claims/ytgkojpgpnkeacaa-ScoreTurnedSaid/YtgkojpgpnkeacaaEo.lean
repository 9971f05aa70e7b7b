/- Arguments opened: a score, scores, deeds. -/
import Derived.Test.YtgkojpgpnkeacaaGb
import Derived.Test.YtgkojpgpnkeacaaEh
namespace Go.Proofs.Ytgkojpgpnkeacaa
open Go.ChangeShapes Go.WideShapes Go.ChangeAt Go.RowKit Go.Deep
open Ea
set_option maxRecDepth 100000

theorem cells_intC : Try.prog.cellsOf 3 = 1 := by kernel_rfl
theorem cells_boolC : Try.prog.cellsOf 4 = 1 := by kernel_rfl
theorem cells_sc : Try.prog.cellsOf 23 = 4 := by kernel_rfl
theorem bytes_sc : Try.prog.bytesOf 23 = 32 := by kernel_rfl
theorem cells_dd : Try.prog.cellsOf 40 = 4 := by kernel_rfl
section
variable {H : Type} {enc : TypeId × Value → H} {w : World}
theorem one_sc {fuel : Nat} {cs : List Value} {x : DataW H × List MemPlace} (hl : cs.length = 4) (h : DataW.trod enc Try.prog w 0 (fun _ => true) true fuel 23 cs = some x) : ∃ y : Scr, cs = KC.f y ∧ InC y := by
  obtain ⟨x0, x1, x2, x3, rfl⟩ := listG4 hl
  obtain ⟨xs, n, _, _, _, hlen, hfl⟩ := DataW.trod_struct Try.underlying23 h
  obtain ⟨z0, z1, z2, z3, rfl⟩ := listG4 (l := xs) (by simpa using hlen)
  have g0 := hfl 0 _ rfl
  have g1 := hfl 1 _ rfl
  have g2 := hfl 2 _ rfl
  have g3 := hfl 3 _ rfl
  simp [cells_intC] at g0 g1 g2 g3
  obtain ⟨a, e0, _, w0⟩ := DataW.trod_int Try.underlying3 g0
  obtain ⟨b, e1, _, w1⟩ := DataW.trod_int Try.underlying3 g1
  obtain ⟨c, e2, _, w2⟩ := DataW.trod_int Try.underlying3 g2
  obtain ⟨d, e3, _, w3⟩ := DataW.trod_int Try.underlying3 g3
  simp at e0 e1 e2 e3
  subst e0 e1 e2 e3
  exact ⟨⟨a, b, c, d⟩, rfl, wfG_i64 w0, wfG_i64 w1, wfG_i64 w2, wfG_i64 w3⟩
theorem one_dd {fuel : Nat} {cs : List Value} {x : DataW H × List MemPlace} (hl : cs.length = 4) (h : DataW.trod enc Try.prog w 0 (fun _ => true) true fuel 40 cs = some x) : ∃ y : Dd, cs = KDd.f y ∧ (InN y.b ∧ InN y.w ∧ InN y.p) := by
  obtain ⟨x0, x1, x2, x3, rfl⟩ := listG4 hl
  obtain ⟨xs, n, _, _, _, hlen, hfl⟩ := DataW.trod_struct Try.underlying40 h
  obtain ⟨z0, z1, z2, z3, rfl⟩ := listG4 (l := xs) (by simpa using hlen)
  have g0 := hfl 0 _ rfl
  have g1 := hfl 1 _ rfl
  have g2 := hfl 2 _ rfl
  have g3 := hfl 3 _ rfl
  simp [cells_intC, cells_boolC] at g0 g1 g2 g3
  obtain ⟨a, e0, _, w0⟩ := DataW.trod_int Try.underlying3 g0
  obtain ⟨b, e1, _, w1⟩ := DataW.trod_int Try.underlying3 g1
  obtain ⟨c, e2, _, w2⟩ := DataW.trod_int Try.underlying3 g2
  obtain ⟨d, e3, _⟩ := DataW.trod_bool Try.underlying4 g3
  simp at e0 e1 e2 e3
  subst e0 e1 e2 e3
  exact ⟨⟨a, b, c, d⟩, rfl, wfG_i64 w0, wfG_i64 w1, wfG_i64 w2⟩
/-- A score that came in. -/
theorem open_sc {r : Reach} {b0 : Nat} {v : Value} {d : DataW H} {p : List MemPlace} (hv : Value.okWide Try.prog w r b0 23 v) (h : DataW.Trod enc Try.prog w 0 (fun _ => true) true 23 v d p) :
    ∃ m : Scr, v = cv m ∧ InC m := by
  obtain ⟨cs, rfl, hsz⟩ := okWide_struct Try.underlying23 hv
  obtain ⟨l⟩ := cs
  obtain ⟨fuel, hf⟩ := h
  have hl4 : l.length = 4 := by simpa using hsz.trans cells_sc
  obtain ⟨y, e, hy⟩ := one_sc (by simpa [Value.cells] using hl4) hf
  have e' : l = KC.f y := by simpa [Value.cells] using e
  subst e'
  exact ⟨y, rfl, hy⟩
theorem open_scs {fuel : Nat} {cs : List Value} {x : DataW H × List MemPlace} (h : DataW.trod enc Try.prog w 0 (fun _ => true) true fuel 32 cs = some x) :
    ∃ so n cap, cs = [.slice so n cap] ∧ n ≤ cap ∧ (n ≤ 281474976710656 → ∃ L, RdG KC w so n L ∧ ∀ i, i < n → InC (L.getD i KC.d)) ∧ (so = none → cap = 0) ∧ (n = 0 ∨ ∃ es sp, x.1 = .slice es sp ∧ es.length = n) :=
  open_rows KC InC Try.underlying32 cells_sc one_sc h
theorem open_dds {fuel : Nat} {cs : List Value} {x : DataW H × List MemPlace} (h : DataW.trod enc Try.prog w 0 (fun _ => true) true fuel 37 cs = some x) :
    ∃ so n cap, cs = [.slice so n cap] ∧ n ≤ cap ∧ (n ≤ 281474976710656 → ∃ L, RdG KDd w so n L ∧ ∀ i, i < n → (InN (L.getD i KDd.d).b ∧ InN (L.getD i KDd.d).w ∧ InN (L.getD i KDd.d).p)) ∧ (so = none → cap = 0) ∧ (n = 0 ∨ ∃ es sp, x.1 = .slice es sp ∧ es.length = n) :=
  open_rows KDd (fun y => InN y.b ∧ InN y.w ∧ InN y.p) Try.underlying37 cells_dd one_dd h
end
end Go.Proofs.Ytgkojpgpnkeacaa
