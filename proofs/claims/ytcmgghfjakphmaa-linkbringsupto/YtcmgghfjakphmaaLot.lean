/- Arguments opened: steps. -/
import Derived.Test.YtcmgghfjakphmaaLos
import Derived.Test.YtcmgghfjakphmaaLkv
namespace Go.Proofs.Ytcmgghfjakphmaa
open Go.ChangeShapes Go.WideShapes Go.ChangeAt Go.RowKit Go.Deep
set_option maxRecDepth 100000
set_option linter.unusedVariables false

theorem c18_st : Try.prog.cellsOf 36 = 8 := by kernel_rfl
theorem c18_or : Try.prog.cellsOf 34 = 4 := by kernel_rfl
section
variable {H : Type} {enc : TypeId × Value → H} {w : World}
theorem one_or18 {fuel : Nat} {cs : List Value} {x : DataW H × List MemPlace} (hl : cs.length = 4) (h : DataW.trod enc Try.prog w 0 (fun _ => true) true fuel 34 cs = some x) : ∃ a b c d : Int, cs = [.int .i64 a, .int .i64 b, .int .i64 c, .int .i64 d] ∧ In64 b := by
  obtain ⟨x0, x1, x2, x3, rfl⟩ : ∃ a b c d, cs = [a, b, c, d] := by
    match cs, hl with
    | [a, b, c, d], _ => exact ⟨a, b, c, d, rfl⟩
  obtain ⟨xs, n, _, _, _, hlen, hfl⟩ := DataW.trod_struct Try.underlying34 h
  obtain ⟨z0, z1, z2, z3, rfl⟩ : ∃ a b c d, xs = [a, b, c, d] := by
    have hlen' : xs.length = 4 := by simpa using hlen
    match xs, hlen' with
    | [a, b, c, d], _ => exact ⟨a, b, c, d, rfl⟩
  have g0 := hfl 0 _ rfl
  have g1 := hfl 1 _ rfl
  have g2 := hfl 2 _ rfl
  have g3 := hfl 3 _ rfl
  simp [c17_int] at g0 g1 g2 g3
  obtain ⟨a, e0, _, _⟩ := DataW.trod_int Try.underlying3 g0
  obtain ⟨b, e1, _, w1⟩ := DataW.trod_int Try.underlying3 g1
  obtain ⟨c, e2, _, _⟩ := DataW.trod_int Try.underlying3 g2
  obtain ⟨d, e3, _, _⟩ := DataW.trod_int Try.underlying3 g3
  simp at e0 e1 e2 e3
  subst e0 e1 e2 e3
  exact ⟨a, b, c, d, rfl, wfG_i64 w1⟩
def Gl18 (s : Stq) : Prop := In64 s.n ∧ In64 s.on ∧ In64 s.fa ∧ In64 s.a
theorem one_st18 {fuel : Nat} {cs : List Value} {x : DataW H × List MemPlace} (hl : cs.length = KSt.k) (h : DataW.trod enc Try.prog w 0 (fun _ => true) true fuel 36 cs = some x) : ∃ y : Stq, cs = KSt.f y ∧ Gl18 y := by
  have hl8 : cs.length = 8 := hl
  obtain ⟨x0, x1, x2, x3, x4, x5, x6, x7, rfl⟩ : ∃ a b c d e f g i, cs = [a, b, c, d, e, f, g, i] := by
    match cs, hl8 with
    | [a, b, c, d, e, f, g, i], _ => exact ⟨a, b, c, d, e, f, g, i, rfl⟩
  obtain ⟨xs, n, _, _, _, hlen, hfl⟩ := DataW.trod_struct Try.underlying36 h
  obtain ⟨z0, z1, z2, z3, z4, rfl⟩ : ∃ a b c d e, xs = [a, b, c, d, e] := by
    have hlen' : xs.length = 5 := by simpa using hlen
    match xs, hlen' with
    | [a, b, c, d, e], _ => exact ⟨a, b, c, d, e, rfl⟩
  have g0 := hfl 0 _ rfl
  have g1 := hfl 1 _ rfl
  have g2 := hfl 2 _ rfl
  have g3 := hfl 3 _ rfl
  have g4 := hfl 4 _ rfl
  simp [c17_int, c17_bool, c18_or] at g0 g1 g2 g3 g4
  obtain ⟨a0, e0, _⟩ := DataW.trod_bool Try.underlying4 g0
  obtain ⟨a1, e1, _, w1⟩ := DataW.trod_int Try.underlying3 g1
  obtain ⟨a2, e2, _, w2⟩ := DataW.trod_int Try.underlying3 g2
  obtain ⟨a3, e3, _, w3⟩ := DataW.trod_int Try.underlying3 g3
  obtain ⟨v1, v2, v3, v4, e4, w4⟩ := one_or18 rfl g4
  simp at e0 e1 e2 e3 e4
  obtain ⟨rfl, rfl, rfl, rfl⟩ := e4
  subst e0 e1 e2 e3
  exact ⟨⟨a0, a1, a2, a3, v1, v2, v3, v4⟩, rfl, wfG_i64 w1, wfG_i64 w2, wfG_i64 w3, w4⟩
theorem open_stepsU {fuel : Nat} {cs : List Value} {x : DataW H × List MemPlace} (h : DataW.trod enc Try.prog w 0 (fun _ => true) true fuel 22 cs = some x) :
    ∃ so n cap, cs = [.slice so n cap] ∧ (n = 0 ∨ ∃ es sp, x.1 = .slice es sp ∧ es.length = n) ∧ (n ≤ 281474976710656 → ∃ L, RdG KSt w so n L ∧ ∀ i, i < n → Gl18 (L.getD i KSt.d)) := by
  obtain ⟨so, n, cap, e, _, _, D, sp, hd, hL⟩ := open_rowsD KSt (fun d y => Gl18 y) Try.underlying22 c18_st one_st18 h
  exact ⟨so, n, cap, e, hd.imp id (fun h => ⟨_, _, h, by simp⟩), hL⟩
end
end Go.Proofs.Ytcmgghfjakphmaa
