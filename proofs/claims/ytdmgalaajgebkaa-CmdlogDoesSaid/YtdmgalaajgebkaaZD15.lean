/- Parts of the proof, laid end to end. -/
import Derived.Test.YtdmgalaajgebkaaZD14
import Derived.Test.YtdmgalaajgebkaaZD11
namespace Go.Proofs.Ytdmgalaajgebkaa
open Go.ChangeShapes Go.WideShapes Go.ChangeAt Go.RowKit Go.Deep
set_option maxRecDepth 100000
theorem cells_opF : Try.prog.cellsOf opT = 10 := by kernel_rfl
theorem listK10 {α : Type} {l : List α} (h : l.length = 10) : ∃ a b c d e f g i j k, l = [a, b, c, d, e, f, g, i, j, k] := by
 match l, h with
 | [a, b, c, d, e, f, g, i, j, k], _ => exact ⟨a, b, c, d, e, f, g, i, j, k, rfl⟩
section
variable {H : Type} {enc : TypeId × Value -> H} {w : World}
theorem one_cmF {fuel : Nat} {cs : List Value} {x : DataW H × List MemPlace} (hl : cs.length = 7) (h : DataW.trod enc Try.prog w 0 (fun _ => true) true fuel 30 cs = some x) : ∃ a b c d e f g : Int, cs = [.int .i64 a, .int .i64 b, .int .i64 c, .int .i64 d, .int .i64 e, .int .i64 f, .int .i64 g] /\ (-9223372036854775808 <= a /\ a <= 9223372036854775807) := by
 obtain ⟨x0, x1, x2, x3, x4, x5, x6, rfl⟩ := listG7 hl
 obtain ⟨xs, n, _, _, _, hlen, hfl⟩ := DataW.trod_struct Try.underlying30 h
 obtain ⟨z0, z1, z2, z3, rfl⟩ := listG4 (l := xs) (by simpa using hlen)
 have g0 := hfl 0 _ rfl
 have g1 := hfl 1 _ rfl
 have g2 := hfl 2 _ rfl
 have g3 := hfl 3 _ rfl
 simp [cellsE_int, cellsE_i64, cellsE_or] at g0 g1 g2 g3
 obtain ⟨a, e0, _, w0⟩ := DataW.trod_int Try.underlying2 g0
 obtain ⟨b, e1, _, _⟩ := DataW.trod_int Try.underlying3 g1
 obtain ⟨c, e2, _, _⟩ := DataW.trod_int Try.underlying3 g2
 obtain ⟨d, e, f, g, e3⟩ := one_orE rfl g3
 simp at e0 e1 e2 e3
 subst e0 e1 e2
 obtain ⟨rfl, rfl, rfl, rfl⟩ := e3
 exact ⟨a, b, c, d, e, f, g, rfl, wfG_i64 w0⟩
theorem one_opF {fuel : Nat} {cs : List Value} {x : DataW H × List MemPlace} (hl : cs.length = 10) (h : DataW.trod enc Try.prog w 0 (fun _ => true) true fuel opT cs = some x) : ∃ y : Ok9, cs = KO9.f y /\ (Bd9 y /\ BdF y) := by
 obtain ⟨x0, x1, x2, x3, x4, x5, x6, x7, x8, x9, rfl⟩ := listK10 hl
 obtain ⟨xs, n, _, _, _, hlen, hfl⟩ := DataW.trod_struct Try.underlying32 h
 obtain ⟨z0, z1, z2, z3, rfl⟩ := listG4 (l := xs) (by simpa using hlen)
 have g0 := hfl 0 _ rfl
 have g1 := hfl 1 _ rfl
 have g2 := hfl 2 _ rfl
 have g3 := hfl 3 _ rfl
 simp [cellsE_int, cellsE_cm] at g0 g1 g2 g3
 obtain ⟨a, e0, _, w0⟩ := DataW.trod_int Try.underlying3 g0
 obtain ⟨b, e1, _, w1⟩ := DataW.trod_int Try.underlying3 g1
 obtain ⟨c0, c1, c2, c3, c4, c5, c6, e2, hw⟩ := one_cmF rfl g2
 obtain ⟨d, e3, _, _⟩ := DataW.trod_int Try.underlying3 g3
 simp at e0 e1 e2 e3
 subst e0 e1 e3
 obtain ⟨rfl, rfl, rfl, rfl, rfl, rfl, rfl⟩ := e2
 exact ⟨⟨a, b, ⟨c0, c1, c2, c3, c4, c5, c6, d⟩⟩, rfl, ⟨wfG_i64 w0, wfG_i64 w1⟩, hw⟩
theorem open_opsF {fuel : Nat} {cs : List Value} {x : DataW H × List MemPlace} (h : DataW.trod enc Try.prog w 0 (fun _ => true) true fuel 22 cs = some x) :
  ∃ so n cap, cs = [.slice so n cap] /\ n <= cap /\ (n <= 281474976710656 -> ∃ L, RdG KO9 w so n L /\ ∀ i, i < n -> Bd9 (L.getD i KO9.d) /\ BdF (L.getD i KO9.d)) /\ (so = none -> cap = 0) /\ (n = 0 \/ ∃ es sp, x.1 = .slice es sp /\ es.length = n) :=
 open_rows KO9 (fun y => Bd9 y /\ BdF y) Try.underlying22 cells_opF one_opF h
end
end Go.Proofs.Ytdmgalaajgebkaa
