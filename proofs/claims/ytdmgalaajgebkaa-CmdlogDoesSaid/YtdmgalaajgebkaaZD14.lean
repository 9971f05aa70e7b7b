/- Parts of the proof, laid end to end. -/
import Derived.Test.YtdmgalaajgebkaaZD13
import Derived.Test.YtdmgalaajgebkaaZD04
namespace Go.Proofs.Ytdmgalaajgebkaa
open Go.ChangeShapes Go.WideShapes Go.ChangeAt Go.RowKit Go.Deep
set_option maxRecDepth 100000
theorem cellsE_int : Try.prog.cellsOf 3 = 1 := by kernel_rfl
theorem cellsE_i64 : Try.prog.cellsOf 2 = 1 := by kernel_rfl
theorem cellsE_or : Try.prog.cellsOf 28 = 4 := by kernel_rfl
theorem cellsE_cm : Try.prog.cellsOf 30 = 7 := by kernel_rfl
theorem cellsE_en : Try.prog.cellsOf 44 = 8 := by kernel_rfl
theorem listG7 {α : Type} {l : List α} (h : l.length = 7) : ∃ a b c d e f g, l = [a, b, c, d, e, f, g] := by
 match l, h with
 | [a, b, c, d, e, f, g], _ => exact ⟨a, b, c, d, e, f, g, rfl⟩
section
variable {H : Type} {enc : TypeId × Value -> H} {w : World}
theorem one_orE {fuel : Nat} {cs : List Value} {x : DataW H × List MemPlace} (hl : cs.length = 4) (h : DataW.trod enc Try.prog w 0 (fun _ => true) true fuel 28 cs = some x) : ∃ a b c d : Int, cs = [.int .i64 a, .int .i64 b, .int .i64 c, .int .i64 d] := by
 obtain ⟨x0, x1, x2, x3, rfl⟩ := listG4 hl
 obtain ⟨xs, n, _, _, _, hlen, hfl⟩ := DataW.trod_struct Try.underlying28 h
 obtain ⟨z0, z1, z2, z3, rfl⟩ := listG4 (l := xs) (by simpa using hlen)
 have g0 := hfl 0 _ rfl
 have g1 := hfl 1 _ rfl
 have g2 := hfl 2 _ rfl
 have g3 := hfl 3 _ rfl
 simp [cellsE_int] at g0 g1 g2 g3
 obtain ⟨a, e0, _, _⟩ := DataW.trod_int Try.underlying3 g0
 obtain ⟨b, e1, _, _⟩ := DataW.trod_int Try.underlying3 g1
 obtain ⟨c, e2, _, _⟩ := DataW.trod_int Try.underlying3 g2
 obtain ⟨d, e3, _, _⟩ := DataW.trod_int Try.underlying3 g3
 simp at e0 e1 e2 e3
 subst e0 e1 e2 e3
 exact ⟨a, b, c, d, rfl⟩
theorem one_cmE {fuel : Nat} {cs : List Value} {x : DataW H × List MemPlace} (hl : cs.length = 7) (h : DataW.trod enc Try.prog w 0 (fun _ => true) true fuel 30 cs = some x) : ∃ a b c d e f g : Int, cs = [.int .i64 a, .int .i64 b, .int .i64 c, .int .i64 d, .int .i64 e, .int .i64 f, .int .i64 g] := by
 obtain ⟨x0, x1, x2, x3, x4, x5, x6, rfl⟩ := listG7 hl
 obtain ⟨xs, n, _, _, _, hlen, hfl⟩ := DataW.trod_struct Try.underlying30 h
 obtain ⟨z0, z1, z2, z3, rfl⟩ := listG4 (l := xs) (by simpa using hlen)
 have g0 := hfl 0 _ rfl
 have g1 := hfl 1 _ rfl
 have g2 := hfl 2 _ rfl
 have g3 := hfl 3 _ rfl
 simp [cellsE_int, cellsE_i64, cellsE_or] at g0 g1 g2 g3
 obtain ⟨a, e0, _, _⟩ := DataW.trod_int Try.underlying2 g0
 obtain ⟨b, e1, _, _⟩ := DataW.trod_int Try.underlying3 g1
 obtain ⟨c, e2, _, _⟩ := DataW.trod_int Try.underlying3 g2
 obtain ⟨d, e, f, g, e3⟩ := one_orE rfl g3
 simp at e0 e1 e2 e3
 subst e0 e1 e2
 obtain ⟨rfl, rfl, rfl, rfl⟩ := e3
 exact ⟨a, b, c, d, e, f, g, rfl⟩
theorem one_en {fuel : Nat} {cs : List Value} {x : DataW H × List MemPlace} (hl : cs.length = 8) (h : DataW.trod enc Try.prog w 0 (fun _ => true) true fuel 44 cs = some x) : ∃ y : En, cs = KE.f y /\ True := by
 obtain ⟨x0, x1, x2, x3, x4, x5, x6, x7, rfl⟩ := listG8 hl
 obtain ⟨xs, n, _, _, _, hlen, hfl⟩ := DataW.trod_struct Try.underlying44 h
 obtain ⟨z0, z1, rfl⟩ := listG2 (l := xs) (by simpa using hlen)
 have g0 := hfl 0 _ rfl
 have g1 := hfl 1 _ rfl
 simp [cellsE_int, cellsE_cm] at g0 g1
 obtain ⟨a, b, c, d, e, f, g, e0⟩ := one_cmE rfl g0
 obtain ⟨m, e1, _, _⟩ := DataW.trod_int Try.underlying3 g1
 simp at e0 e1
 obtain ⟨rfl, rfl, rfl, rfl, rfl, rfl, rfl⟩ := e0
 subst e1
 exact ⟨⟨a, b, c, d, e, f, g, m⟩, rfl, trivial⟩
theorem open_en {r : Reach} {b0 : Nat} {v : Value} {d : DataW H} {p : List MemPlace} (hv : Value.okWide Try.prog w r b0 44 v) (h : DataW.Trod enc Try.prog w 0 (fun _ => true) true 44 v d p) :
  ∃ m : En, v = ev m := by
 obtain ⟨cs, rfl, hsz⟩ := okWide_struct Try.underlying44 hv
 obtain ⟨l⟩ := cs
 obtain ⟨fuel, hf⟩ := h
 have hl4 : l.length = 8 := by simpa using hsz.trans cellsE_en
 obtain ⟨y, e, hy⟩ := one_en (by simpa [Value.cells] using hl4) hf
 have e' : l = KE.f y := by simpa [Value.cells] using e
 subst e'
 exact ⟨y, rfl⟩
theorem open_ens {fuel : Nat} {cs : List Value} {x : DataW H × List MemPlace} (h : DataW.trod enc Try.prog w 0 (fun _ => true) true fuel 40 cs = some x) :
  ∃ so n cap, cs = [.slice so n cap] /\ n <= cap /\ (n <= 281474976710656 -> ∃ L, RdG KE w so n L /\ ∀ i, i < n -> True) /\ (so = none -> cap = 0) /\ (n = 0 \/ ∃ es sp, x.1 = .slice es sp /\ es.length = n) :=
 open_rows KE (fun _ => True) Try.underlying40 cellsE_en one_en h
end
end Go.Proofs.Ytdmgalaajgebkaa
