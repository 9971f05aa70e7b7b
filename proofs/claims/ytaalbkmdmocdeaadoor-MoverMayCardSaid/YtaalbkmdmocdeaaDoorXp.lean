/- Arguments opened: deeds. -/
import Derived.Test.YtaalbkmdmocdeaaDoorXt
import Derived.Test.YtaalbkmdmocdeaaDoorNs
namespace Go.Proofs.YtaalbkmdmocdeaaDoor
open Go.ChangeShapes Go.WideShapes Go.ChangeAt Go.RowKit Go.Deep
open Pu Gp Ap Vp Np
set_option maxRecDepth 100000

theorem cells_deed : Tryd.prog.cellsOf 47 = 6 := by kernel_rfl
theorem bytes_deed : Tryd.prog.bytesOf 47 = 48 := by kernel_rfl
section
variable {H : Type} {enc : TypeId × Value → H} {w : World}
theorem deed_cells {fuel : Nat} {cs : List Value} {x : DataW H × List MemPlace} (hl : cs.length = 6) (h : DataW.trod enc Tryd.prog w 0 (fun _ => true) true fuel 47 cs = some x) :
    ∃ k v a b c d : Int, cs = [.int .i64 k, .int .i64 v, .int .i64 a, .int .i64 b, .int .i64 c, .int .i64 d] := by
  obtain ⟨x0, x1, x2, x3, x4, x5, rfl⟩ : ∃ c0 c1 c2 c3 c4 c5, cs = [c0, c1, c2, c3, c4, c5] := by
    match cs, hl with
    | [c0, c1, c2, c3, c4, c5], _ => exact ⟨c0, c1, c2, c3, c4, c5, rfl⟩
  obtain ⟨xs, n, _, _, _, hlen, hfl⟩ := DataW.trod_struct Tryd.underlying47 h
  obtain ⟨z0, z1, z2, rfl⟩ := list3 (l := xs) (by simpa using hlen)
  have g0 := hfl 0 _ rfl
  have g1 := hfl 1 _ rfl
  have g2 := hfl 2 _ rfl
  simp [cells_int, cells_or] at g0 g1 g2
  obtain ⟨k, e0, _, _⟩ := DataW.trod_int Tryd.underlying3 g0
  obtain ⟨v, a, b, c, e1⟩ := or_cells rfl g1
  obtain ⟨d, e2, _, _⟩ := DataW.trod_int Tryd.underlying3 g2
  simp at e0 e1 e2
  obtain ⟨rfl, rfl, rfl, rfl⟩ := e1
  subst e0 e2
  exact ⟨k, v, a, b, c, d, rfl⟩
/-- Deeds that came in. -/
theorem open_ds {fuel : Nat} {cs : List Value} {x : DataW H × List MemPlace} (h : DataW.trod enc Tryd.prog w 0 (fun _ => true) true fuel 45 cs = some x) :
    ∃ so n cap, cs = [.slice so n cap] ∧ (n = 0 ∨ ∃ B o, so = some ⟨B, o, none⟩ ∧ Ds w B o n) ∧ (n = 0 ∨ ∃ es sp, x.1 = .slice es sp ∧ es.length = n) := by
  rcases open_slice Tryd.underlying45 h with ⟨rfl, rfl⟩ | ⟨a, len, cap, m, n, D, Pl, rfl, _, hl, hm, hmm, rfl, hx⟩
  · exact ⟨none, 0, 0, rfl, .inl rfl, .inl rfl⟩
  · simp only [if_true] at hmm
    subst hmm
    rw [cells_deed] at hx
    refine ⟨some a, len, m, rfl, ?_, .inr ⟨_, _, rfl, by simp⟩⟩
    by_cases h0 : len = 0
    · exact .inl h0
    right
    have key : ∀ i, i < len → ∃ k v p q r d : Int, ∀ j, j < 6 → w.cell? ((a.add (i * 6)).add j) = [Value.int .i64 k, .int .i64 v, .int .i64 p, .int .i64 q, .int .i64 r, .int .i64 d][j]? := fun i hi => by
      obtain ⟨cs', h1, h2⟩ := hx i (by omega)
      obtain ⟨_, hlen, hc⟩ := World.cells?_some h1
      obtain ⟨k, v, p, q, r, d, rfl⟩ := deed_cells hlen h2
      exact ⟨k, v, p, q, r, d, hc⟩
    have hsp : a.spot = none := by
      obtain ⟨k, v, p, q, r, d, hc⟩ := key 0 (by omega)
      have := hc 0 (by omega)
      simpa [Addr.add] using World.cell?_spot this
    obtain ⟨B, o, s⟩ := a
    simp at hsp
    subst hsp
    refine ⟨B, o, rfl, fun i hi => ?_⟩
    obtain ⟨k, v, p, q, r, d, hc⟩ := key i hi
    rw [add_plain] at hc
    refine ⟨k, v, p, q, r, d, ?_, ?_, ?_, ?_, ?_, ?_⟩
    · have := hc 0 (by omega); rw [add_plain] at this; simpa using this
    · have := hc 1 (by omega); rw [add_plain] at this; simpa using this
    · have := hc 2 (by omega); rw [add_plain] at this; simpa using this
    · have := hc 3 (by omega); rw [add_plain] at this; simpa using this
    · have := hc 4 (by omega); rw [add_plain] at this; simpa using this
    · have := hc 5 (by omega); rw [add_plain] at this; simpa using this
end
end Go.Proofs.YtaalbkmdmocdeaaDoor
