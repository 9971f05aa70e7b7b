/- Arguments opened: a question, weights. -/
import Derived.Test.YtbadpcdlhgbegaaDoorRows
import Derived.Test.YtbadpcdlhgbegaaDoorMj
import Derived.Deep.Slices
import Derived.Deep.Fields
import Derived.ProofKit
namespace Go.Proofs.YtbadpcdlhgbegaaDoor
open Go.ChangeShapes Go.WideShapes Go.ChangeAt Go.RowKit Go.Deep

theorem wf_i64 {n : Int} (h : (Lit.int .i64 n).wf = true) : -9223372036854775808 ≤ n ∧ n ≤ 9223372036854775807 := by simpa [Lit.wf, IntKind.min, IntKind.max, IntKind.signed, IntKind.bits] using h
theorem cells_int : Tryd.prog.cellsOf 3 = 1 := by kernel_rfl
theorem bytes_int : Tryd.prog.bytesOf 3 = 8 := by kernel_rfl
theorem cells_i64 : Tryd.prog.cellsOf 2 = 1 := by kernel_rfl
theorem cells_u64 : Tryd.prog.cellsOf 22 = 1 := by kernel_rfl
theorem cells_ask : Tryd.prog.cellsOf 24 = 5 := by kernel_rfl
theorem laidOut : laidOutB Tryd.prog = true := by kernel_rfl
theorem list5 {α : Type} {l : List α} (h : l.length = 5) : ∃ a b c d e, l = [a, b, c, d, e] := by
  match l, h with
  | [a, b, c, d, e], _ => exact ⟨a, b, c, d, e, rfl⟩
/-- the bounds of a question's numbers -/
def AskIn (f u a c : Int) : Prop := (-9223372036854775808 ≤ f ∧ f ≤ 9223372036854775807) ∧ (-9223372036854775808 ≤ u ∧ u ≤ 9223372036854775807) ∧ (-9223372036854775808 ≤ a ∧ a ≤ 9223372036854775807) ∧ (-9223372036854775808 ≤ c ∧ c ≤ 9223372036854775807)
/-- What weights that came in read as. -/
def Lies {H : Type} (d : DataW H) (ao : Option Addr) (n cap : Nat) : Prop := (d = .nil ∧ ao = none ∧ n = 0 ∧ cap = 0) ∨ ∃ es sp, d = .slice es sp ∧ es.length = n ∧ es.length + sp.length = cap ∧ ∃ a, ao = some a

section
variable {H : Type} {enc : TypeId × Value → H} {w : World}
/-- A question that came in. -/
theorem open_ask {r : Reach} {b0 : Nat} {v : Value} {d : DataW H} {p : List MemPlace} (hv : Value.okWide Tryd.prog w r b0 24 v) (h : DataW.Trod enc Tryd.prog w 0 (fun _ => true) true 24 v d p) :
    ∃ s f u a c : Int, v = .agg #[.int .u64 s, .int .i64 f, .int .i64 u, .int .i64 a, .int .i64 c] ∧ AskIn f u a c := by
  obtain ⟨cs, rfl, hsz⟩ := okWide_struct Tryd.underlying24 hv
  obtain ⟨l⟩ := cs
  obtain ⟨x0, x1, x2, x3, x4, rfl⟩ := list5 (l := l) (by simpa using hsz.trans cells_ask)
  obtain ⟨fuel, hf⟩ := h
  obtain ⟨xs, n, _, _, _, hlen, hfl⟩ := DataW.trod_struct Tryd.underlying24 hf
  obtain ⟨z0, z1, z2, z3, z4, rfl⟩ := list5 (l := xs) (by simpa using hlen)
  have g0 := hfl 0 _ rfl
  have g1 := hfl 1 _ rfl
  have g2 := hfl 2 _ rfl
  have g3 := hfl 3 _ rfl
  have g4 := hfl 4 _ rfl
  simp [Value.cells, cells_u64] at g0
  simp [Value.cells, cells_i64] at g1
  simp [Value.cells, cells_int] at g2 g3 g4
  obtain ⟨s, e0, _, _⟩ := DataW.trod_int Tryd.underlying22 g0
  obtain ⟨f, e1, _, w1⟩ := DataW.trod_int Tryd.underlying2 g1
  obtain ⟨u, e2, _, w2⟩ := DataW.trod_int Tryd.underlying3 g2
  obtain ⟨a, e3, _, w3⟩ := DataW.trod_int Tryd.underlying3 g3
  obtain ⟨c, e4, _, w4⟩ := DataW.trod_int Tryd.underlying3 g4
  simp at e0 e1 e2 e3 e4
  subst e0 e1 e2 e3 e4
  exact ⟨s, f, u, a, c, rfl, wf_i64 w1, wf_i64 w2, wf_i64 w3, wf_i64 w4⟩
/-- Weights that came in. -/
theorem open_weights {fuel : Nat} {cs : List Value} {x : DataW H × List MemPlace} (h : DataW.trod enc Tryd.prog w 0 (fun _ => true) true fuel 34 cs = some x) :
    ∃ (ao : Option Addr) (n cap : Nat) (bs : List Int), cs = [.slice ao n cap] ∧ RdI w ao n cap bs ∧ Lies x.1 ao n cap := by
  rcases open_ints Tryd.underlying34 Tryd.underlying3 cells_int h with ⟨rfl, rfl⟩ | ⟨a, len, cap, zs, rfl, _, hl, hm, hz, rfl, hcell, hwz⟩
  · exact ⟨none, 0, 0, [], rfl, RdI.empty w, .inl ⟨rfl, rfl, rfl, rfl⟩⟩
  · simp only [if_true] at hz
    refine ⟨some a, len, cap, zs.take len, rfl, ⟨by simp; omega, hl, hm, ?_, fun h => (by cases h), ?_⟩, .inr ⟨_, _, rfl, ?_, ?_, a, rfl⟩⟩
    · intro a' ha hp
      cases ha
      have := hcell 0 (by omega)
      simpa [Addr.add] using World.cell?_spot this
    · intro a' ha j hj
      cases ha
      simp at hj
      have h1 := hcell j (by omega)
      have hsp : a.spot = none := by
        have := hcell 0 (by omega)
        simpa [Addr.add] using World.cell?_spot this
      obtain ⟨b, o, s⟩ := a
      simp at hsp
      subst hsp
      rw [add_plain] at h1
      rw [h1]
      have hjz : j < zs.length := by omega
      simp [List.getD, hjz]
    · simp [lits]; omega
    · simp [lits]; omega
end
end Go.Proofs.YtbadpcdlhgbegaaDoor
