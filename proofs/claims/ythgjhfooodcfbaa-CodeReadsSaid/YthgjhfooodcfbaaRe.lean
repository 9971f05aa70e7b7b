/- What the form's own reach gives: of a script that came in. -/
import Derived.Test.YthgjhfooodcfbaaSo
import Derived.SizedLaws
namespace Go.Proofs.Ythgjhfooodcfbaa
open Go.RowKit

theorem bytesOf_byte : Try.prog.bytesOf 5 = 1 := by kernel_rfl
theorem bytesOf_op : Try.prog.bytesOf 28 = 64 := by kernel_rfl
section
variable {H : Type}
theorem lies_reach {d : DataW H} {ao : Option Addr} {n cap : Nat} (h : Lies d ao n cap) (hw : ∀ x ∈ d.weights Try.prog 26, x ≤ reachBytes) : cap ≤ reachBytes := by
  rcases h with ⟨_, _, _, rfl⟩ | ⟨es, sp, rfl, h1, h2, _⟩
  · exact Nat.zero_le _
  · have := hw ((es.length + sp.length) * Try.prog.bytesOf 5) (by simp [DataW.weights, Try.underlying26])
    rw [bytesOf_byte] at this
    omega
theorem op_reach {d : DataW H} {o : Op} (h : OpLies d o) (hw : ∀ x ∈ d.weights Try.prog 28, x ≤ reachBytes) : o.cap ≤ reachBytes := by
  obtain ⟨d0, d1, d2, d3, d4, d5, rfl, hl⟩ := h
  refine lies_reach hl fun x hx => hw x ?_
  simp only [DataW.weights, Try.underlying28]
  exact DataW.weights_mem_each (j := 4) (t := 26) (d := d4) rfl rfl x hx
theorem weights_all_mem {P : Program} {e : TypeId} : ∀ {l : List (DataW H)} {d : DataW H}, d ∈ l → ∀ x ∈ d.weights P e, x ∈ DataW.weightsAll P e l
  | a :: r, d, h, x, hx => by
    simp only [DataW.weightsAll, List.mem_append]
    rcases List.mem_cons.1 h with rfl | h
    · exact .inl hx
    · exact .inr (weights_all_mem h x hx)
theorem script_reach {d : DataW H} {ops : List Op} {cap : Nat} (h : ScriptLies d ops cap) (hw : ∀ x ∈ d.weights Try.prog 22, x ≤ reachBytes) : ops.length * 64 ≤ reachBytes ∧ ∀ o ∈ ops, o.cap ≤ reachBytes := by
  rcases h with ⟨rfl, rfl⟩ | ⟨D, sp, rfl, h1, hl⟩
  · exact ⟨Nat.zero_le _, fun o ho => by cases ho⟩
  · have h2 := hw ((((List.range ops.length).map D).length + sp.length) * Try.prog.bytesOf 28) (by simp [DataW.weights, Try.underlying22])
    rw [bytesOf_op, List.length_map, List.length_range] at h2
    refine ⟨by omega, fun o ho => ?_⟩
    obtain ⟨i, hi, rfl⟩ := List.getElem_of_mem ho
    refine op_reach (hl i hi) fun x hx => hw x ?_
    simp only [DataW.weights, Try.underlying22, List.mem_cons, List.mem_append]
    exact .inr (.inl (weights_all_mem (List.mem_map.2 ⟨i, by simpa using hi, rfl⟩) x hx))
end
end Go.Proofs.Ythgjhfooodcfbaa
