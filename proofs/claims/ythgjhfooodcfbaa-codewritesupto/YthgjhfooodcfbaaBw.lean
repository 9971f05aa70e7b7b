/- What the bound on a script's bulk gives: of the bytes that writers may hold. -/
import Derived.Test.YthgjhfooodcfbaaSo
import Derived.Test.YthgjhfooodcfbaaWw
namespace Go.Proofs.Ythgjhfooodcfbaa
open Go.RowKit

section
variable {H : Type}
theorem bulk_len (l : List (DataW H)) : l.length ≤ Rows.uptoBulkAll l := by
  induction l with
  | nil => simp [Rows.uptoBulkAll]
  | cons x r ih =>
    have h1 : 1 ≤ Rows.uptoBulk x := by
      cases x with
      | lit l => cases l <;> simp [Rows.uptoBulk]
      | _ => simp [Rows.uptoBulk]
    simp only [Rows.uptoBulkAll, List.length_cons]
    omega
theorem lies_bulk {d : DataW H} {ao : Option Addr} {n cap : Nat} (h : Lies d ao n cap) : n + 1 ≤ Rows.uptoBulk d := by
  rcases h with ⟨rfl, _, rfl, _⟩ | ⟨es, sp, rfl, h1, _⟩
  · simp [Rows.uptoBulk]
  · have := bulk_len es
    simp only [Rows.uptoBulk]
    omega
theorem op_bulk {d : DataW H} {o : Op} (h : OpLies d o) : o.len + 2 ≤ Rows.uptoBulk d := by
  obtain ⟨d0, d1, d2, d3, d4, d5, rfl, hl⟩ := h
  have := lies_bulk hl
  simp only [Rows.uptoBulk, Rows.uptoBulkAll]
  omega
theorem mk_bulk : ∀ (ops : List Op) (D : Nat → DataW H), (∀ i (h : i < ops.length), OpLies (D i) ops[i]) → (ops.map fun o => o.len + 20).sum ≤ 10 * Rows.uptoBulkAll ((List.range ops.length).map D)
  | [], _, _ => by simp
  | o :: r, D, hl => by
    have ih := mk_bulk r (fun i => D (i + 1)) (fun i hi => hl (i + 1) (by simpa using hi))
    have h0 := op_bulk (hl 0 (by simp))
    have e : (List.range (o :: r).length).map D = D 0 :: (List.range r.length).map fun i => D (i + 1) := by
      rw [List.length_cons, List.range_succ_eq_map]
      simp [Function.comp_def]
    rw [e]
    simp only [List.map_cons, List.sum_cons, Rows.uptoBulkAll]
    simp only [List.getElem_cons_zero] at h0
    omega
theorem script_mk {w : World} {so : Option Addr} {d : DataW H} {ops : List Op} {cap : Nat} (_ : Script w so ops) (h : ScriptLies d ops cap) : mk ops ops.length ≤ 10 * Rows.uptoBulk d := by
  unfold mk
  rw [List.take_length]
  rcases h with ⟨rfl, rfl⟩ | ⟨D, sp, rfl, _, hl⟩
  · simp
  · have := mk_bulk ops D hl
    simp only [Rows.uptoBulk]
    omega
end
end Go.Proofs.Ythgjhfooodcfbaa
