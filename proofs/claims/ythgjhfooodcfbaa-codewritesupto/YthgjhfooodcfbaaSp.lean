/- A script, as it lies in memory. -/
import Derived.Test.YthgjhfooodcfbaaOp
namespace Go.Proofs.Ythgjhfooodcfbaa
open Go.RowKit

theorem Still.trans' {F : Nat → Prop} {a b c : World} (h : Still a b) (k : Fr F b c) (hF : ∀ k, k < a.heap.size → ¬ F k) : Still a c := Fr.trans h k fun k hk hf => hF k hk hf

/-- A script, as it lies in memory. -/
structure Script (w : World) (ao : Option Addr) (ops : List Op) : Prop where
  plain : ∀ a, ao = some a → 0 < ops.length → a.spot = none
  nil : ao = none → ops = []
  cells : ∀ a, ao = some a → ∀ i (h : i < ops.length) (f : Nat) v, (ops[i].val)[f]? = some v → w.cell? ⟨a.block, a.off + i * 6 + f, none⟩ = some v
  ok : ∀ o ∈ ops, o.ok w
theorem Script.still {w w' : World} {ao : Option Addr} {ops : List Op} (h : Script w ao ops) (hs : Still w w') : Script w' ao ops :=
  ⟨h.plain, h.nil, fun a ha i hi f v hv => by
    have hc := h.cells a ha i hi f v hv
    rw [hs.cell (World.block_lt_of_cell? w _ hc) (fun e => e), hc], fun o ho => (h.ok o ho).still hs⟩
/-- the call at i, cell by cell -/
theorem Script.at {w : World} {ao : Option Addr} {ops : List Op} (h : Script w ao ops) {i : Nat} (hi : i < ops.length) : ∃ b o, ao = some ⟨b, o, none⟩ ∧
    w.cell? ⟨b, o + i * 6, none⟩ = some (.int .i64 ops[i].kind) ∧ w.cell? ⟨b, o + i * 6 + 1, none⟩ = some (.int .i64 ops[i].which) ∧ w.cell? ⟨b, o + i * 6 + 2, none⟩ = some (.int .u64 (ops[i].n : Int)) ∧
    w.cell? ⟨b, o + i * 6 + 3, none⟩ = some (.int .i64 ops[i].i) ∧ w.cell? ⟨b, o + i * 6 + 4, none⟩ = some (.slice ops[i].ao ops[i].len ops[i].cap) ∧ w.cell? ⟨b, o + i * 6 + 5, none⟩ = some (.int .i64 ops[i].most) := by
  cases ao with
  | none => have := h.nil rfl; subst this; simp at hi
  | some a =>
    obtain ⟨b, o, s⟩ := a
    have := h.plain _ rfl (by omega)
    simp at this
    subst this
    exact ⟨b, o, rfl, h.cells _ rfl i hi 0 _ rfl, h.cells _ rfl i hi 1 _ rfl, h.cells _ rfl i hi 2 _ rfl, h.cells _ rfl i hi 3 _ rfl, h.cells _ rfl i hi 4 _ rfl, h.cells _ rfl i hi 5 _ rfl⟩

theorem layS_fit {room : Int} {bs x : List UInt8} (h : (bs.length : Int) + (x.length : Int) ≤ room) : layS room bs 0 x = (bs ++ x, 0) := by
  unfold layS
  rw [if_neg (by simp), if_neg (by omega)]
end Go.Proofs.Ythgjhfooodcfbaa
