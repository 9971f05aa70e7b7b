/- append of bytes inside a region that draws its order. -/
import Derived.Test.YthgjhfooodcfbaaMe
import Derived.Deep.RegionLaw
namespace Go.Proofs.Ythgjhfooodcfbaa

theorem step_app {P : Program} {ops : Array Oper} {o : Oper} {a : Act} {w : World} {K : Act → World → Prop} {Q : Exit → Act → World → Prop} {E : Prop} (hgd : o.guard = none) (s x : Operand) (t : TypeId)
    (hop : o.op = .call { callee := .builtin .append, args := #[s, x], argTypes := #[t, t] })
    (e : TypeId) (i : TypeInfo) (ht : P.underlying t = some (.slice e)) (hi : P.info? e = some i) (hz : i.zero = some (.int .u8 0)) (hs1 : i.size = 1) (hb : i.bytes = 1)
    (ao so : Option Addr) (n cap m c : Nat) (bs cs : List UInt8) (hs : a.eval s = .slice ao n cap) (hx : a.eval x = .slice so m c) (ho : Ow e w ao n cap bs) (hr : Rd w so m c cs) (h47 : n + m ≤ 140737488355328)
    (h : ∀ ao' cap' w', Ow e w' ao' (n + m) cap' (bs ++ cs) → Fr (fun k => ∃ a, ao = some a ∧ a.block = k) w w' → (∀ a, ao' = some a → ao = some a ∨ w.heap.size ≤ a.block) → (ao' = none → m = 0 ∧ ao = none) →
      K (a.put o.dst (.slice ao' (n + m) cap')) w') : if Region.wanted o (yielded ops a.tmps) = true then Oper.wp P o a w K Q else E := by
  have hw : Region.wanted o (yielded ops a.tmps) = true := by simp [Region.wanted, hgd]
  rw [if_pos hw]
  obtain ⟨ao', cap', w', hrun, h1, h2, h3, h4⟩ := run_app (P := P) w t o.type e i ht hi hz hs1 hb ho hr h47
  unfold Oper.wp execOp
  simp only [hop, resolve, invoke, builtin, Sem.run_bind, Sem.run_pure, Result.andThen_ok, List.map_toArray, List.map_cons, List.map_nil, hs, hx, hrun]
  exact h ao' cap' w' h1 h2 h3 h4
end Go.Proofs.Ythgjhfooodcfbaa
