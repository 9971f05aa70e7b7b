/- Arguments opened: a map, a point, a box. Maps compared. -/
import Derived.Test.YtnoaomocdmkigaaRows
import Derived.Test.YtnoaomocdmkigaaAw
import Derived.Deep.Slices
import Derived.Deep.Fields
import Derived.ProofKit
import Derived.LaidMore
import Derived.Stop.Joined
import Derived.SizedLaws
namespace Go.Proofs.Ytnoaomocdmkigaa
open Go.ChangeShapes Go.WideShapes Go.ChangeAt Go.RowKit Go.Deep
open Pu Gp Ap

theorem wf_i64 {n : Int} (h : (Lit.int .i64 n).wf = true) : -9223372036854775808 ≤ n ∧ n ≤ 9223372036854775807 := by simpa [Lit.wf, IntKind.min, IntKind.max, IntKind.signed, IntKind.bits] using h
theorem cells_int : Try.prog.cellsOf 3 = 1 := by kernel_rfl
theorem cells_str : Try.prog.cellsOf 9 = 1 := by kernel_rfl
theorem cells_pt : Try.prog.cellsOf 36 = 2 := by kernel_rfl
theorem cells_bx : Try.prog.cellsOf 42 = 4 := by kernel_rfl
theorem cells_ar : Try.prog.cellsOf 24 = 3 := by kernel_rfl
theorem laidOut : laidOutB Try.prog = true := by kernel_rfl
theorem list2 {α : Type} {l : List α} (h : l.length = 2) : ∃ a b, l = [a, b] := by
  match l, h with
  | [a, b], _ => exact ⟨a, b, rfl⟩
theorem list3 {α : Type} {l : List α} (h : l.length = 3) : ∃ a b c, l = [a, b, c] := by
  match l, h with
  | [a, b, c], _ => exact ⟨a, b, c, rfl⟩
theorem list4 {α : Type} {l : List α} (h : l.length = 4) : ∃ a b c d, l = [a, b, c, d] := by
  match l, h with
  | [a, b, c, d], _ => exact ⟨a, b, c, d, rfl⟩
section
variable {H : Type} {enc : TypeId × Value → H} {w : World}
theorem pt_cells {fuel : Nat} {cs : List Value} {x : DataW H × List MemPlace} (hl : cs.length = 2) (h : DataW.trod enc Try.prog w 0 (fun _ => true) true fuel 36 cs = some x) : ∃ a b : Int, cs = [.int .i64 a, .int .i64 b] := by
  obtain ⟨x0, x1, rfl⟩ := list2 hl
  obtain ⟨xs, n, _, _, _, hlen, hfl⟩ := DataW.trod_struct Try.underlying36 h
  obtain ⟨z0, z1, rfl⟩ := list2 (l := xs) (by simpa using hlen)
  have g0 := hfl 0 _ rfl
  have g1 := hfl 1 _ rfl
  simp [cells_int] at g0 g1
  obtain ⟨a, e0, _, _⟩ := DataW.trod_int Try.underlying3 g0
  obtain ⟨b, e1, _, _⟩ := DataW.trod_int Try.underlying3 g1
  simp at e0 e1
  subst e0 e1
  exact ⟨a, b, rfl⟩
/-- A point that came in. -/
theorem open_pt {r : Reach} {b0 : Nat} {v : Value} {d : DataW H} {p : List MemPlace} (hv : Value.okWide Try.prog w r b0 36 v) (h : DataW.Trod enc Try.prog w 0 (fun _ => true) true 36 v d p) :
    ∃ x y : Int, v = pt x y := by
  obtain ⟨cs, rfl, hsz⟩ := okWide_struct Try.underlying36 hv
  obtain ⟨l⟩ := cs
  obtain ⟨fuel, hf⟩ := h
  obtain ⟨a, b, e⟩ := pt_cells (cs := l) (by simpa using hsz.trans cells_pt) (by simpa [Value.cells] using hf)
  subst e
  exact ⟨a, b, rfl⟩
/-- A box that came in. -/
theorem open_bx {r : Reach} {b0 : Nat} {v : Value} {d : DataW H} {p : List MemPlace} (hv : Value.okWide Try.prog w r b0 42 v) (h : DataW.Trod enc Try.prog w 0 (fun _ => true) true 42 v d p) :
    ∃ x y z u : Int, v = bx x y z u := by
  obtain ⟨cs, rfl, hsz⟩ := okWide_struct Try.underlying42 hv
  obtain ⟨l⟩ := cs
  obtain ⟨x0, x1, x2, x3, rfl⟩ := list4 (l := l) (by simpa using hsz.trans cells_bx)
  obtain ⟨fuel, hf⟩ := h
  obtain ⟨xs, n, _, _, _, hlen, hfl⟩ := DataW.trod_struct Try.underlying42 hf
  obtain ⟨z0, z1, rfl⟩ := list2 (l := xs) (by simpa using hlen)
  have g0 := hfl 0 _ rfl
  have g1 := hfl 1 _ rfl
  simp [Value.cells, cells_pt] at g0 g1
  obtain ⟨a, b, e0⟩ := pt_cells rfl g0
  obtain ⟨c, d, e1⟩ := pt_cells rfl g1
  simp at e0 e1
  obtain ⟨rfl, rfl⟩ := e0
  obtain ⟨rfl, rfl⟩ := e1
  exact ⟨a, b, c, d, rfl⟩
/-- A map that came in. -/
theorem open_ar {r : Reach} {b0 : Nat} {v : Value} {d : DataW H} {p : List MemPlace} (hv : Value.okWide Try.prog w r b0 24 v) (h : DataW.Trod enc Try.prog w 0 (fun _ => true) true 24 v d p) :
    ∃ (C R : Int) (s : ByteArray), v = ar C R s ∧ C ≤ 9223372036854775807 ∧ s.data.toList.length ∈ d.weights Try.prog 24 := by
  obtain ⟨cs, rfl, hsz⟩ := okWide_struct Try.underlying24 hv
  obtain ⟨l⟩ := cs
  obtain ⟨x0, x1, x2, rfl⟩ := list3 (l := l) (by simpa using hsz.trans cells_ar)
  obtain ⟨fuel, hf⟩ := h
  obtain ⟨xs, n, _, hx, _, hlen, hfl⟩ := DataW.trod_struct Try.underlying24 hf
  obtain ⟨z0, z1, z2, rfl⟩ := list3 (l := xs) (by simpa using hlen)
  have g0 := hfl 0 _ rfl
  have g1 := hfl 1 _ rfl
  have g2 := hfl 2 _ rfl
  simp [Value.cells, cells_int, cells_str] at g0 g1 g2
  obtain ⟨a, e0, _, w0⟩ := DataW.trod_int Try.underlying3 g0
  obtain ⟨b, e1, _, _⟩ := DataW.trod_int Try.underlying3 g1
  obtain ⟨s, e2, k2, _⟩ := DataW.trod_string Try.underlying9 g2
  simp at e0 e1 e2
  subst e0 e1 e2
  refine ⟨a, b, s, rfl, (wf_i64 w0).2, ?_⟩
  have hd : d = .agg ([z0, z1, z2].map (·.1)) := by simpa using congrArg (·.1) hx
  rw [hd]
  simp only [DataW.weights, Try.underlying24, List.map_cons, List.map_nil, DataW.weightsEach, k2]
  simp
end
theorem sized_ar {H : Type} {ts : List TypeId} {ds : List (DataW H)} (h : (DataW.weightsEach Try.prog ts ds).all (· ≤ reachBytes) = true) {j : Nat} {t : TypeId} {d : DataW H} {s : ByteArray} (ht : ts[j]? = some t) (hd : ds[j]? = some d) (hm : s.data.toList.length ∈ d.weights Try.prog t) : s.size ≤ 140737488355328 := by
  have := List.all_eq_true.1 h _ (DataW.weights_mem_each ht hd _ hm)
  have hr := reachBytes_lt
  have h2 : s.data.toList.length ≤ reachBytes := by simpa using this
  rw [Array.length_toList] at h2
  show s.data.size ≤ _
  omega
/-! ### Maps compared -/
theorem equal_ar (C R : Int) (s : ByteArray) (w : World) : (Op.equalIn 10000 24 (ar C R s) (ar C R s)).run Try.prog w = .ok true w := by
  rw [run_equalIn_struct w 9999 _ _ _ (by kernel_rfl) (by kernel_rfl)]
  have e : (Try.prog.fieldsOf 24) = #[⟨ "Cols", 3, 0, false, "", "", 0⟩, ⟨ "Rows", 3, 1, false, "", "", 8⟩, ⟨ "Signs", 9, 2, false, "", "", 16⟩] := by kernel_rfl
  rw [e]
  go_simp
theorem eql_ar (C R : Int) (s : ByteArray) (w : World) : (binOp .eql 24 (ar C R s) (ar C R s)).run Try.prog w = .ok (.bool true) w := by
  rw [run_eql_struct, equal_ar]; rfl
theorem neq_ar (C R : Int) (s : ByteArray) (w : World) : (binOp .neq 24 (ar C R s) (ar C R s)).run Try.prog w = .ok (.bool false) w := by
  rw [run_neq_struct, equal_ar]; rfl
theorem guard_ar (op : BinOp) (a b : Operand) (xs ys : Array Value) (w : World) : (eqGuard op 24 a b (.agg xs) (.agg ys)).run Try.prog w = .ok () w := run_eqGuard_agg w op _ a b xs ys (by kernel_rfl)
end Go.Proofs.Ytnoaomocdmkigaa
