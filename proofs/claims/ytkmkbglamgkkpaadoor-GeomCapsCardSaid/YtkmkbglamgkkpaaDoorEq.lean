/- Points and boxes compared. -/
import Derived.Test.YtkmkbglamgkkpaaDoorBd
import Derived.Laws.StructEq
namespace Go.Proofs.YtkmkbglamgkkpaaDoor
open Go.RowKit
open Pu Gp

theorem equal_pt (d : Nat) (x y z u : Int) (w : World) : (Op.equalIn (d + 2) 23 (pt x y) (pt z u)).run Tryd.prog w = .ok (x == z && y == u) w := by
  rw [run_equalIn_struct w (d + 1) _ _ _ (by kernel_rfl) (by kernel_rfl)]
  have e : (Tryd.prog.fieldsOf 23) = #[⟨ "X", 3, 0, false, "", "", 0⟩, ⟨ "Y", 3, 1, false, "", "", 8⟩] := by kernel_rfl
  rw [e]
  by_cases h1 : x = z
  · by_cases h2 : y = u
    · subst h1 h2
      go_simp
    · have h3 : (y == u) = false := by simpa using h2
      subst h1
      go_simp
  · have h3 : (x == z) = false := by simpa using h1
    go_simp
theorem equal_bx (x y z u x' y' z' u' : Int) (w : World) : (Op.equalIn 10000 35 (bx x y z u) (bx x' y' z' u')).run Tryd.prog w = .ok ((x == x' && y == y') && (z == z' && u == u')) w := by
  have q1 := fun w => equal_pt 9997 x y x' y' w
  have q2 := fun w => equal_pt 9997 z u z' u' w
  rw [run_equalIn_struct w 9999 _ _ _ (by kernel_rfl) (by kernel_rfl)]
  have e : (Tryd.prog.fieldsOf 35) = #[⟨ "Min", 23, 0, false, "", "", 0⟩, ⟨ "Max", 23, 2, false, "", "", 16⟩] := by kernel_rfl
  rw [e]
  have p1 : ∀ w, (part 23 #[.int .i64 x, .int .i64 y, .int .i64 z, .int .i64 u] 0).run Tryd.prog w = .ok (pt x y) w := fun w => by go_simp
  have p2 : ∀ w, (part 23 #[.int .i64 x, .int .i64 y, .int .i64 z, .int .i64 u] 2).run Tryd.prog w = .ok (pt z u) w := fun w => by go_simp
  have p3 : ∀ w, (part 23 #[.int .i64 x', .int .i64 y', .int .i64 z', .int .i64 u'] 0).run Tryd.prog w = .ok (pt x' y') w := fun w => by go_simp
  have p4 : ∀ w, (part 23 #[.int .i64 x', .int .i64 y', .int .i64 z', .int .i64 u'] 2).run Tryd.prog w = .ok (pt z' u') w := fun w => by go_simp
  simp only [Op.eqFields, ne_eq, String.reduceEq, not_false_eq_true, if_true, Sem.run_bind, p1, p2, p3, p4, Result.andThen_ok, q1, q2, Sem.run_ite, Sem.run_pure]
  cases (x == x' && y == y') <;> cases (z == z' && u == u') <;> rfl
theorem eql_pt (x y z u : Int) (w : World) : (binOp .eql 23 (pt x y) (pt z u)).run Tryd.prog w = .ok (.bool (x == z && y == u)) w := by
  rw [run_eql_struct, equal_pt 9998]; rfl
theorem neq_pt (x y z u : Int) (w : World) : (binOp .neq 23 (pt x y) (pt z u)).run Tryd.prog w = .ok (.bool (!(x == z && y == u))) w := by
  rw [run_neq_struct, equal_pt 9998]; rfl
theorem eql_bx (x y z u x' y' z' u' : Int) (w : World) : (binOp .eql 35 (bx x y z u) (bx x' y' z' u')).run Tryd.prog w = .ok (.bool ((x == x' && y == y') && (z == z' && u == u'))) w := by
  rw [run_eql_struct, equal_bx]; rfl
theorem neq_bx (x y z u x' y' z' u' : Int) (w : World) : (binOp .neq 35 (bx x y z u) (bx x' y' z' u')).run Tryd.prog w = .ok (.bool (!((x == x' && y == y') && (z == z' && u == u')))) w := by
  rw [run_neq_struct, equal_bx]; rfl
theorem guard_pt (op : BinOp) (a b : Operand) (xs ys : Array Value) (w : World) : (eqGuard op 23 a b (.agg xs) (.agg ys)).run Tryd.prog w = .ok () w := run_eqGuard_agg w op _ a b xs ys (by kernel_rfl)
theorem guard_bx (op : BinOp) (a b : Operand) (xs ys : Array Value) (w : World) : (eqGuard op 35 a b (.agg xs) (.agg ys)).run Tryd.prog w = .ok () w := run_eqGuard_agg w op _ a b xs ys (by kernel_rfl)
/-- the same, decided -/
theorem eql_pt_t {x y z u : Int} (h1 : x = z) (h2 : y = u) (w : World) : (binOp .eql 23 (pt x y) (pt z u)).run Tryd.prog w = .ok (.bool true) w := by
  rw [eql_pt, h1, h2]; simp
theorem eql_bx_t {x y z u x' y' z' u' : Int} (h1 : x = x') (h2 : y = y') (h3 : z = z') (h4 : u = u') (w : World) : (binOp .eql 35 (bx x y z u) (bx x' y' z' u')).run Tryd.prog w = .ok (.bool true) w := by
  rw [eql_bx, h1, h2, h3, h4]; simp
theorem neq_bx_f {x y z u x' y' z' u' : Int} (h : x = x' ∧ y = y' ∧ z = z' ∧ u = u') (w : World) : (binOp .neq 35 (bx x y z u) (bx x' y' z' u')).run Tryd.prog w = .ok (.bool false) w := by
  obtain ⟨h1, h2, h3, h4⟩ := h
  rw [neq_bx, h1, h2, h3, h4]; simp
theorem neq_bx_t {x y z u x' y' z' u' : Int} (h : ¬ (x = x' ∧ y = y' ∧ z = z' ∧ u = u')) (w : World) : (binOp .neq 35 (bx x y z u) (bx x' y' z' u')).run Tryd.prog w = .ok (.bool true) w := by
  rw [neq_bx]
  have : ((x == x' && y == y') && (z == z' && u == u')) = false := by
    cases hb : ((x == x' && y == y') && (z == z' && u == u')) with
    | false => rfl
    | true =>
      simp at hb
      exact absurd ⟨hb.1.1, hb.1.2, hb.2.1, hb.2.2⟩ h
  rw [this]; rfl
theorem neq_pt_f {x y z u : Int} (h : x = z ∧ y = u) (w : World) : (binOp .neq 23 (pt x y) (pt z u)).run Tryd.prog w = .ok (.bool false) w := by
  obtain ⟨h1, h2⟩ := h
  rw [neq_pt, h1, h2]; simp
theorem neq_pt_t {x y z u : Int} (h : ¬ (x = z ∧ y = u)) (w : World) : (binOp .neq 23 (pt x y) (pt z u)).run Tryd.prog w = .ok (.bool true) w := by
  rw [neq_pt]
  have : (x == z && y == u) = false := by
    cases hb : (x == z && y == u) with
    | false => rfl
    | true => simp at hb; exact absurd hb h
  rw [this]; rfl
end Go.Proofs.YtkmkbglamgkkpaaDoor
