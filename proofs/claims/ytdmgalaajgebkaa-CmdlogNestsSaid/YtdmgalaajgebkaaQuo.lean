/- Entries compared; the document's Same. -/
import Derived.Test.YtdmgalaajgebkaaQun
namespace Go.Proofs.Ytdmgalaajgebkaa
open Go.RowKit
set_option maxRecDepth 100000

def eqE (x y : En) : Bool := ((x.fr == y.fr) && ((x.pe == y.pe) && ((x.se == y.se) && ((x.vb == y.vb) && ((x.a == y.a) && ((x.b == y.b) && (x.c == y.c))))))) && (x.ms == y.ms)
theorem eqE_refl (x : En) : eqE x x = true := by unfold eqE; simp
theorem eqE_iff {x y : En} : eqE x y = true ↔ x = y := by
  obtain ⟨a1, a2, a3, a4, a5, a6, a7, a8⟩ := x
  obtain ⟨b1, b2, b3, b4, b5, b6, b7, b8⟩ := y
  unfold eqE
  simp
  constructor
  · rintro ⟨⟨h1, h2, h3, h4, h5, h6, h7⟩, h8⟩; exact ⟨h1, h2, h3, h4, h5, h6, h7, h8⟩
  · rintro ⟨h1, h2, h3, h4, h5, h6, h7, h8⟩; exact ⟨⟨h1, h2, h3, h4, h5, h6, h7⟩, h8⟩
theorem eqE_ne {x y : En} (h : x ≠ y) : eqE x y = false := by
  cases hb : eqE x y with
  | false => rfl
  | true => exact absurd (eqE_iff.1 hb) h
theorem equalE_int (d : Nat) (x y : Int) (w : World) : (Op.equalIn (d + 1) 3 (.int .i64 x) (.int .i64 y)).run Try.prog w = .ok (x == y) w := by
  go_simp
theorem equalE_i64 (d : Nat) (x y : Int) (w : World) : (Op.equalIn (d + 1) 2 (.int .i64 x) (.int .i64 y)).run Try.prog w = .ok (x == y) w := by
  go_simp
theorem stE {b c : Bool} {w : World} {R : Result Bool} (h : R = .ok c w) : (if (!b) = true then Result.ok false w else R) = .ok (b && c) w := by
  cases b <;> simp [h]
theorem stE1 (b : Bool) {w : World} : (if (!b) = true then Result.ok false w else Result.ok true w) = .ok b w := by
  cases b <;> rfl
/-- an order's cells -/
abbrev ocs (x : En) : Array Value := #[.int .i64 x.vb, .int .i64 x.a, .int .i64 x.b, .int .i64 x.c]
theorem opart (x : En) (w : World) : (part 3 (ocs x) 0).run Try.prog w = .ok (.int .i64 x.vb) w ∧ (part 3 (ocs x) 1).run Try.prog w = .ok (.int .i64 x.a) w ∧ (part 3 (ocs x) 2).run Try.prog w = .ok (.int .i64 x.b) w ∧ (part 3 (ocs x) 3).run Try.prog w = .ok (.int .i64 x.c) w := by
  refine ⟨?_, ?_, ?_, ?_⟩ <;> go_simp
theorem equal_oE (x y : En) (w : World) : (Op.equalIn 9998 28 (.agg (ocs x)) (.agg (ocs y))).run Try.prog w = .ok ((x.vb == y.vb) && ((x.a == y.a) && ((x.b == y.b) && (x.c == y.c)))) w := by
  have c0 := fun w => (opart x w).1
  have d0 := fun w => (opart y w).1
  have r0 := fun w => equalE_int 9996 x.vb y.vb w
  have c1 := fun w => (opart x w).2.1
  have d1 := fun w => (opart y w).2.1
  have r1 := fun w => equalE_int 9996 x.a y.a w
  have c2 := fun w => (opart x w).2.2.1
  have d2 := fun w => (opart y w).2.2.1
  have r2 := fun w => equalE_int 9996 x.b y.b w
  have c3 := fun w => (opart x w).2.2.2
  have d3 := fun w => (opart y w).2.2.2
  have r3 := fun w => equalE_int 9996 x.c y.c w
  rw [run_equalIn_struct w 9997 _ _ _ (by kernel_rfl) (by kernel_rfl)]
  have e : (Try.prog.fieldsOf 28) = #[⟨ "Verb", 3, 0, false, "", "", 0⟩, ⟨ "A", 3, 1, false, "", "", 8⟩, ⟨ "B", 3, 2, false, "", "", 16⟩, ⟨ "C", 3, 3, false, "", "", 24⟩] := by kernel_rfl
  rw [e]
  simp only [Op.eqFields, ne_eq, String.reduceEq, not_false_eq_true, if_true, Sem.run_bind, c0, c1, c2, c3, d0, d1, d2, d3, Result.andThen_ok, r0, r1, r2, r3, Sem.run_ite, Sem.run_pure]
  exact stE (stE (stE (stE1 _)))
theorem hpart (x : En) (w : World) : (part 2 (hcs x) 0).run Try.prog w = .ok (.int .i64 x.fr) w ∧ (part 3 (hcs x) 1).run Try.prog w = .ok (.int .i64 x.pe) w ∧ (part 3 (hcs x) 2).run Try.prog w = .ok (.int .i64 x.se) w ∧ (part 28 (hcs x) 3).run Try.prog w = .ok (.agg (ocs x)) w := by
  refine ⟨?_, ?_, ?_, ?_⟩ <;> go_simp
theorem equal_hE (x y : En) (w : World) : (Op.equalIn 9999 30 (.agg (hcs x)) (.agg (hcs y))).run Try.prog w = .ok ((x.fr == y.fr) && ((x.pe == y.pe) && ((x.se == y.se) && ((x.vb == y.vb) && ((x.a == y.a) && ((x.b == y.b) && (x.c == y.c))))))) w := by
  have c0 := fun w => (hpart x w).1
  have d0 := fun w => (hpart y w).1
  have r0 := fun w => equalE_i64 9997 x.fr y.fr w
  have c1 := fun w => (hpart x w).2.1
  have d1 := fun w => (hpart y w).2.1
  have r1 := fun w => equalE_int 9997 x.pe y.pe w
  have c2 := fun w => (hpart x w).2.2.1
  have d2 := fun w => (hpart y w).2.2.1
  have r2 := fun w => equalE_int 9997 x.se y.se w
  have c3 := fun w => (hpart x w).2.2.2
  have d3 := fun w => (hpart y w).2.2.2
  have r3 := fun w => equal_oE x y w
  rw [run_equalIn_struct w 9998 _ _ _ (by kernel_rfl) (by kernel_rfl)]
  have e : (Try.prog.fieldsOf 30) = #[⟨ "Frame", 2, 0, false, "", "", 0⟩, ⟨ "Peer", 3, 1, false, "", "", 8⟩, ⟨ "Seq", 3, 2, false, "", "", 16⟩, ⟨ "Order", 28, 3, false, "", "", 24⟩] := by kernel_rfl
  rw [e]
  simp only [Op.eqFields, ne_eq, String.reduceEq, not_false_eq_true, if_true, Sem.run_bind, c0, c1, c2, c3, d0, d1, d2, d3, Result.andThen_ok, r0, r1, r2, r3, Sem.run_ite, Sem.run_pure]
  exact stE (stE (stE (stE1 _)))
theorem epart (x : En) (w : World) : (part 30 (ecs x) 0).run Try.prog w = .ok (.agg (hcs x)) w ∧ (part 3 (ecs x) 7).run Try.prog w = .ok (.int .i64 x.ms) w := by
  refine ⟨?_, ?_⟩ <;> go_simp
theorem equal_ev (x y : En) (w : World) : (Op.equalIn 10000 44 (ev x) (ev y)).run Try.prog w = .ok (eqE x y) w := by
  have c0 := fun w => (epart x w).1
  have d0 := fun w => (epart y w).1
  have r0 := fun w => equal_hE x y w
  have c1 := fun w => (epart x w).2
  have d1 := fun w => (epart y w).2
  have r1 := fun w => equalE_int 9998 x.ms y.ms w
  rw [run_equalIn_struct w 9999 _ _ _ (by kernel_rfl) (by kernel_rfl)]
  have e : (Try.prog.fieldsOf 44) = #[⟨ "Command", 30, 0, false, "", "", 0⟩, ⟨ "Missed", 3, 7, false, "", "", 56⟩] := by kernel_rfl
  rw [e]
  simp only [Op.eqFields, ne_eq, String.reduceEq, not_false_eq_true, if_true, Sem.run_bind, c0, c1, d0, d1, Result.andThen_ok, r0, r1, Sem.run_ite, Sem.run_pure]
  unfold eqE
  exact stE (stE1 _)
theorem eql_ev (x y : En) (w : World) : (binOp .eql 44 (ev x) (ev y)).run Try.prog w = .ok (.bool (eqE x y)) w := by
  rw [run_eql_struct, equal_ev]; rfl
theorem neq_ev (x y : En) (w : World) : (binOp .neq 44 (ev x) (ev y)).run Try.prog w = .ok (.bool (!eqE x y)) w := by
  rw [run_neq_struct, equal_ev]; rfl
theorem eql_ev_t (x : En) (w : World) : (binOp .eql 44 (ev x) (ev x)).run Try.prog w = .ok (.bool true) w := by
  rw [eql_ev, eqE_refl]
theorem neq_ev_f (x : En) (w : World) : (binOp .neq 44 (ev x) (ev x)).run Try.prog w = .ok (.bool false) w := by
  rw [neq_ev, eqE_refl]; rfl
theorem guard_ev (op : BinOp) (a b : Operand) (xs ys : Array Value) (w : World) : (eqGuard op 44 a b (.agg xs) (.agg ys)).run Try.prog w = .ok () w := run_eqGuard_agg w op _ a b xs ys (by kernel_rfl)
set_option maxHeartbeats 2000000 in
/-- the document's Same of two rows that are the same -/
theorem rsame_t (L : List En) (ao bo : Option Addr) (n c1 c2 : Nat) (w : World) (ha : RdG KE w ao n L) (hb : RdG KE w bo n L) : Calls Try.prog 43 #[.slice ao n c1, .slice bo n c2] w fun e w' => e = .returned (.bool true) ∧ Still w w' := by
  have h47 := ha.2.1
  have HA := hid ha
  have HB := hid hb
  have hnn : ((n : Int) != (n : Int)) = false := by simp
  clear ha hb
  go_enter Try.func43, Try.ntmps43
  go_wp2_with fail
  go_loopw [5] (fun u wr => ∃ k : Nat, k ≤ n ∧ u = .int .i64 (k : Int) ∧ Hid (Still w wr)) (fun u _ => n - (intOf u).toNat)
  case atStart => exact ⟨0, by omega, rfl, hid (Fr.refl _ _)⟩
  case round =>
    obtain ⟨k, hk, rfl, HS⟩ := hrel
    by_cases hkn : k < n
    · have hlt : (k : Int) < (n : Int) := by omega
      obtain ⟨B1, o1, rfl⟩ := HA.out.at (by omega)
      obtain ⟨B2, o2, rfl⟩ := HB.out.at (by omega)
      obtain ⟨c0, c1', c2', c3, c4, c5, c6, c7⟩ := rdE (HA.out.still HS.out) hkn
      obtain ⟨d0, d1, d2, d3, d4, d5, d6, d7⟩ := rdE (HB.out.still HS.out) hkn
      obtain ⟨x, ex⟩ : ∃ x, att L k = x := ⟨_, rfl⟩
      rw [ex] at c0 c1' c2' c3 c4 c5 c6 c7 d0 d1 d2 d3 d4 d5 d6 d7
      clear ex
      have k0 := Cl.cell c0
      have k1 := Cl.cell c1'
      have k2 := Cl.cell c2'
      have k3 := Cl.cell c3
      have k4 := Cl.cell c4
      have k5 := Cl.cell c5
      have k6 := Cl.cell c6
      have k7 := Cl.cell c7
      have l0 := Cl.cell d0
      have l1 := Cl.cell d1
      have l2 := Cl.cell d2
      have l3 := Cl.cell d3
      have l4 := Cl.cell d4
      have l5 := Cl.cell d5
      have l6 := Cl.cell d6
      have l7 := Cl.cell d7
      have hne := Aft.here wr
      have hq := fun w => neq_ev_f x w
      have hg := fun a b w => guard_ev .neq a b (ecs x) (ecs x) w
      clear c0 c1' c2' c3 c4 c5 c6 c7 d0 d1 d2 d3 d4 d5 d6 d7
      go_upto_region 6 with fail
      refine region_all (by kernel_rfl) (by kernel_rfl) ?_
      repeat (go_big_quiet_step (fail))
      refine wpQuiet_nil ?_
      intro w3 h3
      have HS3 := hid (HS.out.trans h3)
      clear h3 hne k0 k1 k2 k3 k4 k5 k6 k7 l0 l1 l2 l3 l4 l5 l6 l7 hq hg
      go_wp2_with fail
      go_roundw
      case rel => exact ⟨k + 1, by omega, by go_num, HS3⟩
      case measure => simp [intOf]; omega
    · have hge : ¬ (k : Int) < (n : Int) := by omega
      go_wp2_with fail
      go_ret
      exact ⟨rfl, HS.out⟩
end Go.Proofs.Ytdmgalaajgebkaa
