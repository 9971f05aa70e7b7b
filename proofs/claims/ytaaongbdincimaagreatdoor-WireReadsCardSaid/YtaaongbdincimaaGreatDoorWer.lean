/- errors.Is at a variable that errors.New made; which number an error has. -/
import Derived.Test.YtaaongbdincimaaGreatDoorWrh
import Derived.WalkKit
import Derived.LaidEql
import Derived.Stop.Asserts
import Derived.RowKitTokens
namespace Go.Proofs.YtaaongbdincimaaGreatDoor
open Go.RowKit Go.Extern.Stop Go.Stop Go.Extern
set_option maxRecDepth 100000
set_option linter.unusedVariables false

theorem er_typeOf (v : Value) (w : World) : (Extern.ReflectliteType.typeOf #[.iface 159 v]).run Tryz.prog w = .ok (.iface 128 (.agg #[.pointer (some ⟨7, 159, none⟩)])) w := by kernel_rfl
def cmpX : Array Value → Sem Value := Extern.ReflectliteType.method fun t => do Extern.Rtype.noPackHeld "Comparable" t; pure (.bool (← typeInfo t).comparable)
theorem er_find : Extern.find Tryz.f123 = some cmpX := by kernel_rfl
theorem er_cmp (w : World) : (cmpX #[.agg #[.pointer (some ⟨7, 159, none⟩)]]).run Tryz.prog w = .ok (.bool true) w := by kernel_rfl
theorem er_call (w : World) : (callFunc 123 #[.agg #[.pointer (some ⟨7, 159, none⟩)]]).run Tryz.prog w = .ok (.value (.bool true)) w := by
  rw [@run_callFunc_extern Tryz.prog 123 _ cmpX Tryz.func123 (by kernel_rfl) (by kernel_rfl) (by kernel_rfl) er_find, er_cmp]
  rfl
theorem er_meth (v : Value) (w : World) : (Go.method 297 128 v "Comparable").run Tryz.prog w = .ok (123, v) w := by kernel_rfl
theorem er_comp : (Tryz.prog.info? 159).map (·.comparable) = some true := by kernel_rfl
theorem er_size : (Tryz.prog.info? 185).map (·.size) = some 1 := by kernel_rfl
theorem er_noIs (v : Value) (xT : TypeId) (w : World) : (Instr.typeAssert (.iface 159 v) xT 130 true).run Tryz.prog w = .ok (.tuple #[.nilIface, .bool false]) w := run_typeAssert_lacksB Tryz.underlying130 (by kernel_rfl) (by kernel_rfl) v xT w
theorem er_noUn (v : Value) (xT : TypeId) (w : World) : (Instr.typeAssert (.iface 159 v) xT 133 true).run Tryz.prog w = .ok (.tuple #[.nilIface, .bool false]) w := run_typeAssert_lacksB Tryz.underlying133 (by kernel_rfl) (by kernel_rfl) v xT w
theorem er_noUs (v : Value) (xT : TypeId) (w : World) : (Instr.typeAssert (.iface 159 v) xT 134 true).run Tryz.prog w = .ok (.tuple #[.nilIface, .bool false]) w := run_typeAssert_lacksB Tryz.underlying134 (by kernel_rfl) (by kernel_rfl) v xT w
theorem eis_same (a : Addr) (w : World) : Calls Tryz.prog 49 #[efv a, efv a] w fun e w' => e = .returned (.bool true) ∧ w' = w := by
  obtain ⟨i, hi, hcmp⟩ := Option.map_eq_some_iff.1 er_comp
  obtain ⟨j, hj, hjs⟩ := Option.map_eq_some_iff.1 er_size
  have h8 := @run_callFunc_extern Tryz.prog 73 _ Extern.ReflectliteType.typeOf Tryz.func73 (by kernel_rfl) (by kernel_rfl) (by kernel_rfl) (by kernel_rfl)
  have h32 := er_call
  have tT := er_typeOf
  have mR := er_meth
  have heq := run_eql_iface_ptr_same (P := Tryz.prog) w a Tryz.underlying57 Tryz.underlying159 hi hcmp hj
  go_enter Tryz.func49, Tryz.ntmps49
  go_wp2
  refine wp_loop_rounds 1 ?_
  rw [rounds_succ]
  go_wp2
  go_ret
  exact ⟨rfl, rfl⟩
theorem eis_nil (b : Addr) (w : World) : Calls Tryz.prog 49 #[.nilIface, efv b] w fun e w' => e = .returned (.bool false) ∧ w' = w := by
  have hn := run_eql_iface_nil_left (P := Tryz.prog) w 159 (.pointer (some b)) Tryz.underlying57
  go_enter Tryz.func49, Tryz.ntmps49
  go_wp2
  go_ret
  exact ⟨rfl, rfl⟩
theorem eis_other (a b : Addr) (ca cb : Array Value) (ta tb : TypeId) (w : World) (hne : a ≠ b) (ha : w.heap[a.block]? = some (.cells ca ta (0, 0))) (hb : w.heap[b.block]? = some (.cells cb tb (0, 0))) :
    Calls Tryz.prog 49 #[efv a, efv b] w fun e w' => e = .returned (.bool false) ∧ w' = w := by
  obtain ⟨i, hi, hcmp⟩ := Option.map_eq_some_iff.1 er_comp
  obtain ⟨j, hj, hjs⟩ := Option.map_eq_some_iff.1 er_size
  have h8 := @run_callFunc_extern Tryz.prog 73 _ Extern.ReflectliteType.typeOf Tryz.func73 (by kernel_rfl) (by kernel_rfl) (by kernel_rfl) (by kernel_rfl)
  have h32 := er_call
  have tT := er_typeOf
  have mR := er_meth
  have nE := er_noIs
  have uE := er_noUn
  have vE := er_noUs
  have heq := run_eql_iface_ptr_other (P := Tryz.prog) w Tryz.underlying57 Tryz.underlying159 hi hcmp hj (by rw [hjs]; decide) hne ha hb
  go_enter Tryz.func49, Tryz.ntmps49
  go_wp2
  refine wp_loop_rounds 1 ?_
  rw [rounds_succ]
  go_wp2
  go_ret
  exact ⟨rfl, rfl⟩
/-- the three errors: their variables, and that no two are one -/
structure ETab (w : World) (B : Nat) (a0 a1 a2 : Addr) : Prop where
  g0 : w.cell? ⟨0, 0, none⟩ = some (efv a0)
  g1 : w.cell? ⟨1, 0, none⟩ = some (efv a1)
  g2 : w.cell? ⟨2, 0, none⟩ = some (efv a2)
  b0 : ∃ c t, w.heap[a0.block]? = some (.cells c t (0, 0))
  b1 : ∃ c t, w.heap[a1.block]? = some (.cells c t (0, 0))
  b2 : ∃ c t, w.heap[a2.block]? = some (.cells c t (0, 0))
  n01 : a0 ≠ a1
  n02 : a0 ≠ a2
  n12 : a1 ≠ a2
  lt : (a0.block < B ∧ a1.block < B ∧ a2.block < B) ∧ 0 < B ∧ 1 < B ∧ 2 < B
theorem ETab.on {F : Nat → Prop} {w w' : World} {B : Nat} {a0 a1 a2 : Addr} (h : ETab w B a0 a1 a2) (hf : Fr F w w') (hn : ∀ k, k < B → ¬ F k) : ETab w' B a0 a1 a2 := by
  obtain ⟨c0, t0, k0⟩ := h.b0
  obtain ⟨c1, t1, k1⟩ := h.b1
  obtain ⟨c2, t2, k2⟩ := h.b2
  exact ⟨(hf.cell (World.block_lt_of_cell? w _ h.g0) (hn _ h.lt.2.1)).trans h.g0, (hf.cell (World.block_lt_of_cell? w _ h.g1) (hn _ h.lt.2.2.1)).trans h.g1, (hf.cell (World.block_lt_of_cell? w _ h.g2) (hn _ h.lt.2.2.2)).trans h.g2, ⟨c0, t0, hf.kept k0 (hn _ h.lt.1.1)⟩, ⟨c1, t1, hf.kept k1 (hn _ h.lt.1.2.1)⟩, ⟨c2, t2, hf.kept k2 (hn _ h.lt.1.2.2)⟩, h.n01, h.n02, h.n12, h.lt⟩
theorem ETab.still {w w' : World} {B : Nat} {a0 a1 a2 : Addr} (h : ETab w B a0 a1 a2) (hs : Still w w') : ETab w' B a0 a1 a2 := h.on hs (fun _ _ e => e)
theorem ETab.up {w : World} {B B' : Nat} {a0 a1 a2 : Addr} (h : ETab w B a0 a1 a2) (hb : B ≤ B') : ETab w B' a0 a1 a2 := ⟨h.g0, h.g1, h.g2, h.b0, h.b1, h.b2, h.n01, h.n02, h.n12, by have := h.lt; omega⟩
theorem told_0 (B : Nat) (a0 a1 a2 : Addr) (w : World) (h : ETab w B a0 a1 a2) : Calls Tryz.prog 27 #[.nilIface] w fun e w' => e = .returned (.int .i64 0) ∧ w' = w := by
  have g0 := h.g0
  have g1 := h.g1
  have g2 := h.g2
  have H0 := hid (eis_nil a0 w)
  have H1 := hid (eis_nil a1 w)
  have H2 := hid (eis_nil a2 w)
  go_enter Tryz.func27, Tryz.ntmps27
  go_wp2_with fail
  refine H0.out.mono ?_
  rintro e w1 ⟨he, e1⟩
  rw [he, e1]
  clear he e1 H0
  go_wp2_with fail
  refine H1.out.mono ?_
  rintro e w2 ⟨he, e1⟩
  rw [he, e1]
  clear he e1 H1
  go_wp2_with fail
  refine H2.out.mono ?_
  rintro e w3 ⟨he, e1⟩
  rw [he, e1]
  clear he e1 H2
  go_wp2_with fail
  go_ret
  exact ⟨rfl, rfl⟩
theorem told_form (B : Nat) (a0 a1 a2 : Addr) (w : World) (h : ETab w B a0 a1 a2) : Calls Tryz.prog 27 #[efv a0] w fun e w' => e = .returned (.int .i64 160) ∧ w' = w := by
  have g0 := h.g0
  have H0 := hid (eis_same a0 w)
  go_enter Tryz.func27, Tryz.ntmps27
  go_wp2_with fail
  refine H0.out.mono ?_
  rintro e w1 ⟨he, e1⟩
  rw [he, e1]
  clear he e1 H0
  go_wp2_with fail
  go_ret
  exact ⟨rfl, rfl⟩
theorem told_sum (B : Nat) (a0 a1 a2 : Addr) (w : World) (h : ETab w B a0 a1 a2) : Calls Tryz.prog 27 #[efv a1] w fun e w' => e = .returned (.int .i64 161) ∧ w' = w := by
  have g0 := h.g0
  have g1 := h.g1
  obtain ⟨c0, t0, k0⟩ := h.b0
  obtain ⟨c1, t1, k1⟩ := h.b1
  have H0 := hid (eis_other a1 a0 _ _ _ _ w h.n01.symm k1 k0)
  have H1 := hid (eis_same a1 w)
  clear k0 k1
  go_enter Tryz.func27, Tryz.ntmps27
  go_wp2_with fail
  refine H0.out.mono ?_
  rintro e w1 ⟨he, e1⟩
  rw [he, e1]
  clear he e1 H0
  go_wp2_with fail
  refine H1.out.mono ?_
  rintro e w2 ⟨he, e1⟩
  rw [he, e1]
  clear he e1 H1
  go_wp2_with fail
  go_ret
  exact ⟨rfl, rfl⟩
theorem told_data (B : Nat) (a0 a1 a2 : Addr) (w : World) (h : ETab w B a0 a1 a2) : Calls Tryz.prog 27 #[efv a2] w fun e w' => e = .returned (.int .i64 162) ∧ w' = w := by
  have g0 := h.g0
  have g1 := h.g1
  have g2 := h.g2
  obtain ⟨c0, t0, k0⟩ := h.b0
  obtain ⟨c1, t1, k1⟩ := h.b1
  obtain ⟨c2, t2, k2⟩ := h.b2
  have H0 := hid (eis_other a2 a0 _ _ _ _ w h.n02.symm k2 k0)
  have H1 := hid (eis_other a2 a1 _ _ _ _ w h.n12.symm k2 k1)
  have H2 := hid (eis_same a2 w)
  clear k0 k1 k2
  go_enter Tryz.func27, Tryz.ntmps27
  go_wp2_with fail
  refine H0.out.mono ?_
  rintro e w1 ⟨he, e1⟩
  rw [he, e1]
  clear he e1 H0
  go_wp2_with fail
  refine H1.out.mono ?_
  rintro e w2 ⟨he, e1⟩
  rw [he, e1]
  clear he e1 H1
  go_wp2_with fail
  refine H2.out.mono ?_
  rintro e w3 ⟨he, e1⟩
  rw [he, e1]
  clear he e1 H2
  go_wp2_with fail
  go_ret
  exact ⟨rfl, rfl⟩
end Go.Proofs.YtaaongbdincimaaGreatDoor
