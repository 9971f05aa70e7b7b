/- What the laws ask of the program's functions, as one bundle; orders compared; the examples; the laws on checks and reads. -/
import Derived.Test.YtlaehphhfeoklaaDoorVs
import Derived.Laws.StructEq
namespace Go.Proofs.YtlaehphhfeoklaaDoor
open Go.RowKit
open Vp
set_option maxRecDepth 100000

/-- The program's functions answer as the plain words say, in whatever world follows w. -/
structure Cts (w : World) : Prop where
  cnt : ∀ u, Still w u → Calls Tryd.prog 14 #[] u fun e w' => e = .returned (.int .i64 7) ∧ Still u w'
  nam : ∀ v u, Still w u → Calls Tryd.prog 12 #[.int .i64 v] u fun e w' => e = .returned (.string (nmV v)) ∧ Still u w'
  ops : ∀ v u, Still w u → Calls Tryd.prog 9 #[.int .i64 v] u fun e w' => ∃ x, e = .returned x ∧ OwO w' u.heap.size x (opV v) ∧ Still u w'
  chk : ∀ v a b c u, Still w u → Calls Tryd.prog 15 #[od v a b c] u fun e w' => e = .returned (.int .i64 (chkO v a b c)) ∧ Still u w'
  prt : ∀ v a b c u, Still w u → Calls Tryd.prog 17 #[od v a b c] u fun e w' => e = .returned (.tuple #[.string (prnO v a b c), .int .i64 (chkO v a b c)]) ∧ Still u w'
  par : ∀ (s : ByteArray) u, s.size ≤ 140737488355328 → Still w u → Calls Tryd.prog 19 #[.string s] u fun e w' => ∃ v a b c x, e = .returned (.tuple #[od v a b c, .int .i64 x]) ∧ PV s v a b c x ∧ Still u w'
theorem Cts.still {w w' : World} (h : Cts w) (hs : Still w w') : Cts w' :=
  ⟨fun u k => h.cnt u (hs.trans k), fun v u k => h.nam v u (hs.trans k), fun v u k => h.ops v u (hs.trans k), fun v a b c u k => h.chk v a b c u (hs.trans k), fun v a b c u k => h.prt v a b c u (hs.trans k), fun s u z k => h.par s u z (hs.trans k)⟩
theorem equal_or (v a b c v' a' b' c' : Int) (w : World) : (Op.equalIn 10000 32 (od v a b c) (od v' a' b' c')).run Tryd.prog w = .ok (v == v' && (a == a' && (b == b' && c == c'))) w := by
  rw [run_equalIn_struct w 9999 _ _ _ (by kernel_rfl) (by kernel_rfl)]
  have e : (Tryd.prog.fieldsOf 32) = #[⟨ "Verb", 3, 0, false, "", "", 0⟩, ⟨ "A", 3, 1, false, "", "", 8⟩, ⟨ "B", 3, 2, false, "", "", 16⟩, ⟨ "C", 3, 3, false, "", "", 24⟩] := by kernel_rfl
  rw [e]
  cases h1 : (v == v') <;> cases h2 : (a == a') <;> cases h3 : (b == b') <;> cases h4 : (c == c') <;> simp at h1 h2 h3 h4 <;> go_simp
theorem eql_or_t (v a b c : Int) (w : World) : (binOp .eql 32 (od v a b c) (od v a b c)).run Tryd.prog w = .ok (.bool true) w := by
  rw [run_eql_struct, equal_or]; simp
theorem guard_or (op : BinOp) (a b : Operand) (xs ys : Array Value) (w : World) : (eqGuard op 32 a b (.agg xs) (.agg ys)).run Tryd.prog w = .ok () w := run_eqGuard_agg w op _ a b xs ys (by kernel_rfl)
def fire2 : ByteArray := ⟨#[102, 105, 114, 101, 32, 50]⟩
theorem pv_fire : PV ⟨#[102, 105, 114, 101, 32, 50]⟩ 4 2 0 0 0 := .inl ⟨rfl, by decide, by decide⟩
theorem aw_prn : prnO 1 (-8) 8 0 = ⟨#[115, 116, 101, 101, 114, 32, 45, 56, 32, 56]⟩ := by decide
theorem aw_chk : chkO 1 (-8) 8 0 = 0 ∧ chkO 1 9 0 0 = 71 := by decide
theorem aw_nam : nmV 1 = ⟨#[115, 116, 101, 101, 114]⟩ := by decide
set_option maxHeartbeats 4000000 in
theorem awake_any (w : World) (C : Cts w) : Calls Tryd.prog 8 #[] w fun e w' => e = .returned (.bool true) ∧ Still w w' := by
  have K1 := eql_or_t 4 2 0 0
  have G1 := guard_or
  go_enter Tryd.func8, Tryd.ntmps8
  go_wp2_with fail
  refine (C.par _ _ (by decide) (Fr.refl _ _)).mono ?_
  rintro e w1 ⟨v, a, b, c, x, rfl, hp, h1⟩
  obtain ⟨rfl, rfl, rfl, rfl, rfl⟩ := pv_one hp pv_fire
  have p1 := newO_orb w1 4 2 0 0
  have HS1 := hid (h1.trans (Still.alloc w1 (.cells #[.int .i64 4, .int .i64 2, .int .i64 0, .int .i64 0] 32)))
  clear hp h1
  go_wp2_with fail
  refine (C.prt 1 (-8) 8 0 _ HS1.out).mono ?_
  rintro e w2 ⟨rfl, h2⟩
  rw [aw_prn, aw_chk.1]
  have p2 := p1.still h2
  have HS2 := hid (HS1.out.trans h2)
  clear HS1 h2 p1
  go_wp2_with fail
  refine (C.chk 1 9 0 0 _ HS2.out).mono ?_
  rintro e w3 ⟨rfl, h3⟩
  rw [aw_chk.2]
  have p3 := p2.still h3
  have HS3 := hid (HS2.out.trans h3)
  clear HS2 h3 p2
  go_wp2_with fail
  refine (C.cnt _ HS3.out).mono ?_
  rintro e w4 ⟨rfl, h4⟩
  have p4 := p3.still h4
  have HS4 := hid (HS3.out.trans h4)
  clear HS3 h4 p3
  go_wp2_with fail
  refine (C.nam 1 _ HS4.out).mono ?_
  rintro e w5 ⟨rfl, h5⟩
  rw [aw_nam]
  have p5 := p4.still h5
  have HS5 := hid (HS4.out.trans h5)
  clear HS4 h5 p4
  obtain ⟨c0, c1, c2, c3, cf⟩ := p5.cells
  go_wp2_with fail
  go_ret
  exact ⟨rfl, HS5.out⟩
set_option maxHeartbeats 4000000 in
theorem reads_law (s : ByteArray) (hz : s.size ≤ 140737488355328) (w : World) (C : Cts w) (ht : RTab w) (hN : NTab w) : Calls Tryd.prog 6 #[.string s] w fun e w' => e = .returned (.bool true) ∧ Still w w' := by
  have G1 := guard_or
  go_enter Tryd.func6, Tryd.ntmps6
  go_wp2_with fail
  refine (awake_any _ C).mono ?_
  rintro e w1 ⟨rfl, h1⟩
  go_wp2_with fail
  refine (C.par s _ hz h1).mono ?_
  rintro e w2 ⟨v, a, b, c, x, rfl, hp, h2⟩
  have p2 := newO_orb w2 v a b c
  have HS2 := hid ((h1.trans h2).trans (Still.alloc w2 (.cells #[.int .i64 v, .int .i64 a, .int .i64 b, .int .i64 c] 32)))
  clear h1 h2
  go_wp2_with fail
  refine (rpar_any s _ (ht.still HS2.out) (hN.still HS2.out)).mono ?_
  rintro e w3 ⟨v', a', b', c', x', rfl, hp', h3⟩
  obtain ⟨rfl, rfl, rfl, rfl, rfl⟩ := pv_one hp hp'
  have A3 := Still.alloc w3 (.cells #[.int .i64 v, .int .i64 a, .int .i64 b, .int .i64 c] 32)
  have p3 := (p2.still h3).still A3
  have q3 := newO_orb w3 v a b c
  have HS3 := hid ((HS2.out.trans h3).trans A3)
  have K1 := eql_or_t v a b c
  clear HS2 h3 p2 A3 hp hp'
  obtain ⟨c0, c1, c2, c3, cf⟩ := p3.cells
  obtain ⟨d0, d1, d2, d3, df⟩ := q3.cells
  go_wp2_with fail
  go_ret
  exact ⟨rfl, HS3.out⟩
set_option maxHeartbeats 4000000 in
theorem checks_law (v a b c : Int) (w : World) (C : Cts w) (ht : RTab w) : Calls Tryd.prog 4 #[od v a b c] w fun e w' => e = .returned (.bool true) ∧ Still w w' := by
  have p := newO_orb w v a b c
  have HS0 := hid (Still.alloc w (.cells #[.int .i64 v, .int .i64 a, .int .i64 b, .int .i64 c] 32))
  go_enter Tryd.func4, Tryd.ntmps4
  go_wp2_with fail
  refine (awake_any _ (C.still HS0.out)).mono ?_
  rintro e w1 ⟨rfl, h1⟩
  have p1 := p.still h1
  have HS1 := hid (HS0.out.trans h1)
  have HC := hid (C.still HS1.out)
  have HT := hid (ht.still HS1.out)
  have c0 := Cl.cell p1.cells.1
  have c1 := Cl.cell p1.cells.2.1
  have c2 := Cl.cell p1.cells.2.2.1
  have c3 := Cl.cell p1.cells.2.2.2.1
  have hne := Aft.here w1
  have H1 := hid (fun z : Aft w1 => HC.out.chk v a b c z.u z.s)
  have H2 := hid (fun z : Aft w1 => rchk_any v a b c z.u (HT.out.still z.s))
  obtain ⟨x, ex⟩ : ∃ x, chkO v a b c = x := ⟨_, rfl⟩
  rw [ex] at H1 H2
  clear ex h1 HS0 p
  go_wp2_with fail
  refine region_all (by kernel_rfl) (by kernel_rfl) ?_
  repeat (go_big_quiet_step ((first | (go_at_call 15; exact Calls.cl (H1.out _)) | (go_at_call 16; exact Calls.cl (H2.out _)))))
  refine wpQuiet_nil ?_
  intro w2 h2
  go_wp2_with fail
  go_ret
  exact ⟨rfl, HS1.out.trans h2⟩
end Go.Proofs.YtlaehphhfeoklaaDoor
