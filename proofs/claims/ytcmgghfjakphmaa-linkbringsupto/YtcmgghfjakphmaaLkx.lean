/- Commands compared; the law's own; the document's SameCommands, Same. -/
import Derived.Test.YtcmgghfjakphmaaLkp
import Derived.Laws.StructEq
namespace Go.Proofs.Ytcmgghfjakphmaa
open Go.RowKit
open Wp Vp Lp
set_option maxRecDepth 100000
set_option linter.unusedVariables false
set_option linter.unusedSimpArgs false

theorem eqI_int (d : Nat) (x y : Int) (w : World) : (Op.equalIn (d + 1) 3 (.int .i64 x) (.int .i64 y)).run Try.prog w = .ok (x == y) w := by
  go_simp
theorem eqI_i64 (d : Nat) (x y : Int) (w : World) : (Op.equalIn (d + 1) 2 (.int .i64 x) (.int .i64 y)).run Try.prog w = .ok (x == y) w := by
  go_simp
theorem stC {b c : Bool} {w : World} {R : Result Bool} (h : R = .ok c w) : (if (!b) = true then Result.ok false w else R) = .ok (b && c) w := by
  cases b <;> simp [h]
theorem stC1 (b : Bool) {w : World} : (if (!b) = true then Result.ok false w else Result.ok true w) = .ok b w := by
  cases b <;> rfl
abbrev odc (x : Cc) : Array Value := #[.int .i64 x.v, .int .i64 x.a, .int .i64 x.b, .int .i64 x.c]
theorem odpart (x : Cc) (w : World) : (part 3 (odc x) 0).run Try.prog w = .ok (.int .i64 x.v) w ∧ (part 3 (odc x) 1).run Try.prog w = .ok (.int .i64 x.a) w ∧ (part 3 (odc x) 2).run Try.prog w = .ok (.int .i64 x.b) w ∧ (part 3 (odc x) 3).run Try.prog w = .ok (.int .i64 x.c) w := by
  refine ⟨?_, ?_, ?_, ?_⟩ <;> go_simp
theorem equal_od (x y : Cc) (w : World) : (Op.equalIn 9999 34 (.agg (odc x)) (.agg (odc y))).run Try.prog w = .ok ((x.v == y.v) && ((x.a == y.a) && ((x.b == y.b) && (x.c == y.c)))) w := by
  have c0 := fun w => (odpart x w).1
  have d0 := fun w => (odpart y w).1
  have r0 := fun w => eqI_int 9997 x.v y.v w
  have c1 := fun w => (odpart x w).2.1
  have d1 := fun w => (odpart y w).2.1
  have r1 := fun w => eqI_int 9997 x.a y.a w
  have c2 := fun w => (odpart x w).2.2.1
  have d2 := fun w => (odpart y w).2.2.1
  have r2 := fun w => eqI_int 9997 x.b y.b w
  have c3 := fun w => (odpart x w).2.2.2
  have d3 := fun w => (odpart y w).2.2.2
  have r3 := fun w => eqI_int 9997 x.c y.c w
  rw [run_equalIn_struct w 9998 _ _ _ (by kernel_rfl) (by kernel_rfl)]
  have e : (Try.prog.fieldsOf 34) = #[⟨ "Verb", 3, 0, false, "", "", 0⟩, ⟨ "A", 3, 1, false, "", "", 8⟩, ⟨ "B", 3, 2, false, "", "", 16⟩, ⟨ "C", 3, 3, false, "", "", 24⟩] := by kernel_rfl
  rw [e]
  simp only [Op.eqFields, ne_eq, String.reduceEq, not_false_eq_true, if_true, Sem.run_bind, c0, c1, c2, c3, d0, d1, d2, d3, Result.andThen_ok, r0, r1, r2, r3, Sem.run_ite, Sem.run_pure]
  exact stC (stC (stC (stC1 _)))
theorem kmpart (x : Cc) (w : World) : (part 2 (kmc x) 0).run Try.prog w = .ok (.int .i64 x.fr) w ∧ (part 3 (kmc x) 1).run Try.prog w = .ok (.int .i64 x.pe) w ∧ (part 3 (kmc x) 2).run Try.prog w = .ok (.int .i64 x.sq) w ∧ (part 34 (kmc x) 3).run Try.prog w = .ok (.agg (odc x)) w := by
  refine ⟨?_, ?_, ?_, ?_⟩ <;> go_simp
def eqCc (x y : Cc) : Bool := (x.fr == y.fr) && ((x.pe == y.pe) && ((x.sq == y.sq) && ((x.v == y.v) && ((x.a == y.a) && ((x.b == y.b) && (x.c == y.c))))))
theorem eqCc_refl (x : Cc) : eqCc x x = true := by unfold eqCc; simp
theorem equal_km (x y : Cc) (w : World) : (Op.equalIn 10000 47 (kmv x) (kmv y)).run Try.prog w = .ok (eqCc x y) w := by
  have c0 := fun w => (kmpart x w).1
  have d0 := fun w => (kmpart y w).1
  have r0 := fun w => eqI_i64 9998 x.fr y.fr w
  have c1 := fun w => (kmpart x w).2.1
  have d1 := fun w => (kmpart y w).2.1
  have r1 := fun w => eqI_int 9998 x.pe y.pe w
  have c2 := fun w => (kmpart x w).2.2.1
  have d2 := fun w => (kmpart y w).2.2.1
  have r2 := fun w => eqI_int 9998 x.sq y.sq w
  have c3 := fun w => (kmpart x w).2.2.2
  have d3 := fun w => (kmpart y w).2.2.2
  have r3 := fun w => equal_od x y w
  rw [run_equalIn_struct w 9999 _ _ _ (by kernel_rfl) (by kernel_rfl)]
  have e : (Try.prog.fieldsOf 47) = #[⟨ "Frame", 2, 0, false, "", "", 0⟩, ⟨ "Peer", 3, 1, false, "", "", 8⟩, ⟨ "Seq", 3, 2, false, "", "", 16⟩, ⟨ "Order", 34, 3, false, "", "", 24⟩] := by kernel_rfl
  rw [e]
  simp only [Op.eqFields, ne_eq, String.reduceEq, not_false_eq_true, if_true, Sem.run_bind, c0, c1, c2, c3, d0, d1, d2, d3, Result.andThen_ok, r0, r1, r2, r3, Sem.run_ite, Sem.run_pure]
  unfold eqCc
  exact stC (stC (stC (stC1 _)))
theorem eql_km_t (x : Cc) (w : World) : (binOp .eql 47 (kmv x) (kmv x)).run Try.prog w = .ok (.bool true) w := by
  rw [run_eql_struct, equal_km, eqCc_refl]; rfl
theorem neq_km_f (x : Cc) (w : World) : (binOp .neq 47 (kmv x) (kmv x)).run Try.prog w = .ok (.bool false) w := by
  rw [run_neq_struct, equal_km, eqCc_refl]; rfl
theorem guard_km (op : BinOp) (a b : Operand) (xs ys : Array Value) (w : World) : (eqGuard op 47 a b (.agg xs) (.agg ys)).run Try.prog w = .ok () w := run_eqGuard_agg w op _ a b xs ys (by kernel_rfl)
set_option maxHeartbeats 4000000 in
theorem rsamc_t (L : List Cc) (ao bo : Option Addr) (n c1 c2 : Nat) (w : World) (ha : RdG KCc w ao n L) (hb : RdG KCc w bo n L) : Calls Try.prog 15 #[.slice ao n c1, .slice bo n c2] w fun e w' => e = .returned (.bool true) ∧ Still w w' := by
  have h47 := ha.2.1
  have HA := hid ha
  have HB := hid hb
  have hnn : ((n : Int) != (n : Int)) = false := by simp
  clear ha hb
  go_enter Try.func15, Try.ntmps15
  go_wp2_with fail
  go_loopw [5] (fun u wr => ∃ k : Nat, k ≤ n ∧ u = .int .i64 (k : Int) ∧ Hid (Still w wr)) (fun u _ => n - (intOf u).toNat)
  case atStart => exact ⟨0, by omega, rfl, hid (Fr.refl _ _)⟩
  case round =>
    obtain ⟨k, hk, rfl, HS⟩ := hrel
    by_cases hkn : k < n
    · have hlt : (k : Int) < (n : Int) := by omega
      obtain ⟨B1, o1, rfl⟩ := HA.out.at (by omega)
      obtain ⟨B2, o2, rfl⟩ := HB.out.at (by omega)
      obtain ⟨c0, c1', c2', c3, c4, c5, c6⟩ := rdCc (HA.out.still HS.out) hkn
      obtain ⟨d0, d1, d2, d3, d4, d5, d6⟩ := rdCc (HB.out.still HS.out) hkn
      obtain ⟨x, ex⟩ : ∃ x, cc L k = x := ⟨_, rfl⟩
      rw [ex] at c0 c1' c2' c3 c4 c5 c6 d0 d1 d2 d3 d4 d5 d6
      clear ex
      have k0 := Cl.cell c0
      have k1 := Cl.cell c1'
      have k2 := Cl.cell c2'
      have k3 := Cl.cell c3
      have k4 := Cl.cell c4
      have k5 := Cl.cell c5
      have k6 := Cl.cell c6
      have l0 := Cl.cell d0
      have l1 := Cl.cell d1
      have l2 := Cl.cell d2
      have l3 := Cl.cell d3
      have l4 := Cl.cell d4
      have l5 := Cl.cell d5
      have l6 := Cl.cell d6
      have hne := Aft.here wr
      have hq := fun w => neq_km_f x w
      have hg := fun a b w => guard_km .neq a b (kmc x) (kmc x) w
      clear c0 c1' c2' c3 c4 c5 c6 d0 d1 d2 d3 d4 d5 d6
      go_upto_region 6 with fail
      refine region_all (by kernel_rfl) (by kernel_rfl) ?_
      repeat (go_big_quiet_step (fail))
      refine wpQuiet_nil ?_
      intro w3 h3
      have HS3 := hid (HS.out.trans h3)
      clear h3 hne k0 k1 k2 k3 k4 k5 k6 l0 l1 l2 l3 l4 l5 l6 hq hg
      go_wp2_with fail
      go_roundw
      case rel => exact ⟨k + 1, by omega, by go_num, HS3⟩
      case measure => simp [intOf]; omega
    · have hge : ¬ (k : Int) < (n : Int) := by omega
      go_wp2_with fail
      go_ret
      exact ⟨rfl, HS.out⟩
set_option maxHeartbeats 4000000 in
theorem lown_any (d : Dg) (co : Option Addr) (cn cp : Nat) (w : World) (hn : d.cs.length = cn) (h47 : cn ≤ 2500000000000) (hr : SrG KCc w co cp d.cs) : Calls Try.prog 14 #[dgv d co cn cp] w fun e w' => ∃ co' cp', e = .returned (dgv d co' cn cp') ∧ OwG KCc 47 w' w.heap.size (.slice co' cn cp') d.cs ∧ Still w w' := by
  have A0 := Still.alloc w (.cells (dgc d co cn cp) 51)
  have p0 := newDg_b w d co cn cp
  obtain ⟨g, eg⟩ : ∃ g, w.heap.size = g := ⟨_, rfl⟩
  unfold newDg at p0
  obtain ⟨W, eW⟩ : ∃ W, w.alloc (.cells (dgc d co cn cp) 51) = W := ⟨_, rfl⟩
  have hsW : W.heap.size = g + 1 := by rw [← eW, size_alloc, eg]
  rw [eW] at A0 p0
  rw [eg] at p0
  have A1 := Still.alloc W (.cells (dgc zD none 0 0) 51)
  have p1 := newDg_b W zD none 0 0
  unfold newDg at p1
  obtain ⟨W1, eW1⟩ : ∃ V, W.alloc (.cells (dgc zD none 0 0) 51) = V := ⟨_, rfl⟩
  rw [eW1] at A1 p1
  rw [hsW] at p1
  have hr1 := (hr.still A0).still A1
  have HSr := hid hr1
  have HS1 := hid (A0.trans A1)
  have HP0 := hid (p0.still A1)
  have HP1 := hid p1
  have HN := hid hn
  have HG : Hid (w.heap.size = g) := hid eg
  have HZ : Hid ((Value.agg (KCc.f KCc.d).toArray).cells.size = KCc.k) := hid rfl
  have HL1 : Hid (w.heap.size ≤ W1.heap.size) := hid (A0.trans A1).size
  obtain ⟨d0, d1, d2, d3, d4, d5, d6, d7, df⟩ := (p0.still A1).cells
  simp only [zD] at eW1
  clear A0 p0 A1 p1 hr hr1 hn
  go_enter Try.func14, Try.ntmps14
  go_wp2_with (
    at_builtin
    refine wpList_appMG KCc _ rfl _ _ _ rfl Try.underlying29 56 _ HZ.out infoCc W1.heap.size _ [] d.cs co cn cp rfl rfl HN.out (OwG.nil _ _) HSr.out (by simp only [List.length_nil, HN.out]; omega) (by simp only [List.length_nil, HN.out]; omega) (Nat.le_refl _) ?_
    intro v4 w4 ho4 hf4
    rw [List.nil_append] at ho4
    obtain ⟨co', cp', e4, _⟩ := ho4.slice
    rw [HN.out] at e4
    subst e4
    have s4 : Still W1 w4 := hf4.mono (fun k _ e => by cases e)
    have p4 := HP0.out.still s4
    have z4 := HP1.out.still s4
    clear d0 d1 d2 d3 d4 d5 d6 d7 df
    obtain ⟨d0, d1, d2, d3, d4, d5, d6, d7, df⟩ := p4.cells
    have q7 := dset6 p4 d.cs co' cn cp'
    have f7 : Fr (fun k => k = g) w4 (w4.setCell ⟨g, 6, none⟩ (.slice co' cn cp')) := Fr.setCell (Fr.refl _ _) _ _ (.inl rfl)
    have z7 := z4.keepD f7 (by omega)
    have hsz : g + 1 < W1.heap.size := block_lt HP1.out
    have hob : ∀ k, (Value.slice co' cn cp').ownBlock = some k → W1.heap.size ≤ k := fun k hk => (ho4.block hk).1
    have o7 := ho4.keep f7 (fun k hk e => by have := hob k e; omega)
    obtain ⟨W7, eW7⟩ : ∃ V, w4.setCell ⟨g, 6, none⟩ (.slice co' cn cp') = V := ⟨_, rfl⟩
    rw [eW7] at q7 f7 z7 o7
    have q7' : Dgb W7 g d co' cn cp' := q7
    obtain ⟨e0, e1, e2, e3, e4, e5, e6, e7, ef⟩ := q7'.cells
    obtain ⟨i0, i1, i2, i3, i4, i5, i6, i7, iF⟩ := z7.cells
    have HZ8 := hid (z7.set d co' cn cp')
    have f8 : Fr (fun k => k = g + 1) W7 (setDg W7 (g + 1) d co' cn cp') := setDg_fr (Fr.refl _ _) _ _ _ _ _ (.inl rfl)
    have HO8 := hid ((o7.keep f8 (fun k hk e => by have := hob k e; omega)).less (B' := w.heap.size) HL1.out)
    have HS8 : Hid (Still w (setDg W7 (g + 1) d co' cn cp')) := hid (by
      have s7 : Still w W7 := Fr.trans (HS1.out.trans s4) f7 (fun k hk e => by have := HG.out; omega)
      exact setDg_fr s7 _ _ _ _ _ (.inr (by have := HG.out; omega)))
    clear ho4 hf4 s4 p4 z4 q7 q7' f7 z7 hob o7 f8 HSr hsz)
  (try simp only [Exit.inBlock, Exit.then])
  refine bodyPost_ret (HZ8.out.res rfl _ rfl) rfl ?_
  exact ⟨co', cp', rfl, by first | exact HO8.out | (have := HO8.out; rw [HG.out] at this; exact this), HS8.out⟩
end Go.Proofs.Ytcmgghfjakphmaa
