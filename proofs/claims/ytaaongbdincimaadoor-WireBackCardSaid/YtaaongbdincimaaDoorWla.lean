/- The document's Same and Seal. -/
import Derived.Test.YtaaongbdincimaaDoorWwe
import Derived.Laws.StructEq
namespace Go.Proofs.YtaaongbdincimaaDoor
open Go.RowKit
open Wp Vp
set_option maxRecDepth 100000
set_option linter.unusedVariables false
set_option linter.unusedSimpArgs false

theorem Ow.still16 {e : TypeId} {w w' : World} {ao : Option Addr} {n cap : Nat} {bs : List UInt8} (h : Ow e w ao n cap bs) (hs : Still w w') : Ow e w' ao n cap bs := h.kept hs fun _ _ e => e
theorem eqI_int (d : Nat) (x y : Int) (w : World) : (Op.equalIn (d + 1) 3 (.int .i64 x) (.int .i64 y)).run Tryd.prog w = .ok (x == y) w := by
  go_simp
theorem eqI_i64 (d : Nat) (x y : Int) (w : World) : (Op.equalIn (d + 1) 2 (.int .i64 x) (.int .i64 y)).run Tryd.prog w = .ok (x == y) w := by
  go_simp
theorem stC {b c : Bool} {w : World} {R : Result Bool} (h : R = .ok c w) : (if (!b) = true then Result.ok false w else R) = .ok (b && c) w := by
  cases b <;> simp [h]
theorem stC1 (b : Bool) {w : World} : (if (!b) = true then Result.ok false w else Result.ok true w) = .ok b w := by
  cases b <;> rfl
abbrev odc (x : Cc) : Array Value := #[.int .i64 x.v, .int .i64 x.a, .int .i64 x.b, .int .i64 x.c]
theorem odpart (x : Cc) (w : World) : (part 3 (odc x) 0).run Tryd.prog w = .ok (.int .i64 x.v) w ∧ (part 3 (odc x) 1).run Tryd.prog w = .ok (.int .i64 x.a) w ∧ (part 3 (odc x) 2).run Tryd.prog w = .ok (.int .i64 x.b) w ∧ (part 3 (odc x) 3).run Tryd.prog w = .ok (.int .i64 x.c) w := by
  refine ⟨?_, ?_, ?_, ?_⟩ <;> go_simp
theorem equal_od (x y : Cc) (w : World) : (Op.equalIn 9999 53 (.agg (odc x)) (.agg (odc y))).run Tryd.prog w = .ok ((x.v == y.v) && ((x.a == y.a) && ((x.b == y.b) && (x.c == y.c)))) w := by
  have c0 := fun w => (odpart x w).1
  have d0 := fun w => (odpart y w).1
  have r0 := fun w => eqI_int 9997 x.v y.v w
  have c1 := fun w => (odpart x w).2.1
  have d1 := fun w => (odpart y w).2.1
  have r1 := fun w => eqI_int 9997 x.a y.a w
  have c2 := fun w => (odpart x w).2.2.1
  have d2 := fun w => (odpart y w).2.2.1
  have r2 := fun w => eqI_int 9997 x.b y.b w
  have c3 := fun w => (odpart x w).2.2.2
  have d3 := fun w => (odpart y w).2.2.2
  have r3 := fun w => eqI_int 9997 x.c y.c w
  rw [run_equalIn_struct w 9998 _ _ _ (by kernel_rfl) (by kernel_rfl)]
  have e : (Tryd.prog.fieldsOf 53) = #[⟨ "Verb", 3, 0, false, "", "", 0⟩, ⟨ "A", 3, 1, false, "", "", 8⟩, ⟨ "B", 3, 2, false, "", "", 16⟩, ⟨ "C", 3, 3, false, "", "", 24⟩] := by kernel_rfl
  rw [e]
  simp only [Op.eqFields, ne_eq, String.reduceEq, not_false_eq_true, if_true, Sem.run_bind, c0, c1, c2, c3, d0, d1, d2, d3, Result.andThen_ok, r0, r1, r2, r3, Sem.run_ite, Sem.run_pure]
  exact stC (stC (stC (stC1 _)))
theorem kmpart (x : Cc) (w : World) : (part 2 (kmc x) 0).run Tryd.prog w = .ok (.int .i64 x.fr) w ∧ (part 3 (kmc x) 1).run Tryd.prog w = .ok (.int .i64 x.pe) w ∧ (part 3 (kmc x) 2).run Tryd.prog w = .ok (.int .i64 x.sq) w ∧ (part 53 (kmc x) 3).run Tryd.prog w = .ok (.agg (odc x)) w := by
  refine ⟨?_, ?_, ?_, ?_⟩ <;> go_simp
def eqCc (x y : Cc) : Bool := (x.fr == y.fr) && ((x.pe == y.pe) && ((x.sq == y.sq) && ((x.v == y.v) && ((x.a == y.a) && ((x.b == y.b) && (x.c == y.c))))))
theorem eqCc_refl (x : Cc) : eqCc x x = true := by unfold eqCc; simp
theorem equal_km (x y : Cc) (w : World) : (Op.equalIn 10000 55 (kmv x) (kmv y)).run Tryd.prog w = .ok (eqCc x y) w := by
  have c0 := fun w => (kmpart x w).1
  have d0 := fun w => (kmpart y w).1
  have r0 := fun w => eqI_i64 9998 x.fr y.fr w
  have c1 := fun w => (kmpart x w).2.1
  have d1 := fun w => (kmpart y w).2.1
  have r1 := fun w => eqI_int 9998 x.pe y.pe w
  have c2 := fun w => (kmpart x w).2.2.1
  have d2 := fun w => (kmpart y w).2.2.1
  have r2 := fun w => eqI_int 9998 x.sq y.sq w
  have c3 := fun w => (kmpart x w).2.2.2
  have d3 := fun w => (kmpart y w).2.2.2
  have r3 := fun w => equal_od x y w
  rw [run_equalIn_struct w 9999 _ _ _ (by kernel_rfl) (by kernel_rfl)]
  have e : (Tryd.prog.fieldsOf 55) = #[⟨ "Frame", 2, 0, false, "", "", 0⟩, ⟨ "Peer", 3, 1, false, "", "", 8⟩, ⟨ "Seq", 3, 2, false, "", "", 16⟩, ⟨ "Order", 53, 3, false, "", "", 24⟩] := by kernel_rfl
  rw [e]
  simp only [Op.eqFields, ne_eq, String.reduceEq, not_false_eq_true, if_true, Sem.run_bind, c0, c1, c2, c3, d0, d1, d2, d3, Result.andThen_ok, r0, r1, r2, r3, Sem.run_ite, Sem.run_pure]
  unfold eqCc
  exact stC (stC (stC (stC1 _)))
theorem eql_km_t (x : Cc) (w : World) : (binOp .eql 55 (kmv x) (kmv x)).run Tryd.prog w = .ok (.bool true) w := by
  rw [run_eql_struct, equal_km, eqCc_refl]; rfl
theorem neq_km_f (x : Cc) (w : World) : (binOp .neq 55 (kmv x) (kmv x)).run Tryd.prog w = .ok (.bool false) w := by
  rw [run_neq_struct, equal_km, eqCc_refl]; rfl
theorem guard_km (op : BinOp) (a b : Operand) (xs ys : Array Value) (w : World) : (eqGuard op 55 a b (.agg xs) (.agg ys)).run Tryd.prog w = .ok () w := run_eqGuard_agg w op _ a b xs ys (by kernel_rfl)
set_option maxHeartbeats 4000000 in
/-- the document's Same of two datagrams that are the same -/
theorem rsame16_t (d : Dg) (ao bo : Option Addr) (n c1 c2 : Nat) (w : World) (ha : RdG KCc w ao n d.cs) (hb : RdG KCc w bo n d.cs) : Calls Tryd.prog 9 #[dgv d ao n c1, dgv d bo n c2] w fun e w' => e = .returned (.bool true) ∧ Still w w' := by
  have h47 := ha.2.1
  have A0 := Still.alloc w (.cells (dgc d ao n c1) 25)
  have A1 := Still.alloc (newDg w d ao n c1) (.cells (dgc d bo n c2) 25)
  have p0 := (newDg_b w d ao n c1).still A1
  have q0 := newDg_b (newDg w d ao n c1) d bo n c2
  simp only [size_alloc] at q0
  have HS0 := hid (A0.trans A1)
  have HA := hid (ha.still (A0.trans A1))
  have HB := hid (hb.still (A0.trans A1))
  have HP := hid p0
  have HQ := hid q0
  obtain ⟨e0, e1, e2, e3, e4, e5, e6, e7, ef⟩ := p0.cells
  obtain ⟨f0, f1, f2, f3, f4, f5, f6, f7, ff⟩ := q0.cells
  obtain ⟨W, eW⟩ : ∃ W, newDg (newDg w d ao n c1) d bo n c2 = W := ⟨_, rfl⟩
  obtain ⟨g, eg⟩ : ∃ g, w.heap.size = g := ⟨_, rfl⟩
  have eW' : (w.alloc (.cells (dgc d ao n c1) 25)).alloc (.cells (dgc d bo n c2) 25) = W := eW
  unfold newDg at HP HQ
  rw [eW'] at HS0 HA HB HP HQ
  rw [eg] at HP HQ
  have hnn : ((n : Int) != (n : Int)) = false := by simp
  clear ha hb A0 A1 p0 q0 e0 e1 e2 e3 e4 e5 e6 e7 ef f0 f1 f2 f3 f4 f5 f6 f7 ff eW
  obtain ⟨_, _, _, _, _, _, e6, _, _⟩ := HP.out.cells
  obtain ⟨_, _, _, _, _, _, f6, _, _⟩ := HQ.out.cells
  go_enter Tryd.func9, Tryd.ntmps9
  go_wp2_with fail
  clear e6 f6
  go_loopw [5] (fun u wr => ∃ k : Nat, k ≤ n ∧ u = .int .i64 (k : Int) ∧ Hid (Still W wr)) (fun u _ => n - (intOf u).toNat)
  case atStart => exact ⟨0, by omega, rfl, hid (Fr.refl _ _)⟩
  case round =>
    obtain ⟨k, hk, rfl, HS⟩ := hrel
    obtain ⟨m0, m1, m2, m3, m4, m5, m6, m7, _⟩ := (HP.out.still HS.out).cells
    obtain ⟨n0, n1, n2, n3, n4, n5, n6, n7, _⟩ := (HQ.out.still HS.out).cells
    by_cases hkn : k < n
    · have hlt : (k : Int) < (n : Int) := by omega
      obtain ⟨B1, o1, rfl⟩ := HA.out.at (by omega)
      obtain ⟨B2, o2, rfl⟩ := HB.out.at (by omega)
      obtain ⟨c0, c1', c2', c3, c4, c5, c6⟩ := rdCc (HA.out.still HS.out) hkn
      obtain ⟨d0, d1, d2, d3, d4, d5, d6⟩ := rdCc (HB.out.still HS.out) hkn
      obtain ⟨x, ex⟩ : ∃ x, cc d.cs k = x := ⟨_, rfl⟩
      rw [ex] at c0 c1' c2' c3 c4 c5 c6 d0 d1 d2 d3 d4 d5 d6
      clear ex
      have k0 := Cl.cell c0
      have k1 := Cl.cell c1'
      have k2 := Cl.cell c2'
      have k3 := Cl.cell c3
      have k4 := Cl.cell c4
      have k5 := Cl.cell c5
      have k6 := Cl.cell c6
      have l0 := Cl.cell d0
      have l1 := Cl.cell d1
      have l2 := Cl.cell d2
      have l3 := Cl.cell d3
      have l4 := Cl.cell d4
      have l5 := Cl.cell d5
      have l6 := Cl.cell d6
      have o6 := Cl.cell m6
      have o7 := Cl.cell n6
      have hne := Aft.here wr
      have hq := fun w => neq_km_f x w
      have hg := fun a b w => guard_km .neq a b (kmc x) (kmc x) w
      clear c0 c1' c2' c3 c4 c5 c6 d0 d1 d2 d3 d4 d5 d6 m0 m1 m2 m3 m4 m5 m7 n0 n1 n2 n3 n4 n5 n7
      go_upto_region 6 with fail
      clear m6 n6
      refine region_all (by kernel_rfl) (by kernel_rfl) ?_
      repeat (go_big_quiet_step (fail))
      refine wpQuiet_nil ?_
      intro w3 h3
      have HS3 := hid (HS.out.trans h3)
      clear h3 hne k0 k1 k2 k3 k4 k5 k6 l0 l1 l2 l3 l4 l5 l6 hq hg o6 o7
      go_wp2_with fail
      go_roundw
      case rel => exact ⟨k + 1, by omega, by go_num, HS3⟩
      case measure => simp [intOf]; omega
    · have hge : ¬ (k : Int) < (n : Int) := by omega
      go_wp2_with fail
      go_ret
      exact ⟨rfl, HS0.out.trans HS.out⟩
set_option maxHeartbeats 2000000 in
theorem reight_any (d : Nat) (hd : d < 18446744073709551616) (w : World) : Calls Tryd.prog 22 #[.int .u64 (d : Int)] w fun e w' => ∃ ao' cap', e = .returned (.slice ao' 8 cap') ∧ Ow 5 w' ao' 8 cap' (Wp.sumF 8 d) ∧ Still w w' ∧ ∀ a, ao' = some a → w.heap.size ≤ a.block := by
  obtain ⟨i0, hi0, hz0, hs10, hb10⟩ := info_parts info_u8
  go_enter Tryd.func22, Tryd.ntmps22
  go_wp2_with fail
  go_loopw [0, 3, 4] (fun u0 u3 u4 wr => ∃ (k m : Nat) (co : Option Addr) (cc : Nat) (xs : List UInt8), k ≤ 8 ∧ m < 18446744073709551616 ∧ u3 = .slice co k cc ∧ u0 = .int .u64 (m : Int) ∧ u4 = .int .i64 (k : Int) ∧ Hid (Ow 5 wr co k cc xs ∧ xs ++ Wp.sumF (8 - k) m = Wp.sumF 8 d ∧ Still w wr ∧ ∀ a, co = some a → w.heap.size ≤ a.block)) (fun _ _ u4 _ => 8 - (intOf u4).toNat)
  case atStart => exact ⟨0, d, none, 0, [], by omega, hd, rfl, rfl, rfl, hid ⟨Ow.empty _ _, rfl, Fr.refl _ _, fun _ h => by cases h⟩⟩
  case round =>
    obtain ⟨k, m, co, cc, xs, hk, hm, rfl, rfl, rfl, HO⟩ := hrel
    by_cases hlt : k < 8
    · have hlt' : (k : Int) < 8 := by omega
      have hcv : IntKind.u8.wrap ((m : Int) % 256) = (m : Int) % 256 := by rw [IntKind.wrap_u8]; omega
      have HX : Hid ((m : Int) % 256 = ((UInt8.ofNat (m % 256)).toNat : Int)) := hid (by rw [Cp.ofNat_toNat (by omega)]; omega)
      have HF : Hid ((xs ++ [UInt8.ofNat (m % 256)]) ++ Wp.sumF (8 - (k + 1)) (m / 256) = Wp.sumF 8 d) := hid (by
        rw [← HO.out.2.1, show 8 - k = (8 - (k + 1)) + 1 by omega]
        simp [Wp.sumF])
      go_wp2_with (at_builtin; refine wpList_app _ rfl _ _ 29 rfl 5 i0 Tryd.underlying29 hi0 hz0 hs10 hb10 co (some ⟨wr.heap.size, 0, none⟩) k cc 1 1 xs [UInt8.ofNat (m % 256)] rfl rfl (HO.out.1.alloc _) (Rd.one wr _ _ HX.out) (by omega) ?_; intro ao' cap' w1 ho' hf' hn' _)
      obtain ⟨hst', hao'⟩ := still_app HO.out.2.2.1 HO.out.2.2.2 hf' hn'
      have HO2 : Hid (Ow 5 w1 ao' (k + 1) cap' (xs ++ [UInt8.ofNat (m % 256)]) ∧ Still w w1 ∧ ∀ a, ao' = some a → w.heap.size ≤ a.block) := hid ⟨ho', hst', hao'⟩
      clear ho' hf' hn' hst' hao' HX HO
      go_roundw
      case rel => exact ⟨k + 1, m / 256, ao', cap', _, by omega, by omega, rfl, by go_num, by go_num, hid ⟨HO2.out.1, HF.out, HO2.out.2⟩⟩
      case measure => simp [intOf]; omega
    · obtain rfl : k = 8 := by omega
      go_wp2_with fail
      go_ret
      refine ⟨co, cc, rfl, ?_, HO.out.2.2⟩
      rw [← HO.out.2.1]
      simp only [Nat.sub_self, Wp.sumF, List.append_nil]
      exact HO.out.1
set_option maxHeartbeats 2000000 in
theorem rseal_any (ao : Option Addr) (n cap : Nat) (bs : List UInt8) (w : World) (hr : Rd w ao n cap bs) (h47 : n + 8 ≤ 140737488355328) : Calls Tryd.prog 10 #[.slice ao n cap] w fun e w' => ∃ ao' cap', e = .returned (.slice ao' (n + 8) cap') ∧ Ow 5 w' ao' (n + 8) cap' (bs ++ sumZ bs) ∧ Still w w' ∧ ∀ a, ao' = some a → w.heap.size ≤ a.block := by
  obtain ⟨i0, hi0, hz0, hs10, hb10⟩ := info_parts info_u8
  obtain ⟨d, hd, ed⟩ := ofI_inZ bs
  have HD : Hid (sumZ bs = Wp.sumF 8 d) := hid (by unfold sumZ; rw [ed]; rfl)
  go_enter Tryd.func10, Tryd.ntmps10
  go_wp2_with (at_builtin; refine wpList_app _ rfl _ _ 29 rfl 5 i0 Tryd.underlying29 hi0 hz0 hs10 hb10 none ao 0 0 n cap [] bs rfl rfl (Ow.empty _ _) hr (by omega) ?_; intro ao1 cap1 w1 ho1 hf1 hn1 _)
  rw [Nat.zero_add, List.nil_append] at ho1
  have hst : Still w w1 := hf1.mono (by rintro k hk ⟨a, h, _⟩; cases h)
  have HC := hid (rdof_any ao n cap bs w1 (hr.still hst))
  rw [ed] at HC
  have HO1 : Hid (Ow 5 w1 ao1 n cap1 bs ∧ ∀ a, ao1 = some a → w.heap.size ≤ a.block) := hid ⟨ho1, fun a ha => by
    rcases hn1 a ha with h | h
    · cases h
    · exact h⟩
  have HS1 := hid hst
  clear ho1 hf1 hn1 hst hr ed
  go_wp2_with fail
  refine HC.out.mono ?_
  rintro e w2 ⟨he, h2⟩
  rw [he]
  have HC2 := hid (reight_any d hd w2)
  have HO2 : Hid (Ow 5 w2 ao1 n cap1 bs) := hid (HO1.out.1.still16 h2)
  have HS2 := hid (HS1.out.trans h2)
  clear he h2 HC
  go_wp2_with fail
  refine HC2.out.mono ?_
  rintro e w3 ⟨ao3, cap3, he, ho3, h3, ha3⟩
  rw [he]
  have HO3 : Hid (Ow 5 w3 ao1 n cap1 bs) := hid (HO2.out.still16 h3)
  have HE3 := hid ho3.rd
  have HS3 := hid (HS2.out.trans h3)
  clear he ho3 h3 ha3 HC2 HO2
  go_wp2_with (at_builtin; refine wpList_app _ rfl _ _ 29 rfl 5 i0 Tryd.underlying29 hi0 hz0 hs10 hb10 ao1 ao3 n cap1 8 cap3 bs (Wp.sumF 8 d) rfl rfl HO3.out HE3.out (by omega) ?_; intro ao4 cap4 w4 ho4 hf4 hn4 _)
  go_ret
  rw [HD.out]
  refine ⟨ao4, cap4, rfl, ho4, ?_, ?_⟩
  · exact Fr.trans HS3.out hf4 (fun k hk e => by
      obtain ⟨a, ha, e⟩ := e
      have := HO1.out.2 a ha
      omega)
  · intro a ha
    rcases hn4 a ha with h | h
    · exact HO1.out.2 a h
    · exact Nat.le_trans HS3.out.size h
end Go.Proofs.YtaaongbdincimaaDoor
