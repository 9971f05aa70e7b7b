/- The program's Hit. -/
import Derived.Test.YtgkojpgpnkeacaaYsb
namespace Go.Proofs.Ytgkojpgpnkeacaa
open Go.RowKit
open Ea
set_option maxRecDepth 100000

set_option maxHeartbeats 1000000 in
theorem shit_may (a b : Scr) (n : Int) (out : Bool) (hm : ¬ (MayC a ∧ MayC b)) (w : World) : Calls Try.prog 8 #[cv a, cv b, .int .i64 n, .bool out] w fun e w' => e = .returned (.tuple #[cv zC, cv zC, .int .i64 120]) ∧ Still w w' := by
  by_cases ha : MayC a
  · have hb : ¬ MayC b := fun h => hm ⟨ha, h⟩
    have F0 := F4.new w a b
    obtain ⟨c0, c1, c2, c3, cf⟩ := F0.1.cells
    have HA := hid (fun w => smay_any a w)
    have HB := hid (fun w => smay_any b w)
    rw [mayC_iff.2 ha] at HA
    rw [mayC_no hb] at HB
    clear hm ha hb
    go_enter Try.func8, Try.ntmps8
    go_wp2_with fail
    refine (HA.out _).mono ?_
    rintro e w1 ⟨rfl, h1⟩
    have F1 := F0.on h1
    clear h1 F0 c0 c1 c2 c3 cf HA
    obtain ⟨d0, d1, d2, d3, df⟩ := F1.2.1.cells
    go_wp2_with fail
    refine (HB.out _).mono ?_
    rintro e w2 ⟨rfl, h2⟩
    have HF2 := hid (F1.on h2)
    have HS2 : Hid (Still w w2) := hid HF2.out.2.2.2.2
    clear h2 F1 d0 d1 d2 d3 df HB
    obtain ⟨k0, k1, k2, k3, kf⟩ := HF2.out.2.2.1.cells
    obtain ⟨l0, l1, l2, l3, lf⟩ := HF2.out.2.2.2.1.cells
    go_wp2_with fail
    refine bodyPost_ret (Cb.res2 ((HF2.out.2.2.1.put _ _ _ _).others (k := w.heap.size + 1 + 1 + 1) (by omega) _ _ _ _) ((HF2.out.2.2.2.1.others (k := w.heap.size + 1 + 1) (by omega) _ _ _ _).put _ _ _ _) rfl _ _ rfl rfl rfl) rfl ⟨rfl, ?_⟩
    repeat (first | refine setC_frC ?_ _ _ _ (by omega) | with_reducible exact HS2.out)
  · have F0 := F4.new w a b
    obtain ⟨c0, c1, c2, c3, cf⟩ := F0.1.cells
    have HA := hid (fun w => smay_any a w)
    rw [mayC_no ha] at HA
    clear hm ha
    go_enter Try.func8, Try.ntmps8
    go_wp2_with fail
    refine (HA.out _).mono ?_
    rintro e w2 ⟨rfl, h2⟩
    have HF2 := hid (F0.on h2)
    have HS2 : Hid (Still w w2) := hid HF2.out.2.2.2.2
    clear h2 F0 c0 c1 c2 c3 cf HA
    obtain ⟨k0, k1, k2, k3, kf⟩ := HF2.out.2.2.1.cells
    obtain ⟨l0, l1, l2, l3, lf⟩ := HF2.out.2.2.2.1.cells
    go_wp2_with fail
    refine bodyPost_ret (Cb.res2 ((HF2.out.2.2.1.put _ _ _ _).others (k := w.heap.size + 1 + 1 + 1) (by omega) _ _ _ _) ((HF2.out.2.2.2.1.others (k := w.heap.size + 1 + 1) (by omega) _ _ _ _).put _ _ _ _) rfl _ _ rfl rfl rfl) rfl ⟨rfl, ?_⟩
    repeat (first | refine setC_frC ?_ _ _ _ (by omega) | with_reducible exact HS2.out)
set_option maxHeartbeats 1000000 in
theorem shit_arg (a b : Scr) (n : Int) (out : Bool) (ha : MayC a) (hb : MayC b) (hn : ¬ (1 ≤ n ∧ n ≤ 3)) (w : World) : Calls Try.prog 8 #[cv a, cv b, .int .i64 n, .bool out] w fun e w' => e = .returned (.tuple #[cv zC, cv zC, .int .i64 1]) ∧ Still w w' := by
  have F0 := F4.new w a b
  obtain ⟨c0, c1, c2, c3, cf⟩ := F0.1.cells
  have HA := hid (fun w => smay_any a w)
  have HB := hid (fun w => smay_any b w)
  have HW := hid (fun w => swithin_any n 1 3 w)
  rw [mayC_iff.2 ha] at HA
  rw [mayC_iff.2 hb] at HB
  rw [decide_eq_false hn] at HW
  clear hn ha hb
  go_enter Try.func8, Try.ntmps8
  go_wp2_with fail
  refine (HA.out _).mono ?_
  rintro e w1 ⟨rfl, h1⟩
  have F1 := F0.on h1
  clear h1 F0 c0 c1 c2 c3 cf HA
  obtain ⟨d0, d1, d2, d3, df⟩ := F1.2.1.cells
  go_wp2_with fail
  refine (HB.out _).mono ?_
  rintro e w2 ⟨rfl, h2⟩
  have HF2 := hid (F1.on h2)
  have HS2 : Hid (Still w w2) := hid HF2.out.2.2.2.2
  clear h2 F1 d0 d1 d2 d3 df HB
  go_wp2_with fail
  refine (HW.out _).mono ?_
  rintro e w3 ⟨he, hw⟩
  rw [he, hw]
  clear he hw w3 HW
  obtain ⟨k0, k1, k2, k3, kf⟩ := HF2.out.2.2.1.cells
  obtain ⟨l0, l1, l2, l3, lf⟩ := HF2.out.2.2.2.1.cells
  go_wp2_with fail
  refine bodyPost_ret (Cb.res2 ((HF2.out.2.2.1.put _ _ _ _).others (k := w.heap.size + 1 + 1 + 1) (by omega) _ _ _ _) ((HF2.out.2.2.2.1.others (k := w.heap.size + 1 + 1) (by omega) _ _ _ _).put _ _ _ _) rfl _ _ rfl rfl rfl) rfl ⟨rfl, ?_⟩
  repeat (first | refine setC_frC ?_ _ _ _ (by omega) | with_reducible exact HS2.out)
theorem F4.putA {w0 w : World} {a b x y : Scr} (h : F4 w0 w a b x y) (p q r s : Int) : F4 w0 ((((w.setCell ⟨w0.heap.size, 0, none⟩ (.int .i64 p)).setCell ⟨w0.heap.size, 1, none⟩ (.int .i64 q)).setCell ⟨w0.heap.size, 2, none⟩ (.int .i64 r)).setCell ⟨w0.heap.size, 3, none⟩ (.int .i64 s)) ⟨p, q, r, s⟩ b x y :=
  ⟨h.1.put _ _ _ _, h.2.1.others (by omega) _ _ _ _, h.2.2.1.others (by omega) _ _ _ _, h.2.2.2.1.others (by omega) _ _ _ _, (((h.2.2.2.2.setCell _ _ (.inr (Nat.le_refl _))).setCell _ _ (.inr (Nat.le_refl _))).setCell _ _ (.inr (Nat.le_refl _))).setCell _ _ (.inr (Nat.le_refl _))⟩
theorem F4.putB {w0 w : World} {a b x y : Scr} (h : F4 w0 w a b x y) (p q r s : Int) : F4 w0 ((((w.setCell ⟨w0.heap.size + 1, 0, none⟩ (.int .i64 p)).setCell ⟨w0.heap.size + 1, 1, none⟩ (.int .i64 q)).setCell ⟨w0.heap.size + 1, 2, none⟩ (.int .i64 r)).setCell ⟨w0.heap.size + 1, 3, none⟩ (.int .i64 s)) a ⟨p, q, r, s⟩ x y :=
  ⟨h.1.others (by omega) _ _ _ _, h.2.1.put _ _ _ _, h.2.2.1.others (by omega) _ _ _ _, h.2.2.2.1.others (by omega) _ _ _ _, (((h.2.2.2.2.setCell _ _ (.inr (by simp))).setCell _ _ (.inr (by simp))).setCell _ _ (.inr (by simp))).setCell _ _ (.inr (by simp))⟩
set_option maxHeartbeats 2000000 in
/-- the last statement: both are answered -/
theorem shit_no (a b a1 : Scr) (n : Int) (ha : MayC a) (hb : MayC b) (hn : 1 ≤ n ∧ n ≤ 3) (ea1 : (⟨bdC (a.p + n), bdC (a.h + 1), a.o, a.k⟩ : Scr) = a1) (w : World) : Calls Try.prog 8 #[cv a, cv b, .int .i64 n, .bool false] w fun e w' => e = .returned (.tuple #[cv a1, cv b, .int .i64 0]) ∧ Still w w' := by
  have F0 := F4.new w a b
  obtain ⟨c0, c1, c2, c3, cf⟩ := F0.1.cells
  have HA := hid (fun w => smay_any a w)
  have HB := hid (fun w => smay_any b w)
  have HW := hid (fun w => swithin_any n 1 3 w)
  have HH := hid (fun w => shas_hit a n ha hn w)
  rw [ea1] at HH
  rw [mayC_iff.2 ha] at HA
  rw [mayC_iff.2 hb] at HB
  rw [decide_eq_true hn] at HW
  clear hn ha hb ea1
  go_enter Try.func8, Try.ntmps8
  go_wp2_with fail
  refine (HA.out _).mono ?_
  rintro e w1 ⟨rfl, h1⟩
  have F1 := F0.on h1
  clear h1 F0 c0 c1 c2 c3 cf HA
  obtain ⟨d0, d1, d2, d3, df⟩ := F1.2.1.cells
  go_wp2_with fail
  refine (HB.out _).mono ?_
  rintro e w2 ⟨rfl, h2⟩
  have F2 := F1.on h2
  clear h2 F1 d0 d1 d2 d3 df HB
  go_wp2_with fail
  refine (HW.out _).mono ?_
  rintro e w3 ⟨he, hw⟩
  rw [he, hw]
  clear he hw w3 HW
  obtain ⟨c0, c1, c2, c3, cf⟩ := F2.1.cells
  go_wp2_with fail
  refine (HH.out _).mono ?_
  rintro e w4 ⟨rfl, h4⟩
  have F4' := F2.on h4
  clear h4 F2 c0 c1 c2 c3 cf HH
  obtain ⟨c0, c1, c2, c3, cf⟩ := F4'.1.cells
  have F5 := F4'.putA a1.p a1.h a1.o a1.k
  obtain ⟨W5, eW5⟩ : ∃ W, (((w4.setCell ⟨w.heap.size, 0, none⟩ (.int .i64 a1.p)).setCell ⟨w.heap.size, 1, none⟩ (.int .i64 a1.h)).setCell ⟨w.heap.size, 2, none⟩ (.int .i64 a1.o)).setCell ⟨w.heap.size, 3, none⟩ (.int .i64 a1.k) = W := ⟨_, rfl⟩
  rw [eW5] at F5
  go_upto_region 6 with fail
  clear eW5 F4' c0 c1 c2 c3 cf
  go_upto_region 8 with fail
  have F8 := F5.on ((Fr.refl _ W5).drew)
  obtain ⟨W8, eW8⟩ : ∃ W, W5.drew = W := ⟨_, rfl⟩
  rw [eW8] at F8
  clear F5
  obtain ⟨c0, c1, c2, c3, cf⟩ := F8.1.cells
  obtain ⟨d0, d1, d2, d3, df⟩ := F8.2.1.cells
  obtain ⟨k0, k1, k2, k3, kf⟩ := F8.2.2.1.cells
  have r9 := F8.2.2.1.put a1.p a1.h a1.o a1.k
  have s9 := F8.2.2.2.1.others (k := w.heap.size + 1 + 1) (by omega) a1.p a1.h a1.o a1.k
  have q9 := F8.2.1.others (k := w.heap.size + 1 + 1) (by omega) a1.p a1.h a1.o a1.k
  have HS9 := hid (setC_frC (setC_frC (setC_frC (setC_frC F8.2.2.2.2 (w.heap.size + 1 + 1) 0 (.int .i64 a1.p) (by omega)) (w.heap.size + 1 + 1) 1 (.int .i64 a1.h) (by omega)) (w.heap.size + 1 + 1) 2 (.int .i64 a1.o) (by omega)) (w.heap.size + 1 + 1) 3 (.int .i64 a1.k) (by omega))
  obtain ⟨W9, eW9⟩ : ∃ W, (((W8.setCell ⟨w.heap.size + 1 + 1, 0, none⟩ (.int .i64 a1.p)).setCell ⟨w.heap.size + 1 + 1, 1, none⟩ (.int .i64 a1.h)).setCell ⟨w.heap.size + 1 + 1, 2, none⟩ (.int .i64 a1.o)).setCell ⟨w.heap.size + 1 + 1, 3, none⟩ (.int .i64 a1.k) = W := ⟨_, rfl⟩
  rw [eW9] at r9 s9 q9 HS9
  obtain ⟨e0, e1, e2, e3, ef⟩ := q9.cells
  obtain ⟨g0, g1, g2, g3, gf⟩ := s9.cells
  clear F8
  go_region
  all_goals
    go_wp2_with fail
    (try simp only [Exit.inBlock, Exit.then])
    refine bodyPost_ret (Cb.res2 (r9.others (k := w.heap.size + 1 + 1 + 1) (by omega) _ _ _ _) (s9.put _ _ _ _) rfl _ _ rfl rfl rfl) rfl ⟨rfl, ?_⟩
    repeat (first | refine setC_frC ?_ _ _ _ (by omega) | with_reducible exact HS9.out)
set_option maxHeartbeats 4000000 in
theorem shit_out (a b a1 a2 b2 : Scr) (n : Int) (ha : MayC a) (hb : MayC b) (hn : 1 ≤ n ∧ n ≤ 3) (ha1 : MayC a1) (ea1 : (⟨bdC (a.p + n), bdC (a.h + 1), a.o, a.k⟩ : Scr) = a1) (ea2 : (⟨bdC (a1.p + (10 + min a1.k 5)), a1.h, a1.o, bdC (a1.k + 1)⟩ : Scr) = a2) (eb2 : (⟨bdC (b.p + (-2)), b.h, bdC (b.o + 1), 0⟩ : Scr) = b2) (w : World) : Calls Try.prog 8 #[cv a, cv b, .int .i64 n, .bool true] w fun e w' => e = .returned (.tuple #[cv a2, cv b2, .int .i64 0]) ∧ Still w w' := by
  have F0 := F4.new w a b
  obtain ⟨c0, c1, c2, c3, cf⟩ := F0.1.cells
  have HA := hid (fun w => smay_any a w)
  have HB := hid (fun w => smay_any b w)
  have HW := hid (fun w => swithin_any n 1 3 w)
  have HH := hid (fun w => shas_hit a n ha hn w)
  have HP := hid (fun w => shas_out a1 ha1 w)
  have HO := hid (fun w => swent_out b hb w)
  rw [ea1] at HH
  rw [ea2] at HP
  rw [eb2] at HO
  rw [mayC_iff.2 ha] at HA
  rw [mayC_iff.2 hb] at HB
  rw [decide_eq_true hn] at HW
  clear hn ha hb ea1 ea2 eb2 ha1
  go_enter Try.func8, Try.ntmps8
  go_wp2_with fail
  refine (HA.out _).mono ?_
  rintro e w1 ⟨rfl, h1⟩
  have F1 := F0.on h1
  clear h1 F0 c0 c1 c2 c3 cf HA
  obtain ⟨d0, d1, d2, d3, df⟩ := F1.2.1.cells
  go_wp2_with fail
  refine (HB.out _).mono ?_
  rintro e w2 ⟨rfl, h2⟩
  have F2 := F1.on h2
  clear h2 F1 d0 d1 d2 d3 df HB
  go_wp2_with fail
  refine (HW.out _).mono ?_
  rintro e w3 ⟨he, hw⟩
  rw [he, hw]
  clear he hw w3 HW
  obtain ⟨c0, c1, c2, c3, cf⟩ := F2.1.cells
  go_wp2_with fail
  refine (HH.out _).mono ?_
  rintro e w4 ⟨rfl, h4⟩
  have F4' := F2.on h4
  clear h4 F2 c0 c1 c2 c3 cf HH
  obtain ⟨c0, c1, c2, c3, cf⟩ := F4'.1.cells
  have F5 := F4'.putA a1.p a1.h a1.o a1.k
  obtain ⟨W5, eW5⟩ : ∃ W, (((w4.setCell ⟨w.heap.size, 0, none⟩ (.int .i64 a1.p)).setCell ⟨w.heap.size, 1, none⟩ (.int .i64 a1.h)).setCell ⟨w.heap.size, 2, none⟩ (.int .i64 a1.o)).setCell ⟨w.heap.size, 3, none⟩ (.int .i64 a1.k) = W := ⟨_, rfl⟩
  rw [eW5] at F5
  go_upto_region 6 with fail
  clear eW5 F4' c0 c1 c2 c3 cf
  go_upto_region 7 with fail
  obtain ⟨c0, c1, c2, c3, cf⟩ := F5.1.cells
  obtain ⟨d0, d1, d2, d3, df⟩ := F5.2.1.cells
  have q0 := Cl.cell c0
  have q1 := Cl.cell c1
  have q2 := Cl.cell c2
  have q3 := Cl.cell c3
  have r0 := Cl.cell d0
  have r1 := Cl.cell d1
  have r2 := Cl.cell d2
  have r3 := Cl.cell d3
  have hne := Aft.here W5
  clear c0 c1 c2 c3 cf d0 d1 d2 d3 df
  refine region_rest 4 (by kernel_rfl) (by kernel_rfl) ?_
  simp only [List.take_succ_cons, List.take_zero, List.drop_succ_cons, List.drop_zero]
  repeat (go_big_quiet_step ((first | (go_at_call 19; with_reducible exact Calls.cl (HP.out _)) | (go_at_call 20; with_reducible exact Calls.cl (HO.out _)))))
  refine wpQuiet_nil ?_
  intro w6 h6
  have F6 := F5.on h6
  clear h6 F5 q0 q1 q2 q3 r0 r1 r2 r3 hne HP HO
  obtain ⟨c0, c1, c2, c3, cf⟩ := F6.1.cells
  obtain ⟨d0, d1, d2, d3, df⟩ := F6.2.1.cells
  have F7 := (F6.putA a2.p a2.h a2.o a2.k).putB b2.p b2.h b2.o b2.k
  obtain ⟨W7, eW7⟩ : ∃ W, (((((((w6.setCell ⟨w.heap.size, 0, none⟩ (.int .i64 a2.p)).setCell ⟨w.heap.size, 1, none⟩ (.int .i64 a2.h)).setCell ⟨w.heap.size, 2, none⟩ (.int .i64 a2.o)).setCell ⟨w.heap.size, 3, none⟩ (.int .i64 a2.k)).setCell ⟨w.heap.size + 1, 0, none⟩ (.int .i64 b2.p)).setCell ⟨w.heap.size + 1, 1, none⟩ (.int .i64 b2.h)).setCell ⟨w.heap.size + 1, 2, none⟩ (.int .i64 b2.o)).setCell ⟨w.heap.size + 1, 3, none⟩ (.int .i64 b2.k) = W := ⟨_, rfl⟩
  rw [eW7] at F7
  go_upto_region 8 with fail
  clear eW7 F6 c0 c1 c2 c3 cf d0 d1 d2 d3 df
  have F8 := F7.on ((Fr.refl _ W7).drew)
  obtain ⟨W8, eW8⟩ : ∃ W, W7.drew = W := ⟨_, rfl⟩
  rw [eW8] at F8
  clear F7
  obtain ⟨c0, c1, c2, c3, cf⟩ := F8.1.cells
  obtain ⟨d0, d1, d2, d3, df⟩ := F8.2.1.cells
  obtain ⟨k0, k1, k2, k3, kf⟩ := F8.2.2.1.cells
  have r9 := F8.2.2.1.put a2.p a2.h a2.o a2.k
  have s9 := F8.2.2.2.1.others (k := w.heap.size + 1 + 1) (by omega) a2.p a2.h a2.o a2.k
  have q9 := F8.2.1.others (k := w.heap.size + 1 + 1) (by omega) a2.p a2.h a2.o a2.k
  have HS9 := hid (setC_frC (setC_frC (setC_frC (setC_frC F8.2.2.2.2 (w.heap.size + 1 + 1) 0 (.int .i64 a2.p) (by omega)) (w.heap.size + 1 + 1) 1 (.int .i64 a2.h) (by omega)) (w.heap.size + 1 + 1) 2 (.int .i64 a2.o) (by omega)) (w.heap.size + 1 + 1) 3 (.int .i64 a2.k) (by omega))
  obtain ⟨W9, eW9⟩ : ∃ W, (((W8.setCell ⟨w.heap.size + 1 + 1, 0, none⟩ (.int .i64 a2.p)).setCell ⟨w.heap.size + 1 + 1, 1, none⟩ (.int .i64 a2.h)).setCell ⟨w.heap.size + 1 + 1, 2, none⟩ (.int .i64 a2.o)).setCell ⟨w.heap.size + 1 + 1, 3, none⟩ (.int .i64 a2.k) = W := ⟨_, rfl⟩
  rw [eW9] at r9 s9 q9 HS9
  obtain ⟨e0, e1, e2, e3, ef⟩ := q9.cells
  obtain ⟨g0, g1, g2, g3, gf⟩ := s9.cells
  clear F8
  go_region
  all_goals
    go_wp2_with fail
    (try simp only [Exit.inBlock, Exit.then])
    refine bodyPost_ret (Cb.res2 (r9.others (k := w.heap.size + 1 + 1 + 1) (by omega) _ _ _ _) (s9.put _ _ _ _) rfl _ _ rfl rfl rfl) rfl ⟨rfl, ?_⟩
    repeat (first | refine setC_frC ?_ _ _ _ (by omega) | with_reducible exact HS9.out)
theorem bdC_more {p n m : Int} (hp : -2147483647 ≤ p) (hn : 0 ≤ n) (hm : 0 ≤ m) : bdC (bdC (p + n) + m) = bdC (p + (n + m)) := by
  unfold bdC
  split <;> (try split) <;> (try split) <;> (try split) <;> omega
theorem shit_any (a b : Scr) (n : Int) (out : Bool) (w : World) : Calls Try.prog 8 #[cv a, cv b, .int .i64 n, .bool out] w fun e w' => e = .returned (.tuple #[cv (hit1 a b n out), cv (hit2 a b n out), .int .i64 (errC a b n)]) ∧ Still w w' := by
  by_cases hm : MayC a ∧ MayC b
  · obtain ⟨ha, hb⟩ := hm
    by_cases hn : 1 ≤ n ∧ n ≤ 3
    · have e0 := errC_yes ha hb hn
      have e1 : hit1 a b n out = hitA a n out := by unfold hit1; rw [if_pos e0]
      have e2 : hit2 a b n out = hitW b out := by unfold hit2; rw [if_pos e0]
      rw [e1, e2, e0]
      cases out with
      | false =>
        refine shit_no a b (hitA a n false) n ha hb hn ?_ w
        rfl
      | true =>
        obtain ⟨h1, h2, h3, h4⟩ := ha
        refine shit_out a b ⟨bdC (a.p + n), bdC (a.h + 1), a.o, a.k⟩ (hitA a n true) (hitW b true) n ⟨h1, h2, h3, h4⟩ hb hn ⟨bdC_in _, ⟨bdC_pos (by omega), (bdC_in _).2⟩, h3, h4⟩ rfl ?_ ?_ w
        · show (⟨bdC (bdC (a.p + n) + (10 + min a.k 5)), bdC (a.h + 1), a.o, bdC (a.k + 1)⟩ : Scr) = ⟨bdC (a.p + (n + 10 + (if a.k < 5 then a.k else 5))), bdC (a.h + 1), a.o, bdC (a.k + 1)⟩
          rw [bdC_more h1.1 (by omega) (by omega), show n + (10 + min a.k 5) = n + 10 + (if a.k < 5 then a.k else 5) by split <;> omega]
        · rfl
    · have e0 := errC_arg ha hb hn
      have e1 : hit1 a b n out = zC := by unfold hit1; rw [e0]; rfl
      have e2 : hit2 a b n out = zC := by unfold hit2; rw [e0]; rfl
      rw [e1, e2, e0]
      exact shit_arg a b n out ha hb hn w
  · have e0 := errC_may (w := n) hm
    have e1 : hit1 a b n out = zC := by unfold hit1; rw [e0]; rfl
    have e2 : hit2 a b n out = zC := by unfold hit2; rw [e0]; rfl
    rw [e1, e2, e0]
    exact shit_may a b n out hm w
end Go.Proofs.Ytgkojpgpnkeacaa
