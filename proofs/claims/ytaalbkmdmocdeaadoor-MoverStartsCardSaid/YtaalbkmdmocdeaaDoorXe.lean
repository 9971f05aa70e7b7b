/- The program's Act. -/
import Derived.Test.YtaalbkmdmocdeaaDoorXc
import Derived.Test.YtaalbkmdmocdeaaDoorXd
import Derived.Test.YtaalbkmdmocdeaaDoorYc
import Derived.Deep.RegionWith
import Derived.Deep.DeepCutAuto
namespace Go.Proofs.YtaalbkmdmocdeaaDoor
open Go.RowKit
open Pu Gp Ap Vp Np
set_option maxRecDepth 100000

theorem act_may (m : Mv) (v a b c : Int) (hm : mayB m = false) (w : World) : Calls Tryd.prog 14 #[mv m, od v a b c] w fun e w' => e = .returned (.tuple #[mv zM, .bool false, .int .i64 80]) ∧ Still w w' := by
  have A0 := Still.alloc w (.cells (mcs m) 25)
  have A1 := Still.alloc (newM w m) (.cells #[.int .i64 v, .int .i64 a, .int .i64 b, .int .i64 c] 32)
  have A2 := Still.alloc (newO (newM w m) v a b c) (.cells (mcs zM) 25)
  have p0 := ((newM_mb w m).still A1).still A2
  have o0 := (newO_orb (newM w m) v a b c).still A2
  have q0 := newM_mb (newO (newM w m) v a b c) zM
  simp only [size_alloc] at o0 q0
  have HS0 := hid ((A0.trans A1).trans A2)
  clear A0 A1 A2
  obtain ⟨c0, c1, c2, c3, c4, c5, c6, c7, c8, c9, c10, c11, c12, cf⟩ := p0.cells
  obtain ⟨d0, d1, d2, d3, df⟩ := o0.cells
  have H := hid (fun w => check8_any m w)
  rw [show chkM m = 80 by unfold chkM; rw [hm]; rfl] at H
  clear hm
  go_enter Tryd.func14, Tryd.ntmps14
  go_wp2_with fail
  refine (H.out _).mono ?_
  rintro e w1 ⟨rfl, h1⟩
  have q1 := q0.still h1
  have HS1 := hid (HS0.out.trans h1)
  clear h1 HS0 p0 o0 q0 c0 c1 c2 c3 c4 c5 c6 c7 c8 c9 c10 c11 c12 cf d0 d1 d2 d3 df
  obtain ⟨k0, k1, k2, k3, k4, k5, k6, k7, k8, k9, k10, k11, k12, kf⟩ := q1.cells
  go_wp2_with fail
  refine bodyPost_ret (Mb.rest3 (Mb.put q1 _ _ _ _ _ _ _ _ _ _ _ _ _) rfl _ _ _ rfl rfl rfl) rfl ⟨rfl, ?_⟩
  repeat (first | refine setC_fr ?_ _ _ _ (by omega) | with_reducible exact HS1.out)
theorem act_ord (m : Mv) (v a b c : Int) (x : Int) (hm : mayB m = true) (hc : chkO v a b c = x) (hx : x ≠ 0) (w : World) : Calls Tryd.prog 14 #[mv m, od v a b c] w fun e w' => e = .returned (.tuple #[mv zM, .bool false, .int .i64 x]) ∧ Still w w' := by
  have hx1 : (x != 0) = true := by simpa using hx
  clear hx
  have A0 := Still.alloc w (.cells (mcs m) 25)
  have A1 := Still.alloc (newM w m) (.cells #[.int .i64 v, .int .i64 a, .int .i64 b, .int .i64 c] 32)
  have A2 := Still.alloc (newO (newM w m) v a b c) (.cells (mcs zM) 25)
  have p0 := ((newM_mb w m).still A1).still A2
  have o0 := (newO_orb (newM w m) v a b c).still A2
  have q0 := newM_mb (newO (newM w m) v a b c) zM
  simp only [size_alloc] at o0 q0
  have HS0 := hid ((A0.trans A1).trans A2)
  clear A0 A1 A2
  obtain ⟨c0, c1, c2, c3, c4, c5, c6, c7, c8, c9, c10, c11, c12, cf⟩ := p0.cells
  obtain ⟨d0, d1, d2, d3, df⟩ := o0.cells
  have H := hid (fun w => check8_any m w)
  rw [show chkM m = 0 by unfold chkM; rw [hm]; rfl] at H
  have HO := hid (fun u => vcheck_any v a b c u)
  rw [hc] at HO
  clear hm hc
  go_enter Tryd.func14, Tryd.ntmps14
  go_wp2_with fail
  refine (H.out _).mono ?_
  rintro e w1 ⟨rfl, h1⟩
  have p1 := p0.still h1
  have o1 := o0.still h1
  have q1 := q0.still h1
  have HS1 := hid (HS0.out.trans h1)
  clear h1 HS0 p0 o0 q0 c0 c1 c2 c3 c4 c5 c6 c7 c8 c9 c10 c11 c12 cf d0 d1 d2 d3 df H
  obtain ⟨d0, d1, d2, d3, df⟩ := o1.cells
  go_wp2_with fail
  refine (HO.out _).mono ?_
  rintro e w2 ⟨rfl, h2⟩
  have p2 := p1.still h2
  have o2 := o1.still h2
  have q2 := q1.still h2
  have HS2 := hid (HS1.out.trans h2)
  clear h2 HS1 p1 o1 q1 d0 d1 d2 d3 df HO
  obtain ⟨k0, k1, k2, k3, k4, k5, k6, k7, k8, k9, k10, k11, k12, kf⟩ := q2.cells
  go_wp2_with fail
  refine bodyPost_ret (Mb.rest3 (Mb.put q2 _ _ _ _ _ _ _ _ _ _ _ _ _) rfl _ _ _ rfl rfl rfl) rfl ⟨rfl, ?_⟩
  repeat (first | refine setC_fr ?_ _ _ _ (by omega) | with_reducible exact HS2.out)
set_option maxHeartbeats 2000000 in
theorem act_out (m : Mv) (v a b c : Int) (hm : mayB m = true) (hc : chkO v a b c = 0) (h0 : (m.ou == 0) = false) (w : World) : Calls Tryd.prog 14 #[mv m, od v a b c] w fun e w' => e = .returned (.tuple #[mv m, .bool false, .int .i64 0]) ∧ Still w w' := by
  have A0 := Still.alloc w (.cells (mcs m) 25)
  have A1 := Still.alloc (newM w m) (.cells #[.int .i64 v, .int .i64 a, .int .i64 b, .int .i64 c] 32)
  have A2 := Still.alloc (newO (newM w m) v a b c) (.cells (mcs zM) 25)
  have p0 := ((newM_mb w m).still A1).still A2
  have o0 := (newO_orb (newM w m) v a b c).still A2
  have q0 := newM_mb (newO (newM w m) v a b c) zM
  simp only [size_alloc] at o0 q0
  have HS0 := hid ((A0.trans A1).trans A2)
  clear A0 A1 A2
  obtain ⟨c0, c1, c2, c3, c4, c5, c6, c7, c8, c9, c10, c11, c12, cf⟩ := p0.cells
  obtain ⟨d0, d1, d2, d3, df⟩ := o0.cells
  have H := hid (fun w => check8_any m w)
  rw [show chkM m = 0 by unfold chkM; rw [hm]; rfl] at H
  have HO := hid (fun u => vcheck_any v a b c u)
  rw [hc] at HO
  clear hm hc
  go_enter Tryd.func14, Tryd.ntmps14
  go_wp2_with fail
  refine (H.out _).mono ?_
  rintro e w1 ⟨rfl, h1⟩
  have p1 := p0.still h1
  have o1 := o0.still h1
  have q1 := q0.still h1
  have HS1 := hid (HS0.out.trans h1)
  clear h1 HS0 p0 o0 q0 c0 c1 c2 c3 c4 c5 c6 c7 c8 c9 c10 c11 c12 cf d0 d1 d2 d3 df H
  obtain ⟨d0, d1, d2, d3, df⟩ := o1.cells
  go_wp2_with fail
  refine (HO.out _).mono ?_
  rintro e w2 ⟨rfl, h2⟩
  have p2 := p1.still h2
  have o2 := o1.still h2
  have q2 := q1.still h2
  have HS2 := hid (HS1.out.trans h2)
  clear h2 HS1 p1 o1 q1 d0 d1 d2 d3 df HO
  have AW := Still.alloc w2 (.cells (mcs m) 57)
  have g2 : Wb (w2.alloc (.cells (mcs m) 57)) w2.heap.size m := newW_wb w2 m
  have HL := hid (And.intro HS2.out.size q2.lt)
  have HS3 := hid (HS2.out.trans AW)
  have o3 := o2.still AW
  have q3 := q2.still AW
  obtain ⟨c0, c1, c2, c3, c4, c5, c6, c7, c8, c9, c10, c11, c12, cf⟩ := p2.cells
  clear AW HS2 o2 q2
  have HP := hid (fun w => inplay_any m w)
  rw [h0] at HP
  clear h0
  obtain ⟨W, eW⟩ : ∃ W, w2.alloc (.cells (mcs m) 57) = W := ⟨_, rfl⟩
  rw [eW] at g2 HS3 o3 q3
  simp only [mcs] at eW
  go_upto_region 8 with fail
  clear eW p2 c0 c1 c2 c3 c4 c5 c6 c7 c8 c9 c10 c11 c12 cf
  obtain ⟨c0, c1, c2, c3, c4, c5, c6, c7, c8, c9, c10, c11, c12, cf⟩ := g2.cells
  have k0 := Cl.cell c0
  have k1 := Cl.cell c1
  have k2 := Cl.cell c2
  have k3 := Cl.cell c3
  have k4 := Cl.cell c4
  have k5 := Cl.cell c5
  have k6 := Cl.cell c6
  have k7 := Cl.cell c7
  have k8 := Cl.cell c8
  have k9 := Cl.cell c9
  have k10 := Cl.cell c10
  have k11 := Cl.cell c11
  have k12 := Cl.cell c12
  have hne := Aft.here W
  clear c0 c1 c2 c3 c4 c5 c6 c7 c8 c9 c10 c11 c12 cf
  refine region_all (by kernel_rfl) (by kernel_rfl) ?_
  repeat (go_big_quiet_step ((go_at_call 32; exact Calls.cl (HP.out _))))
  refine wpQuiet_nil ?_
  intro w3 hs
  clear hne k0 k1 k2 k3 k4 k5 k6 k7 k8 k9 k10 k11 k12
  have g4 := g2.still hs
  have q4 := q3.still hs
  have HS4 := hid (HS3.out.trans hs)
  clear hs g2 q3 o3 HS3
  obtain ⟨c0, c1, c2, c3, c4, c5, c6, c7, c8, c9, c10, c11, c12, cf⟩ := g4.cells
  obtain ⟨k0, k1, k2, k3, k4, k5, k6, k7, k8, k9, k10, k11, k12, kf⟩ := q4.cells
  go_wp2_with fail
  refine bodyPost_ret (Mb.rest3 (Mb.put q4 _ _ _ _ _ _ _ _ _ _ _ _ _) rfl _ _ _ rfl rfl rfl) rfl ⟨rfl, ?_⟩
  repeat (first | refine setC_fr ?_ _ _ _ (by omega) | with_reducible exact HS4.out)
set_option maxHeartbeats 4000000 in
theorem act_in (m : Mv) (v a b c : Int) (f : Nat) (D : Bool) (n : Mv) (hm : mayB m = true) (hc : chkO v a b c = 0) (h0 : (m.ou == 0) = true) (hl8 : ∀ w bl, Dsb w bl → (Instr.lookup 61 (.map (some bl)) (.int .i64 v) false).run Tryd.prog w = .ok (mth f) w) (ef : ∀ args w, (callFunc f args).run Tryd.prog w = .ok (.enter f args) w) (x : World) (hM : ∀ w g, Still x w → x.heap.size ≤ g → Wb w g m → Calls Tryd.prog f #[.pointer (some ⟨g, 0, none⟩), od v a b c] w fun e w' => e = .returned (.bool D) ∧ Dn g w w' n) (w : World) (hxw : x = w) : Calls Tryd.prog 14 #[mv m, od v a b c] w fun e w' => e = .returned (.tuple #[mv n, .bool D, .int .i64 0]) ∧ Still w w' := by
  have HL8 := hid hl8
  have HM8 := hid hM
  have HX := hid hxw
  clear hl8 hM hxw
  have A0 := Still.alloc w (.cells (mcs m) 25)
  have A1 := Still.alloc (newM w m) (.cells #[.int .i64 v, .int .i64 a, .int .i64 b, .int .i64 c] 32)
  have A2 := Still.alloc (newO (newM w m) v a b c) (.cells (mcs zM) 25)
  have p0 := ((newM_mb w m).still A1).still A2
  have o0 := (newO_orb (newM w m) v a b c).still A2
  have q0 := newM_mb (newO (newM w m) v a b c) zM
  simp only [size_alloc] at o0 q0
  have HS0 := hid ((A0.trans A1).trans A2)
  clear A0 A1 A2
  obtain ⟨c0, c1, c2, c3, c4, c5, c6, c7, c8, c9, c10, c11, c12, cf⟩ := p0.cells
  obtain ⟨d0, d1, d2, d3, df⟩ := o0.cells
  have H := hid (fun w => check8_any m w)
  rw [show chkM m = 0 by unfold chkM; rw [hm]; rfl] at H
  have HO := hid (fun u => vcheck_any v a b c u)
  rw [hc] at HO
  clear hm hc
  go_enter Tryd.func14, Tryd.ntmps14
  go_wp2_with fail
  refine (H.out _).mono ?_
  rintro e w1 ⟨rfl, h1⟩
  have p1 := p0.still h1
  have o1 := o0.still h1
  have q1 := q0.still h1
  have HS1 := hid (HS0.out.trans h1)
  clear h1 HS0 p0 o0 q0 c0 c1 c2 c3 c4 c5 c6 c7 c8 c9 c10 c11 c12 cf d0 d1 d2 d3 df H
  obtain ⟨d0, d1, d2, d3, df⟩ := o1.cells
  go_wp2_with fail
  refine (HO.out _).mono ?_
  rintro e w2 ⟨rfl, h2⟩
  have p2 := p1.still h2
  have o2 := o1.still h2
  have q2 := q1.still h2
  have HS2 := hid (HS1.out.trans h2)
  clear h2 HS1 p1 o1 q1 d0 d1 d2 d3 df HO
  have AW := Still.alloc w2 (.cells (mcs m) 57)
  have g2 : Wb (w2.alloc (.cells (mcs m) 57)) w2.heap.size m := newW_wb w2 m
  have HL := hid (And.intro HS2.out.size q2.lt)
  have HS3 := hid (HS2.out.trans AW)
  have o3 := o2.still AW
  have q3 := q2.still AW
  obtain ⟨c0, c1, c2, c3, c4, c5, c6, c7, c8, c9, c10, c11, c12, cf⟩ := p2.cells
  clear AW HS2 o2 q2
  have HP := hid (fun w => inplay_any m w)
  rw [h0] at HP
  clear h0
  have HMg : Hid (∀ u, Still w u → Wb u w2.heap.size m → Calls Tryd.prog f #[.pointer (some ⟨w2.heap.size, 0, none⟩), od v a b c] u fun e w' => e = .returned (.bool D) ∧ Dn w2.heap.size u w' n) := hid (fun u hu hw => HM8.out u _ (by rw [HX.out]; exact hu) (by rw [HX.out]; exact HL.out.1) hw)
  clear HM8 HX
  obtain ⟨W, eW⟩ : ∃ W, w2.alloc (.cells (mcs m) 57) = W := ⟨_, rfl⟩
  rw [eW] at g2 HS3 o3 q3
  simp only [mcs] at eW
  go_upto_region 8 with fail
  clear eW p2 c0 c1 c2 c3 c4 c5 c6 c7 c8 c9 c10 c11 c12 cf
  obtain ⟨c0, c1, c2, c3, c4, c5, c6, c7, c8, c9, c10, c11, c12, cf⟩ := g2.cells
  obtain ⟨d0, d1, d2, d3, df⟩ := o3.cells
  go_cut [10] (fun vv wx => vv = .bool D ∧ Mb wx (w.heap.size + 1 + 1) zM ∧ Wb wx w2.heap.size n ∧ Still w wx)
  case first =>
    go_region_with (first | (go_at_call 32; refine (HP.out _).mono ?_; rintro e w3 ⟨rfl, h3⟩; have g3 := g2.still (Still.undrew h3); have o4 := o3.still (Still.undrew h3); have q4 := q3.still (Still.undrew h3); have HS4 := hid (HS3.out.trans (Still.undrew h3)); clear h3; obtain ⟨i0, i1, i2, i3, jf⟩ := o4.cells) | (go_at_call 33; refine (deeds_any _).mono ?_; rintro e w4 ⟨bl, rfl, hbl, hds, h4⟩; have hl := HL8.out w4 bl hds; have g5 := g3.still h4; have o5 := o4.still h4; have q5 := q4.still h4; have HS5 := hid (HS4.out.trans h4); clear h4 hbl hds; obtain ⟨j0, j1, j2, j3, jjf⟩ := o5.cells) | (refine (HMg.out w4 HS5.out g5).mono ?_; rintro e w5 ⟨rfl, hd⟩))
    all_goals
      go_wp2_with fail
      go_meet
      have HS6 := hd.over HS5.out HL.out.1
      exact ⟨rfl, hd.2.kept q5 (by have := HL.out.2; omega), hd.1, HS6⟩
  case rest =>
    obtain ⟨rfl, q6, g6, hs6⟩ := hcut
    have HS6 := hid hs6
    clear hs6 c0 c1 c2 c3 c4 c5 c6 c7 c8 c9 c10 c11 c12 cf d0 d1 d2 d3 df
    obtain ⟨c0, c1, c2, c3, c4, c5, c6, c7, c8, c9, c10, c11, c12, cf⟩ := g6.cells
    obtain ⟨k0, k1, k2, k3, k4, k5, k6, k7, k8, k9, k10, k11, k12, kf⟩ := q6.cells
    go_wp2_with fail
    refine bodyPost_ret (Mb.rest3 (Mb.put q6 _ _ _ _ _ _ _ _ _ _ _ _ _) rfl _ _ _ rfl rfl rfl) rfl ⟨rfl, ?_⟩
    repeat (first | refine setC_fr ?_ _ _ _ (by omega) | with_reducible exact HS6.out)
theorem act_any (m : Mv) (v a b c : Int) (w : World) (ht : Tab w) : Calls Tryd.prog 14 #[mv m, od v a b c] w fun e w' => e = .returned (.tuple #[mv (actM m v a b c), .bool (actD m v a b c), .int .i64 (errA m v a b c)]) ∧ Still w w' := by
  cases hm : mayB m with
  | false =>
    have e : errA m v a b c = 80 := by unfold errA; rw [hm]; rfl
    have e2 : actD m v a b c = false := by unfold actD; rw [e]; rfl
    have e3 : actM m v a b c = zM := by unfold actM; rw [e]; rfl
    rw [e, e2, e3]
    exact act_may m v a b c hm w
  | true =>
    have e : errA m v a b c = chkO v a b c := by unfold errA; rw [hm]; rfl
    by_cases hc : chkO v a b c = 0
    · rw [hc] at e
      by_cases h0 : m.ou = 0
      · obtain ⟨g1, g2, g3, g4, g5, g6, g7, g8, g9, g10, g11⟩ := mayB_iff.1 hm
        have e2 : actD m v a b c = doneA m v a := by unfold actD; rw [e]; simp
        have e3 : actM m v a b c = dnM m v a b := by unfold actM dnM; rw [e]; rfl
        rw [e, e2, e3]
        obtain ⟨f, hf⟩ : ∃ f, ∀ g, w.heap.size ≤ g → Mth w g m v a b c f := meth8g w m v a b c ht h0 g6.1 g6.2 g7.1 hc
        exact act_in m v a b c f _ _ hm hc (by simpa using h0) (hf _ (Nat.le_refl _)).look (hf _ (Nat.le_refl _)).enter w (fun u g hu hg hw => (hf g hg).does u hu hw) w rfl
      · have hz : (m.ou == 0) = false := by simpa using h0
        have d : doneA m v a = false := by unfold doneA; rw [hz]; rfl
        have e2 : actD m v a b c = false := by unfold actD; rw [d]; simp
        have e3 : actM m v a b c = m := by unfold actM; rw [e, d]; rfl
        rw [e, e2, e3]
        exact act_out m v a b c hm hc hz w
    · have e2 : actD m v a b c = false := by unfold actD; rw [e]; simp [hc]
      have e3 : actM m v a b c = zM := by unfold actM; rw [e, if_neg hc]
      rw [e, e2, e3]
      exact act_ord m v a b c _ hm rfl hc w
end Go.Proofs.YtaalbkmdmocdeaaDoor
