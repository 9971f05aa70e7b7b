/- The document's Fire and Fly. -/
import Derived.Test.YtmbllkkoanjghaaDoorZc
import Derived.Test.YtmbllkkoanjghaaDoorK8
import Derived.Test.YtmbllkkoanjghaaDoorK5b
import Derived.Test.YtmbllkkoanjghaaDoorK6b
import Derived.Deep.RegionHeld3
import Derived.Deep.DeepCutAuto
namespace Go.Proofs.YtmbllkkoanjghaaDoor
open Go.RowKit
open Pu Gp Ap Vp Np Za
set_option maxRecDepth 100000

theorem rfire_may (m : Mv) (ow pw no : Int) (hm : mayB m = false) (w : World) : Calls Tryd.prog 14 #[mv m, .int .i64 ow, .int .i64 pw, .int .i64 no] w fun e w' => e = .returned (.tuple #[sv zS, .int .i64 80]) ∧ Still w w' := by
  have A0 := Still.alloc w (.cells (mcs m) 32)
  have A1 := Still.alloc (newM w m) (.cells (scs zS) 25)
  have p0 := (newM_mb w m).still A1
  have q0 := newS_sb (newM w m) zS
  simp only [size_alloc] at q0
  have HS0 := hid (A0.trans A1)
  clear A0 A1
  obtain ⟨c0, c1, c2, c3, c4, c5, c6, c7, c8, c9, c10, c11, c12, cf⟩ := p0.cells
  have H := hid (fun w => rcheck8_any m w)
  rw [show chkM m = 80 by unfold chkM; rw [hm]; rfl] at H
  clear hm
  go_enter Tryd.func14, Tryd.ntmps14
  go_wp2_with fail
  refine (H.out _).mono ?_
  rintro e w1 ⟨rfl, h1⟩
  have p1 := p0.still h1
  have q1 := q0.still h1
  have HS1 := hid (HS0.out.trans h1)
  clear h1 HS0 p0 q0 c0 c1 c2 c3 c4 c5 c6 c7 c8 c9 c10 c11 c12 cf H
  obtain ⟨c0, c1, c2, c3, c4, c5, c6, c7, c8, c9, c10, c11, c12, cf⟩ := p1.cells
  obtain ⟨k0, k1, k2, k3, k4, k5, k6, k7, kf⟩ := q1.cells
  go_wp2_with fail
  refine bodyPost_ret (Sb.rest (Sb.put q1 _ _ _ _ _ _ _ _) rfl _ _ rfl rfl) rfl ⟨rfl, ?_⟩
  repeat (first | refine setC_fr ?_ _ _ _ (by omega) | with_reducible exact HS1.out)
set_option maxHeartbeats 1000000 in
theorem rfire_arg (m : Mv) (ow pw no : Int) (hm : mayB m = true) (ha : argB ow pw no = false) (w : World) : Calls Tryd.prog 14 #[mv m, .int .i64 ow, .int .i64 pw, .int .i64 no] w fun e w' => e = .returned (.tuple #[sv zS, .int .i64 1]) ∧ Still w w' := by
  have HA : Hid (¬ ow < 0 → ¬ ow > 5 → ¬ pw < 1 → ¬ pw > 3 → ¬ no < 1 → no > 1099511627776) := hid (fun h1 h2 h3 h4 h5 => by
    cases h : decide (no > 1099511627776) with
    | true => simpa using h
    | false =>
      have h6 : ¬ no > 1099511627776 := by simpa using h
      have := argB_iff.2 (show (0 ≤ ow ∧ ow ≤ 5) ∧ (1 ≤ pw ∧ pw ≤ 3) ∧ 1 ≤ no ∧ no ≤ 1099511627776 by omega)
      rw [this] at ha
      cases ha)
  clear ha
  have A0 := Still.alloc w (.cells (mcs m) 32)
  have A1 := Still.alloc (newM w m) (.cells (scs zS) 25)
  have p0 := (newM_mb w m).still A1
  have q0 := newS_sb (newM w m) zS
  simp only [size_alloc] at q0
  have HS0 := hid (A0.trans A1)
  clear A0 A1
  obtain ⟨c0, c1, c2, c3, c4, c5, c6, c7, c8, c9, c10, c11, c12, cf⟩ := p0.cells
  have H := hid (fun w => rcheck8_any m w)
  rw [show chkM m = 0 by unfold chkM; rw [hm]; rfl] at H
  clear hm
  go_enter Tryd.func14, Tryd.ntmps14
  go_wp2_with fail
  refine (H.out _).mono ?_
  rintro e w1 ⟨rfl, h1⟩
  have p1 := p0.still h1
  have q1 := q0.still h1
  have HS1 := hid (HS0.out.trans h1)
  clear h1 HS0 p0 q0 c0 c1 c2 c3 c4 c5 c6 c7 c8 c9 c10 c11 c12 cf H
  obtain ⟨c0, c1, c2, c3, c4, c5, c6, c7, c8, c9, c10, c11, c12, cf⟩ := p1.cells
  obtain ⟨k0, k1, k2, k3, k4, k5, k6, k7, kf⟩ := q1.cells
  by_cases g0 : ow < 0
  · go_wp2_with fail
    refine bodyPost_ret (Sb.rest (Sb.put q1 _ _ _ _ _ _ _ _) rfl _ _ rfl rfl) rfl ⟨rfl, ?_⟩
    repeat (first | refine setC_fr ?_ _ _ _ (by omega) | with_reducible exact HS1.out)
  · skip
    by_cases g1 : ow > 5
    · go_wp2_with fail
      refine bodyPost_ret (Sb.rest (Sb.put q1 _ _ _ _ _ _ _ _) rfl _ _ rfl rfl) rfl ⟨rfl, ?_⟩
      repeat (first | refine setC_fr ?_ _ _ _ (by omega) | with_reducible exact HS1.out)
    · skip
      by_cases g2 : pw < 1
      · go_wp2_with fail
        refine bodyPost_ret (Sb.rest (Sb.put q1 _ _ _ _ _ _ _ _) rfl _ _ rfl rfl) rfl ⟨rfl, ?_⟩
        repeat (first | refine setC_fr ?_ _ _ _ (by omega) | with_reducible exact HS1.out)
      · skip
        by_cases g3 : pw > 3
        · go_wp2_with fail
          refine bodyPost_ret (Sb.rest (Sb.put q1 _ _ _ _ _ _ _ _) rfl _ _ rfl rfl) rfl ⟨rfl, ?_⟩
          repeat (first | refine setC_fr ?_ _ _ _ (by omega) | with_reducible exact HS1.out)
        · skip
          by_cases g4 : no < 1
          · go_wp2_with fail
            refine bodyPost_ret (Sb.rest (Sb.put q1 _ _ _ _ _ _ _ _) rfl _ _ rfl rfl) rfl ⟨rfl, ?_⟩
            repeat (first | refine setC_fr ?_ _ _ _ (by omega) | with_reducible exact HS1.out)
          · skip
            have g5 : no > 1099511627776 := HA.out (by omega) (by omega) (by omega) (by omega) (by omega)
            go_wp2_with fail
            refine bodyPost_ret (Sb.rest (Sb.put q1 _ _ _ _ _ _ _ _) rfl _ _ rfl rfl) rfl ⟨rfl, ?_⟩
            repeat (first | refine setC_fr ?_ _ _ _ (by omega) | with_reducible exact HS1.out)
set_option maxHeartbeats 2000000 in
theorem rfire_ok (m : Mv) (ow pw no : Int) (hm : mayB m = true) (a0 : ¬ ow < 0) (a1 : ¬ ow > 5) (a2 : ¬ pw < 1) (a3 : ¬ pw > 3) (a4 : ¬ no < 1) (a5 : decide (1099511627776 < no) = false) (U V : Int) (eU : ux (dir m.fc) = U) (eV : uy (dir m.fc) = V) (w : World) (ht : RTab w) : Calls Tryd.prog 14 #[mv m, .int .i64 ow, .int .i64 pw, .int .i64 no] w fun e w' => e = .returned (.tuple #[sv ⟨no, ow, pw, addf m.ax (mulf U 1792), addf m.ay (mulf V 1792), mulf U (256 * (7 - pw)), mulf V (256 * (7 - pw)), 40⟩, .int .i64 0]) ∧ Still w w' := by
  obtain ⟨X, eX⟩ : ∃ X, addf m.ax (mulf U 1792) = X := ⟨_, rfl⟩
  obtain ⟨Y, eY⟩ : ∃ Y, addf m.ay (mulf V 1792) = Y := ⟨_, rfl⟩
  have HAd := hid (fun u => rgadd_any m.ax m.ay (mulf U 1792) (mulf V 1792) u)
  rw [eX, eY] at HAd ⊢
  clear eX eY
  have A0 := Still.alloc w (.cells (mcs m) 32)
  have A1 := Still.alloc (newM w m) (.cells (scs zS) 25)
  have p0 := (newM_mb w m).still A1
  have q0 := newS_sb (newM w m) zS
  simp only [size_alloc] at q0
  have HS0 := hid (A0.trans A1)
  clear A0 A1
  obtain ⟨c0, c1, c2, c3, c4, c5, c6, c7, c8, c9, c10, c11, c12, cf⟩ := p0.cells
  have H := hid (fun w => rcheck8_any m w)
  rw [show chkM m = 0 by unfold chkM; rw [hm]; rfl] at H
  have HU := hid (fun u (hu : Still w u) => runit_any m.fc u (ht.still hu))
  rw [eU, eV] at HU
  clear hm ht eU eV
  go_enter Tryd.func14, Tryd.ntmps14
  go_wp2_with fail
  refine (H.out _).mono ?_
  rintro e w1 ⟨rfl, h1⟩
  have p1 := p0.still h1
  have q1 := q0.still h1
  have HS1 := hid (HS0.out.trans h1)
  clear h1 HS0 p0 q0 c0 c1 c2 c3 c4 c5 c6 c7 c8 c9 c10 c11 c12 cf H
  obtain ⟨c0, c1, c2, c3, c4, c5, c6, c7, c8, c9, c10, c11, c12, cf⟩ := p1.cells
  obtain ⟨k0, k1, k2, k3, k4, k5, k6, k7, kf⟩ := q1.cells
  go_wp2_with fail
  refine (HU.out _ HS1.out).mono ?_
  rintro e w2 ⟨rfl, h2⟩
  have A2 := Still.alloc w2 (.cells #[.int .i64 U, .int .i64 V] 23)
  have p2 := (p1.still h2).still A2
  have q2 := (q1.still h2).still A2
  have u2 : Pb (w2.alloc (.cells #[.int .i64 U, .int .i64 V] 23)) w2.heap.size U V := newP_pb w2 U V
  have HS2 := hid ((HS1.out.trans h2).trans A2)
  clear h2 A2 HS1 p1 q1 HU c0 c1 c2 c3 c4 c5 c6 c7 c8 c9 c10 c11 c12 cf k0 k1 k2 k3 k4 k5 k6 k7 kf
  obtain ⟨W, eW⟩ : ∃ W, w2.alloc (.cells #[.int .i64 U, .int .i64 V] 23) = W := ⟨_, rfl⟩
  rw [eW] at p2 q2 u2 HS2
  go_upto_region 7 with fail
  clear eW
  obtain ⟨c0, c1, c2, c3, c4, c5, c6, c7, c8, c9, c10, c11, c12, cf⟩ := p2.cells
  obtain ⟨d0, d1, df⟩ := u2.cells
  have n1 : W.heap.size ≠ w.heap.size := by have := p2.lt; omega
  have n2 : W.heap.size ≠ w2.heap.size := by have := block_lt u2; omega
  have nq : w.heap.size + 1 ≠ W.heap.size := by have := q2.lt; omega
  have hb : w.heap.size ≤ W.heap.size := HS2.out.size
  go_cut [12] (fun v wx => ∃ b, v = .pointer (some ⟨b, 0, none⟩) ∧ Pb wx b X Y ∧ Pb wx w2.heap.size U V ∧ Sb wx (w.heap.size + 1) zS ∧ Still w wx)
  case first =>
    go_region_held3 (fun w' => w'.cell? ⟨w.heap.size, 0, none⟩ = some (.int .i64 m.ax) ∧ w'.cell? ⟨w.heap.size, 1, none⟩ = some (.int .i64 m.ay) ∧ w'.cell? ⟨w2.heap.size, 0, none⟩ = some (.int .i64 U) ∧ w'.cell? ⟨w2.heap.size, 1, none⟩ = some (.int .i64 V)) (go_keep)
      (first
        | (go_at_call 31
           refine (rgscale_any U V 1792 _).mono ?_
           rintro e w3 ⟨rfl, h3⟩
           have h3' : Still W w3 := by first | exact Still.undrew h3 | exact (Still.alloc W (.cells #[.int .i64 0, .int .i64 0] 23)).trans (Still.undrew h3)
           have p3 := p2.still h3'
           have u3 := u2.still h3'
           have q3 := q2.still h3'
           have HS3 := hid (HS2.out.trans h3')
           obtain ⟨y0, y1, _⟩ := p3.cells
           obtain ⟨z0, z1, _⟩ := u3.cells
           have n3 : w3.heap.size ≠ w.heap.size := by have := p3.lt; omega
           have n4 : w3.heap.size ≠ w2.heap.size := by have := block_lt u3; omega
           have nq3 : w.heap.size + 1 ≠ w3.heap.size := by have := q3.lt; omega
           have hb3 : w.heap.size ≤ w3.heap.size := HS3.out.size
           (try have x3 : Pb w3 W.heap.size 0 0 := (newP_pb W 0 0).still (Still.undrew h3))
           clear h3 h3')
        | (go_at_call 30
           refine (HAd.out _).mono ?_
           rintro e w4 ⟨rfl, h4⟩
           have h4' : Still w3 w4 := by first | exact h4 | exact (Still.alloc w3 (.cells #[.int .i64 0, .int .i64 0] 23)).trans h4
           have p4 := p3.still h4'
           have u4 := u3.still h4'
           have q4 := q3.still h4'
           have HS4 := hid (HS3.out.trans h4')
           obtain ⟨r0, r1, _⟩ := p4.cells
           obtain ⟨t0, t1, _⟩ := u4.cells
           have n5 : w4.heap.size ≠ w.heap.size := by have := p4.lt; omega
           have n6 : w4.heap.size ≠ w2.heap.size := by have := block_lt u4; omega
           (first | have x4 : Pb w4 W.heap.size 0 0 := x3.still h4' | have x4 : Pb w4 w3.heap.size 0 0 := (newP_pb w3 0 0).still h4 | skip)
           (try obtain ⟨e0, e1, ef⟩ := x4.cells)
           clear h4 h4'))
    all_goals
      go_wp2_with fail
      go_meet
      first
        | exact ⟨w4.heap.size, rfl, newP_pb w4 X Y, u4.still (Still.alloc _ _), q4.still (Still.alloc _ _), HS4.out.trans (Still.alloc _ _)⟩
        | exact ⟨W.heap.size, rfl, x4.set X Y, setP_pb u4 n2.symm X Y, (q4.other _ 0 _ nq).other _ 1 _ nq, setP_fr HS4.out _ X Y (.inr hb)⟩
        | exact ⟨w3.heap.size, rfl, x4.set X Y, setP_pb u4 n4.symm X Y, (q4.other _ 0 _ nq3).other _ 1 _ nq3, setP_fr HS4.out _ X Y (.inr hb3)⟩
  case rest =>
    obtain ⟨b, rfl, x5, u5, q5, hs5⟩ := hcut
    have HS5 := hid hs5
    clear hs5 p2 q2 u2 HS2 HAd n1 n2 nq hb d0 d1 df c0 c1 c2 c3 c4 c5 c6 c7 c8 c9 c10 c11 c12 cf
    obtain ⟨d0, d1, df⟩ := x5.cells
    obtain ⟨e0, e1, ef⟩ := u5.cells
    have k0 := Cl.cell d0
    have k1 := Cl.cell d1
    have k2 := Cl.cell e0
    have k3 := Cl.cell e1
    have HSc := hid (fun u => rgscale_any U V (256 * (7 - pw)) u)
    go_upto_region 8 with fail
    have hne := Aft.here wc
    clear d0 d1 df e0 e1 ef
    refine region_rest 10 (by kernel_rfl) (by kernel_rfl) ?_
    simp only [List.take_succ_cons, List.take_zero, List.drop_succ_cons, List.drop_zero]
    repeat (go_big_quiet_step ((go_at_call 31; exact Calls.cl (HSc.out _))))
    refine wpQuiet_nil ?_
    intro w6 hs
    clear hne k0 k1 k2 k3
    have q6 := q5.still hs
    have HS6 := hid (HS5.out.trans hs)
    clear hs q5 HS5 x5 u5
    obtain ⟨k0, k1, k2, k3, k4, k5, k6, k7, kf⟩ := q6.cells
    go_wp2_with fail
    (try simp only [Exit.inBlock, Exit.then])
    refine bodyPost_ret (Sb.rest (Sb.put q6 _ _ _ _ _ _ _ _) rfl _ _ rfl rfl) rfl ⟨rfl, ?_⟩
    repeat (first | refine setC_fr ?_ _ _ _ (by omega) | with_reducible exact HS6.out)
theorem rfire_any (m : Mv) (ow pw no : Int) (w : World) (ht : RTab w) : Calls Tryd.prog 14 #[mv m, .int .i64 ow, .int .i64 pw, .int .i64 no] w fun e w' => e = .returned (.tuple #[sv (firS m ow pw no), .int .i64 (errF m ow pw no)]) ∧ Still w w' := by
  cases hm : mayB m with
  | false =>
    have e : errF m ow pw no = 80 := by unfold errF; rw [hm]; rfl
    have e2 : firS m ow pw no = zS := by unfold firS; rw [e]; rfl
    rw [e, e2]
    exact rfire_may m ow pw no hm w
  | true =>
    cases ha : argB ow pw no with
    | false =>
      have e : errF m ow pw no = 1 := by unfold errF; rw [hm, ha]; rfl
      have e2 : firS m ow pw no = zS := by unfold firS; rw [e]; rfl
      rw [e, e2]
      exact rfire_arg m ow pw no hm ha w
    | true =>
      have e : errF m ow pw no = 0 := by unfold errF; rw [hm, ha]; rfl
      have e2 : firS m ow pw no = fired m ow pw no := by unfold firS; rw [e]; rfl
      rw [e, e2]
      have h := argB_iff.1 ha
      exact rfire_ok m ow pw no hm (by omega) (by omega) (by omega) (by omega) (by omega) (by simp; omega) _ _ rfl rfl w ht
end Go.Proofs.YtmbllkkoanjghaaDoor
