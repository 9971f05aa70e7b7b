/- The program's Apart. -/
import Derived.Test.YtpohikhiekmfgaaJd
import Derived.Test.YtpohikhiekmfgaaYga
namespace Go.Proofs.Ytpohikhiekmfgaa
open Go.RowKit
open Pu Gp Ap Vp Np Za Ka Ja
set_option maxRecDepth 100000

set_option maxHeartbeats 2000000 in
theorem hapart_no1 (a b : Mv) (ha : mayB a = false) (w : World) : Calls Try.prog 15 #[mv a, mv b] w fun e w' => e = .returned (.tuple #[mv zM, mv zM, .int .i64 110]) ∧ Still w w' := by
  have A0 := Still.alloc w (.cells (mcs a) 35)
  have A1 := Still.alloc (newM w a) (.cells (mcs b) 35)
  have A2 := Still.alloc (newM (newM w a) b) (.cells (mcs zM) 35)
  have A3 := Still.alloc (newM (newM (newM w a) b) zM) (.cells (mcs zM) 35)
  have p0 := ((newM_mb w a).still A1).still A2 |>.still A3
  have q0 := ((newM_mb (newM w a) b).still A2).still A3
  have r0 := (newM_mb (newM (newM w a) b) zM).still A3
  have s0 := newM_mb (newM (newM (newM w a) b) zM) zM
  simp only [size_alloc] at q0 r0 s0
  have HS0 := hid (((A0.trans A1).trans A2).trans A3)
  have HMa := hid (fun w => hmay_any a w)
  have HMb := hid (fun w => hmay_any b w)
  clear A0 A1 A2 A3
  rw [ha] at HMa
  clear ha
  obtain ⟨c0, c1, c2, c3, c4, c5, c6, c7, c8, c9, c10, c11, c12, cf⟩ := p0.cells
  obtain ⟨d0, d1, d2, d3, d4, d5, d6, d7, d8, d9, d10, d11, d12, df⟩ := q0.cells
  go_enter Try.func15, Try.ntmps15
  go_wp2_with fail
  refine (HMa.out _).mono ?_
  rintro e w1 ⟨rfl, h1⟩
  have p1 := p0.still h1
  have q1 := q0.still h1
  have r1 := r0.still h1
  have s1 := s0.still h1
  have HS1 := hid (HS0.out.trans h1)
  clear h1 HS0 p0 q0 r0 s0 HMa c0 c1 c2 c3 c4 c5 c6 c7 c8 c9 c10 c11 c12 cf d0 d1 d2 d3 d4 d5 d6 d7 d8 d9 d10 d11 d12 df
  obtain ⟨c0, c1, c2, c3, c4, c5, c6, c7, c8, c9, c10, c11, c12, cf⟩ := p1.cells
  obtain ⟨d0, d1, d2, d3, d4, d5, d6, d7, d8, d9, d10, d11, d12, df⟩ := q1.cells
  obtain ⟨k0, k1, k2, k3, k4, k5, k6, k7, k8, k9, k10, k11, k12, kf⟩ := r1.cells
  obtain ⟨l0, l1, l2, l3, l4, l5, l6, l7, l8, l9, l10, l11, l12, lf⟩ := s1.cells
  go_wp2_with fail
  refine bodyPost_ret (results_cct ((r1.put _ _ _ _ _ _ _ _ _ _ _ _ _ ).others (k := w.heap.size + 1 + 1 + 1) (by omega) _ _ _ _ _ _ _ _ _ _ _ _ _ ) ((s1.others (k := w.heap.size + 1 + 1) (by omega) _ _ _ _ _ _ _ _ _ _ _ _ _ ).put _ _ _ _ _ _ _ _ _ _ _ _ _ ) rfl _ _ rfl rfl rfl) rfl ⟨rfl, ?_⟩
  repeat (first | refine setC_fr ?_ _ _ _ (by omega) | with_reducible exact HS1.out)
set_option maxHeartbeats 2000000 in
theorem hapart_no2 (a b : Mv) (ha : mayB a = true) (hb : mayB b = false) (w : World) : Calls Try.prog 15 #[mv a, mv b] w fun e w' => e = .returned (.tuple #[mv zM, mv zM, .int .i64 110]) ∧ Still w w' := by
  have A0 := Still.alloc w (.cells (mcs a) 35)
  have A1 := Still.alloc (newM w a) (.cells (mcs b) 35)
  have A2 := Still.alloc (newM (newM w a) b) (.cells (mcs zM) 35)
  have A3 := Still.alloc (newM (newM (newM w a) b) zM) (.cells (mcs zM) 35)
  have p0 := ((newM_mb w a).still A1).still A2 |>.still A3
  have q0 := ((newM_mb (newM w a) b).still A2).still A3
  have r0 := (newM_mb (newM (newM w a) b) zM).still A3
  have s0 := newM_mb (newM (newM (newM w a) b) zM) zM
  simp only [size_alloc] at q0 r0 s0
  have HS0 := hid (((A0.trans A1).trans A2).trans A3)
  have HMa := hid (fun w => hmay_any a w)
  have HMb := hid (fun w => hmay_any b w)
  clear A0 A1 A2 A3
  rw [ha] at HMa
  rw [hb] at HMb
  clear ha hb
  obtain ⟨c0, c1, c2, c3, c4, c5, c6, c7, c8, c9, c10, c11, c12, cf⟩ := p0.cells
  obtain ⟨d0, d1, d2, d3, d4, d5, d6, d7, d8, d9, d10, d11, d12, df⟩ := q0.cells
  go_enter Try.func15, Try.ntmps15
  go_wp2_with fail
  refine (HMa.out _).mono ?_
  rintro e w1 ⟨rfl, h1⟩
  have p1 := p0.still h1
  have q1 := q0.still h1
  have r1 := r0.still h1
  have s1 := s0.still h1
  have HS1 := hid (HS0.out.trans h1)
  clear h1 HS0 p0 q0 r0 s0 HMa c0 c1 c2 c3 c4 c5 c6 c7 c8 c9 c10 c11 c12 cf d0 d1 d2 d3 d4 d5 d6 d7 d8 d9 d10 d11 d12 df
  obtain ⟨c0, c1, c2, c3, c4, c5, c6, c7, c8, c9, c10, c11, c12, cf⟩ := p1.cells
  obtain ⟨d0, d1, d2, d3, d4, d5, d6, d7, d8, d9, d10, d11, d12, df⟩ := q1.cells
  go_wp2_with fail
  refine (HMb.out _).mono ?_
  rintro e w2 ⟨rfl, h2⟩
  have p2 := p1.still h2
  have q2 := q1.still h2
  have r2 := r1.still h2
  have s2 := s1.still h2
  have HS2 := hid (HS1.out.trans h2)
  clear h2 HS1 p1 q1 r1 s1 HMb c0 c1 c2 c3 c4 c5 c6 c7 c8 c9 c10 c11 c12 cf d0 d1 d2 d3 d4 d5 d6 d7 d8 d9 d10 d11 d12 df
  obtain ⟨c0, c1, c2, c3, c4, c5, c6, c7, c8, c9, c10, c11, c12, cf⟩ := p2.cells
  obtain ⟨d0, d1, d2, d3, d4, d5, d6, d7, d8, d9, d10, d11, d12, df⟩ := q2.cells
  obtain ⟨k0, k1, k2, k3, k4, k5, k6, k7, k8, k9, k10, k11, k12, kf⟩ := r2.cells
  obtain ⟨l0, l1, l2, l3, l4, l5, l6, l7, l8, l9, l10, l11, l12, lf⟩ := s2.cells
  go_wp2_with fail
  refine bodyPost_ret (results_cct ((r2.put _ _ _ _ _ _ _ _ _ _ _ _ _ ).others (k := w.heap.size + 1 + 1 + 1) (by omega) _ _ _ _ _ _ _ _ _ _ _ _ _ ) ((s2.others (k := w.heap.size + 1 + 1) (by omega) _ _ _ _ _ _ _ _ _ _ _ _ _ ).put _ _ _ _ _ _ _ _ _ _ _ _ _ ) rfl _ _ rfl rfl rfl) rfl ⟨rfl, ?_⟩
  repeat (first | refine setC_fr ?_ _ _ _ (by omega) | with_reducible exact HS2.out)
set_option maxHeartbeats 2000000 in
theorem hapart_out1 (a b : Mv) (ha : mayB a = true) (hb : mayB b = true) (ho : (a.ou == 0) = false) (w : World) : Calls Try.prog 15 #[mv a, mv b] w fun e w' => e = .returned (.tuple #[mv a, mv b, .int .i64 0]) ∧ Still w w' := by
  have A0 := Still.alloc w (.cells (mcs a) 35)
  have A1 := Still.alloc (newM w a) (.cells (mcs b) 35)
  have A2 := Still.alloc (newM (newM w a) b) (.cells (mcs zM) 35)
  have A3 := Still.alloc (newM (newM (newM w a) b) zM) (.cells (mcs zM) 35)
  have p0 := ((newM_mb w a).still A1).still A2 |>.still A3
  have q0 := ((newM_mb (newM w a) b).still A2).still A3
  have r0 := (newM_mb (newM (newM w a) b) zM).still A3
  have s0 := newM_mb (newM (newM (newM w a) b) zM) zM
  simp only [size_alloc] at q0 r0 s0
  have HS0 := hid (((A0.trans A1).trans A2).trans A3)
  have HMa := hid (fun w => hmay_any a w)
  have HMb := hid (fun w => hmay_any b w)
  clear A0 A1 A2 A3
  have HPa := hid (fun w => hplays_any a w)
  rw [ha] at HMa
  rw [hb] at HMb
  rw [ho] at HPa
  clear ha hb ho
  obtain ⟨c0, c1, c2, c3, c4, c5, c6, c7, c8, c9, c10, c11, c12, cf⟩ := p0.cells
  obtain ⟨d0, d1, d2, d3, d4, d5, d6, d7, d8, d9, d10, d11, d12, df⟩ := q0.cells
  go_enter Try.func15, Try.ntmps15
  go_wp2_with fail
  refine (HMa.out _).mono ?_
  rintro e w1 ⟨rfl, h1⟩
  have p1 := p0.still h1
  have q1 := q0.still h1
  have r1 := r0.still h1
  have s1 := s0.still h1
  have HS1 := hid (HS0.out.trans h1)
  clear h1 HS0 p0 q0 r0 s0 HMa c0 c1 c2 c3 c4 c5 c6 c7 c8 c9 c10 c11 c12 cf d0 d1 d2 d3 d4 d5 d6 d7 d8 d9 d10 d11 d12 df
  obtain ⟨c0, c1, c2, c3, c4, c5, c6, c7, c8, c9, c10, c11, c12, cf⟩ := p1.cells
  obtain ⟨d0, d1, d2, d3, d4, d5, d6, d7, d8, d9, d10, d11, d12, df⟩ := q1.cells
  go_wp2_with fail
  refine (HMb.out _).mono ?_
  rintro e w2 ⟨rfl, h2⟩
  have p2 := p1.still h2
  have q2 := q1.still h2
  have r2 := r1.still h2
  have s2 := s1.still h2
  have HS2 := hid (HS1.out.trans h2)
  clear h2 HS1 p1 q1 r1 s1 HMb c0 c1 c2 c3 c4 c5 c6 c7 c8 c9 c10 c11 c12 cf d0 d1 d2 d3 d4 d5 d6 d7 d8 d9 d10 d11 d12 df
  obtain ⟨c0, c1, c2, c3, c4, c5, c6, c7, c8, c9, c10, c11, c12, cf⟩ := p2.cells
  obtain ⟨d0, d1, d2, d3, d4, d5, d6, d7, d8, d9, d10, d11, d12, df⟩ := q2.cells
  go_wp2_with fail
  refine (HPa.out _).mono ?_
  rintro e w3 ⟨rfl, h3⟩
  have p3 := p2.still h3
  have q3 := q2.still h3
  have r3 := r2.still h3
  have s3 := s2.still h3
  have HS3 := hid (HS2.out.trans h3)
  clear h3 HS2 p2 q2 r2 s2 HPa c0 c1 c2 c3 c4 c5 c6 c7 c8 c9 c10 c11 c12 cf d0 d1 d2 d3 d4 d5 d6 d7 d8 d9 d10 d11 d12 df
  obtain ⟨c0, c1, c2, c3, c4, c5, c6, c7, c8, c9, c10, c11, c12, cf⟩ := p3.cells
  obtain ⟨d0, d1, d2, d3, d4, d5, d6, d7, d8, d9, d10, d11, d12, df⟩ := q3.cells
  obtain ⟨k0, k1, k2, k3, k4, k5, k6, k7, k8, k9, k10, k11, k12, kf⟩ := r3.cells
  obtain ⟨l0, l1, l2, l3, l4, l5, l6, l7, l8, l9, l10, l11, l12, lf⟩ := s3.cells
  go_upto_region 5 with fail
  have hdr : Still w3 w3.drew := (Fr.refl _ w3).drew
  have p7 := p3.still hdr
  have q7 := q3.still hdr
  have r7 := r3.still hdr
  have s7 := s3.still hdr
  have HS7 := hid (HS3.out.trans hdr)
  obtain ⟨W7, eW7⟩ : ∃ W, w3.drew = W := ⟨_, rfl⟩
  rw [eW7] at p7 q7 r7 s7 HS7
  clear hdr c0 c1 c2 c3 c4 c5 c6 c7 c8 c9 c10 c11 c12 cf d0 d1 d2 d3 d4 d5 d6 d7 d8 d9 d10 d11 d12 df k0 k1 k2 k3 k4 k5 k6 k7 k8 k9 k10 k11 k12 kf
  (try clear l0 l1 l2 l3 l4 l5 l6 l7 l8 l9 l10 l11 l12 lf)
  obtain ⟨c0, c1, c2, c3, c4, c5, c6, c7, c8, c9, c10, c11, c12, cf⟩ := p7.cells
  obtain ⟨d0, d1, d2, d3, d4, d5, d6, d7, d8, d9, d10, d11, d12, df⟩ := q7.cells
  obtain ⟨k0, k1, k2, k3, k4, k5, k6, k7, k8, k9, k10, k11, k12, kf⟩ := r7.cells
  have r8 := r7.put (a.ax) (a.ay) (a.sx) (a.sy) (a.px) (a.py) (a.fc) (a.hl) (a.en) (a.sh) (a.co) (a.ou) (a.sd)
  have s8 := s7.others (k := w.heap.size + 1 + 1) (by omega) (a.ax) (a.ay) (a.sx) (a.sy) (a.px) (a.py) (a.fc) (a.hl) (a.en) (a.sh) (a.co) (a.ou) (a.sd)
  have q8 := q7.others (k := w.heap.size + 1 + 1) (by omega) (a.ax) (a.ay) (a.sx) (a.sy) (a.px) (a.py) (a.fc) (a.hl) (a.en) (a.sh) (a.co) (a.ou) (a.sd)
  have HS8 := hid (setC_fr (setC_fr (setC_fr (setC_fr (setC_fr (setC_fr (setC_fr (setC_fr (setC_fr (setC_fr (setC_fr (setC_fr (setC_fr (HS7.out) (w.heap.size + 1 + 1) 0 (.int .i64 a.ax) (by omega)) (w.heap.size + 1 + 1) 1 (.int .i64 a.ay) (by omega)) (w.heap.size + 1 + 1) 2 (.int .i64 a.sx) (by omega)) (w.heap.size + 1 + 1) 3 (.int .i64 a.sy) (by omega)) (w.heap.size + 1 + 1) 4 (.int .i64 a.px) (by omega)) (w.heap.size + 1 + 1) 5 (.int .i64 a.py) (by omega)) (w.heap.size + 1 + 1) 6 (.int .i64 a.fc) (by omega)) (w.heap.size + 1 + 1) 7 (.int .i64 a.hl) (by omega)) (w.heap.size + 1 + 1) 8 (.int .i64 a.en) (by omega)) (w.heap.size + 1 + 1) 9 (.bool a.sh) (by omega)) (w.heap.size + 1 + 1) 10 (.int .i64 a.co) (by omega)) (w.heap.size + 1 + 1) 11 (.int .i64 a.ou) (by omega)) (w.heap.size + 1 + 1) 12 (.int .i64 a.sd) (by omega))
  obtain ⟨W8, eW8⟩ : ∃ W, (((((((((((((W7.setCell ⟨w.heap.size + 1 + 1, 0, none⟩ (.int .i64 a.ax)).setCell ⟨w.heap.size + 1 + 1, 1, none⟩ (.int .i64 a.ay)).setCell ⟨w.heap.size + 1 + 1, 2, none⟩ (.int .i64 a.sx)).setCell ⟨w.heap.size + 1 + 1, 3, none⟩ (.int .i64 a.sy)).setCell ⟨w.heap.size + 1 + 1, 4, none⟩ (.int .i64 a.px)).setCell ⟨w.heap.size + 1 + 1, 5, none⟩ (.int .i64 a.py)).setCell ⟨w.heap.size + 1 + 1, 6, none⟩ (.int .i64 a.fc)).setCell ⟨w.heap.size + 1 + 1, 7, none⟩ (.int .i64 a.hl)).setCell ⟨w.heap.size + 1 + 1, 8, none⟩ (.int .i64 a.en)).setCell ⟨w.heap.size + 1 + 1, 9, none⟩ (.bool a.sh)).setCell ⟨w.heap.size + 1 + 1, 10, none⟩ (.int .i64 a.co)).setCell ⟨w.heap.size + 1 + 1, 11, none⟩ (.int .i64 a.ou)).setCell ⟨w.heap.size + 1 + 1, 12, none⟩ (.int .i64 a.sd)) = W := ⟨_, rfl⟩
  rw [eW8] at r8 s8 q8 HS8
  obtain ⟨e0, e1, e2, e3, e4, e5, e6, e7, e8, e9, e10, e11, e12, ef⟩ := q8.cells
  obtain ⟨g0, g1, g2, g3, g4, g5, g6, g7, g8, g9, g10, g11, g12, gf⟩ := s8.cells
  go_region
  all_goals
    go_wp2_with fail
    (try simp only [Exit.inBlock, Exit.then])
    refine bodyPost_ret (results_cct (r8.others (k := w.heap.size + 1 + 1 + 1) (by omega) _ _ _ _ _ _ _ _ _ _ _ _ _ ) (s8.put _ _ _ _ _ _ _ _ _ _ _ _ _ ) rfl _ _ rfl rfl rfl) rfl ⟨rfl, ?_⟩
    repeat (first | refine setC_fr ?_ _ _ _ (by omega) | with_reducible exact HS8.out)
set_option maxHeartbeats 2000000 in
theorem hapart_out2 (a b : Mv) (ha : mayB a = true) (hb : mayB b = true) (ho : (a.ou == 0) = true) (ho2 : (b.ou == 0) = false) (w : World) : Calls Try.prog 15 #[mv a, mv b] w fun e w' => e = .returned (.tuple #[mv a, mv b, .int .i64 0]) ∧ Still w w' := by
  have A0 := Still.alloc w (.cells (mcs a) 35)
  have A1 := Still.alloc (newM w a) (.cells (mcs b) 35)
  have A2 := Still.alloc (newM (newM w a) b) (.cells (mcs zM) 35)
  have A3 := Still.alloc (newM (newM (newM w a) b) zM) (.cells (mcs zM) 35)
  have p0 := ((newM_mb w a).still A1).still A2 |>.still A3
  have q0 := ((newM_mb (newM w a) b).still A2).still A3
  have r0 := (newM_mb (newM (newM w a) b) zM).still A3
  have s0 := newM_mb (newM (newM (newM w a) b) zM) zM
  simp only [size_alloc] at q0 r0 s0
  have HS0 := hid (((A0.trans A1).trans A2).trans A3)
  have HMa := hid (fun w => hmay_any a w)
  have HMb := hid (fun w => hmay_any b w)
  clear A0 A1 A2 A3
  have HPa := hid (fun w => hplays_any a w)
  have HPb := hid (fun w => hplays_any b w)
  rw [ha] at HMa
  rw [hb] at HMb
  rw [ho] at HPa
  rw [ho2] at HPb
  clear ha hb ho ho2
  obtain ⟨c0, c1, c2, c3, c4, c5, c6, c7, c8, c9, c10, c11, c12, cf⟩ := p0.cells
  obtain ⟨d0, d1, d2, d3, d4, d5, d6, d7, d8, d9, d10, d11, d12, df⟩ := q0.cells
  go_enter Try.func15, Try.ntmps15
  go_wp2_with fail
  refine (HMa.out _).mono ?_
  rintro e w1 ⟨rfl, h1⟩
  have p1 := p0.still h1
  have q1 := q0.still h1
  have r1 := r0.still h1
  have s1 := s0.still h1
  have HS1 := hid (HS0.out.trans h1)
  clear h1 HS0 p0 q0 r0 s0 HMa c0 c1 c2 c3 c4 c5 c6 c7 c8 c9 c10 c11 c12 cf d0 d1 d2 d3 d4 d5 d6 d7 d8 d9 d10 d11 d12 df
  obtain ⟨c0, c1, c2, c3, c4, c5, c6, c7, c8, c9, c10, c11, c12, cf⟩ := p1.cells
  obtain ⟨d0, d1, d2, d3, d4, d5, d6, d7, d8, d9, d10, d11, d12, df⟩ := q1.cells
  go_wp2_with fail
  refine (HMb.out _).mono ?_
  rintro e w2 ⟨rfl, h2⟩
  have p2 := p1.still h2
  have q2 := q1.still h2
  have r2 := r1.still h2
  have s2 := s1.still h2
  have HS2 := hid (HS1.out.trans h2)
  clear h2 HS1 p1 q1 r1 s1 HMb c0 c1 c2 c3 c4 c5 c6 c7 c8 c9 c10 c11 c12 cf d0 d1 d2 d3 d4 d5 d6 d7 d8 d9 d10 d11 d12 df
  obtain ⟨c0, c1, c2, c3, c4, c5, c6, c7, c8, c9, c10, c11, c12, cf⟩ := p2.cells
  obtain ⟨d0, d1, d2, d3, d4, d5, d6, d7, d8, d9, d10, d11, d12, df⟩ := q2.cells
  go_wp2_with fail
  refine (HPa.out _).mono ?_
  rintro e w3 ⟨rfl, h3⟩
  have p3 := p2.still h3
  have q3 := q2.still h3
  have r3 := r2.still h3
  have s3 := s2.still h3
  have HS3 := hid (HS2.out.trans h3)
  clear h3 HS2 p2 q2 r2 s2 HPa c0 c1 c2 c3 c4 c5 c6 c7 c8 c9 c10 c11 c12 cf d0 d1 d2 d3 d4 d5 d6 d7 d8 d9 d10 d11 d12 df
  obtain ⟨c0, c1, c2, c3, c4, c5, c6, c7, c8, c9, c10, c11, c12, cf⟩ := p3.cells
  obtain ⟨d0, d1, d2, d3, d4, d5, d6, d7, d8, d9, d10, d11, d12, df⟩ := q3.cells
  go_wp2_with fail
  refine (HPb.out _).mono ?_
  rintro e w4 ⟨rfl, h4⟩
  have p4 := p3.still h4
  have q4 := q3.still h4
  have r4 := r3.still h4
  have s4 := s3.still h4
  have HS4 := hid (HS3.out.trans h4)
  clear h4 HS3 p3 q3 r3 s3 HPb c0 c1 c2 c3 c4 c5 c6 c7 c8 c9 c10 c11 c12 cf d0 d1 d2 d3 d4 d5 d6 d7 d8 d9 d10 d11 d12 df
  obtain ⟨c0, c1, c2, c3, c4, c5, c6, c7, c8, c9, c10, c11, c12, cf⟩ := p4.cells
  obtain ⟨d0, d1, d2, d3, d4, d5, d6, d7, d8, d9, d10, d11, d12, df⟩ := q4.cells
  obtain ⟨k0, k1, k2, k3, k4, k5, k6, k7, k8, k9, k10, k11, k12, kf⟩ := r4.cells
  obtain ⟨l0, l1, l2, l3, l4, l5, l6, l7, l8, l9, l10, l11, l12, lf⟩ := s4.cells
  go_upto_region 5 with fail
  have hdr : Still w4 w4.drew := (Fr.refl _ w4).drew
  have p7 := p4.still hdr
  have q7 := q4.still hdr
  have r7 := r4.still hdr
  have s7 := s4.still hdr
  have HS7 := hid (HS4.out.trans hdr)
  obtain ⟨W7, eW7⟩ : ∃ W, w4.drew = W := ⟨_, rfl⟩
  rw [eW7] at p7 q7 r7 s7 HS7
  clear hdr c0 c1 c2 c3 c4 c5 c6 c7 c8 c9 c10 c11 c12 cf d0 d1 d2 d3 d4 d5 d6 d7 d8 d9 d10 d11 d12 df k0 k1 k2 k3 k4 k5 k6 k7 k8 k9 k10 k11 k12 kf
  (try clear l0 l1 l2 l3 l4 l5 l6 l7 l8 l9 l10 l11 l12 lf)
  obtain ⟨c0, c1, c2, c3, c4, c5, c6, c7, c8, c9, c10, c11, c12, cf⟩ := p7.cells
  obtain ⟨d0, d1, d2, d3, d4, d5, d6, d7, d8, d9, d10, d11, d12, df⟩ := q7.cells
  obtain ⟨k0, k1, k2, k3, k4, k5, k6, k7, k8, k9, k10, k11, k12, kf⟩ := r7.cells
  have r8 := r7.put (a.ax) (a.ay) (a.sx) (a.sy) (a.px) (a.py) (a.fc) (a.hl) (a.en) (a.sh) (a.co) (a.ou) (a.sd)
  have s8 := s7.others (k := w.heap.size + 1 + 1) (by omega) (a.ax) (a.ay) (a.sx) (a.sy) (a.px) (a.py) (a.fc) (a.hl) (a.en) (a.sh) (a.co) (a.ou) (a.sd)
  have q8 := q7.others (k := w.heap.size + 1 + 1) (by omega) (a.ax) (a.ay) (a.sx) (a.sy) (a.px) (a.py) (a.fc) (a.hl) (a.en) (a.sh) (a.co) (a.ou) (a.sd)
  have HS8 := hid (setC_fr (setC_fr (setC_fr (setC_fr (setC_fr (setC_fr (setC_fr (setC_fr (setC_fr (setC_fr (setC_fr (setC_fr (setC_fr (HS7.out) (w.heap.size + 1 + 1) 0 (.int .i64 a.ax) (by omega)) (w.heap.size + 1 + 1) 1 (.int .i64 a.ay) (by omega)) (w.heap.size + 1 + 1) 2 (.int .i64 a.sx) (by omega)) (w.heap.size + 1 + 1) 3 (.int .i64 a.sy) (by omega)) (w.heap.size + 1 + 1) 4 (.int .i64 a.px) (by omega)) (w.heap.size + 1 + 1) 5 (.int .i64 a.py) (by omega)) (w.heap.size + 1 + 1) 6 (.int .i64 a.fc) (by omega)) (w.heap.size + 1 + 1) 7 (.int .i64 a.hl) (by omega)) (w.heap.size + 1 + 1) 8 (.int .i64 a.en) (by omega)) (w.heap.size + 1 + 1) 9 (.bool a.sh) (by omega)) (w.heap.size + 1 + 1) 10 (.int .i64 a.co) (by omega)) (w.heap.size + 1 + 1) 11 (.int .i64 a.ou) (by omega)) (w.heap.size + 1 + 1) 12 (.int .i64 a.sd) (by omega))
  obtain ⟨W8, eW8⟩ : ∃ W, (((((((((((((W7.setCell ⟨w.heap.size + 1 + 1, 0, none⟩ (.int .i64 a.ax)).setCell ⟨w.heap.size + 1 + 1, 1, none⟩ (.int .i64 a.ay)).setCell ⟨w.heap.size + 1 + 1, 2, none⟩ (.int .i64 a.sx)).setCell ⟨w.heap.size + 1 + 1, 3, none⟩ (.int .i64 a.sy)).setCell ⟨w.heap.size + 1 + 1, 4, none⟩ (.int .i64 a.px)).setCell ⟨w.heap.size + 1 + 1, 5, none⟩ (.int .i64 a.py)).setCell ⟨w.heap.size + 1 + 1, 6, none⟩ (.int .i64 a.fc)).setCell ⟨w.heap.size + 1 + 1, 7, none⟩ (.int .i64 a.hl)).setCell ⟨w.heap.size + 1 + 1, 8, none⟩ (.int .i64 a.en)).setCell ⟨w.heap.size + 1 + 1, 9, none⟩ (.bool a.sh)).setCell ⟨w.heap.size + 1 + 1, 10, none⟩ (.int .i64 a.co)).setCell ⟨w.heap.size + 1 + 1, 11, none⟩ (.int .i64 a.ou)).setCell ⟨w.heap.size + 1 + 1, 12, none⟩ (.int .i64 a.sd)) = W := ⟨_, rfl⟩
  rw [eW8] at r8 s8 q8 HS8
  obtain ⟨e0, e1, e2, e3, e4, e5, e6, e7, e8, e9, e10, e11, e12, ef⟩ := q8.cells
  obtain ⟨g0, g1, g2, g3, g4, g5, g6, g7, g8, g9, g10, g11, g12, gf⟩ := s8.cells
  go_region
  all_goals
    go_wp2_with fail
    (try simp only [Exit.inBlock, Exit.then])
    refine bodyPost_ret (results_cct (r8.others (k := w.heap.size + 1 + 1 + 1) (by omega) _ _ _ _ _ _ _ _ _ _ _ _ _ ) (s8.put _ _ _ _ _ _ _ _ _ _ _ _ _ ) rfl _ _ rfl rfl rfl) rfl ⟨rfl, ?_⟩
    repeat (first | refine setC_fr ?_ _ _ _ (by omega) | with_reducible exact HS8.out)
set_option maxHeartbeats 2000000 in
theorem hapart_in (a b : Mv) (ha : mayB a = true) (hb : mayB b = true) (ho : (a.ou == 0) = true) (ho2 : (b.ou == 0) = true) (w : World) : Calls Try.prog 15 #[mv a, mv b] w fun e w' => e = .returned (.tuple #[mv { a with sx := b.sx, sy := b.sy }, mv { b with sx := a.sx, sy := a.sy }, .int .i64 0]) ∧ Still w w' := by
  have A0 := Still.alloc w (.cells (mcs a) 35)
  have A1 := Still.alloc (newM w a) (.cells (mcs b) 35)
  have A2 := Still.alloc (newM (newM w a) b) (.cells (mcs zM) 35)
  have A3 := Still.alloc (newM (newM (newM w a) b) zM) (.cells (mcs zM) 35)
  have p0 := ((newM_mb w a).still A1).still A2 |>.still A3
  have q0 := ((newM_mb (newM w a) b).still A2).still A3
  have r0 := (newM_mb (newM (newM w a) b) zM).still A3
  have s0 := newM_mb (newM (newM (newM w a) b) zM) zM
  simp only [size_alloc] at q0 r0 s0
  have HS0 := hid (((A0.trans A1).trans A2).trans A3)
  have HMa := hid (fun w => hmay_any a w)
  have HMb := hid (fun w => hmay_any b w)
  clear A0 A1 A2 A3
  have HPa := hid (fun w => hplays_any a w)
  have HPb := hid (fun w => hplays_any b w)
  rw [ha] at HMa
  rw [hb] at HMb
  rw [ho] at HPa
  rw [ho2] at HPb
  clear ha hb ho ho2
  obtain ⟨c0, c1, c2, c3, c4, c5, c6, c7, c8, c9, c10, c11, c12, cf⟩ := p0.cells
  obtain ⟨d0, d1, d2, d3, d4, d5, d6, d7, d8, d9, d10, d11, d12, df⟩ := q0.cells
  go_enter Try.func15, Try.ntmps15
  go_wp2_with fail
  refine (HMa.out _).mono ?_
  rintro e w1 ⟨rfl, h1⟩
  have p1 := p0.still h1
  have q1 := q0.still h1
  have r1 := r0.still h1
  have s1 := s0.still h1
  have HS1 := hid (HS0.out.trans h1)
  clear h1 HS0 p0 q0 r0 s0 HMa c0 c1 c2 c3 c4 c5 c6 c7 c8 c9 c10 c11 c12 cf d0 d1 d2 d3 d4 d5 d6 d7 d8 d9 d10 d11 d12 df
  obtain ⟨c0, c1, c2, c3, c4, c5, c6, c7, c8, c9, c10, c11, c12, cf⟩ := p1.cells
  obtain ⟨d0, d1, d2, d3, d4, d5, d6, d7, d8, d9, d10, d11, d12, df⟩ := q1.cells
  go_wp2_with fail
  refine (HMb.out _).mono ?_
  rintro e w2 ⟨rfl, h2⟩
  have p2 := p1.still h2
  have q2 := q1.still h2
  have r2 := r1.still h2
  have s2 := s1.still h2
  have HS2 := hid (HS1.out.trans h2)
  clear h2 HS1 p1 q1 r1 s1 HMb c0 c1 c2 c3 c4 c5 c6 c7 c8 c9 c10 c11 c12 cf d0 d1 d2 d3 d4 d5 d6 d7 d8 d9 d10 d11 d12 df
  obtain ⟨c0, c1, c2, c3, c4, c5, c6, c7, c8, c9, c10, c11, c12, cf⟩ := p2.cells
  obtain ⟨d0, d1, d2, d3, d4, d5, d6, d7, d8, d9, d10, d11, d12, df⟩ := q2.cells
  go_wp2_with fail
  refine (HPa.out _).mono ?_
  rintro e w3 ⟨rfl, h3⟩
  have p3 := p2.still h3
  have q3 := q2.still h3
  have r3 := r2.still h3
  have s3 := s2.still h3
  have HS3 := hid (HS2.out.trans h3)
  clear h3 HS2 p2 q2 r2 s2 HPa c0 c1 c2 c3 c4 c5 c6 c7 c8 c9 c10 c11 c12 cf d0 d1 d2 d3 d4 d5 d6 d7 d8 d9 d10 d11 d12 df
  obtain ⟨c0, c1, c2, c3, c4, c5, c6, c7, c8, c9, c10, c11, c12, cf⟩ := p3.cells
  obtain ⟨d0, d1, d2, d3, d4, d5, d6, d7, d8, d9, d10, d11, d12, df⟩ := q3.cells
  go_wp2_with fail
  refine (HPb.out _).mono ?_
  rintro e w4 ⟨rfl, h4⟩
  have p4 := p3.still h4
  have q4 := q3.still h4
  have r4 := r3.still h4
  have s4 := s3.still h4
  have HS4 := hid (HS3.out.trans h4)
  clear h4 HS3 p3 q3 r3 s3 HPb c0 c1 c2 c3 c4 c5 c6 c7 c8 c9 c10 c11 c12 cf d0 d1 d2 d3 d4 d5 d6 d7 d8 d9 d10 d11 d12 df
  obtain ⟨c0, c1, c2, c3, c4, c5, c6, c7, c8, c9, c10, c11, c12, cf⟩ := p4.cells
  obtain ⟨d0, d1, d2, d3, d4, d5, d6, d7, d8, d9, d10, d11, d12, df⟩ := q4.cells
  obtain ⟨k0, k1, k2, k3, k4, k5, k6, k7, k8, k9, k10, k11, k12, kf⟩ := r4.cells
  obtain ⟨l0, l1, l2, l3, l4, l5, l6, l7, l8, l9, l10, l11, l12, lf⟩ := s4.cells
  have p2 := ((p4.sp b.sx b.sy).other (w.heap.size + 1) 2 (.int .i64 a.sx) (by omega)).other (w.heap.size + 1) 3 (.int .i64 a.sy) (by omega)
  have q2 := ((q4.other w.heap.size 2 (.int .i64 b.sx) (by omega)).other w.heap.size 3 (.int .i64 b.sy) (by omega)).sp a.sx a.sy
  have r2 := (((r4.other w.heap.size 2 (.int .i64 b.sx) (by omega)).other w.heap.size 3 (.int .i64 b.sy) (by omega)).other (w.heap.size + 1) 2 (.int .i64 a.sx) (by omega)).other (w.heap.size + 1) 3 (.int .i64 a.sy) (by omega)
  have s2 := (((s4.other w.heap.size 2 (.int .i64 b.sx) (by omega)).other w.heap.size 3 (.int .i64 b.sy) (by omega)).other (w.heap.size + 1) 2 (.int .i64 a.sx) (by omega)).other (w.heap.size + 1) 3 (.int .i64 a.sy) (by omega)
  have HS2 := hid (setC_fr (setC_fr (setC_fr (setC_fr HS4.out w.heap.size 2 (.int .i64 b.sx) (Nat.le_refl _)) w.heap.size 3 (.int .i64 b.sy) (Nat.le_refl _)) (w.heap.size + 1) 2 (.int .i64 a.sx) (by omega)) (w.heap.size + 1) 3 (.int .i64 a.sy) (by omega))
  obtain ⟨W9, eW9⟩ : ∃ W, (((w4.setCell ⟨w.heap.size, 2, none⟩ (.int .i64 b.sx)).setCell ⟨w.heap.size, 3, none⟩ (.int .i64 b.sy)).setCell ⟨w.heap.size + 1, 2, none⟩ (.int .i64 a.sx)).setCell ⟨w.heap.size + 1, 3, none⟩ (.int .i64 a.sy) = W := ⟨_, rfl⟩
  rw [eW9] at p2 q2 r2 s2 HS2
  go_upto_region 5 with fail
  clear c0 c1 c2 c3 c4 c5 c6 c7 c8 c9 c10 c11 c12 cf d0 d1 d2 d3 d4 d5 d6 d7 d8 d9 d10 d11 d12 df k0 k1 k2 k3 k4 k5 k6 k7 k8 k9 k10 k11 k12 kf l0 l1 l2 l3 l4 l5 l6 l7 l8 l9 l10 l11 l12 lf eW9 p4 q4 r4 s4
  obtain ⟨c0, c1, c2, c3, c4, c5, c6, c7, c8, c9, c10, c11, c12, cf⟩ := p2.cells
  obtain ⟨d0, d1, d2, d3, d4, d5, d6, d7, d8, d9, d10, d11, d12, df⟩ := q2.cells
  obtain ⟨k0, k1, k2, k3, k4, k5, k6, k7, k8, k9, k10, k11, k12, kf⟩ := r2.cells
  obtain ⟨a9, ea9⟩ : ∃ x : Mv, { a with sx := b.sx, sy := b.sy } = x := ⟨_, rfl⟩
  obtain ⟨b9, eb9⟩ : ∃ x : Mv, { b with sx := a.sx, sy := a.sy } = x := ⟨_, rfl⟩
  have p2' : Mb W9 w.heap.size a9 := by rw [← ea9]; exact p2
  have q2' : Mb W9 (w.heap.size + 1) b9 := by rw [← eb9]; exact q2
  have HEE := hid (And.intro ea9 eb9)
  clear p2 q2 c0 c1 c2 c3 c4 c5 c6 c7 c8 c9 c10 c11 c12 cf d0 d1 d2 d3 d4 d5 d6 d7 d8 d9 d10 d11 d12 df ea9 eb9
  obtain ⟨c0, c1, c2, c3, c4, c5, c6, c7, c8, c9, c10, c11, c12, cf⟩ := p2'.cells
  obtain ⟨d0, d1, d2, d3, d4, d5, d6, d7, d8, d9, d10, d11, d12, df⟩ := q2'.cells
  have hdr : Still W9 W9.drew := (Fr.refl _ W9).drew
  have p7 := p2'.still hdr
  have q7 := q2'.still hdr
  have r7 := r2.still hdr
  have s7 := s2.still hdr
  have HS7 := hid (HS2.out.trans hdr)
  obtain ⟨W7, eW7⟩ : ∃ W, W9.drew = W := ⟨_, rfl⟩
  rw [eW7] at p7 q7 r7 s7 HS7
  clear hdr c0 c1 c2 c3 c4 c5 c6 c7 c8 c9 c10 c11 c12 cf d0 d1 d2 d3 d4 d5 d6 d7 d8 d9 d10 d11 d12 df k0 k1 k2 k3 k4 k5 k6 k7 k8 k9 k10 k11 k12 kf
  (try clear l0 l1 l2 l3 l4 l5 l6 l7 l8 l9 l10 l11 l12 lf)
  obtain ⟨c0, c1, c2, c3, c4, c5, c6, c7, c8, c9, c10, c11, c12, cf⟩ := p7.cells
  obtain ⟨d0, d1, d2, d3, d4, d5, d6, d7, d8, d9, d10, d11, d12, df⟩ := q7.cells
  obtain ⟨k0, k1, k2, k3, k4, k5, k6, k7, k8, k9, k10, k11, k12, kf⟩ := r7.cells
  have r8 := r7.put (a9.ax) (a9.ay) (a9.sx) (a9.sy) (a9.px) (a9.py) (a9.fc) (a9.hl) (a9.en) (a9.sh) (a9.co) (a9.ou) (a9.sd)
  have s8 := s7.others (k := w.heap.size + 1 + 1) (by omega) (a9.ax) (a9.ay) (a9.sx) (a9.sy) (a9.px) (a9.py) (a9.fc) (a9.hl) (a9.en) (a9.sh) (a9.co) (a9.ou) (a9.sd)
  have q8 := q7.others (k := w.heap.size + 1 + 1) (by omega) (a9.ax) (a9.ay) (a9.sx) (a9.sy) (a9.px) (a9.py) (a9.fc) (a9.hl) (a9.en) (a9.sh) (a9.co) (a9.ou) (a9.sd)
  have HS8 := hid (setC_fr (setC_fr (setC_fr (setC_fr (setC_fr (setC_fr (setC_fr (setC_fr (setC_fr (setC_fr (setC_fr (setC_fr (setC_fr (HS7.out) (w.heap.size + 1 + 1) 0 (.int .i64 a9.ax) (by omega)) (w.heap.size + 1 + 1) 1 (.int .i64 a9.ay) (by omega)) (w.heap.size + 1 + 1) 2 (.int .i64 a9.sx) (by omega)) (w.heap.size + 1 + 1) 3 (.int .i64 a9.sy) (by omega)) (w.heap.size + 1 + 1) 4 (.int .i64 a9.px) (by omega)) (w.heap.size + 1 + 1) 5 (.int .i64 a9.py) (by omega)) (w.heap.size + 1 + 1) 6 (.int .i64 a9.fc) (by omega)) (w.heap.size + 1 + 1) 7 (.int .i64 a9.hl) (by omega)) (w.heap.size + 1 + 1) 8 (.int .i64 a9.en) (by omega)) (w.heap.size + 1 + 1) 9 (.bool a9.sh) (by omega)) (w.heap.size + 1 + 1) 10 (.int .i64 a9.co) (by omega)) (w.heap.size + 1 + 1) 11 (.int .i64 a9.ou) (by omega)) (w.heap.size + 1 + 1) 12 (.int .i64 a9.sd) (by omega))
  obtain ⟨W8, eW8⟩ : ∃ W, (((((((((((((W7.setCell ⟨w.heap.size + 1 + 1, 0, none⟩ (.int .i64 a9.ax)).setCell ⟨w.heap.size + 1 + 1, 1, none⟩ (.int .i64 a9.ay)).setCell ⟨w.heap.size + 1 + 1, 2, none⟩ (.int .i64 a9.sx)).setCell ⟨w.heap.size + 1 + 1, 3, none⟩ (.int .i64 a9.sy)).setCell ⟨w.heap.size + 1 + 1, 4, none⟩ (.int .i64 a9.px)).setCell ⟨w.heap.size + 1 + 1, 5, none⟩ (.int .i64 a9.py)).setCell ⟨w.heap.size + 1 + 1, 6, none⟩ (.int .i64 a9.fc)).setCell ⟨w.heap.size + 1 + 1, 7, none⟩ (.int .i64 a9.hl)).setCell ⟨w.heap.size + 1 + 1, 8, none⟩ (.int .i64 a9.en)).setCell ⟨w.heap.size + 1 + 1, 9, none⟩ (.bool a9.sh)).setCell ⟨w.heap.size + 1 + 1, 10, none⟩ (.int .i64 a9.co)).setCell ⟨w.heap.size + 1 + 1, 11, none⟩ (.int .i64 a9.ou)).setCell ⟨w.heap.size + 1 + 1, 12, none⟩ (.int .i64 a9.sd)) = W := ⟨_, rfl⟩
  rw [eW8] at r8 s8 q8 HS8
  obtain ⟨e0, e1, e2, e3, e4, e5, e6, e7, e8, e9, e10, e11, e12, ef⟩ := q8.cells
  obtain ⟨g0, g1, g2, g3, g4, g5, g6, g7, g8, g9, g10, g11, g12, gf⟩ := s8.cells
  go_region
  all_goals
    go_wp2_with fail
    (try simp only [Exit.inBlock, Exit.then])
    refine bodyPost_ret (results_cct (r8.others (k := w.heap.size + 1 + 1 + 1) (by omega) _ _ _ _ _ _ _ _ _ _ _ _ _ ) (s8.put _ _ _ _ _ _ _ _ _ _ _ _ _ ) rfl _ _ rfl rfl rfl) rfl ⟨by rw [HEE.out.1, HEE.out.2]; rfl, ?_⟩
    repeat (first | refine setC_fr ?_ _ _ _ (by omega) | with_reducible exact HS8.out)
theorem hapart_any (a b : Mv) (w : World) : Calls Try.prog 15 #[mv a, mv b] w fun e w' => e = .returned (.tuple #[mv (aptA a b), mv (aptA b a), .int .i64 (err11 (aptE a b))]) ∧ Still w w' := by
  have hc : aptE b a = aptE a b := by unfold aptE; rw [Bool.and_comm]
  cases he : aptE a b with
  | false =>
    have e1 : aptA a b = zM := by unfold aptA; rw [he]; rfl
    have e2 : aptA b a = zM := by unfold aptA; rw [hc, he]; rfl
    rw [e1, e2]
    cases ha : mayB a with
    | false => exact hapart_no1 a b ha w
    | true =>
      unfold aptE at he
      rw [ha, Bool.true_and] at he
      exact hapart_no2 a b ha he w
  | true =>
    have h := he
    unfold aptE at h
    rw [Bool.and_eq_true] at h
    by_cases ho : a.ou = 0 ∧ b.ou = 0
    · have e1 : aptA a b = { a with sx := b.sx, sy := b.sy } := by unfold aptA; rw [if_pos he, if_pos ho]
      have e2 : aptA b a = { b with sx := a.sx, sy := a.sy } := by unfold aptA; rw [if_pos (hc.trans he), if_pos ⟨ho.2, ho.1⟩]
      rw [e1, e2]
      exact hapart_in a b h.1 h.2 (by simpa using ho.1) (by simpa using ho.2) w
    · have e1 : aptA a b = a := by unfold aptA; rw [if_pos he, if_neg ho]
      have e2 : aptA b a = b := by unfold aptA; rw [if_pos (hc.trans he), if_neg (fun h => ho ⟨h.2, h.1⟩)]
      rw [e1, e2]
      by_cases ha : a.ou = 0
      · exact hapart_out2 a b h.1 h.2 (by simpa using ha) (by have : ¬ b.ou = 0 := fun hb => ho ⟨ha, hb⟩; simpa using this) w
      · exact hapart_out1 a b h.1 h.2 (by simpa using ha) w
end Go.Proofs.Ytpohikhiekmfgaa
