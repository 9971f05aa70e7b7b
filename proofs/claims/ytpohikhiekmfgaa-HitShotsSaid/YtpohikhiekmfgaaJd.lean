/- The document's Apart. -/
import Derived.Test.YtpohikhiekmfgaaJc
namespace Go.Proofs.Ytpohikhiekmfgaa
open Go.RowKit
open Pu Gp Ap Vp Np Za Ka Ja
set_option maxRecDepth 100000

theorem Mb.others {w : World} {g k : Nat} {m : Mv} (h : Mb w g m) (hk : g ≠ k) (ax : Int) (ay : Int) (sx : Int) (sy : Int) (px : Int) (py : Int) (fc : Int) (hl : Int) (en : Int) (sh : Bool) (co : Int) (ou : Int) (sd : Int) : Mb (((((((((((((w.setCell ⟨k, 0, none⟩ (.int .i64 ax)).setCell ⟨k, 1, none⟩ (.int .i64 ay)).setCell ⟨k, 2, none⟩ (.int .i64 sx)).setCell ⟨k, 3, none⟩ (.int .i64 sy)).setCell ⟨k, 4, none⟩ (.int .i64 px)).setCell ⟨k, 5, none⟩ (.int .i64 py)).setCell ⟨k, 6, none⟩ (.int .i64 fc)).setCell ⟨k, 7, none⟩ (.int .i64 hl)).setCell ⟨k, 8, none⟩ (.int .i64 en)).setCell ⟨k, 9, none⟩ (.bool sh)).setCell ⟨k, 10, none⟩ (.int .i64 co)).setCell ⟨k, 11, none⟩ (.int .i64 ou)).setCell ⟨k, 12, none⟩ (.int .i64 sd)) g m := by
  have h1 := h.other k 0 (.int .i64 ax) hk
  have h2 := h1.other k 1 (.int .i64 ay) hk
  have h3 := h2.other k 2 (.int .i64 sx) hk
  have h4 := h3.other k 3 (.int .i64 sy) hk
  have h5 := h4.other k 4 (.int .i64 px) hk
  have h6 := h5.other k 5 (.int .i64 py) hk
  have h7 := h6.other k 6 (.int .i64 fc) hk
  have h8 := h7.other k 7 (.int .i64 hl) hk
  have h9 := h8.other k 8 (.int .i64 en) hk
  have h10 := h9.other k 9 (.bool sh) hk
  have h11 := h10.other k 10 (.int .i64 co) hk
  have h12 := h11.other k 11 (.int .i64 ou) hk
  have h13 := h12.other k 12 (.int .i64 sd) hk
  exact h13
theorem Mb.sp {w : World} {g : Nat} {m : Mv} (h : Mb w g m) (x y : Int) : Mb ((w.setCell ⟨g, 2, none⟩ (.int .i64 x)).setCell ⟨g, 3, none⟩ (.int .i64 y)) g { m with sx := x, sy := y } := by
  have h1 := heap_setCell_same w g 2 _ _ (.int .i64 x) h
  have h2 := heap_setCell_same _ g 3 _ _ (.int .i64 y) h1
  exact h2.trans (by kernel_rfl)
theorem results_cct {fn : Func} {p q r : Tmp} {w : World} {g k : Nat} {a b : Mv} (ha : Mb w g a) (hb : Mb w k b) (h : fn.results = #[.cell p 35, .cell q 35, .tmp r]) (tmps : Array Value) (t : Value) (hp : tmps.getD p undef = .pointer (some ⟨g, 0, none⟩)) (hq : tmps.getD q undef = .pointer (some ⟨k, 0, none⟩)) (hr : tmps.getD r undef = t) :
    (results fn tmps).run Try.prog w = .ok (.tuple #[mv a, mv b, t]) w := by
  have hp' : tmps[p]?.getD undef = .pointer (some ⟨g, 0, none⟩) := by simpa using hp
  have hq' : tmps[q]?.getD undef = .pointer (some ⟨k, 0, none⟩) := by simpa using hq
  have hr' : tmps[r]?.getD undef = t := by simpa using hr
  simp [results, h, hp', hq', hr', asAddr, ha.load, hb.load]
theorem tog_two (a b : Mv) : togB [a, b] = aptE a b := by
  unfold togB aptE
  simp
/-- a row of two -/
theorem rd_two (w : World) (a b : Mv) : RdG KM (w.alloc (.cells #[.int .i64 a.ax, .int .i64 a.ay, .int .i64 a.sx, .int .i64 a.sy, .int .i64 a.px, .int .i64 a.py, .int .i64 a.fc, .int .i64 a.hl, .int .i64 a.en, .bool a.sh, .int .i64 a.co, .int .i64 a.ou, .int .i64 a.sd, .int .i64 b.ax, .int .i64 b.ay, .int .i64 b.sx, .int .i64 b.sy, .int .i64 b.px, .int .i64 b.py, .int .i64 b.fc, .int .i64 b.hl, .int .i64 b.en, .bool b.sh, .int .i64 b.co, .int .i64 b.ou, .int .i64 b.sd] 35)) (some ⟨w.heap.size, 0, none⟩) 2 [a, b] := by
  have h : OwG KM 35 (w.alloc (.cells #[.int .i64 a.ax, .int .i64 a.ay, .int .i64 a.sx, .int .i64 a.sy, .int .i64 a.px, .int .i64 a.py, .int .i64 a.fc, .int .i64 a.hl, .int .i64 a.en, .bool a.sh, .int .i64 a.co, .int .i64 a.ou, .int .i64 a.sd, .int .i64 b.ax, .int .i64 b.ay, .int .i64 b.sx, .int .i64 b.sy, .int .i64 b.px, .int .i64 b.py, .int .i64 b.fc, .int .i64 b.hl, .int .i64 b.en, .bool b.sh, .int .i64 b.co, .int .i64 b.ou, .int .i64 b.sd] 35)) w.heap.size (.slice (some ⟨w.heap.size, 0, none⟩) 2 2) ([a, b] ++ []) :=
    World.ownsRow_lit (base := w.heap.size) (e := 35) (size := 13) w #[.int .i64 a.ax, .int .i64 a.ay, .int .i64 a.sx, .int .i64 a.sy, .int .i64 a.px, .int .i64 a.py, .int .i64 a.fc, .int .i64 a.hl, .int .i64 a.en, .bool a.sh, .int .i64 a.co, .int .i64 a.ou, .int .i64 a.sd, .int .i64 b.ax, .int .i64 b.ay, .int .i64 b.sx, .int .i64 b.sy, .int .i64 b.px, .int .i64 b.py, .int .i64 b.fc, .int .i64 b.hl, .int .i64 b.en, .bool b.sh, .int .i64 b.co, .int .i64 b.ou, .int .i64 b.sd] 2 (Nat.le_refl _) (by unfold maxLen; omega) rfl
  exact h.rd (show 2 ≤ 281474976710656 by decide)
set_option maxHeartbeats 2000000 in
theorem rapart_no (a b : Mv) (he : aptE a b = false) (w : World) : Calls Try.prog 16 #[mv a, mv b] w fun e w' => e = .returned (.tuple #[mv zM, mv zM, .int .i64 110]) ∧ Still w w' := by
  have A0 := Still.alloc w (.cells (mcs a) 35)
  have A1 := Still.alloc (newM w a) (.cells (mcs b) 35)
  have A2 := Still.alloc (newM (newM w a) b) (.cells (mcs zM) 35)
  have A3 := Still.alloc (newM (newM (newM w a) b) zM) (.cells (mcs zM) 35)
  have A4 := Still.alloc (newM (newM (newM (newM w a) b) zM) zM) (.cells #[.int .i64 a.ax, .int .i64 a.ay, .int .i64 a.sx, .int .i64 a.sy, .int .i64 a.px, .int .i64 a.py, .int .i64 a.fc, .int .i64 a.hl, .int .i64 a.en, .bool a.sh, .int .i64 a.co, .int .i64 a.ou, .int .i64 a.sd, .int .i64 b.ax, .int .i64 b.ay, .int .i64 b.sx, .int .i64 b.sy, .int .i64 b.px, .int .i64 b.py, .int .i64 b.fc, .int .i64 b.hl, .int .i64 b.en, .bool b.sh, .int .i64 b.co, .int .i64 b.ou, .int .i64 b.sd] 35)
  have p0 := ((newM_mb w a).still A1).still A2 |>.still A3
  have q0 := ((newM_mb (newM w a) b).still A2).still A3
  have r0 := ((newM_mb (newM (newM w a) b) zM).still A3).still A4
  have s0 := (newM_mb (newM (newM (newM w a) b) zM) zM).still A4
  have H := hid (rtog_any [a, b] _ 2 2 _ (rd_two (newM (newM (newM (newM w a) b) zM) zM) a b))
  have pp0 := p0.still A4
  have qq0 := q0.still A4
  simp only [size_alloc] at q0 r0 s0 qq0 H
  rw [tog_two, he] at H
  have HS0 := hid ((((A0.trans A1).trans A2).trans A3).trans A4)
  clear A0 A1 A2 A3 A4 he
  obtain ⟨c0, c1, c2, c3, c4, c5, c6, c7, c8, c9, c10, c11, c12, cf⟩ := p0.cells
  obtain ⟨d0, d1, d2, d3, d4, d5, d6, d7, d8, d9, d10, d11, d12, df⟩ := q0.cells
  go_enter Try.func16, Try.ntmps16
  go_wp2_with fail
  refine H.out.mono ?_
  rintro e w1 ⟨rfl, h1⟩
  have p1 := pp0.still h1
  have q1 := qq0.still h1
  have r1 := r0.still h1
  have s1 := s0.still h1
  have HS1 := hid (HS0.out.trans h1)
  clear h1 HS0 p0 q0 r0 s0 pp0 qq0 H c0 c1 c2 c3 c4 c5 c6 c7 c8 c9 c10 c11 c12 cf d0 d1 d2 d3 d4 d5 d6 d7 d8 d9 d10 d11 d12 df
  obtain ⟨c0, c1, c2, c3, c4, c5, c6, c7, c8, c9, c10, c11, c12, cf⟩ := p1.cells
  obtain ⟨d0, d1, d2, d3, d4, d5, d6, d7, d8, d9, d10, d11, d12, df⟩ := q1.cells
  obtain ⟨k0, k1, k2, k3, k4, k5, k6, k7, k8, k9, k10, k11, k12, kf⟩ := r1.cells
  obtain ⟨l0, l1, l2, l3, l4, l5, l6, l7, l8, l9, l10, l11, l12, lf⟩ := s1.cells
  go_wp2_with fail
  refine bodyPost_ret (results_cct ((r1.put _ _ _ _ _ _ _ _ _ _ _ _ _ ).others (k := w.heap.size + 1 + 1 + 1) (by omega) _ _ _ _ _ _ _ _ _ _ _ _ _ ) ((s1.others (k := w.heap.size + 1 + 1) (by omega) _ _ _ _ _ _ _ _ _ _ _ _ _ ).put _ _ _ _ _ _ _ _ _ _ _ _ _ ) rfl _ _ rfl rfl rfl) rfl ⟨rfl, ?_⟩
  repeat (first | refine setC_fr ?_ _ _ _ (by omega) | with_reducible exact HS1.out)
set_option maxHeartbeats 2000000 in
theorem rapart_out (a b : Mv) (he : aptE a b = true) (ho : ¬ (a.ou = 0 ∧ b.ou = 0)) (w : World) : Calls Try.prog 16 #[mv a, mv b] w fun e w' => e = .returned (.tuple #[mv a, mv b, .int .i64 0]) ∧ Still w w' := by
  have HO := hid ho
  clear ho
  have A0 := Still.alloc w (.cells (mcs a) 35)
  have A1 := Still.alloc (newM w a) (.cells (mcs b) 35)
  have A2 := Still.alloc (newM (newM w a) b) (.cells (mcs zM) 35)
  have A3 := Still.alloc (newM (newM (newM w a) b) zM) (.cells (mcs zM) 35)
  have A4 := Still.alloc (newM (newM (newM (newM w a) b) zM) zM) (.cells #[.int .i64 a.ax, .int .i64 a.ay, .int .i64 a.sx, .int .i64 a.sy, .int .i64 a.px, .int .i64 a.py, .int .i64 a.fc, .int .i64 a.hl, .int .i64 a.en, .bool a.sh, .int .i64 a.co, .int .i64 a.ou, .int .i64 a.sd, .int .i64 b.ax, .int .i64 b.ay, .int .i64 b.sx, .int .i64 b.sy, .int .i64 b.px, .int .i64 b.py, .int .i64 b.fc, .int .i64 b.hl, .int .i64 b.en, .bool b.sh, .int .i64 b.co, .int .i64 b.ou, .int .i64 b.sd] 35)
  have p0 := ((newM_mb w a).still A1).still A2 |>.still A3
  have q0 := ((newM_mb (newM w a) b).still A2).still A3
  have r0 := ((newM_mb (newM (newM w a) b) zM).still A3).still A4
  have s0 := (newM_mb (newM (newM (newM w a) b) zM) zM).still A4
  have H := hid (rtog_any [a, b] _ 2 2 _ (rd_two (newM (newM (newM (newM w a) b) zM) zM) a b))
  have pp0 := p0.still A4
  have qq0 := q0.still A4
  simp only [size_alloc] at q0 r0 s0 qq0 H
  rw [tog_two, he] at H
  have HS0 := hid ((((A0.trans A1).trans A2).trans A3).trans A4)
  clear A0 A1 A2 A3 A4 he
  obtain ⟨c0, c1, c2, c3, c4, c5, c6, c7, c8, c9, c10, c11, c12, cf⟩ := p0.cells
  obtain ⟨d0, d1, d2, d3, d4, d5, d6, d7, d8, d9, d10, d11, d12, df⟩ := q0.cells
  go_enter Try.func16, Try.ntmps16
  go_wp2_with fail
  refine H.out.mono ?_
  rintro e w1 ⟨rfl, h1⟩
  have p1 := pp0.still h1
  have q1 := qq0.still h1
  have r1 := r0.still h1
  have s1 := s0.still h1
  have HS1 := hid (HS0.out.trans h1)
  clear h1 HS0 p0 q0 r0 s0 pp0 qq0 H c0 c1 c2 c3 c4 c5 c6 c7 c8 c9 c10 c11 c12 cf d0 d1 d2 d3 d4 d5 d6 d7 d8 d9 d10 d11 d12 df
  obtain ⟨c0, c1, c2, c3, c4, c5, c6, c7, c8, c9, c10, c11, c12, cf⟩ := p1.cells
  obtain ⟨d0, d1, d2, d3, d4, d5, d6, d7, d8, d9, d10, d11, d12, df⟩ := q1.cells
  obtain ⟨k0, k1, k2, k3, k4, k5, k6, k7, k8, k9, k10, k11, k12, kf⟩ := r1.cells
  obtain ⟨l0, l1, l2, l3, l4, l5, l6, l7, l8, l9, l10, l11, l12, lf⟩ := s1.cells
  obtain ⟨W1, eW1⟩ : ∃ W, w1 = W := ⟨_, rfl⟩
  by_cases ha : a.ou = 0
  · have hb : (b.ou == 0) = false := by have := HO.out; simp; omega
    have ha' : (a.ou == 0) = true := by simpa using ha
    clear ha eW1
    go_upto_region 8 with fail
    have hdr : Still w1 w1.drew := (Fr.refl _ w1).drew
    have p7 := p1.still hdr
    have q7 := q1.still hdr
    have r7 := r1.still hdr
    have s7 := s1.still hdr
    have HS7 := hid (HS1.out.trans hdr)
    obtain ⟨W7, eW7⟩ : ∃ W, w1.drew = W := ⟨_, rfl⟩
    rw [eW7] at p7 q7 r7 s7 HS7
    clear hdr c0 c1 c2 c3 c4 c5 c6 c7 c8 c9 c10 c11 c12 cf d0 d1 d2 d3 d4 d5 d6 d7 d8 d9 d10 d11 d12 df k0 k1 k2 k3 k4 k5 k6 k7 k8 k9 k10 k11 k12 kf
    (try clear l0 l1 l2 l3 l4 l5 l6 l7 l8 l9 l10 l11 l12 lf)
    obtain ⟨c0, c1, c2, c3, c4, c5, c6, c7, c8, c9, c10, c11, c12, cf⟩ := p7.cells
    obtain ⟨d0, d1, d2, d3, d4, d5, d6, d7, d8, d9, d10, d11, d12, df⟩ := q7.cells
    obtain ⟨k0, k1, k2, k3, k4, k5, k6, k7, k8, k9, k10, k11, k12, kf⟩ := r7.cells
    have r8 := r7.put (a.ax) (a.ay) (a.sx) (a.sy) (a.px) (a.py) (a.fc) (a.hl) (a.en) (a.sh) (a.co) (a.ou) (a.sd)
    have s8 := s7.others (k := w.heap.size + 1 + 1) (by omega) (a.ax) (a.ay) (a.sx) (a.sy) (a.px) (a.py) (a.fc) (a.hl) (a.en) (a.sh) (a.co) (a.ou) (a.sd)
    have q8 := q7.others (k := w.heap.size + 1 + 1) (by omega) (a.ax) (a.ay) (a.sx) (a.sy) (a.px) (a.py) (a.fc) (a.hl) (a.en) (a.sh) (a.co) (a.ou) (a.sd)
    have HS8 := hid (setC_fr (setC_fr (setC_fr (setC_fr (setC_fr (setC_fr (setC_fr (setC_fr (setC_fr (setC_fr (setC_fr (setC_fr (setC_fr (HS7.out) (w.heap.size + 1 + 1) 0 (.int .i64 a.ax) (by omega)) (w.heap.size + 1 + 1) 1 (.int .i64 a.ay) (by omega)) (w.heap.size + 1 + 1) 2 (.int .i64 a.sx) (by omega)) (w.heap.size + 1 + 1) 3 (.int .i64 a.sy) (by omega)) (w.heap.size + 1 + 1) 4 (.int .i64 a.px) (by omega)) (w.heap.size + 1 + 1) 5 (.int .i64 a.py) (by omega)) (w.heap.size + 1 + 1) 6 (.int .i64 a.fc) (by omega)) (w.heap.size + 1 + 1) 7 (.int .i64 a.hl) (by omega)) (w.heap.size + 1 + 1) 8 (.int .i64 a.en) (by omega)) (w.heap.size + 1 + 1) 9 (.bool a.sh) (by omega)) (w.heap.size + 1 + 1) 10 (.int .i64 a.co) (by omega)) (w.heap.size + 1 + 1) 11 (.int .i64 a.ou) (by omega)) (w.heap.size + 1 + 1) 12 (.int .i64 a.sd) (by omega))
    obtain ⟨W8, eW8⟩ : ∃ W, (((((((((((((W7.setCell ⟨w.heap.size + 1 + 1, 0, none⟩ (.int .i64 a.ax)).setCell ⟨w.heap.size + 1 + 1, 1, none⟩ (.int .i64 a.ay)).setCell ⟨w.heap.size + 1 + 1, 2, none⟩ (.int .i64 a.sx)).setCell ⟨w.heap.size + 1 + 1, 3, none⟩ (.int .i64 a.sy)).setCell ⟨w.heap.size + 1 + 1, 4, none⟩ (.int .i64 a.px)).setCell ⟨w.heap.size + 1 + 1, 5, none⟩ (.int .i64 a.py)).setCell ⟨w.heap.size + 1 + 1, 6, none⟩ (.int .i64 a.fc)).setCell ⟨w.heap.size + 1 + 1, 7, none⟩ (.int .i64 a.hl)).setCell ⟨w.heap.size + 1 + 1, 8, none⟩ (.int .i64 a.en)).setCell ⟨w.heap.size + 1 + 1, 9, none⟩ (.bool a.sh)).setCell ⟨w.heap.size + 1 + 1, 10, none⟩ (.int .i64 a.co)).setCell ⟨w.heap.size + 1 + 1, 11, none⟩ (.int .i64 a.ou)).setCell ⟨w.heap.size + 1 + 1, 12, none⟩ (.int .i64 a.sd)) = W := ⟨_, rfl⟩
    rw [eW8] at r8 s8 q8 HS8
    obtain ⟨e0, e1, e2, e3, e4, e5, e6, e7, e8, e9, e10, e11, e12, ef⟩ := q8.cells
    obtain ⟨g0, g1, g2, g3, g4, g5, g6, g7, g8, g9, g10, g11, g12, gf⟩ := s8.cells
    go_region
    all_goals
      go_wp2_with fail
      (try simp only [Exit.inBlock, Exit.then])
      refine bodyPost_ret (results_cct (r8.others (k := w.heap.size + 1 + 1 + 1) (by omega) _ _ _ _ _ _ _ _ _ _ _ _ _ ) (s8.put _ _ _ _ _ _ _ _ _ _ _ _ _ ) rfl _ _ rfl rfl rfl) rfl ⟨rfl, ?_⟩
      repeat (first | refine setC_fr ?_ _ _ _ (by omega) | with_reducible exact HS8.out)
  · have ha' : (a.ou == 0) = false := by simpa using ha
    clear ha eW1
    go_upto_region 8 with fail
    have hdr : Still w1 w1.drew := (Fr.refl _ w1).drew
    have p7 := p1.still hdr
    have q7 := q1.still hdr
    have r7 := r1.still hdr
    have s7 := s1.still hdr
    have HS7 := hid (HS1.out.trans hdr)
    obtain ⟨W7, eW7⟩ : ∃ W, w1.drew = W := ⟨_, rfl⟩
    rw [eW7] at p7 q7 r7 s7 HS7
    clear hdr c0 c1 c2 c3 c4 c5 c6 c7 c8 c9 c10 c11 c12 cf d0 d1 d2 d3 d4 d5 d6 d7 d8 d9 d10 d11 d12 df k0 k1 k2 k3 k4 k5 k6 k7 k8 k9 k10 k11 k12 kf
    (try clear l0 l1 l2 l3 l4 l5 l6 l7 l8 l9 l10 l11 l12 lf)
    obtain ⟨c0, c1, c2, c3, c4, c5, c6, c7, c8, c9, c10, c11, c12, cf⟩ := p7.cells
    obtain ⟨d0, d1, d2, d3, d4, d5, d6, d7, d8, d9, d10, d11, d12, df⟩ := q7.cells
    obtain ⟨k0, k1, k2, k3, k4, k5, k6, k7, k8, k9, k10, k11, k12, kf⟩ := r7.cells
    have r8 := r7.put (a.ax) (a.ay) (a.sx) (a.sy) (a.px) (a.py) (a.fc) (a.hl) (a.en) (a.sh) (a.co) (a.ou) (a.sd)
    have s8 := s7.others (k := w.heap.size + 1 + 1) (by omega) (a.ax) (a.ay) (a.sx) (a.sy) (a.px) (a.py) (a.fc) (a.hl) (a.en) (a.sh) (a.co) (a.ou) (a.sd)
    have q8 := q7.others (k := w.heap.size + 1 + 1) (by omega) (a.ax) (a.ay) (a.sx) (a.sy) (a.px) (a.py) (a.fc) (a.hl) (a.en) (a.sh) (a.co) (a.ou) (a.sd)
    have HS8 := hid (setC_fr (setC_fr (setC_fr (setC_fr (setC_fr (setC_fr (setC_fr (setC_fr (setC_fr (setC_fr (setC_fr (setC_fr (setC_fr (HS7.out) (w.heap.size + 1 + 1) 0 (.int .i64 a.ax) (by omega)) (w.heap.size + 1 + 1) 1 (.int .i64 a.ay) (by omega)) (w.heap.size + 1 + 1) 2 (.int .i64 a.sx) (by omega)) (w.heap.size + 1 + 1) 3 (.int .i64 a.sy) (by omega)) (w.heap.size + 1 + 1) 4 (.int .i64 a.px) (by omega)) (w.heap.size + 1 + 1) 5 (.int .i64 a.py) (by omega)) (w.heap.size + 1 + 1) 6 (.int .i64 a.fc) (by omega)) (w.heap.size + 1 + 1) 7 (.int .i64 a.hl) (by omega)) (w.heap.size + 1 + 1) 8 (.int .i64 a.en) (by omega)) (w.heap.size + 1 + 1) 9 (.bool a.sh) (by omega)) (w.heap.size + 1 + 1) 10 (.int .i64 a.co) (by omega)) (w.heap.size + 1 + 1) 11 (.int .i64 a.ou) (by omega)) (w.heap.size + 1 + 1) 12 (.int .i64 a.sd) (by omega))
    obtain ⟨W8, eW8⟩ : ∃ W, (((((((((((((W7.setCell ⟨w.heap.size + 1 + 1, 0, none⟩ (.int .i64 a.ax)).setCell ⟨w.heap.size + 1 + 1, 1, none⟩ (.int .i64 a.ay)).setCell ⟨w.heap.size + 1 + 1, 2, none⟩ (.int .i64 a.sx)).setCell ⟨w.heap.size + 1 + 1, 3, none⟩ (.int .i64 a.sy)).setCell ⟨w.heap.size + 1 + 1, 4, none⟩ (.int .i64 a.px)).setCell ⟨w.heap.size + 1 + 1, 5, none⟩ (.int .i64 a.py)).setCell ⟨w.heap.size + 1 + 1, 6, none⟩ (.int .i64 a.fc)).setCell ⟨w.heap.size + 1 + 1, 7, none⟩ (.int .i64 a.hl)).setCell ⟨w.heap.size + 1 + 1, 8, none⟩ (.int .i64 a.en)).setCell ⟨w.heap.size + 1 + 1, 9, none⟩ (.bool a.sh)).setCell ⟨w.heap.size + 1 + 1, 10, none⟩ (.int .i64 a.co)).setCell ⟨w.heap.size + 1 + 1, 11, none⟩ (.int .i64 a.ou)).setCell ⟨w.heap.size + 1 + 1, 12, none⟩ (.int .i64 a.sd)) = W := ⟨_, rfl⟩
    rw [eW8] at r8 s8 q8 HS8
    obtain ⟨e0, e1, e2, e3, e4, e5, e6, e7, e8, e9, e10, e11, e12, ef⟩ := q8.cells
    obtain ⟨g0, g1, g2, g3, g4, g5, g6, g7, g8, g9, g10, g11, g12, gf⟩ := s8.cells
    go_region
    all_goals
      go_wp2_with fail
      (try simp only [Exit.inBlock, Exit.then])
      refine bodyPost_ret (results_cct (r8.others (k := w.heap.size + 1 + 1 + 1) (by omega) _ _ _ _ _ _ _ _ _ _ _ _ _ ) (s8.put _ _ _ _ _ _ _ _ _ _ _ _ _ ) rfl _ _ rfl rfl rfl) rfl ⟨rfl, ?_⟩
      repeat (first | refine setC_fr ?_ _ _ _ (by omega) | with_reducible exact HS8.out)
set_option maxHeartbeats 2000000 in
theorem rapart_in (a b : Mv) (he : aptE a b = true) (ha' : (a.ou == 0) = true) (hb' : (b.ou == 0) = true) (w : World) : Calls Try.prog 16 #[mv a, mv b] w fun e w' => e = .returned (.tuple #[mv { a with sx := b.sx, sy := b.sy }, mv { b with sx := a.sx, sy := a.sy }, .int .i64 0]) ∧ Still w w' := by
  have A0 := Still.alloc w (.cells (mcs a) 35)
  have A1 := Still.alloc (newM w a) (.cells (mcs b) 35)
  have A2 := Still.alloc (newM (newM w a) b) (.cells (mcs zM) 35)
  have A3 := Still.alloc (newM (newM (newM w a) b) zM) (.cells (mcs zM) 35)
  have A4 := Still.alloc (newM (newM (newM (newM w a) b) zM) zM) (.cells #[.int .i64 a.ax, .int .i64 a.ay, .int .i64 a.sx, .int .i64 a.sy, .int .i64 a.px, .int .i64 a.py, .int .i64 a.fc, .int .i64 a.hl, .int .i64 a.en, .bool a.sh, .int .i64 a.co, .int .i64 a.ou, .int .i64 a.sd, .int .i64 b.ax, .int .i64 b.ay, .int .i64 b.sx, .int .i64 b.sy, .int .i64 b.px, .int .i64 b.py, .int .i64 b.fc, .int .i64 b.hl, .int .i64 b.en, .bool b.sh, .int .i64 b.co, .int .i64 b.ou, .int .i64 b.sd] 35)
  have p0 := ((newM_mb w a).still A1).still A2 |>.still A3
  have q0 := ((newM_mb (newM w a) b).still A2).still A3
  have r0 := ((newM_mb (newM (newM w a) b) zM).still A3).still A4
  have s0 := (newM_mb (newM (newM (newM w a) b) zM) zM).still A4
  have H := hid (rtog_any [a, b] _ 2 2 _ (rd_two (newM (newM (newM (newM w a) b) zM) zM) a b))
  have pp0 := p0.still A4
  have qq0 := q0.still A4
  simp only [size_alloc] at q0 r0 s0 qq0 H
  rw [tog_two, he] at H
  have HS0 := hid ((((A0.trans A1).trans A2).trans A3).trans A4)
  clear A0 A1 A2 A3 A4 he
  obtain ⟨c0, c1, c2, c3, c4, c5, c6, c7, c8, c9, c10, c11, c12, cf⟩ := p0.cells
  obtain ⟨d0, d1, d2, d3, d4, d5, d6, d7, d8, d9, d10, d11, d12, df⟩ := q0.cells
  go_enter Try.func16, Try.ntmps16
  go_wp2_with fail
  refine H.out.mono ?_
  rintro e w1 ⟨rfl, h1⟩
  have p1 := pp0.still h1
  have q1 := qq0.still h1
  have r1 := r0.still h1
  have s1 := s0.still h1
  have HS1 := hid (HS0.out.trans h1)
  clear h1 HS0 p0 q0 r0 s0 pp0 qq0 H c0 c1 c2 c3 c4 c5 c6 c7 c8 c9 c10 c11 c12 cf d0 d1 d2 d3 d4 d5 d6 d7 d8 d9 d10 d11 d12 df
  obtain ⟨c0, c1, c2, c3, c4, c5, c6, c7, c8, c9, c10, c11, c12, cf⟩ := p1.cells
  obtain ⟨d0, d1, d2, d3, d4, d5, d6, d7, d8, d9, d10, d11, d12, df⟩ := q1.cells
  obtain ⟨k0, k1, k2, k3, k4, k5, k6, k7, k8, k9, k10, k11, k12, kf⟩ := r1.cells
  obtain ⟨l0, l1, l2, l3, l4, l5, l6, l7, l8, l9, l10, l11, l12, lf⟩ := s1.cells
  have A5 := Still.alloc w1 (.cells #[.int .i64 a.sx, .int .i64 a.sy] 33)
  have x2 := newP_pb w1 a.sx a.sy
  have hz1 : w.heap.size + 1 + 1 + 1 < w1.heap.size := s1.lt
  have p2 := (((p1.still A5).sp b.sx b.sy).other (w.heap.size + 1) 2 (.int .i64 a.sx) (by omega)).other (w.heap.size + 1) 3 (.int .i64 a.sy) (by omega)
  have q2 := (((q1.still A5).other w.heap.size 2 (.int .i64 b.sx) (by omega)).other w.heap.size 3 (.int .i64 b.sy) (by omega)).sp a.sx a.sy
  have r2 := ((((r1.still A5).other w.heap.size 2 (.int .i64 b.sx) (by omega)).other w.heap.size 3 (.int .i64 b.sy) (by omega)).other (w.heap.size + 1) 2 (.int .i64 a.sx) (by omega)).other (w.heap.size + 1) 3 (.int .i64 a.sy) (by omega)
  have s2 := ((((s1.still A5).other w.heap.size 2 (.int .i64 b.sx) (by omega)).other w.heap.size 3 (.int .i64 b.sy) (by omega)).other (w.heap.size + 1) 2 (.int .i64 a.sx) (by omega)).other (w.heap.size + 1) 3 (.int .i64 a.sy) (by omega)
  have HS2 := hid (setC_fr (setC_fr (setC_fr (setC_fr (HS1.out.trans A5) w.heap.size 2 (.int .i64 b.sx) (Nat.le_refl _)) w.heap.size 3 (.int .i64 b.sy) (Nat.le_refl _)) (w.heap.size + 1) 2 (.int .i64 a.sx) (by omega)) (w.heap.size + 1) 3 (.int .i64 a.sy) (by omega))
  obtain ⟨W5, eW5⟩ : ∃ W, w1.alloc (.cells #[.int .i64 a.sx, .int .i64 a.sy] 33) = W := ⟨_, rfl⟩
  have x5 : Pb W5 w1.heap.size a.sx a.sy := by rw [← eW5]; exact x2
  have p5 : Mb W5 w.heap.size a := by rw [← eW5]; exact p1.still A5
  have q5 : Mb W5 (w.heap.size + 1) b := by rw [← eW5]; exact q1.still A5
  rw [eW5] at p2 q2 r2 s2 HS2
  clear A5 x2
  go_upto_region 6 with fail
  clear eW5 c0 c1 c2 c3 c4 c5 c6 c7 c8 c9 c10 c11 c12 cf d0 d1 d2 d3 d4 d5 d6 d7 d8 d9 d10 d11 d12 df k0 k1 k2 k3 k4 k5 k6 k7 k8 k9 k10 k11 k12 kf l0 l1 l2 l3 l4 l5 l6 l7 l8 l9 l10 l11 l12 lf
  obtain ⟨c0, c1, c2, c3, c4, c5, c6, c7, c8, c9, c10, c11, c12, cf⟩ := p5.cells
  obtain ⟨d0, d1, d2, d3, d4, d5, d6, d7, d8, d9, d10, d11, d12, df⟩ := q5.cells
  obtain ⟨e0, e1, ef⟩ := x5.cells
  obtain ⟨W9, eW9⟩ : ∃ W, (((W5.setCell ⟨w.heap.size, 2, none⟩ (.int .i64 b.sx)).setCell ⟨w.heap.size, 3, none⟩ (.int .i64 b.sy)).setCell ⟨w.heap.size + 1, 2, none⟩ (.int .i64 a.sx)).setCell ⟨w.heap.size + 1, 3, none⟩ (.int .i64 a.sy) = W := ⟨_, rfl⟩
  rw [eW9] at p2 q2 r2 s2 HS2
  have hne1 : w1.heap.size ≠ w.heap.size := by omega
  go_upto_region 8 with fail
  clear eW9 c0 c1 c2 c3 c4 c5 c6 c7 c8 c9 c10 c11 c12 cf d0 d1 d2 d3 d4 d5 d6 d7 d8 d9 d10 d11 d12 df e0 e1 ef p5 q5 x5
  obtain ⟨c0, c1, c2, c3, c4, c5, c6, c7, c8, c9, c10, c11, c12, cf⟩ := p2.cells
  obtain ⟨d0, d1, d2, d3, d4, d5, d6, d7, d8, d9, d10, d11, d12, df⟩ := q2.cells
  obtain ⟨k0, k1, k2, k3, k4, k5, k6, k7, k8, k9, k10, k11, k12, kf⟩ := r2.cells
  obtain ⟨a9, ea9⟩ : ∃ x : Mv, { a with sx := b.sx, sy := b.sy } = x := ⟨_, rfl⟩
  obtain ⟨b9, eb9⟩ : ∃ x : Mv, { b with sx := a.sx, sy := a.sy } = x := ⟨_, rfl⟩
  have p2' : Mb W9 w.heap.size a9 := by rw [← ea9]; exact p2
  have q2' : Mb W9 (w.heap.size + 1) b9 := by rw [← eb9]; exact q2
  have HEE := hid (And.intro ea9 eb9)
  clear p2 q2 c0 c1 c2 c3 c4 c5 c6 c7 c8 c9 c10 c11 c12 cf d0 d1 d2 d3 d4 d5 d6 d7 d8 d9 d10 d11 d12 df ea9 eb9
  obtain ⟨c0, c1, c2, c3, c4, c5, c6, c7, c8, c9, c10, c11, c12, cf⟩ := p2'.cells
  obtain ⟨d0, d1, d2, d3, d4, d5, d6, d7, d8, d9, d10, d11, d12, df⟩ := q2'.cells
  have hdr : Still W9 W9.drew := (Fr.refl _ W9).drew
  have p7 := p2'.still hdr
  have q7 := q2'.still hdr
  have r7 := r2.still hdr
  have s7 := s2.still hdr
  have HS7 := hid (HS2.out.trans hdr)
  obtain ⟨W7, eW7⟩ : ∃ W, W9.drew = W := ⟨_, rfl⟩
  rw [eW7] at p7 q7 r7 s7 HS7
  clear hdr c0 c1 c2 c3 c4 c5 c6 c7 c8 c9 c10 c11 c12 cf d0 d1 d2 d3 d4 d5 d6 d7 d8 d9 d10 d11 d12 df k0 k1 k2 k3 k4 k5 k6 k7 k8 k9 k10 k11 k12 kf
  (try clear l0 l1 l2 l3 l4 l5 l6 l7 l8 l9 l10 l11 l12 lf)
  obtain ⟨c0, c1, c2, c3, c4, c5, c6, c7, c8, c9, c10, c11, c12, cf⟩ := p7.cells
  obtain ⟨d0, d1, d2, d3, d4, d5, d6, d7, d8, d9, d10, d11, d12, df⟩ := q7.cells
  obtain ⟨k0, k1, k2, k3, k4, k5, k6, k7, k8, k9, k10, k11, k12, kf⟩ := r7.cells
  have r8 := r7.put (a9.ax) (a9.ay) (a9.sx) (a9.sy) (a9.px) (a9.py) (a9.fc) (a9.hl) (a9.en) (a9.sh) (a9.co) (a9.ou) (a9.sd)
  have s8 := s7.others (k := w.heap.size + 1 + 1) (by omega) (a9.ax) (a9.ay) (a9.sx) (a9.sy) (a9.px) (a9.py) (a9.fc) (a9.hl) (a9.en) (a9.sh) (a9.co) (a9.ou) (a9.sd)
  have q8 := q7.others (k := w.heap.size + 1 + 1) (by omega) (a9.ax) (a9.ay) (a9.sx) (a9.sy) (a9.px) (a9.py) (a9.fc) (a9.hl) (a9.en) (a9.sh) (a9.co) (a9.ou) (a9.sd)
  have HS8 := hid (setC_fr (setC_fr (setC_fr (setC_fr (setC_fr (setC_fr (setC_fr (setC_fr (setC_fr (setC_fr (setC_fr (setC_fr (setC_fr (HS7.out) (w.heap.size + 1 + 1) 0 (.int .i64 a9.ax) (by omega)) (w.heap.size + 1 + 1) 1 (.int .i64 a9.ay) (by omega)) (w.heap.size + 1 + 1) 2 (.int .i64 a9.sx) (by omega)) (w.heap.size + 1 + 1) 3 (.int .i64 a9.sy) (by omega)) (w.heap.size + 1 + 1) 4 (.int .i64 a9.px) (by omega)) (w.heap.size + 1 + 1) 5 (.int .i64 a9.py) (by omega)) (w.heap.size + 1 + 1) 6 (.int .i64 a9.fc) (by omega)) (w.heap.size + 1 + 1) 7 (.int .i64 a9.hl) (by omega)) (w.heap.size + 1 + 1) 8 (.int .i64 a9.en) (by omega)) (w.heap.size + 1 + 1) 9 (.bool a9.sh) (by omega)) (w.heap.size + 1 + 1) 10 (.int .i64 a9.co) (by omega)) (w.heap.size + 1 + 1) 11 (.int .i64 a9.ou) (by omega)) (w.heap.size + 1 + 1) 12 (.int .i64 a9.sd) (by omega))
  obtain ⟨W8, eW8⟩ : ∃ W, (((((((((((((W7.setCell ⟨w.heap.size + 1 + 1, 0, none⟩ (.int .i64 a9.ax)).setCell ⟨w.heap.size + 1 + 1, 1, none⟩ (.int .i64 a9.ay)).setCell ⟨w.heap.size + 1 + 1, 2, none⟩ (.int .i64 a9.sx)).setCell ⟨w.heap.size + 1 + 1, 3, none⟩ (.int .i64 a9.sy)).setCell ⟨w.heap.size + 1 + 1, 4, none⟩ (.int .i64 a9.px)).setCell ⟨w.heap.size + 1 + 1, 5, none⟩ (.int .i64 a9.py)).setCell ⟨w.heap.size + 1 + 1, 6, none⟩ (.int .i64 a9.fc)).setCell ⟨w.heap.size + 1 + 1, 7, none⟩ (.int .i64 a9.hl)).setCell ⟨w.heap.size + 1 + 1, 8, none⟩ (.int .i64 a9.en)).setCell ⟨w.heap.size + 1 + 1, 9, none⟩ (.bool a9.sh)).setCell ⟨w.heap.size + 1 + 1, 10, none⟩ (.int .i64 a9.co)).setCell ⟨w.heap.size + 1 + 1, 11, none⟩ (.int .i64 a9.ou)).setCell ⟨w.heap.size + 1 + 1, 12, none⟩ (.int .i64 a9.sd)) = W := ⟨_, rfl⟩
  rw [eW8] at r8 s8 q8 HS8
  obtain ⟨e0, e1, e2, e3, e4, e5, e6, e7, e8, e9, e10, e11, e12, ef⟩ := q8.cells
  obtain ⟨g0, g1, g2, g3, g4, g5, g6, g7, g8, g9, g10, g11, g12, gf⟩ := s8.cells
  go_region
  all_goals
    go_wp2_with fail
    (try simp only [Exit.inBlock, Exit.then])
    refine bodyPost_ret (results_cct (r8.others (k := w.heap.size + 1 + 1 + 1) (by omega) _ _ _ _ _ _ _ _ _ _ _ _ _ ) (s8.put _ _ _ _ _ _ _ _ _ _ _ _ _ ) rfl _ _ rfl rfl rfl) rfl ⟨by rw [HEE.out.1, HEE.out.2]; rfl, ?_⟩
    repeat (first | refine setC_fr ?_ _ _ _ (by omega) | with_reducible exact HS8.out)
theorem rapart_any (a b : Mv) (w : World) : Calls Try.prog 16 #[mv a, mv b] w fun e w' => e = .returned (.tuple #[mv (aptA a b), mv (aptA b a), .int .i64 (err11 (aptE a b))]) ∧ Still w w' := by
  have hc : aptE b a = aptE a b := by unfold aptE; rw [Bool.and_comm]
  cases he : aptE a b with
  | false =>
    have e1 : aptA a b = zM := by unfold aptA; rw [he]; rfl
    have e2 : aptA b a = zM := by unfold aptA; rw [hc, he]; rfl
    rw [e1, e2]
    exact rapart_no a b he w
  | true =>
    by_cases ho : a.ou = 0 ∧ b.ou = 0
    · have e1 : aptA a b = { a with sx := b.sx, sy := b.sy } := by unfold aptA; rw [if_pos he, if_pos ho]
      have e2 : aptA b a = { b with sx := a.sx, sy := a.sy } := by unfold aptA; rw [if_pos (hc.trans he), if_pos ⟨ho.2, ho.1⟩]
      rw [e1, e2]
      exact rapart_in a b he (by simpa using ho.1) (by simpa using ho.2) w
    · have e1 : aptA a b = a := by unfold aptA; rw [if_pos he, if_neg ho]
      have e2 : aptA b a = b := by unfold aptA; rw [if_pos (hc.trans he), if_neg (fun h => ho ⟨h.2, h.1⟩)]
      rw [e1, e2]
      exact rapart_out a b he ho w
end Go.Proofs.Ytpohikhiekmfgaa
