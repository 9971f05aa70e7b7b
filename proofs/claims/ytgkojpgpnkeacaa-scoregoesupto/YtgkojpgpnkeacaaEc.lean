/- The document's Check, Gain and Hit of scores. -/
import Derived.Test.YtgkojpgpnkeacaaEb
import Derived.Deep.DeepCutAuto
import Derived.Deep.RegionHeld3
import Derived.BigRegion
namespace Go.Proofs.Ytgkojpgpnkeacaa
open Go.RowKit
open Ea
set_option maxRecDepth 100000

theorem rbound12_any (n : Int) (w : World) : Calls Try.prog 21 #[.int .i64 n] w fun e w' => e = .returned (.int .i64 (bdC n)) ∧ w' = w := by
  by_cases h1 : n > 2147483647
  · have HE : Hid (bdC n = 2147483647) := hid (by unfold bdC; rw [if_pos h1])
    go_enter Try.func21, Try.ntmps21
    go_wp2_with fail
    go_ret
    exact ⟨by rw [HE.out]; rfl, rfl⟩
  · by_cases h2 : n < -2147483647
    · have HE : Hid (bdC n = -2147483647) := hid (by unfold bdC; rw [if_neg h1, if_pos h2])
      go_enter Try.func21, Try.ntmps21
      go_wp2_with fail
      go_ret
      exact ⟨by rw [HE.out]; rfl, rfl⟩
    · have HE : Hid (bdC n = n) := hid (by unfold bdC; rw [if_neg h1, if_neg h2])
      go_enter Try.func21, Try.ntmps21
      go_wp2_with fail
      go_ret
      exact ⟨by rw [HE.out]; rfl, rfl⟩
theorem rchk12_any (x : Scr) (w : World) : Calls Try.prog 13 #[cv x] w fun e w' => e = .returned (.int .i64 (chkC x)) ∧ Still w w' := by
  have p := newC_cb w x
  have HS := hid (Still.alloc w (.cells (ccs x) 23))
  obtain ⟨c0, c1, c2, c3, cf⟩ := p.cells
  clear p
  by_cases z0 : x.p < -2147483647
  · have HE : Hid (chkC x = 120) := hid (chkC_no (fun h => by have := h.1; have := h.2.1; have := h.2.2.1; have := h.2.2.2; omega))
    go_enter Try.func13, Try.ntmps13
    go_wp2_with fail
    go_ret
    exact ⟨by rw [HE.out]; rfl, HS.out⟩
  by_cases z1 : x.p > 2147483647
  · have HE : Hid (chkC x = 120) := hid (chkC_no (fun h => by have := h.1; have := h.2.1; have := h.2.2.1; have := h.2.2.2; omega))
    go_enter Try.func13, Try.ntmps13
    go_wp2_with fail
    go_ret
    exact ⟨by rw [HE.out]; rfl, HS.out⟩
  have y1 : decide (2147483647 < x.p) = false := by simpa using z1
  by_cases z2 : x.h < 0
  · have HE : Hid (chkC x = 120) := hid (chkC_no (fun h => by have := h.1; have := h.2.1; have := h.2.2.1; have := h.2.2.2; omega))
    go_enter Try.func13, Try.ntmps13
    go_wp2_with fail
    go_ret
    exact ⟨by rw [HE.out]; rfl, HS.out⟩
  by_cases z3 : x.h > 2147483647
  · have HE : Hid (chkC x = 120) := hid (chkC_no (fun h => by have := h.1; have := h.2.1; have := h.2.2.1; have := h.2.2.2; omega))
    go_enter Try.func13, Try.ntmps13
    go_wp2_with fail
    go_ret
    exact ⟨by rw [HE.out]; rfl, HS.out⟩
  have y3 : decide (2147483647 < x.h) = false := by simpa using z3
  by_cases z4 : x.o < 0
  · have HE : Hid (chkC x = 120) := hid (chkC_no (fun h => by have := h.1; have := h.2.1; have := h.2.2.1; have := h.2.2.2; omega))
    go_enter Try.func13, Try.ntmps13
    go_wp2_with fail
    go_ret
    exact ⟨by rw [HE.out]; rfl, HS.out⟩
  by_cases z5 : x.o > 2147483647
  · have HE : Hid (chkC x = 120) := hid (chkC_no (fun h => by have := h.1; have := h.2.1; have := h.2.2.1; have := h.2.2.2; omega))
    go_enter Try.func13, Try.ntmps13
    go_wp2_with fail
    go_ret
    exact ⟨by rw [HE.out]; rfl, HS.out⟩
  have y5 : decide (2147483647 < x.o) = false := by simpa using z5
  by_cases z6 : x.k < 0
  · have HE : Hid (chkC x = 120) := hid (chkC_no (fun h => by have := h.1; have := h.2.1; have := h.2.2.1; have := h.2.2.2; omega))
    go_enter Try.func13, Try.ntmps13
    go_wp2_with fail
    go_ret
    exact ⟨by rw [HE.out]; rfl, HS.out⟩
  by_cases z7 : x.k > 2147483647
  · have HE : Hid (chkC x = 120) := hid (chkC_no (fun h => by have := h.1; have := h.2.1; have := h.2.2.1; have := h.2.2.2; omega))
    go_enter Try.func13, Try.ntmps13
    go_wp2_with fail
    go_ret
    exact ⟨by rw [HE.out]; rfl, HS.out⟩
  have y7 : decide (2147483647 < x.k) = false := by simpa using z7
  have HE : Hid (chkC x = 0) := hid (chkC_yes (by unfold MayC; omega))
  clear z1 z3 z5 z7
  go_enter Try.func13, Try.ntmps13
  go_wp2_with fail
  go_ret
  exact ⟨by rw [HE.out]; rfl, HS.out⟩
theorem rgain_may (x : Scr) (n : Int) (hm : ¬ MayC x) (w : World) : Calls Try.prog 11 #[cv x, .int .i64 n] w fun e w' => e = .returned (.tuple #[cv zC, .int .i64 120]) ∧ Still w w' := by
  have A0 := Still.alloc w (.cells (ccs x) 23)
  have A1 := Still.alloc (newC w x) (.cells (ccs zC) 23)
  have p0 := (newC_cb w x).still A1
  have q0 := newC_cb (newC w x) zC
  simp only [size_alloc] at q0
  have HS0 := hid (A0.trans A1)
  clear A0 A1
  obtain ⟨c0, c1, c2, c3, cf⟩ := p0.cells
  have H := hid (fun w => rchk12_any x w)
  rw [chkC_no hm] at H
  clear hm
  go_enter Try.func11, Try.ntmps11
  go_wp2_with fail
  refine (H.out _).mono ?_
  rintro e w1 ⟨rfl, h1⟩
  have p1 := p0.still h1
  have q1 := q0.still h1
  have HS1 := hid (HS0.out.trans h1)
  clear h1 HS0 p0 q0 c0 c1 c2 c3 cf H
  obtain ⟨c0, c1, c2, c3, cf⟩ := p1.cells
  obtain ⟨d0, d1, d2, d3, df⟩ := q1.cells
  go_wp2_with fail
  refine bodyPost_ret (Cb.rest (Cb.put q1 _ _ _ _) rfl _ _ rfl rfl) rfl ⟨rfl, ?_⟩
  repeat (first | refine setC_frC ?_ _ _ _ (by omega) | with_reducible exact HS1.out)
theorem rgain_arg (x : Scr) (n : Int) (hm : MayC x) (hn : ¬ (0 ≤ n ∧ n ≤ 100)) (w : World) : Calls Try.prog 11 #[cv x, .int .i64 n] w fun e w' => e = .returned (.tuple #[cv zC, .int .i64 1]) ∧ Still w w' := by
  have A0 := Still.alloc w (.cells (ccs x) 23)
  have A1 := Still.alloc (newC w x) (.cells (ccs zC) 23)
  have p0 := (newC_cb w x).still A1
  have q0 := newC_cb (newC w x) zC
  simp only [size_alloc] at q0
  have HS0 := hid (A0.trans A1)
  clear A0 A1
  obtain ⟨c0, c1, c2, c3, cf⟩ := p0.cells
  have H := hid (fun w => rchk12_any x w)
  rw [chkC_yes hm] at H
  have HN := hid hn
  clear hm hn
  go_enter Try.func11, Try.ntmps11
  go_wp2_with fail
  refine (H.out _).mono ?_
  rintro e w1 ⟨rfl, h1⟩
  have p1 := p0.still h1
  have q1 := q0.still h1
  have HS1 := hid (HS0.out.trans h1)
  clear h1 HS0 p0 q0 c0 c1 c2 c3 cf H
  obtain ⟨c0, c1, c2, c3, cf⟩ := p1.cells
  obtain ⟨d0, d1, d2, d3, df⟩ := q1.cells
  by_cases g0 : n < 0
  · go_wp2_with fail
    refine bodyPost_ret (Cb.rest (Cb.put q1 _ _ _ _) rfl _ _ rfl rfl) rfl ⟨rfl, ?_⟩
    repeat (first | refine setC_frC ?_ _ _ _ (by omega) | with_reducible exact HS1.out)
  · have g1 : n > 100 := by have := HN.out; omega
    go_wp2_with fail
    refine bodyPost_ret (Cb.rest (Cb.put q1 _ _ _ _) rfl _ _ rfl rfl) rfl ⟨rfl, ?_⟩
    repeat (first | refine setC_frC ?_ _ _ _ (by omega) | with_reducible exact HS1.out)
theorem rgain_ok (x : Scr) (n : Int) (hm : MayC x) (g0 : ¬ n < 0) (g1 : decide (100 < n) = false) (w : World) : Calls Try.prog 11 #[cv x, .int .i64 n] w fun e w' => e = .returned (.tuple #[cv { x with p := bdC (x.p + n) }, .int .i64 0]) ∧ Still w w' := by
  have hx := hm.1
  have hn1 : n ≤ 100 := by simpa using g1
  have A0 := Still.alloc w (.cells (ccs x) 23)
  have A1 := Still.alloc (newC w x) (.cells (ccs zC) 23)
  have p0 := (newC_cb w x).still A1
  have q0 := newC_cb (newC w x) zC
  simp only [size_alloc] at q0
  have HS0 := hid (A0.trans A1)
  clear A0 A1
  obtain ⟨c0, c1, c2, c3, cf⟩ := p0.cells
  have H := hid (fun w => rchk12_any x w)
  rw [chkC_yes hm] at H
  have HB := hid (fun w => rbound12_any (x.p + n) w)
  obtain ⟨v, ev⟩ : ∃ v, bdC (x.p + n) = v := ⟨_, rfl⟩
  rw [ev] at HB ⊢
  clear hm ev
  go_enter Try.func11, Try.ntmps11
  go_wp2_with fail
  refine (H.out _).mono ?_
  rintro e w1 ⟨rfl, h1⟩
  have p1 := p0.still h1
  have q1 := q0.still h1
  have HS1 := hid (HS0.out.trans h1)
  clear h1 HS0 p0 q0 c0 c1 c2 c3 cf H
  obtain ⟨c0, c1, c2, c3, cf⟩ := p1.cells
  obtain ⟨d0, d1, d2, d3, df⟩ := q1.cells
  go_wp2_with fail
  refine (HB.out _).mono ?_
  rintro e w2 ⟨he, hw⟩
  rw [he, hw]
  clear he hw w2 HB
  have p3 := p1.sp v
  have q3 := q1.other w.heap.size 0 (.int .i64 v) (by omega)
  have HS3 := hid (setC_frC HS1.out w.heap.size 0 (.int .i64 v) (Nat.le_refl _))
  obtain ⟨W3, eW3⟩ : ∃ W3, w1.setCell ⟨w.heap.size, 0, none⟩ (.int .i64 v) = W3 := ⟨_, rfl⟩
  rw [eW3] at p3 q3 HS3
  go_upto_region 7 with fail
  clear eW3 p1 q1 HS1 c0 c1 c2 c3 cf d0 d1 d2 d3 df
  obtain ⟨c0, c1, c2, c3, cf⟩ := p3.cells
  obtain ⟨d0, d1, d2, d3, df⟩ := q3.cells
  go_wp2_with fail
  refine bodyPost_ret (Cb.rest (Cb.put q3 _ _ _ _) rfl _ _ rfl rfl) rfl ⟨rfl, ?_⟩
  repeat (first | refine setC_frC ?_ _ _ _ (by omega) | with_reducible exact HS3.out)
theorem rgain_any (x : Scr) (n : Int) (w : World) : Calls Try.prog 11 #[cv x, .int .i64 n] w fun e w' => e = .returned (.tuple #[cv (gain x n), .int .i64 (errG x n)]) ∧ Still w w' := by
  by_cases hm : MayC x
  · by_cases hn : 0 ≤ n ∧ n ≤ 100
    · have e : gain x n = { x with p := bdC (x.p + n) } := by unfold gain; rw [if_pos (errG_yes hm hn)]
      rw [e, errG_yes hm hn]
      exact rgain_ok x n hm (by omega) (by simp; omega) w
    · have e : gain x n = zC := by unfold gain; rw [errG_arg hm hn]; rfl
      rw [e, errG_arg hm hn]
      exact rgain_arg x n hm hn w
  · have e : gain x n = zC := by unfold gain; rw [errG_may hm]; rfl
    rw [e, errG_may hm]
    exact rgain_may x n hm w
set_option maxHeartbeats 1000000 in
theorem rhit_may (a b : Scr) (n : Int) (out : Bool) (hm : ¬ (MayC a ∧ MayC b)) (w : World) : Calls Try.prog 9 #[cv a, cv b, .int .i64 n, .bool out] w fun e w' => e = .returned (.tuple #[cv zC, cv zC, .int .i64 120]) ∧ Still w w' := by
  by_cases ha : MayC a
  · have hb : ¬ MayC b := fun h => hm ⟨ha, h⟩
    have F0 := F4.new w a b
    obtain ⟨c0, c1, c2, c3, cf⟩ := F0.1.cells
    obtain ⟨d0, d1, d2, d3, df⟩ := F0.2.1.cells
    have HA := hid (fun w => rchk12_any a w)
    have HB := hid (fun w => rchk12_any b w)
    rw [chkC_yes ha] at HA
    rw [chkC_no hb] at HB
    clear hm ha hb
    go_enter Try.func9, Try.ntmps9
    go_wp2_with fail
    refine (HA.out _).mono ?_
    rintro e w1 ⟨rfl, h1⟩
    have F1 := F0.on h1
    clear h1 F0 c0 c1 c2 c3 cf d0 d1 d2 d3 df HA
    obtain ⟨c0, c1, c2, c3, cf⟩ := F1.1.cells
    obtain ⟨d0, d1, d2, d3, df⟩ := F1.2.1.cells
    go_wp2_with fail
    refine (HB.out _).mono ?_
    rintro e w2 ⟨rfl, h2⟩
    have F2 := F1.on h2
    have HF2 := hid F2
    have HS2 : Hid (Still w w2) := hid F2.2.2.2.2
    clear h2 F1 c0 c1 c2 c3 cf d0 d1 d2 d3 df HB
    obtain ⟨c0, c1, c2, c3, cf⟩ := F2.1.cells
    obtain ⟨d0, d1, d2, d3, df⟩ := F2.2.1.cells
    obtain ⟨k0, k1, k2, k3, kf⟩ := F2.2.2.1.cells
    obtain ⟨l0, l1, l2, l3, lf⟩ := F2.2.2.2.1.cells
    clear F2
    go_wp2_with fail
    refine bodyPost_ret (Cb.res2 ((HF2.out.2.2.1.put _ _ _ _).others (k := w.heap.size + 1 + 1 + 1) (by omega) _ _ _ _) ((HF2.out.2.2.2.1.others (k := w.heap.size + 1 + 1) (by omega) _ _ _ _).put _ _ _ _) rfl _ _ rfl rfl rfl) rfl ⟨rfl, ?_⟩
    repeat (first | refine setC_frC ?_ _ _ _ (by omega) | with_reducible exact HS2.out)
  · have HEx : ∃ E, chkC b = E := ⟨_, rfl⟩
    obtain ⟨E, eE⟩ := HEx
    have F0 := F4.new w a b
    obtain ⟨c0, c1, c2, c3, cf⟩ := F0.1.cells
    obtain ⟨d0, d1, d2, d3, df⟩ := F0.2.1.cells
    have HA := hid (fun w => rchk12_any a w)
    have HB := hid (fun w => rchk12_any b w)
    rw [chkC_no ha] at HA
    rw [eE] at HB
    clear hm ha eE
    go_enter Try.func9, Try.ntmps9
    go_wp2_with fail
    refine (HA.out _).mono ?_
    rintro e w1 ⟨rfl, h1⟩
    have F1 := F0.on h1
    clear h1 F0 c0 c1 c2 c3 cf d0 d1 d2 d3 df HA
    obtain ⟨c0, c1, c2, c3, cf⟩ := F1.1.cells
    obtain ⟨d0, d1, d2, d3, df⟩ := F1.2.1.cells
    go_wp2_with fail
    refine (HB.out _).mono ?_
    rintro e w2 ⟨rfl, h2⟩
    have F2 := F1.on h2
    have HF2 := hid F2
    have HS2 : Hid (Still w w2) := hid F2.2.2.2.2
    clear h2 F1 c0 c1 c2 c3 cf d0 d1 d2 d3 df HB
    obtain ⟨c0, c1, c2, c3, cf⟩ := F2.1.cells
    obtain ⟨d0, d1, d2, d3, df⟩ := F2.2.1.cells
    obtain ⟨k0, k1, k2, k3, kf⟩ := F2.2.2.1.cells
    obtain ⟨l0, l1, l2, l3, lf⟩ := F2.2.2.2.1.cells
    clear F2
    go_wp2_with fail
    refine bodyPost_ret (Cb.res2 ((HF2.out.2.2.1.put _ _ _ _).others (k := w.heap.size + 1 + 1 + 1) (by omega) _ _ _ _) ((HF2.out.2.2.2.1.others (k := w.heap.size + 1 + 1) (by omega) _ _ _ _).put _ _ _ _) rfl _ _ rfl rfl rfl) rfl ⟨rfl, ?_⟩
    repeat (first | refine setC_frC ?_ _ _ _ (by omega) | with_reducible exact HS2.out)
set_option maxHeartbeats 1000000 in
theorem rhit_arg (a b : Scr) (n : Int) (out : Bool) (ha : MayC a) (hb : MayC b) (hn : ¬ (1 ≤ n ∧ n ≤ 3)) (w : World) : Calls Try.prog 9 #[cv a, cv b, .int .i64 n, .bool out] w fun e w' => e = .returned (.tuple #[cv zC, cv zC, .int .i64 1]) ∧ Still w w' := by
  have HN := hid hn
  have F0 := F4.new w a b
  obtain ⟨c0, c1, c2, c3, cf⟩ := F0.1.cells
  obtain ⟨d0, d1, d2, d3, df⟩ := F0.2.1.cells
  have HA := hid (fun w => rchk12_any a w)
  have HB := hid (fun w => rchk12_any b w)
  rw [chkC_yes ha] at HA
  rw [chkC_yes hb] at HB
  clear hn ha hb
  go_enter Try.func9, Try.ntmps9
  go_wp2_with fail
  refine (HA.out _).mono ?_
  rintro e w1 ⟨rfl, h1⟩
  have F1 := F0.on h1
  clear h1 F0 c0 c1 c2 c3 cf d0 d1 d2 d3 df HA
  obtain ⟨c0, c1, c2, c3, cf⟩ := F1.1.cells
  obtain ⟨d0, d1, d2, d3, df⟩ := F1.2.1.cells
  go_wp2_with fail
  refine (HB.out _).mono ?_
  rintro e w2 ⟨rfl, h2⟩
  have F2 := F1.on h2
  have HF2 := hid F2
  have HS2 : Hid (Still w w2) := hid F2.2.2.2.2
  clear h2 F1 c0 c1 c2 c3 cf d0 d1 d2 d3 df HB
  obtain ⟨c0, c1, c2, c3, cf⟩ := F2.1.cells
  obtain ⟨d0, d1, d2, d3, df⟩ := F2.2.1.cells
  obtain ⟨k0, k1, k2, k3, kf⟩ := F2.2.2.1.cells
  obtain ⟨l0, l1, l2, l3, lf⟩ := F2.2.2.2.1.cells
  clear F2
  by_cases g0 : n < 1
  · go_wp2_with fail
    refine bodyPost_ret (Cb.res2 ((HF2.out.2.2.1.put _ _ _ _).others (k := w.heap.size + 1 + 1 + 1) (by omega) _ _ _ _) ((HF2.out.2.2.2.1.others (k := w.heap.size + 1 + 1) (by omega) _ _ _ _).put _ _ _ _) rfl _ _ rfl rfl rfl) rfl ⟨rfl, ?_⟩
    repeat (first | refine setC_frC ?_ _ _ _ (by omega) | with_reducible exact HS2.out)
  · have g1 : n > 3 := by have := HN.out; omega
    go_wp2_with fail
    refine bodyPost_ret (Cb.res2 ((HF2.out.2.2.1.put _ _ _ _).others (k := w.heap.size + 1 + 1 + 1) (by omega) _ _ _ _) ((HF2.out.2.2.2.1.others (k := w.heap.size + 1 + 1) (by omega) _ _ _ _).put _ _ _ _) rfl _ _ rfl rfl rfl) rfl ⟨rfl, ?_⟩
    repeat (first | refine setC_frC ?_ _ _ _ (by omega) | with_reducible exact HS2.out)
set_option maxHeartbeats 2000000 in
theorem rhit_no (a b : Scr) (n : Int) (ha : MayC a) (hb : MayC b) (g0 : ¬ n < 1) (g1 : decide (3 < n) = false) (U V : Int) (hU : bdC (a.h + 1) = U) (hV : bdC (a.p + n) = V) (w : World) : Calls Try.prog 9 #[cv a, cv b, .int .i64 n, .bool false] w fun e w' => e = .returned (.tuple #[cv ⟨V, U, a.o, a.k⟩, cv b, .int .i64 0]) ∧ Still w w' := by
  have HBh := fun w => rbound12_any (a.h + 1) w
  have HBp := fun w => rbound12_any (a.p + n) w
  rw [hU] at HBh
  rw [hV] at HBp
  have hh := ha.2.1
  have hp := ha.1
  have hn3 : n ≤ 3 := by simpa using g1
  have F0 := F4.new w a b
  obtain ⟨c0, c1, c2, c3, cf⟩ := F0.1.cells
  obtain ⟨d0, d1, d2, d3, df⟩ := F0.2.1.cells
  have HA := hid (fun w => rchk12_any a w)
  have HB := hid (fun w => rchk12_any b w)
  rw [chkC_yes ha] at HA
  rw [chkC_yes hb] at HB
  clear ha hb hU hV
  go_enter Try.func9, Try.ntmps9
  go_wp2_with fail
  refine (HA.out _).mono ?_
  rintro e w1 ⟨rfl, h1⟩
  have F1 := F0.on h1
  clear h1 F0 c0 c1 c2 c3 cf d0 d1 d2 d3 df HA
  obtain ⟨c0, c1, c2, c3, cf⟩ := F1.1.cells
  obtain ⟨d0, d1, d2, d3, df⟩ := F1.2.1.cells
  go_wp2_with fail
  refine (HB.out _).mono ?_
  rintro e w2 ⟨rfl, h2⟩
  have F2 := F1.on h2
  have HF2 := hid F2
  have HS2 : Hid (Still w w2) := hid F2.2.2.2.2
  clear h2 F1 c0 c1 c2 c3 cf d0 d1 d2 d3 df HB
  obtain ⟨c0, c1, c2, c3, cf⟩ := F2.1.cells
  obtain ⟨d0, d1, d2, d3, df⟩ := F2.2.1.cells
  obtain ⟨k0, k1, k2, k3, kf⟩ := F2.2.2.1.cells
  obtain ⟨l0, l1, l2, l3, lf⟩ := F2.2.2.2.1.cells
  clear F2
  obtain ⟨W2, eW2⟩ : ∃ W, W = w2 := ⟨_, rfl⟩
  rw [← eW2] at HF2 HS2 c0 c1 c2 c3 cf d0 d1 d2 d3 df ⊢
  clear eW2 k0 k1 k2 k3 kf l0 l1 l2 l3 lf
  go_wp2_with fail
  refine (HBh _).mono ?_
  rintro e w' ⟨he, hw⟩
  rw [he, hw]
  clear he hw w'
  have F3 := HF2.out.setA 1 (.int .i64 U) (HF2.out.1.sh U)
  obtain ⟨W3, eW3⟩ : ∃ W, W2.setCell ⟨w.heap.size, 1, none⟩ (.int .i64 U) = W := ⟨_, rfl⟩
  rw [eW3] at F3
  have HF3 := hid F3
  clear F3
  go_upto_region 19 with fail
  clear eW3 HF2 c0 c1 c2 c3 cf d0 d1 d2 d3 df
  obtain ⟨c0, c1, c2, c3, cf⟩ := HF3.out.1.cells
  obtain ⟨d0, d1, d2, d3, df⟩ := HF3.out.2.1.cells
  go_wp2_with fail
  refine (HBp _).mono ?_
  rintro e w' ⟨he, hw⟩
  rw [he, hw]
  clear he hw w'
  have F4 := HF3.out.setA 0 (.int .i64 V) (HF3.out.1.sp V)
  obtain ⟨W4, eW4⟩ : ∃ W, W3.setCell ⟨w.heap.size, 0, none⟩ (.int .i64 V) = W := ⟨_, rfl⟩
  rw [eW4] at F4
  have HF4 := hid F4
  clear F4
  go_upto_region 20 with fail
  clear eW4 HF3 c0 c1 c2 c3 cf d0 d1 d2 d3 df
  obtain ⟨c0, c1, c2, c3, cf⟩ := HF4.out.1.cells
  obtain ⟨d0, d1, d2, d3, df⟩ := HF4.out.2.1.cells
  have F8 := HF4.out.on ((Fr.refl _ W4).drew)
  obtain ⟨W8, eW8⟩ : ∃ W, W4.drew = W := ⟨_, rfl⟩
  rw [eW8] at F8
  clear HF4 c0 c1 c2 c3 cf d0 d1 d2 d3 df
  obtain ⟨c0, c1, c2, c3, cf⟩ := F8.1.cells
  obtain ⟨d0, d1, d2, d3, df⟩ := F8.2.1.cells
  obtain ⟨k0, k1, k2, k3, kf⟩ := F8.2.2.1.cells
  have r9 := F8.2.2.1.put ((⟨V, U, a.o, a.k⟩ : Scr)).p ((⟨V, U, a.o, a.k⟩ : Scr)).h ((⟨V, U, a.o, a.k⟩ : Scr)).o ((⟨V, U, a.o, a.k⟩ : Scr)).k
  have s9 := F8.2.2.2.1.others (k := w.heap.size + 1 + 1) (by omega) ((⟨V, U, a.o, a.k⟩ : Scr)).p ((⟨V, U, a.o, a.k⟩ : Scr)).h ((⟨V, U, a.o, a.k⟩ : Scr)).o ((⟨V, U, a.o, a.k⟩ : Scr)).k
  have q9 := F8.2.1.others (k := w.heap.size + 1 + 1) (by omega) ((⟨V, U, a.o, a.k⟩ : Scr)).p ((⟨V, U, a.o, a.k⟩ : Scr)).h ((⟨V, U, a.o, a.k⟩ : Scr)).o ((⟨V, U, a.o, a.k⟩ : Scr)).k
  have HS9 := hid (setC_frC (setC_frC (setC_frC (setC_frC F8.2.2.2.2 (w.heap.size + 1 + 1) 0 (.int .i64 ((⟨V, U, a.o, a.k⟩ : Scr)).p) (by omega)) (w.heap.size + 1 + 1) 1 (.int .i64 ((⟨V, U, a.o, a.k⟩ : Scr)).h) (by omega)) (w.heap.size + 1 + 1) 2 (.int .i64 ((⟨V, U, a.o, a.k⟩ : Scr)).o) (by omega)) (w.heap.size + 1 + 1) 3 (.int .i64 ((⟨V, U, a.o, a.k⟩ : Scr)).k) (by omega))
  obtain ⟨W9, eW9⟩ : ∃ W, (((W8.setCell ⟨w.heap.size + 1 + 1, 0, none⟩ (.int .i64 ((⟨V, U, a.o, a.k⟩ : Scr)).p)).setCell ⟨w.heap.size + 1 + 1, 1, none⟩ (.int .i64 ((⟨V, U, a.o, a.k⟩ : Scr)).h)).setCell ⟨w.heap.size + 1 + 1, 2, none⟩ (.int .i64 ((⟨V, U, a.o, a.k⟩ : Scr)).o)).setCell ⟨w.heap.size + 1 + 1, 3, none⟩ (.int .i64 ((⟨V, U, a.o, a.k⟩ : Scr)).k) = W := ⟨_, rfl⟩
  rw [eW9] at r9 s9 q9 HS9
  obtain ⟨e0, e1, e2, e3, ef⟩ := q9.cells
  obtain ⟨g0, g1, g2, g3, gf⟩ := s9.cells
  clear F8
  go_region
  all_goals
    go_wp2_with fail
    (try simp only [Exit.inBlock, Exit.then])
    refine bodyPost_ret (Cb.res2 (r9.others (k := w.heap.size + 1 + 1 + 1) (by omega) _ _ _ _) (s9.put _ _ _ _) rfl _ _ rfl rfl rfl) rfl ⟨rfl, ?_⟩
    repeat (first | refine setC_frC ?_ _ _ _ (by omega) | with_reducible exact HS9.out)
set_option maxHeartbeats 4000000 in
theorem rhit_out (a b : Scr) (n : Int) (ha : MayC a) (hb : MayC b) (g0 : ¬ n < 1) (g1 : decide (3 < n) = false) (K O P U V : Int) (hK : bdC (a.k + 1) = K) (hO : bdC (b.o + 1) = O) (hP : bdC (b.p - 2) = P) (hU : bdC (a.h + 1) = U) (hV : bdC (a.p + (n + 10 + (if a.k < 5 then a.k else 5))) = V) (w : World) : Calls Try.prog 9 #[cv a, cv b, .int .i64 n, .bool true] w fun e w' => e = .returned (.tuple #[cv ⟨V, U, a.o, K⟩, cv ⟨P, b.h, O, 0⟩, .int .i64 0]) ∧ Still w w' := by
  have HBk := fun w => rbound12_any (a.k + 1) w
  have HBo := fun w => rbound12_any (b.o + 1) w
  have HBq := fun w => rbound12_any (b.p - 2) w
  have HBh := fun w => rbound12_any (a.h + 1) w
  have HBp := fun w => rbound12_any (a.p + (n + 10 + (if a.k < 5 then a.k else 5))) w
  rw [hK] at HBk
  rw [hO] at HBo
  rw [hP] at HBq
  rw [hU] at HBh
  rw [hV] at HBp
  have hh := ha.2.1
  have hp := ha.1
  have hk := ha.2.2.2
  have ho := hb.2.2.1
  have hq := hb.1
  have hn3 : n ≤ 3 := by simpa using g1
  have F0 := F4.new w a b
  obtain ⟨c0, c1, c2, c3, cf⟩ := F0.1.cells
  obtain ⟨d0, d1, d2, d3, df⟩ := F0.2.1.cells
  have HA := hid (fun w => rchk12_any a w)
  have HB := hid (fun w => rchk12_any b w)
  rw [chkC_yes ha] at HA
  rw [chkC_yes hb] at HB
  clear ha hb hK hO hP hU hV
  go_enter Try.func9, Try.ntmps9
  go_wp2_with fail
  refine (HA.out _).mono ?_
  rintro e w1 ⟨rfl, h1⟩
  have F1 := F0.on h1
  clear h1 F0 c0 c1 c2 c3 cf d0 d1 d2 d3 df HA
  obtain ⟨c0, c1, c2, c3, cf⟩ := F1.1.cells
  obtain ⟨d0, d1, d2, d3, df⟩ := F1.2.1.cells
  go_wp2_with fail
  refine (HB.out _).mono ?_
  rintro e w2 ⟨rfl, h2⟩
  have F2 := F1.on h2
  have HF2 := hid F2
  have HS2 : Hid (Still w w2) := hid F2.2.2.2.2
  clear h2 F1 c0 c1 c2 c3 cf d0 d1 d2 d3 df HB
  obtain ⟨c0, c1, c2, c3, cf⟩ := F2.1.cells
  obtain ⟨d0, d1, d2, d3, df⟩ := F2.2.1.cells
  obtain ⟨k0, k1, k2, k3, kf⟩ := F2.2.2.1.cells
  obtain ⟨l0, l1, l2, l3, lf⟩ := F2.2.2.2.1.cells
  clear F2
  obtain ⟨W2, eW2⟩ : ∃ W, W = w2 := ⟨_, rfl⟩
  rw [← eW2] at HF2 HS2 c0 c1 c2 c3 cf d0 d1 d2 d3 df ⊢
  clear eW2 k0 k1 k2 k3 kf l0 l1 l2 l3 lf
  go_wp2_with fail
  go_loopw [13, 14] (fun v u wr => ∃ j : Nat, j ≤ 5 ∧ (j : Int) ≤ a.k ∧ v = .int .i64 (n + 10 + (j : Int)) ∧ u = .int .i64 (j : Int) ∧ wr = W2) (fun _ u _ => 5 - (intOf u).toNat)
  case atStart => exact ⟨0, by omega, by omega, by simp, rfl, rfl⟩
  case round =>
    obtain ⟨j, hj5, hjk, rfl, rfl, rfl⟩ := hrel
    by_cases z : (j : Int) < 5
    · by_cases y : (j : Int) < a.k
      · go_wp2_with fail
        go_roundw
        case rel => exact ⟨j + 1, by omega, by omega, by simp; omega, by go_num, by trivial⟩
        case measure => simp [intOf]; omega
      · have hm : (if a.k < 5 then a.k else 5) = (j : Int) := by rw [if_pos (by omega)]; omega
        rw [hm] at HBp
        have y' : decide ((j : Int) < a.k) = false := by simpa using y
        have hj : (j : Int) ≤ 5 := by omega
        have hj0 : 0 ≤ (j : Int) := by omega
        obtain ⟨m, em⟩ : ∃ m, (j : Int) = m := ⟨_, rfl⟩
        rw [em] at HBp hj hj0 z y' ⊢
        clear hm y hjk hj5 em
        go_wp2_with fail
        refine (HBk _).mono ?_
        rintro e w' ⟨he, hw⟩
        rw [he, hw]
        clear he hw w'
        have F3 := HF2.out.setA 3 (.int .i64 K) (HF2.out.1.sk K)
        obtain ⟨W3, eW3⟩ : ∃ W, wr.setCell ⟨w.heap.size, 3, none⟩ (.int .i64 K) = W := ⟨_, rfl⟩
        rw [eW3] at F3
        have HF3 := hid F3
        clear F3
        go_upto_region 15 with fail
        clear eW3 HF2 c0 c1 c2 c3 cf d0 d1 d2 d3 df
        obtain ⟨c0, c1, c2, c3, cf⟩ := HF3.out.1.cells
        obtain ⟨d0, d1, d2, d3, df⟩ := HF3.out.2.1.cells
        go_wp2_with fail
        refine (HBo _).mono ?_
        rintro e w' ⟨he, hw⟩
        rw [he, hw]
        clear he hw w'
        have F4 := HF3.out.setB 2 (.int .i64 O) (HF3.out.2.1.so O)
        obtain ⟨W4, eW4⟩ : ∃ W, W3.setCell ⟨w.heap.size + 1, 2, none⟩ (.int .i64 O) = W := ⟨_, rfl⟩
        rw [eW4] at F4
        have HF4 := hid F4
        clear F4
        go_upto_region 16 with fail
        clear eW4 HF3 c0 c1 c2 c3 cf d0 d1 d2 d3 df
        obtain ⟨c0, c1, c2, c3, cf⟩ := HF4.out.1.cells
        obtain ⟨d0, d1, d2, d3, df⟩ := HF4.out.2.1.cells
        have F5 := HF4.out.setB 3 (.int .i64 0) (HF4.out.2.1.sk 0)
        obtain ⟨W5, eW5⟩ : ∃ W, W4.setCell ⟨w.heap.size + 1, 3, none⟩ (.int .i64 0) = W := ⟨_, rfl⟩
        rw [eW5] at F5
        have HF5 := hid F5
        clear F5
        go_upto_region 17 with fail
        clear eW5 HF4 c0 c1 c2 c3 cf d0 d1 d2 d3 df
        obtain ⟨c0, c1, c2, c3, cf⟩ := HF5.out.1.cells
        obtain ⟨d0, d1, d2, d3, df⟩ := HF5.out.2.1.cells
        go_wp2_with fail
        refine (HBq _).mono ?_
        rintro e w' ⟨he, hw⟩
        rw [he, hw]
        clear he hw w'
        have F6 := HF5.out.setB 0 (.int .i64 P) (HF5.out.2.1.sp P)
        obtain ⟨W6, eW6⟩ : ∃ W, W5.setCell ⟨w.heap.size + 1, 0, none⟩ (.int .i64 P) = W := ⟨_, rfl⟩
        rw [eW6] at F6
        have HF6 := hid F6
        clear F6
        go_upto_region 18 with fail
        clear eW6 HF5 c0 c1 c2 c3 cf d0 d1 d2 d3 df
        obtain ⟨c0, c1, c2, c3, cf⟩ := HF6.out.1.cells
        obtain ⟨d0, d1, d2, d3, df⟩ := HF6.out.2.1.cells
        go_wp2_with fail
        refine (HBh _).mono ?_
        rintro e w' ⟨he, hw⟩
        rw [he, hw]
        clear he hw w'
        have F7 := HF6.out.setA 1 (.int .i64 U) (HF6.out.1.sh U)
        obtain ⟨W7, eW7⟩ : ∃ W, W6.setCell ⟨w.heap.size, 1, none⟩ (.int .i64 U) = W := ⟨_, rfl⟩
        rw [eW7] at F7
        have HF7 := hid F7
        clear F7
        go_upto_region 19 with fail
        clear eW7 HF6 c0 c1 c2 c3 cf d0 d1 d2 d3 df
        obtain ⟨c0, c1, c2, c3, cf⟩ := HF7.out.1.cells
        obtain ⟨d0, d1, d2, d3, df⟩ := HF7.out.2.1.cells
        go_wp2_with fail
        refine (HBp _).mono ?_
        rintro e w' ⟨he, hw⟩
        rw [he, hw]
        clear he hw w'
        have F8 := HF7.out.setA 0 (.int .i64 V) (HF7.out.1.sp V)
        obtain ⟨W8, eW8⟩ : ∃ W, W7.setCell ⟨w.heap.size, 0, none⟩ (.int .i64 V) = W := ⟨_, rfl⟩
        rw [eW8] at F8
        have HF8 := hid F8
        clear F8
        go_upto_region 20 with fail
        clear eW8 HF7 c0 c1 c2 c3 cf d0 d1 d2 d3 df
        obtain ⟨c0, c1, c2, c3, cf⟩ := HF8.out.1.cells
        obtain ⟨d0, d1, d2, d3, df⟩ := HF8.out.2.1.cells
        have FD := HF8.out.on ((Fr.refl _ W8).drew)
        obtain ⟨WD, eWD⟩ : ∃ W, W8.drew = W := ⟨_, rfl⟩
        rw [eWD] at FD
        clear HF8 c0 c1 c2 c3 cf d0 d1 d2 d3 df
        obtain ⟨c0, c1, c2, c3, cf⟩ := FD.1.cells
        obtain ⟨d0, d1, d2, d3, df⟩ := FD.2.1.cells
        obtain ⟨k0, k1, k2, k3, kf⟩ := FD.2.2.1.cells
        have r9 := FD.2.2.1.put ((⟨V, U, a.o, K⟩ : Scr)).p ((⟨V, U, a.o, K⟩ : Scr)).h ((⟨V, U, a.o, K⟩ : Scr)).o ((⟨V, U, a.o, K⟩ : Scr)).k
        have s9 := FD.2.2.2.1.others (k := w.heap.size + 1 + 1) (by omega) ((⟨V, U, a.o, K⟩ : Scr)).p ((⟨V, U, a.o, K⟩ : Scr)).h ((⟨V, U, a.o, K⟩ : Scr)).o ((⟨V, U, a.o, K⟩ : Scr)).k
        have q9 := FD.2.1.others (k := w.heap.size + 1 + 1) (by omega) ((⟨V, U, a.o, K⟩ : Scr)).p ((⟨V, U, a.o, K⟩ : Scr)).h ((⟨V, U, a.o, K⟩ : Scr)).o ((⟨V, U, a.o, K⟩ : Scr)).k
        have HS9 := hid (setC_frC (setC_frC (setC_frC (setC_frC FD.2.2.2.2 (w.heap.size + 1 + 1) 0 (.int .i64 ((⟨V, U, a.o, K⟩ : Scr)).p) (by omega)) (w.heap.size + 1 + 1) 1 (.int .i64 ((⟨V, U, a.o, K⟩ : Scr)).h) (by omega)) (w.heap.size + 1 + 1) 2 (.int .i64 ((⟨V, U, a.o, K⟩ : Scr)).o) (by omega)) (w.heap.size + 1 + 1) 3 (.int .i64 ((⟨V, U, a.o, K⟩ : Scr)).k) (by omega))
        obtain ⟨W9, eW9⟩ : ∃ W, (((WD.setCell ⟨w.heap.size + 1 + 1, 0, none⟩ (.int .i64 ((⟨V, U, a.o, K⟩ : Scr)).p)).setCell ⟨w.heap.size + 1 + 1, 1, none⟩ (.int .i64 ((⟨V, U, a.o, K⟩ : Scr)).h)).setCell ⟨w.heap.size + 1 + 1, 2, none⟩ (.int .i64 ((⟨V, U, a.o, K⟩ : Scr)).o)).setCell ⟨w.heap.size + 1 + 1, 3, none⟩ (.int .i64 ((⟨V, U, a.o, K⟩ : Scr)).k) = W := ⟨_, rfl⟩
        rw [eW9] at r9 s9 q9 HS9
        obtain ⟨e0, e1, e2, e3, ef⟩ := q9.cells
        obtain ⟨g0, g1, g2, g3, gf⟩ := s9.cells
        clear FD
        go_region
        all_goals
          go_wp2_with fail
          (try simp only [Exit.inBlock, Exit.then])
          refine bodyPost_ret (Cb.res2 (r9.others (k := w.heap.size + 1 + 1 + 1) (by omega) _ _ _ _) (s9.put _ _ _ _) rfl _ _ rfl rfl rfl) rfl ⟨rfl, ?_⟩
          repeat (first | refine setC_frC ?_ _ _ _ (by omega) | with_reducible exact HS9.out)
    · have hm : (if a.k < 5 then a.k else 5) = (j : Int) := by
        split
        · omega
        · omega
      rw [hm] at HBp
      have hj : (j : Int) ≤ 5 := by omega
      have hj0 : 0 ≤ (j : Int) := by omega
      obtain ⟨m, em⟩ : ∃ m, (j : Int) = m := ⟨_, rfl⟩
      rw [em] at HBp hj hj0 z ⊢
      clear hm hjk hj5 em
      go_wp2_with fail
      refine (HBk _).mono ?_
      rintro e w' ⟨he, hw⟩
      rw [he, hw]
      clear he hw w'
      have F3 := HF2.out.setA 3 (.int .i64 K) (HF2.out.1.sk K)
      obtain ⟨W3, eW3⟩ : ∃ W, wr.setCell ⟨w.heap.size, 3, none⟩ (.int .i64 K) = W := ⟨_, rfl⟩
      rw [eW3] at F3
      have HF3 := hid F3
      clear F3
      go_upto_region 15 with fail
      clear eW3 HF2 c0 c1 c2 c3 cf d0 d1 d2 d3 df
      obtain ⟨c0, c1, c2, c3, cf⟩ := HF3.out.1.cells
      obtain ⟨d0, d1, d2, d3, df⟩ := HF3.out.2.1.cells
      go_wp2_with fail
      refine (HBo _).mono ?_
      rintro e w' ⟨he, hw⟩
      rw [he, hw]
      clear he hw w'
      have F4 := HF3.out.setB 2 (.int .i64 O) (HF3.out.2.1.so O)
      obtain ⟨W4, eW4⟩ : ∃ W, W3.setCell ⟨w.heap.size + 1, 2, none⟩ (.int .i64 O) = W := ⟨_, rfl⟩
      rw [eW4] at F4
      have HF4 := hid F4
      clear F4
      go_upto_region 16 with fail
      clear eW4 HF3 c0 c1 c2 c3 cf d0 d1 d2 d3 df
      obtain ⟨c0, c1, c2, c3, cf⟩ := HF4.out.1.cells
      obtain ⟨d0, d1, d2, d3, df⟩ := HF4.out.2.1.cells
      have F5 := HF4.out.setB 3 (.int .i64 0) (HF4.out.2.1.sk 0)
      obtain ⟨W5, eW5⟩ : ∃ W, W4.setCell ⟨w.heap.size + 1, 3, none⟩ (.int .i64 0) = W := ⟨_, rfl⟩
      rw [eW5] at F5
      have HF5 := hid F5
      clear F5
      go_upto_region 17 with fail
      clear eW5 HF4 c0 c1 c2 c3 cf d0 d1 d2 d3 df
      obtain ⟨c0, c1, c2, c3, cf⟩ := HF5.out.1.cells
      obtain ⟨d0, d1, d2, d3, df⟩ := HF5.out.2.1.cells
      go_wp2_with fail
      refine (HBq _).mono ?_
      rintro e w' ⟨he, hw⟩
      rw [he, hw]
      clear he hw w'
      have F6 := HF5.out.setB 0 (.int .i64 P) (HF5.out.2.1.sp P)
      obtain ⟨W6, eW6⟩ : ∃ W, W5.setCell ⟨w.heap.size + 1, 0, none⟩ (.int .i64 P) = W := ⟨_, rfl⟩
      rw [eW6] at F6
      have HF6 := hid F6
      clear F6
      go_upto_region 18 with fail
      clear eW6 HF5 c0 c1 c2 c3 cf d0 d1 d2 d3 df
      obtain ⟨c0, c1, c2, c3, cf⟩ := HF6.out.1.cells
      obtain ⟨d0, d1, d2, d3, df⟩ := HF6.out.2.1.cells
      go_wp2_with fail
      refine (HBh _).mono ?_
      rintro e w' ⟨he, hw⟩
      rw [he, hw]
      clear he hw w'
      have F7 := HF6.out.setA 1 (.int .i64 U) (HF6.out.1.sh U)
      obtain ⟨W7, eW7⟩ : ∃ W, W6.setCell ⟨w.heap.size, 1, none⟩ (.int .i64 U) = W := ⟨_, rfl⟩
      rw [eW7] at F7
      have HF7 := hid F7
      clear F7
      go_upto_region 19 with fail
      clear eW7 HF6 c0 c1 c2 c3 cf d0 d1 d2 d3 df
      obtain ⟨c0, c1, c2, c3, cf⟩ := HF7.out.1.cells
      obtain ⟨d0, d1, d2, d3, df⟩ := HF7.out.2.1.cells
      go_wp2_with fail
      refine (HBp _).mono ?_
      rintro e w' ⟨he, hw⟩
      rw [he, hw]
      clear he hw w'
      have F8 := HF7.out.setA 0 (.int .i64 V) (HF7.out.1.sp V)
      obtain ⟨W8, eW8⟩ : ∃ W, W7.setCell ⟨w.heap.size, 0, none⟩ (.int .i64 V) = W := ⟨_, rfl⟩
      rw [eW8] at F8
      have HF8 := hid F8
      clear F8
      go_upto_region 20 with fail
      clear eW8 HF7 c0 c1 c2 c3 cf d0 d1 d2 d3 df
      obtain ⟨c0, c1, c2, c3, cf⟩ := HF8.out.1.cells
      obtain ⟨d0, d1, d2, d3, df⟩ := HF8.out.2.1.cells
      have FD := HF8.out.on ((Fr.refl _ W8).drew)
      obtain ⟨WD, eWD⟩ : ∃ W, W8.drew = W := ⟨_, rfl⟩
      rw [eWD] at FD
      clear HF8 c0 c1 c2 c3 cf d0 d1 d2 d3 df
      obtain ⟨c0, c1, c2, c3, cf⟩ := FD.1.cells
      obtain ⟨d0, d1, d2, d3, df⟩ := FD.2.1.cells
      obtain ⟨k0, k1, k2, k3, kf⟩ := FD.2.2.1.cells
      have r9 := FD.2.2.1.put ((⟨V, U, a.o, K⟩ : Scr)).p ((⟨V, U, a.o, K⟩ : Scr)).h ((⟨V, U, a.o, K⟩ : Scr)).o ((⟨V, U, a.o, K⟩ : Scr)).k
      have s9 := FD.2.2.2.1.others (k := w.heap.size + 1 + 1) (by omega) ((⟨V, U, a.o, K⟩ : Scr)).p ((⟨V, U, a.o, K⟩ : Scr)).h ((⟨V, U, a.o, K⟩ : Scr)).o ((⟨V, U, a.o, K⟩ : Scr)).k
      have q9 := FD.2.1.others (k := w.heap.size + 1 + 1) (by omega) ((⟨V, U, a.o, K⟩ : Scr)).p ((⟨V, U, a.o, K⟩ : Scr)).h ((⟨V, U, a.o, K⟩ : Scr)).o ((⟨V, U, a.o, K⟩ : Scr)).k
      have HS9 := hid (setC_frC (setC_frC (setC_frC (setC_frC FD.2.2.2.2 (w.heap.size + 1 + 1) 0 (.int .i64 ((⟨V, U, a.o, K⟩ : Scr)).p) (by omega)) (w.heap.size + 1 + 1) 1 (.int .i64 ((⟨V, U, a.o, K⟩ : Scr)).h) (by omega)) (w.heap.size + 1 + 1) 2 (.int .i64 ((⟨V, U, a.o, K⟩ : Scr)).o) (by omega)) (w.heap.size + 1 + 1) 3 (.int .i64 ((⟨V, U, a.o, K⟩ : Scr)).k) (by omega))
      obtain ⟨W9, eW9⟩ : ∃ W, (((WD.setCell ⟨w.heap.size + 1 + 1, 0, none⟩ (.int .i64 ((⟨V, U, a.o, K⟩ : Scr)).p)).setCell ⟨w.heap.size + 1 + 1, 1, none⟩ (.int .i64 ((⟨V, U, a.o, K⟩ : Scr)).h)).setCell ⟨w.heap.size + 1 + 1, 2, none⟩ (.int .i64 ((⟨V, U, a.o, K⟩ : Scr)).o)).setCell ⟨w.heap.size + 1 + 1, 3, none⟩ (.int .i64 ((⟨V, U, a.o, K⟩ : Scr)).k) = W := ⟨_, rfl⟩
      rw [eW9] at r9 s9 q9 HS9
      obtain ⟨e0, e1, e2, e3, ef⟩ := q9.cells
      obtain ⟨g0, g1, g2, g3, gf⟩ := s9.cells
      clear FD
      go_region
      all_goals
        go_wp2_with fail
        (try simp only [Exit.inBlock, Exit.then])
        refine bodyPost_ret (Cb.res2 (r9.others (k := w.heap.size + 1 + 1 + 1) (by omega) _ _ _ _) (s9.put _ _ _ _) rfl _ _ rfl rfl rfl) rfl ⟨rfl, ?_⟩
        repeat (first | refine setC_frC ?_ _ _ _ (by omega) | with_reducible exact HS9.out)
theorem rhit12_any (a b : Scr) (n : Int) (out : Bool) (w : World) : Calls Try.prog 9 #[cv a, cv b, .int .i64 n, .bool out] w fun e w' => e = .returned (.tuple #[cv (hit1 a b n out), cv (hit2 a b n out), .int .i64 (errC a b n)]) ∧ Still w w' := by
  by_cases hm : MayC a ∧ MayC b
  · by_cases hn : 1 ≤ n ∧ n ≤ 3
    · have e0 := errC_yes hm.1 hm.2 hn
      have e1 : hit1 a b n out = hitA a n out := by unfold hit1; rw [if_pos e0]
      have e2 : hit2 a b n out = hitW b out := by unfold hit2; rw [if_pos e0]
      rw [e0, e1, e2]
      cases out with
      | false => exact rhit_no a b n hm.1 hm.2 (by omega) (by simp; omega) _ _ rfl rfl w
      | true => exact rhit_out a b n hm.1 hm.2 (by omega) (by simp; omega) _ _ _ _ _ rfl rfl rfl rfl rfl w
    · have e0 := errC_arg hm.1 hm.2 hn
      have e1 : hit1 a b n out = zC := by unfold hit1; rw [e0]; rfl
      have e2 : hit2 a b n out = zC := by unfold hit2; rw [e0]; rfl
      rw [e0, e1, e2]
      exact rhit_arg a b n out hm.1 hm.2 hn w
  · have e0 := errC_may (w := n) hm
    have e1 : hit1 a b n out = zC := by unfold hit1; rw [e0]; rfl
    have e2 : hit2 a b n out = zC := by unfold hit2; rw [e0]; rfl
    rw [e0, e1, e2]
    exact rhit_may a b n out hm w
end Go.Proofs.Ytgkojpgpnkeacaa
