/- Boxes: which may be, around a point, what two have in common. -/
import Derived.Test.YtaalbkmdmocdeaaDoorPn
import Derived.Test.YtaalbkmdmocdeaaDoorEq
namespace Go.Proofs.YtaalbkmdmocdeaaDoor
open Go.RowKit
open Pu Gp

/-- a box may be -/
def okb (a b c d : Int) : Bool := decide (-2147483647 ≤ a ∧ a ≤ 2147483647 ∧ -2147483647 ≤ b ∧ b ≤ 2147483647 ∧ -2147483647 ≤ c ∧ c ≤ 2147483647 ∧ -2147483647 ≤ d ∧ d ≤ 2147483647 ∧ a ≤ c ∧ b ≤ d)
theorem okb_t {a b c d : Int} (h : okb a b c d = true) : okB a b c d := by unfold okb at h; simpa only [okB, decide_eq_true_eq] using h
theorem okb_f {a b c d : Int} (h : okb a b c d = false) : ¬ okB a b c d := by unfold okb at h; simpa only [okB, decide_eq_false_iff_not] using h
def chk (a b c d : Int) : Int := if okb a b c d then 0 else 50
theorem ok_same (a b c d : Int) : okB a b c d ↔ (min (bnd a) (bnd c) = a ∧ min (bnd b) (bnd d) = b ∧ max (bnd a) (bnd c) = c ∧ max (bnd b) (bnd d) = d) := by
  have a0 := bnd_lo a; have a1 := bnd_hi a; have b0 := bnd_lo b; have b1 := bnd_hi b
  have c0 := bnd_lo c; have c1 := bnd_hi c; have d0 := bnd_lo d; have d1 := bnd_hi d
  constructor
  · rintro ⟨h0, h1, h2, h3, h4, h5, h6, h7, h8, h9⟩
    rw [bnd_id h0 h1, bnd_id h2 h3, bnd_id h4 h5, bnd_id h6 h7]
    omega
  · rintro ⟨h0, h1, h2, h3⟩
    refine ⟨?_, ?_, ?_, ?_, ?_, ?_, ?_, ?_, ?_, ?_⟩ <;> omega
theorem check_yes (a b c d : Int) (h : okb a b c d = true) (w : World) : Calls Tryd.prog 44 #[bx a b c d] w fun e w' => e = .returned (.int .i64 0) ∧ Still w w' := by
  have E := neq_bx_f ((ok_same a b c d).1 (okb_t h))
  have G := guard_bx
  clear h
  obtain ⟨W, eW⟩ : ∃ W, W = (newB w a b c d) := ⟨_, rfl⟩
  have p0 : Bb W (w.heap.size) a b c d := by rw [eW]; have h := newB_bb w a b c d; exact h
  have c00 := Cl.cell p0.cells.1
  have c01 := Cl.cell p0.cells.2.1
  have c02 := Cl.cell p0.cells.2.2.1
  have c03 := Cl.cell p0.cells.2.2.2.1
  clear p0
  have HF := hid (show Still w W by rw [eW]; exact (Still.alloc w _))
  have HW := hid eW
  have hne := Aft.here W
  clear eW
  go_enter Tryd.func44, Tryd.ntmps44
  go_wp2_with fail
  have e := HW.out
  simp only [newB] at e
  rw [← e]
  clear e HW
  refine region_all (by kernel_rfl) (by kernel_rfl) ?_
  repeat (go_big_quiet_step ((first | (go_at_call 24; exact Calls.cl (gbound_any _ _ _)) | (go_at_call 78; exact Calls.cl (between_any _ _ _ _ _)))))
  refine wpQuiet_nil ?_
  intro w1 hs
  clear hne c00 c01 c02 c03
  go_wp2_with fail
  go_ret
  exact ⟨rfl, HF.out.trans hs⟩
theorem check_no (a b c d : Int) (h : okb a b c d = false) (w : World) : Calls Tryd.prog 44 #[bx a b c d] w fun e w' => e = .returned (.int .i64 50) ∧ Still w w' := by
  have E := neq_bx_t (fun k => okb_f h ((ok_same a b c d).2 k))
  have G := guard_bx
  clear h
  obtain ⟨W, eW⟩ : ∃ W, W = (newB w a b c d) := ⟨_, rfl⟩
  have p0 : Bb W (w.heap.size) a b c d := by rw [eW]; have h := newB_bb w a b c d; exact h
  have c00 := Cl.cell p0.cells.1
  have c01 := Cl.cell p0.cells.2.1
  have c02 := Cl.cell p0.cells.2.2.1
  have c03 := Cl.cell p0.cells.2.2.2.1
  clear p0
  have HF := hid (show Still w W by rw [eW]; exact (Still.alloc w _))
  have HW := hid eW
  have hne := Aft.here W
  clear eW
  go_enter Tryd.func44, Tryd.ntmps44
  go_wp2_with fail
  have e := HW.out
  simp only [newB] at e
  rw [← e]
  clear e HW
  refine region_all (by kernel_rfl) (by kernel_rfl) ?_
  repeat (go_big_quiet_step ((first | (go_at_call 24; exact Calls.cl (gbound_any _ _ _)) | (go_at_call 78; exact Calls.cl (between_any _ _ _ _ _)))))
  refine wpQuiet_nil ?_
  intro w1 hs
  clear hne c00 c01 c02 c03
  go_wp2_with fail
  go_ret
  exact ⟨rfl, HF.out.trans hs⟩
theorem check_any (a b c d : Int) (w : World) : Calls Tryd.prog 44 #[bx a b c d] w fun e w' => e = .returned (.int .i64 (chk a b c d)) ∧ Still w w' := by
  unfold chk
  cases h : okb a b c d with
  | true => exact check_yes a b c d h w
  | false => exact check_no a b c d h w
theorem okb_of {a b c d : Int} (h : okB a b c d) : okb a b c d = true := by unfold okb; simpa only [okB, decide_eq_true_eq] using h
theorem okb_not {a b c d : Int} (h : ¬ okB a b c d) : okb a b c d = false := by unfold okb; simpa only [okB, decide_eq_false_iff_not] using h
theorem bnd_in {x : Int} (h : bnd x = x) : -2147483647 ≤ x ∧ x ≤ 2147483647 := by have a := bnd_lo x; have b := bnd_hi x; omega
theorem rcheck1 (a b c d : Int) (h1 : ¬ (bnd a = a ∧ bnd b = b)) (w : World) : Calls Tryd.prog 109 #[bx a b c d] w fun e w' => e = .returned (.int .i64 50) ∧ Still w w' := by
  have E1 := neq_pt_t h1
  have G := guard_pt
  clear h1
  have r := newB_bb w a b c d
  go_enter Tryd.func109, Tryd.ntmps109
  go_wp2_with fail
  refine (rgbound_any a b _).mono ?_
  rintro e w1 ⟨rfl, hs1⟩
  have r1 := r.still hs1
  have HF1 := hid ((Still.alloc w (.cells #[.int .i64 a, .int .i64 b, .int .i64 c, .int .i64 d] 50)).trans hs1)
  obtain ⟨b0, ew⟩ : ∃ b0, w.heap.size = b0 := ⟨_, rfl⟩
  rw [ew] at r1 ⊢
  clear ew r hs1
  obtain ⟨d0, d1, d2, d3, df⟩ := r1.cells
  obtain ⟨g0, g1, g2, g3, gf⟩ := (r1.still (Still.alloc w1 (.cells #[.int .i64 (bnd a), .int .i64 (bnd b)] 23))).cells
  go_wp2_with fail
  refine (rgbound_any c d _).mono ?_
  rintro e w2 ⟨rfl, hs2⟩
  have r2 := (r1.still (Still.alloc w1 (.cells #[.int .i64 (bnd a), .int .i64 (bnd b)] 23))).still hs2
  have p2 := (newP_pb w1 (bnd a) (bnd b)).still hs2
  have HF2 := hid ((HF1.out.trans (Still.alloc w1 (.cells #[.int .i64 (bnd a), .int .i64 (bnd b)] 23))).trans hs2)
  obtain ⟨b1, ew⟩ : ∃ b1, w1.heap.size = b1 := ⟨_, rfl⟩
  rw [ew] at p2 ⊢
  clear ew d0 d1 d2 d3 df g0 g1 g2 g3 gf r1 HF1
  obtain ⟨d0, d1, d2, d3, df⟩ := r2.cells
  obtain ⟨k0, k1, kf⟩ := p2.cells
  obtain ⟨m0, m1, m2, m3, mf⟩ := (r2.still (Still.alloc w2 (.cells #[.int .i64 (bnd c), .int .i64 (bnd d)] 23))).cells
  obtain ⟨n0, n1, nf⟩ := (p2.still (Still.alloc w2 (.cells #[.int .i64 (bnd c), .int .i64 (bnd d)] 23))).cells
  clear r2 p2 hs2
  go_wp2_with fail
  go_ret
  exact ⟨rfl, HF2.out.trans (Still.alloc _ _)⟩
theorem rcheck2 (a b c d : Int) (h1 : bnd a = a ∧ bnd b = b) (h2 : ¬ (bnd c = c ∧ bnd d = d)) (w : World) : Calls Tryd.prog 109 #[bx a b c d] w fun e w' => e = .returned (.int .i64 50) ∧ Still w w' := by
  have E1 := neq_pt_f h1
  have E2 := neq_pt_t h2
  have G := guard_pt
  clear h1 h2
  have r := newB_bb w a b c d
  go_enter Tryd.func109, Tryd.ntmps109
  go_wp2_with fail
  refine (rgbound_any a b _).mono ?_
  rintro e w1 ⟨rfl, hs1⟩
  have r1 := r.still hs1
  have HF1 := hid ((Still.alloc w (.cells #[.int .i64 a, .int .i64 b, .int .i64 c, .int .i64 d] 50)).trans hs1)
  obtain ⟨b0, ew⟩ : ∃ b0, w.heap.size = b0 := ⟨_, rfl⟩
  rw [ew] at r1 ⊢
  clear ew r hs1
  obtain ⟨d0, d1, d2, d3, df⟩ := r1.cells
  obtain ⟨g0, g1, g2, g3, gf⟩ := (r1.still (Still.alloc w1 (.cells #[.int .i64 (bnd a), .int .i64 (bnd b)] 23))).cells
  go_wp2_with fail
  refine (rgbound_any c d _).mono ?_
  rintro e w2 ⟨rfl, hs2⟩
  have r2 := (r1.still (Still.alloc w1 (.cells #[.int .i64 (bnd a), .int .i64 (bnd b)] 23))).still hs2
  have p2 := (newP_pb w1 (bnd a) (bnd b)).still hs2
  have HF2 := hid ((HF1.out.trans (Still.alloc w1 (.cells #[.int .i64 (bnd a), .int .i64 (bnd b)] 23))).trans hs2)
  obtain ⟨b1, ew⟩ : ∃ b1, w1.heap.size = b1 := ⟨_, rfl⟩
  rw [ew] at p2 ⊢
  clear ew d0 d1 d2 d3 df g0 g1 g2 g3 gf r1 HF1
  obtain ⟨d0, d1, d2, d3, df⟩ := r2.cells
  obtain ⟨k0, k1, kf⟩ := p2.cells
  obtain ⟨m0, m1, m2, m3, mf⟩ := (r2.still (Still.alloc w2 (.cells #[.int .i64 (bnd c), .int .i64 (bnd d)] 23))).cells
  obtain ⟨n0, n1, nf⟩ := (p2.still (Still.alloc w2 (.cells #[.int .i64 (bnd c), .int .i64 (bnd d)] 23))).cells
  clear r2 p2 hs2
  go_wp2_with fail
  go_ret
  exact ⟨rfl, HF2.out.trans (Still.alloc _ _)⟩
theorem rcheck3 (a b c d : Int) (h1 : bnd a = a ∧ bnd b = b) (h2 : bnd c = c ∧ bnd d = d) (h3 : c < a) (w : World) : Calls Tryd.prog 109 #[bx a b c d] w fun e w' => e = .returned (.int .i64 50) ∧ Still w w' := by
  have E1 := neq_pt_f h1
  have E2 := neq_pt_f h2
  have G := guard_pt
  clear h1 h2
  have r := newB_bb w a b c d
  go_enter Tryd.func109, Tryd.ntmps109
  go_wp2_with fail
  refine (rgbound_any a b _).mono ?_
  rintro e w1 ⟨rfl, hs1⟩
  have r1 := r.still hs1
  have HF1 := hid ((Still.alloc w (.cells #[.int .i64 a, .int .i64 b, .int .i64 c, .int .i64 d] 50)).trans hs1)
  obtain ⟨b0, ew⟩ : ∃ b0, w.heap.size = b0 := ⟨_, rfl⟩
  rw [ew] at r1 ⊢
  clear ew r hs1
  obtain ⟨d0, d1, d2, d3, df⟩ := r1.cells
  obtain ⟨g0, g1, g2, g3, gf⟩ := (r1.still (Still.alloc w1 (.cells #[.int .i64 (bnd a), .int .i64 (bnd b)] 23))).cells
  go_wp2_with fail
  refine (rgbound_any c d _).mono ?_
  rintro e w2 ⟨rfl, hs2⟩
  have r2 := (r1.still (Still.alloc w1 (.cells #[.int .i64 (bnd a), .int .i64 (bnd b)] 23))).still hs2
  have p2 := (newP_pb w1 (bnd a) (bnd b)).still hs2
  have HF2 := hid ((HF1.out.trans (Still.alloc w1 (.cells #[.int .i64 (bnd a), .int .i64 (bnd b)] 23))).trans hs2)
  obtain ⟨b1, ew⟩ : ∃ b1, w1.heap.size = b1 := ⟨_, rfl⟩
  rw [ew] at p2 ⊢
  clear ew d0 d1 d2 d3 df g0 g1 g2 g3 gf r1 HF1
  obtain ⟨d0, d1, d2, d3, df⟩ := r2.cells
  obtain ⟨k0, k1, kf⟩ := p2.cells
  obtain ⟨m0, m1, m2, m3, mf⟩ := (r2.still (Still.alloc w2 (.cells #[.int .i64 (bnd c), .int .i64 (bnd d)] 23))).cells
  obtain ⟨n0, n1, nf⟩ := (p2.still (Still.alloc w2 (.cells #[.int .i64 (bnd c), .int .i64 (bnd d)] 23))).cells
  clear r2 p2 hs2
  go_wp2_with fail
  go_ret
  exact ⟨rfl, HF2.out.trans (Still.alloc _ _)⟩
theorem rcheck4 (a b c d : Int) (h1 : bnd a = a ∧ bnd b = b) (h2 : bnd c = c ∧ bnd d = d) (h3 : a ≤ c) (h4 : d < b) (w : World) : Calls Tryd.prog 109 #[bx a b c d] w fun e w' => e = .returned (.int .i64 50) ∧ Still w w' := by
  have E1 := neq_pt_f h1
  have E2 := neq_pt_f h2
  have G := guard_pt
  clear h1 h2
  have r := newB_bb w a b c d
  go_enter Tryd.func109, Tryd.ntmps109
  go_wp2_with fail
  refine (rgbound_any a b _).mono ?_
  rintro e w1 ⟨rfl, hs1⟩
  have r1 := r.still hs1
  have HF1 := hid ((Still.alloc w (.cells #[.int .i64 a, .int .i64 b, .int .i64 c, .int .i64 d] 50)).trans hs1)
  obtain ⟨b0, ew⟩ : ∃ b0, w.heap.size = b0 := ⟨_, rfl⟩
  rw [ew] at r1 ⊢
  clear ew r hs1
  obtain ⟨d0, d1, d2, d3, df⟩ := r1.cells
  obtain ⟨g0, g1, g2, g3, gf⟩ := (r1.still (Still.alloc w1 (.cells #[.int .i64 (bnd a), .int .i64 (bnd b)] 23))).cells
  go_wp2_with fail
  refine (rgbound_any c d _).mono ?_
  rintro e w2 ⟨rfl, hs2⟩
  have r2 := (r1.still (Still.alloc w1 (.cells #[.int .i64 (bnd a), .int .i64 (bnd b)] 23))).still hs2
  have p2 := (newP_pb w1 (bnd a) (bnd b)).still hs2
  have HF2 := hid ((HF1.out.trans (Still.alloc w1 (.cells #[.int .i64 (bnd a), .int .i64 (bnd b)] 23))).trans hs2)
  obtain ⟨b1, ew⟩ : ∃ b1, w1.heap.size = b1 := ⟨_, rfl⟩
  rw [ew] at p2 ⊢
  clear ew d0 d1 d2 d3 df g0 g1 g2 g3 gf r1 HF1
  obtain ⟨d0, d1, d2, d3, df⟩ := r2.cells
  obtain ⟨k0, k1, kf⟩ := p2.cells
  obtain ⟨m0, m1, m2, m3, mf⟩ := (r2.still (Still.alloc w2 (.cells #[.int .i64 (bnd c), .int .i64 (bnd d)] 23))).cells
  obtain ⟨n0, n1, nf⟩ := (p2.still (Still.alloc w2 (.cells #[.int .i64 (bnd c), .int .i64 (bnd d)] 23))).cells
  clear r2 p2 hs2
  go_wp2_with fail
  go_ret
  exact ⟨rfl, HF2.out.trans (Still.alloc _ _)⟩
theorem rcheck5 (a b c d : Int) (h1 : bnd a = a ∧ bnd b = b) (h2 : bnd c = c ∧ bnd d = d) (h3 : a ≤ c) (h4 : b ≤ d) (w : World) : Calls Tryd.prog 109 #[bx a b c d] w fun e w' => e = .returned (.int .i64 0) ∧ Still w w' := by
  have E1 := neq_pt_f h1
  have E2 := neq_pt_f h2
  have G := guard_pt
  clear h1 h2
  have r := newB_bb w a b c d
  go_enter Tryd.func109, Tryd.ntmps109
  go_wp2_with fail
  refine (rgbound_any a b _).mono ?_
  rintro e w1 ⟨rfl, hs1⟩
  have r1 := r.still hs1
  have HF1 := hid ((Still.alloc w (.cells #[.int .i64 a, .int .i64 b, .int .i64 c, .int .i64 d] 50)).trans hs1)
  obtain ⟨b0, ew⟩ : ∃ b0, w.heap.size = b0 := ⟨_, rfl⟩
  rw [ew] at r1 ⊢
  clear ew r hs1
  obtain ⟨d0, d1, d2, d3, df⟩ := r1.cells
  obtain ⟨g0, g1, g2, g3, gf⟩ := (r1.still (Still.alloc w1 (.cells #[.int .i64 (bnd a), .int .i64 (bnd b)] 23))).cells
  go_wp2_with fail
  refine (rgbound_any c d _).mono ?_
  rintro e w2 ⟨rfl, hs2⟩
  have r2 := (r1.still (Still.alloc w1 (.cells #[.int .i64 (bnd a), .int .i64 (bnd b)] 23))).still hs2
  have p2 := (newP_pb w1 (bnd a) (bnd b)).still hs2
  have HF2 := hid ((HF1.out.trans (Still.alloc w1 (.cells #[.int .i64 (bnd a), .int .i64 (bnd b)] 23))).trans hs2)
  obtain ⟨b1, ew⟩ : ∃ b1, w1.heap.size = b1 := ⟨_, rfl⟩
  rw [ew] at p2 ⊢
  clear ew d0 d1 d2 d3 df g0 g1 g2 g3 gf r1 HF1
  obtain ⟨d0, d1, d2, d3, df⟩ := r2.cells
  obtain ⟨k0, k1, kf⟩ := p2.cells
  obtain ⟨m0, m1, m2, m3, mf⟩ := (r2.still (Still.alloc w2 (.cells #[.int .i64 (bnd c), .int .i64 (bnd d)] 23))).cells
  obtain ⟨n0, n1, nf⟩ := (p2.still (Still.alloc w2 (.cells #[.int .i64 (bnd c), .int .i64 (bnd d)] 23))).cells
  clear r2 p2 hs2
  go_wp2_with fail
  go_ret
  exact ⟨rfl, HF2.out.trans (Still.alloc _ _)⟩
theorem rcheck_any (a b c d : Int) (w : World) : Calls Tryd.prog 109 #[bx a b c d] w fun e w' => e = .returned (.int .i64 (chk a b c d)) ∧ Still w w' := by
  unfold chk
  by_cases h1 : bnd a = a ∧ bnd b = b
  · by_cases h2 : bnd c = c ∧ bnd d = d
    · by_cases h3 : c < a
      · rw [okb_not (fun k => by unfold okB at k; omega)]
        exact rcheck3 a b c d h1 h2 h3 w
      · by_cases h4 : d < b
        · rw [okb_not (fun k => by unfold okB at k; omega)]
          exact rcheck4 a b c d h1 h2 (by omega) h4 w
        · rw [okb_of (by have := bnd_in h1.1; have := bnd_in h1.2; have := bnd_in h2.1; have := bnd_in h2.2; unfold okB; omega)]
          exact rcheck5 a b c d h1 h2 (by omega) (by omega) w
    · rw [okb_not (fun k => h2 (by unfold okB at k; exact ⟨bnd_id (by omega) (by omega), bnd_id (by omega) (by omega)⟩))]
      exact rcheck2 a b c d h1 h2 w
  · rw [okb_not (fun k => h1 (by unfold okB at k; exact ⟨bnd_id (by omega) (by omega), bnd_id (by omega) (by omega)⟩))]
    exact rcheck1 a b c d h1 w
end Go.Proofs.YtaalbkmdmocdeaaDoor
