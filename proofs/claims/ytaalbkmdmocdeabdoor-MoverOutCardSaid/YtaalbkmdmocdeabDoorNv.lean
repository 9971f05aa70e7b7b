/- The law on one that is out. -/
import Derived.Test.YtaalbkmdmocdeabDoorNo
import Derived.Test.YtaalbkmdmocdeabDoorNu
import Derived.Deep.DeepCutAuto
namespace Go.Proofs.YtaalbkmdmocdeabDoor
open Go.RowKit
open Pu Gp Ap Vp Np
set_option maxRecDepth 100000

theorem chk_yes {m : Mv} (h : mayB m = true) : chkM m = 0 := by unfold chkM; rw [h]; rfl
theorem chk_nay {m : Mv} (h : mayB m = false) : chkM m = 80 := by unfold chkM; rw [h]; rfl
theorem Mb.one {w : World} {g : Nat} {m : Mv} (h : Mb w g m) : Mb (((w.setCell ⟨g, 11, none⟩ (.int .i64 0)).setCell ⟨g, 9, none⟩ (.bool false)).setCell ⟨g, 7, none⟩ (.int .i64 1)) g (oneM m) := by
  have h1 := heap_setCell_same w g 11 _ _ (.int .i64 0) h
  have h2 := heap_setCell_same _ g 9 _ _ (.bool false) h1
  have h3 := heap_setCell_same _ g 7 _ _ (.int .i64 1) h2
  exact h3.trans (by kernel_rfl)
set_option maxHeartbeats 8000000 in
theorem out_law (m : Mv) (v a b c C R : Int) (s : ByteArray) (x y : Int) (hz : s.size ≤ 281474976710656) (hC : C ≤ 9223372036854775807) (w : World) (C8 : Cts8 w) :
    Calls Tryd.prog 3 #[mv m, od v a b c, ar C R s, pt x y] w fun e w' => e = .returned (.bool true) ∧ Still w w' := by
  have G1 := guard_mv
  have G2 := guard_pt
  have A0 := Still.alloc w (.cells (mcs m) 25)
  have A1 := Still.alloc (newM w m) (.cells #[.int .i64 v, .int .i64 a, .int .i64 b, .int .i64 c] 27)
  have A2 := Still.alloc (newO (newM w m) v a b c) (.cells #[.int .i64 C, .int .i64 R, .string s] 29)
  have A3 := Still.alloc (newA (newO (newM w m) v a b c) C R s) (.cells #[.int .i64 x, .int .i64 y] 23)
  have m0 := (((newM_mb w m).still A1).still A2).still A3
  have o0 := ((newO_orb (newM w m) v a b c).still A2).still A3
  have a0 := (newA_ab (newO (newM w m) v a b c) C R s).still A3
  have p0 := newP_pb (newA (newO (newM w m) v a b c) C R s) x y
  simp only [size_alloc] at o0 a0 p0
  have HS0 := hid (((A0.trans A1).trans A2).trans A3)
  clear A0 A1 A2 A3
  go_enter Tryd.func3, Tryd.ntmps3
  go_wp2_with fail
  refine (awake8_any _ (C8.still HS0.out)).mono ?_
  rintro e w1 ⟨rfl, h1⟩
  have m1 := m0.still h1
  have o1 := o0.still h1
  have a1 := Ab.still a0 h1
  have p1 := p0.still h1
  have HS1 := hid (HS0.out.trans h1)
  clear h1 HS0 m0 o0 a0 p0
  obtain ⟨c0, c1, c2, c3, c4, c5, c6, c7, c8, c9, c10, c11, c12, cf⟩ := m1.cells
  have m2 := m1.one
  have HF := hid ((((Fr.refl (fun b => b = w.heap.size) w1).setCell ⟨w.heap.size, 11, none⟩ (.int .i64 0) (.inl rfl)).setCell ⟨w.heap.size, 9, none⟩ (.bool false) (.inl rfl)).setCell ⟨w.heap.size, 7, none⟩ (.int .i64 1) (.inl rfl))
  have o2 : Orb _ (w.heap.size + 1) v a b c := HF.out.kept o1 (by omega)
  have a2 : Ab _ (w.heap.size + 1 + 1) C R s := HF.out.kept a1 (by omega)
  have p2 : Pb _ (w.heap.size + 1 + 1 + 1) x y := HF.out.kept p1 (by omega)
  have HS2 : Hid (Still w _) := hid (Fr.trans HS1.out HF.out (fun j h1 h2 => by omega))
  go_upto_region 5 with fail
  obtain ⟨W2, e2⟩ : ∃ W2, ((w1.setCell ⟨w.heap.size, 11, none⟩ (.int .i64 0)).setCell ⟨w.heap.size, 9, none⟩ (.bool false)).setCell ⟨w.heap.size, 7, none⟩ (.int .i64 1) = W2 := ⟨_, rfl⟩
  rw [e2] at m2 o2 a2 p2 HS2 ⊢
  clear e2 HF HS1 m1 o1 a1 p1 c0 c1 c2 c3 c4 c5 c6 c7 c8 c9 c10 c11 c12 cf
  obtain ⟨c0, c1, c2, c3, c4, c5, c6, c7, c8, c9, c10, c11, c12, cf⟩ := m2.cells
  have HC := hid (C8.chk (oneM m) W2 HS2.out)
  cases hm : mayB (oneM m) with
  | false =>
    rw [chk_nay hm] at HC
    go_wp2_with fail
    refine HC.out.mono ?_
    rintro e w3 ⟨rfl, h3⟩
    have HS3 := hid (HS2.out.trans h3)
    clear h3 HS2
    go_wp2_with fail
    go_ret
    exact ⟨rfl, HS3.out⟩
  | true =>
    rw [chk_yes hm] at HC
    go_wp2_with fail
    refine HC.out.mono ?_
    rintro e w3 ⟨rfl, h3⟩
    have m3 := m2.still h3
    have o3 := o2.still h3
    have a3 := Ab.still a2 h3
    have p3 := p2.still h3
    have HS3 := hid (Still.trans HS2.out h3)
    have HM := hid hm
    clear h3 HS2 HC m2 o2 a2 p2 hm c0 c1 c2 c3 c4 c5 c6 c7 c8 c9 c10 c11 c12 cf
    obtain ⟨c0, c1, c2, c3, c4, c5, c6, c7, c8, c9, c10, c11, c12, cf⟩ := m3.cells
    have HH := hid (C8.hur (oneM m) 1 w3 HS3.out)
    rw [(one_hurt HM.out).1, (one_hurt HM.out).2.1, (one_hurt HM.out).2.2] at HH
    have hou : Hid ((offM m 30).ou = 30) := hid rfl
    have hax : Hid ((offM m 30).ax = (oneM m).ax ∧ (offM m 30).ay = (oneM m).ay) := hid ⟨rfl, rfl⟩
    have HNX : Hid (offM m 30 = nextM m x y 30) := hid rfl
    obtain ⟨X, eX⟩ : ∃ X, offM m 30 = X := ⟨_, rfl⟩
    rw [eX] at HH hou hax HNX
    clear eX
    go_wp2_with fail
    refine HH.out.mono ?_
    rintro e w4 ⟨rfl, h4⟩
    have A4 := Still.alloc w4 (.cells (mcs X) 25)
    have m4 := (m3.still h4).still A4
    have o4 := (o3.still h4).still A4
    have a4 := Ab.still (Ab.still a3 h4) A4
    have p4 := (p3.still h4).still A4
    have x4 : Mb (w4.alloc (.cells (mcs X) 25)) w4.heap.size X := newM_mb w4 X
    have HS4 := hid ((Still.trans HS3.out h4).trans A4)
    have HB := hid (block_lt (p3.still h4))
    clear h4 A4 HS3 HH m3 o3 a3 p3 c0 c1 c2 c3 c4 c5 c6 c7 c8 c9 c10 c11 c12 cf
    obtain ⟨W, eW⟩ : ∃ W, w4.alloc (.cells (mcs X) 25) = W := ⟨_, rfl⟩
    obtain ⟨g, eg⟩ : ∃ g, w4.heap.size = g := ⟨_, rfl⟩
    rw [eW] at m4 o4 a4 p4 x4 HS4
    rw [eg] at x4 HB
    go_upto_region 8 with fail
    clear eW eg
    have HG0 : Hid (w.heap.size + 1 + 1 + 1 < g) := HB
    have HG1 : Hid (w.heap.size ≤ g) := hid (by have := HB.out; omega)
    obtain ⟨c0, c1, c2, c3, c4, c5, c6, c7, c8, c9, c10, c11, c12, cf⟩ := m4.cells
    obtain ⟨d0, d1, d2, d3, d4, d5, d6, d7, d8, d9, d10, d11, d12, df⟩ := x4.cells
    rw [hou.out] at d11
    have E2 := neq_pt_f hax.out
    go_wp2_with fail
    rw [HNX.out] at x4
    clear c0 c1 c2 c3 c4 c5 c6 c7 c8 c9 c10 c11 c12 cf d0 d1 d2 d3 d4 d5 d6 d7 d8 d9 d10 d11 d12 df E2 hou hax HNX
    go_loopw [13] (fun i wr => ∃ k : Nat, k ≤ 30 ∧ i = .int .i64 (k : Int) ∧ Mb wr g (nextM m x y (k : Int)) ∧ Fr (fun b => b = g) W wr) (fun i _ => (intOf i).toNat)
    case atStart => exact ⟨30, by omega, rfl, x4, Fr.refl _ _⟩
    case round =>
      obtain ⟨k, hk, rfl, x5, hf⟩ := hrel
      have hg := HG0.out
      have hg1 := HG1.out
      have m5 : Mb wr w.heap.size (oneM m) := hf.kept m4 (by omega)
      have o5 : Orb wr (w.heap.size + 1) v a b c := hf.kept o4 (by omega)
      have a5 : Ab wr (w.heap.size + 1 + 1) C R s := hf.kept a4 (by omega)
      have p5 : Pb wr (w.heap.size + 1 + 1 + 1) x y := hf.kept p4 (by omega)
      have HS5 : Hid (Still w wr) := hid (Fr.trans HS4.out hf (fun j h1 h2 => by omega))
      have HF5 := hid hf
      clear hf
      by_cases hk0 : 0 < k
      · have hki : (0 : Int) < (k : Int) := by omega
        have hN : nextM m x y (k : Int) = offM m (k : Int) := by unfold nextM; rw [if_neg (by omega)]
        rw [hN] at x5
        have hmk := off_may HM.out (k := (k : Int)) (by omega) (by omega)
        have f1 := off_act hmk (by omega) v a b c
        have f2 := off_gli hmk (by omega) (solB C R s)
        have f3 := off_hur hmk (by omega)
        have f4 := off_res hmk (by omega) x y
        have hou : (offM m (k : Int)).ou = (k : Int) := rfl
        obtain ⟨N, eN⟩ : ∃ N, offM m (k : Int) = N := ⟨_, rfl⟩
        rw [eN] at x5 f1 f2 f3 f4 hou
        clear hN hmk eN
        have HA := hid (fun u (hu : Still w u) => C8.act N v a b c u hu)
        have HG := hid (fun u (hu : Still w u) => C8.gli N C R s u hz hC hu)
        have HU := hid (fun u (hu : Still w u) => C8.hur N 100 u hu)
        have HR := hid (fun u (hu : Still w u) => C8.res N x y u hu)
        rw [f1.1, f1.2.1] at HA
        rw [f2.1, f2.2] at HG
        rw [f3.1, f3.2.1, f3.2.2] at HU
        rw [f4.1, f4.2.1, f4.2.2] at HR
        have HE := hid f1.2.2
        obtain ⟨na, ena⟩ : ∃ na, actM N v a b c = na := ⟨_, rfl⟩
        obtain ⟨Y, eY⟩ : ∃ Y, nextM m x y ((k : Int) - 1) = Y := ⟨_, rfl⟩
        obtain ⟨E, eE⟩ : ∃ E, chkO v a b c = E := ⟨_, rfl⟩
        rw [ena, eE] at HA HE
        rw [eY] at HR
        have HY := hid eY
        clear f1 f2 f3 f4 ena eY eE
        have NE := neq_mv_f N
        obtain ⟨c0, c1, c2, c3, c4, c5, c6, c7, c8, c9, c10, c11, c12, cf⟩ := x5.cells
        obtain ⟨d0, d1, d2, d3, df⟩ := o5.cells
        have hou2 : (N.ou != (k : Int)) = false := by rw [hou]; simp
        clear hou
        go_wp2_with fail
        refine (HA.out _ HS5.out).mono ?_
        rintro e w6 ⟨rfl, h6⟩
        have A6 := Still.alloc w6 (.cells (mcs na) 25)
        have x6 := (x5.still h6).still A6
        have a6 := Ab.still (Ab.still a5 h6) A6
        have p6 := (p5.still h6).still A6
        have n6 : Mb (w6.alloc (.cells (mcs na) 25)) w6.heap.size na := newM_mb w6 na
        have HS6 := hid ((Still.trans HS5.out h6).trans A6)
        have HF6 := hid (Fr.trans HF5.out (h6.trans A6) (fun _ _ e => e.elim))
        have hn6 : g ≠ w6.heap.size := by have := (x5.still h6).lt; omega
        have hw6 : w.heap.size ≤ w6.heap.size := (Still.trans HS5.out h6).size
        have hpg0 : w.heap.size + 1 + 1 + 1 ≠ w6.heap.size := by have := block_lt (p5.still h6); omega
        have hWg : W.heap.size ≤ w6.heap.size := Nat.le_trans HF5.out.size h6.size
        clear h6 A6 HS5 HF5 x5 o5 a5 p5 d0 d1 d2 d3 df c0 c1 c2 c3 c4 c5 c6 c7 c8 c9 c10 c11 c12 cf
        obtain ⟨gn, egn⟩ : ∃ gn, w6.heap.size = gn := ⟨_, rfl⟩
        rw [egn] at n6 hn6 hw6 hpg0 hWg
        obtain ⟨W6, eW6⟩ : ∃ W6, w6.alloc (.cells (mcs na) 25) = W6 := ⟨_, rfl⟩
        rw [eW6] at x6 a6 p6 n6 HS6 HF6
        go_upto_region 16 with fail
        clear eW6 egn
        have hpg : w.heap.size + 1 + 1 + 1 ≠ gn := hpg0
        have hW6 : W.heap.size ≤ gn := hWg
        by_cases hE : E = 0
        · have hE1 : (E == 0) = true := by rw [hE]; rfl
          obtain rfl : N = na := (HE.out hE).symm
          clear hE HE
          obtain ⟨c0, c1, c2, c3, c4, c5, c6, c7, c8, c9, c10, c11, c12, cf⟩ := x6.cells
          obtain ⟨k0, k1, k2, k3, k4, k5, k6, k7, k8, k9, k10, k11, k12, kf⟩ := n6.cells
          obtain ⟨d0, d1, d2, df⟩ := a6.cells
          go_wp2_with fail
          refine (HG.out _ HS6.out).mono ?_
          rintro e w7 ⟨rfl, h7⟩
          have x7 := (x6.still h7).apart N hn6
          have n7 := (n6.still h7).set N
          have hfc : Fr (fun b => b = gn) w7 (setM w7 gn N) := setM_fr (Fr.refl _ _) gn N (.inl rfl)
          have p7 : Pb (setM w7 gn N) (w.heap.size + 1 + 1 + 1) x y := hfc.kept (p6.still h7) hpg
          have HS7 := hid (setM_fr (Still.trans HS6.out h7) gn N (.inr hw6))
          have HF7 := hid (setM_fr (Fr.trans HF6.out h7 (fun _ _ e => e.elim)) gn N (.inr hW6))
          have n7' := n6.still h7
          clear c0 c1 c2 c3 c4 c5 c6 c7 c8 c9 c10 c11 c12 cf k0 k1 k2 k3 k4 k5 k6 k7 k8 k9 k10 k11 k12 kf d0 d1 d2 df
          obtain ⟨k0, k1, k2, k3, k4, k5, k6, k7, k8, k9, k10, k11, k12, kf⟩ := n7'.cells
          obtain ⟨W7, eW7⟩ : ∃ W7, (((((((((((((w7.setCell ⟨gn, 0, none⟩ (.int .i64 N.ax)).setCell ⟨gn, 1, none⟩ (.int .i64 N.ay)).setCell ⟨gn, 2, none⟩ (.int .i64 N.sx)).setCell ⟨gn, 3, none⟩ (.int .i64 N.sy)).setCell ⟨gn, 4, none⟩ (.int .i64 N.px)).setCell ⟨gn, 5, none⟩ (.int .i64 N.py)).setCell ⟨gn, 6, none⟩ (.int .i64 N.fc)).setCell ⟨gn, 7, none⟩ (.int .i64 N.hl)).setCell ⟨gn, 8, none⟩ (.int .i64 N.en)).setCell ⟨gn, 9, none⟩ (.bool N.sh)).setCell ⟨gn, 10, none⟩ (.int .i64 N.co)).setCell ⟨gn, 11, none⟩ (.int .i64 N.ou)).setCell ⟨gn, 12, none⟩ (.int .i64 N.sd)) = W7 := ⟨_, rfl⟩
          rw [show setM w7 gn N = W7 from eW7] at x7 n7 p7 HS7 HF7
          go_upto_region 19 with fail
          clear eW7 hfc h7 x6 n6 a6 p6 HS6 HF6 n7' k0 k1 k2 k3 k4 k5 k6 k7 k8 k9 k10 k11 k12 kf
          obtain ⟨c0, c1, c2, c3, c4, c5, c6, c7, c8, c9, c10, c11, c12, cf⟩ := x7.cells
          obtain ⟨k0, k1, k2, k3, k4, k5, k6, k7, k8, k9, k10, k11, k12, kf⟩ := n7.cells
          go_wp2_with fail
          refine (HU.out _ HS7.out).mono ?_
          rintro e w8 ⟨rfl, h8⟩
          have x8 := (x7.still h8).apart N hn6
          have n8 := (n7.still h8).set N
          have hfc : Fr (fun b => b = gn) w8 (setM w8 gn N) := setM_fr (Fr.refl _ _) gn N (.inl rfl)
          have p8 : Pb (setM w8 gn N) (w.heap.size + 1 + 1 + 1) x y := hfc.kept (p7.still h8) hpg
          have HS8 := hid (setM_fr (Still.trans HS7.out h8) gn N (.inr hw6))
          have HF8 := hid (setM_fr (Fr.trans HF7.out h8 (fun _ _ e => e.elim)) gn N (.inr hW6))
          have n8' := n7.still h8
          clear c0 c1 c2 c3 c4 c5 c6 c7 c8 c9 c10 c11 c12 cf k0 k1 k2 k3 k4 k5 k6 k7 k8 k9 k10 k11 k12 kf
          obtain ⟨k0, k1, k2, k3, k4, k5, k6, k7, k8, k9, k10, k11, k12, kf⟩ := n8'.cells
          obtain ⟨W8, eW8⟩ : ∃ W8, (((((((((((((w8.setCell ⟨gn, 0, none⟩ (.int .i64 N.ax)).setCell ⟨gn, 1, none⟩ (.int .i64 N.ay)).setCell ⟨gn, 2, none⟩ (.int .i64 N.sx)).setCell ⟨gn, 3, none⟩ (.int .i64 N.sy)).setCell ⟨gn, 4, none⟩ (.int .i64 N.px)).setCell ⟨gn, 5, none⟩ (.int .i64 N.py)).setCell ⟨gn, 6, none⟩ (.int .i64 N.fc)).setCell ⟨gn, 7, none⟩ (.int .i64 N.hl)).setCell ⟨gn, 8, none⟩ (.int .i64 N.en)).setCell ⟨gn, 9, none⟩ (.bool N.sh)).setCell ⟨gn, 10, none⟩ (.int .i64 N.co)).setCell ⟨gn, 11, none⟩ (.int .i64 N.ou)).setCell ⟨gn, 12, none⟩ (.int .i64 N.sd)) = W8 := ⟨_, rfl⟩
          rw [show setM w8 gn N = W8 from eW8] at x8 n8 p8 HS8 HF8
          go_upto_region 22 with fail
          clear eW8 hfc h8 x7 n7 p7 HS7 HF7 n8' k0 k1 k2 k3 k4 k5 k6 k7 k8 k9 k10 k11 k12 kf
          obtain ⟨c0, c1, c2, c3, c4, c5, c6, c7, c8, c9, c10, c11, c12, cf⟩ := x8.cells
          obtain ⟨k0, k1, k2, k3, k4, k5, k6, k7, k8, k9, k10, k11, k12, kf⟩ := n8.cells
          obtain ⟨d0, d1, df⟩ := p8.cells
          go_wp2_with fail
          refine (HR.out _ HS8.out).mono ?_
          rintro e w9 ⟨rfl, h9⟩
          have A9 := Still.alloc w9 (.cells (mcs Y) 25)
          have x9 := (x8.still h9).still A9
          have y9 : Mb (w9.alloc (.cells (mcs Y) 25)) w9.heap.size Y := newM_mb w9 Y
          have HS9 := hid ((Still.trans HS8.out h9).trans A9)
          have HF9 := hid (Fr.trans HF8.out (h9.trans A9) (fun _ _ e => e.elim))
          clear h9 A9 x8 n8 p8 HS8 HF8 d0 d1 df c0 c1 c2 c3 c4 c5 c6 c7 c8 c9 c10 c11 c12 cf k0 k1 k2 k3 k4 k5 k6 k7 k8 k9 k10 k11 k12 kf
          obtain ⟨gy, egy⟩ : ∃ gy, w9.heap.size = gy := ⟨_, rfl⟩
          rw [egy] at y9
          obtain ⟨W9, eW9⟩ : ∃ W9, w9.alloc (.cells (mcs Y) 25) = W9 := ⟨_, rfl⟩
          rw [eW9] at x9 y9 HS9 HF9
          go_upto_region 25 with fail
          clear eW9 egy
          obtain ⟨c0, c1, c2, c3, c4, c5, c6, c7, c8, c9, c10, c11, c12, cf⟩ := x9.cells
          obtain ⟨k0, k1, k2, k3, k4, k5, k6, k7, k8, k9, k10, k11, k12, kf⟩ := y9.cells
          have xN := x9.set Y
          have HFN := hid (setM_fr HF9.out g Y (.inl rfl))
          have hY2 : nextM m x y ((k - 1 : Nat) : Int) = Y := by rw [show ((k - 1 : Nat) : Int) = (k : Int) - 1 by omega]; exact HY.out
          by_cases hk1 : k = 1
          · subst hk1
            go_wp2_with fail
            exact ⟨⟨0, by omega, by simp, by rw [hY2]; exact xN, HFN.out⟩, by simp [intOf]⟩
          · have hk1' : ((k : Int) == 1) = false := by simp; omega
            go_wp2_with fail
            refine ⟨⟨k - 1, by omega, by simp; omega, by rw [hY2]; exact xN, HFN.out⟩, by simp [intOf]; omega⟩
        · have hE1 : (E == 0) = false := by simpa using hE
          clear hE HE
          obtain ⟨c0, c1, c2, c3, c4, c5, c6, c7, c8, c9, c10, c11, c12, cf⟩ := x6.cells
          obtain ⟨k0, k1, k2, k3, k4, k5, k6, k7, k8, k9, k10, k11, k12, kf⟩ := n6.cells
          obtain ⟨d0, d1, d2, df⟩ := a6.cells
          go_wp2_with fail
          refine (HG.out _ HS6.out).mono ?_
          rintro e w7 ⟨rfl, h7⟩
          have x7 := (x6.still h7).apart N hn6
          have n7 := (n6.still h7).set N
          have hfc : Fr (fun b => b = gn) w7 (setM w7 gn N) := setM_fr (Fr.refl _ _) gn N (.inl rfl)
          have p7 : Pb (setM w7 gn N) (w.heap.size + 1 + 1 + 1) x y := hfc.kept (p6.still h7) hpg
          have HS7 := hid (setM_fr (Still.trans HS6.out h7) gn N (.inr hw6))
          have HF7 := hid (setM_fr (Fr.trans HF6.out h7 (fun _ _ e => e.elim)) gn N (.inr hW6))
          have n7' := n6.still h7
          clear c0 c1 c2 c3 c4 c5 c6 c7 c8 c9 c10 c11 c12 cf k0 k1 k2 k3 k4 k5 k6 k7 k8 k9 k10 k11 k12 kf d0 d1 d2 df
          obtain ⟨k0, k1, k2, k3, k4, k5, k6, k7, k8, k9, k10, k11, k12, kf⟩ := n7'.cells
          obtain ⟨W7, eW7⟩ : ∃ W7, (((((((((((((w7.setCell ⟨gn, 0, none⟩ (.int .i64 N.ax)).setCell ⟨gn, 1, none⟩ (.int .i64 N.ay)).setCell ⟨gn, 2, none⟩ (.int .i64 N.sx)).setCell ⟨gn, 3, none⟩ (.int .i64 N.sy)).setCell ⟨gn, 4, none⟩ (.int .i64 N.px)).setCell ⟨gn, 5, none⟩ (.int .i64 N.py)).setCell ⟨gn, 6, none⟩ (.int .i64 N.fc)).setCell ⟨gn, 7, none⟩ (.int .i64 N.hl)).setCell ⟨gn, 8, none⟩ (.int .i64 N.en)).setCell ⟨gn, 9, none⟩ (.bool N.sh)).setCell ⟨gn, 10, none⟩ (.int .i64 N.co)).setCell ⟨gn, 11, none⟩ (.int .i64 N.ou)).setCell ⟨gn, 12, none⟩ (.int .i64 N.sd)) = W7 := ⟨_, rfl⟩
          rw [show setM w7 gn N = W7 from eW7] at x7 n7 p7 HS7 HF7
          go_upto_region 19 with fail
          clear eW7 hfc h7 x6 n6 a6 p6 HS6 HF6 n7' k0 k1 k2 k3 k4 k5 k6 k7 k8 k9 k10 k11 k12 kf
          obtain ⟨c0, c1, c2, c3, c4, c5, c6, c7, c8, c9, c10, c11, c12, cf⟩ := x7.cells
          obtain ⟨k0, k1, k2, k3, k4, k5, k6, k7, k8, k9, k10, k11, k12, kf⟩ := n7.cells
          go_wp2_with fail
          refine (HU.out _ HS7.out).mono ?_
          rintro e w8 ⟨rfl, h8⟩
          have x8 := (x7.still h8).apart N hn6
          have n8 := (n7.still h8).set N
          have hfc : Fr (fun b => b = gn) w8 (setM w8 gn N) := setM_fr (Fr.refl _ _) gn N (.inl rfl)
          have p8 : Pb (setM w8 gn N) (w.heap.size + 1 + 1 + 1) x y := hfc.kept (p7.still h8) hpg
          have HS8 := hid (setM_fr (Still.trans HS7.out h8) gn N (.inr hw6))
          have HF8 := hid (setM_fr (Fr.trans HF7.out h8 (fun _ _ e => e.elim)) gn N (.inr hW6))
          have n8' := n7.still h8
          clear c0 c1 c2 c3 c4 c5 c6 c7 c8 c9 c10 c11 c12 cf k0 k1 k2 k3 k4 k5 k6 k7 k8 k9 k10 k11 k12 kf
          obtain ⟨k0, k1, k2, k3, k4, k5, k6, k7, k8, k9, k10, k11, k12, kf⟩ := n8'.cells
          obtain ⟨W8, eW8⟩ : ∃ W8, (((((((((((((w8.setCell ⟨gn, 0, none⟩ (.int .i64 N.ax)).setCell ⟨gn, 1, none⟩ (.int .i64 N.ay)).setCell ⟨gn, 2, none⟩ (.int .i64 N.sx)).setCell ⟨gn, 3, none⟩ (.int .i64 N.sy)).setCell ⟨gn, 4, none⟩ (.int .i64 N.px)).setCell ⟨gn, 5, none⟩ (.int .i64 N.py)).setCell ⟨gn, 6, none⟩ (.int .i64 N.fc)).setCell ⟨gn, 7, none⟩ (.int .i64 N.hl)).setCell ⟨gn, 8, none⟩ (.int .i64 N.en)).setCell ⟨gn, 9, none⟩ (.bool N.sh)).setCell ⟨gn, 10, none⟩ (.int .i64 N.co)).setCell ⟨gn, 11, none⟩ (.int .i64 N.ou)).setCell ⟨gn, 12, none⟩ (.int .i64 N.sd)) = W8 := ⟨_, rfl⟩
          rw [show setM w8 gn N = W8 from eW8] at x8 n8 p8 HS8 HF8
          go_upto_region 22 with fail
          clear eW8 hfc h8 x7 n7 p7 HS7 HF7 n8' k0 k1 k2 k3 k4 k5 k6 k7 k8 k9 k10 k11 k12 kf
          obtain ⟨c0, c1, c2, c3, c4, c5, c6, c7, c8, c9, c10, c11, c12, cf⟩ := x8.cells
          obtain ⟨k0, k1, k2, k3, k4, k5, k6, k7, k8, k9, k10, k11, k12, kf⟩ := n8.cells
          obtain ⟨d0, d1, df⟩ := p8.cells
          go_wp2_with fail
          refine (HR.out _ HS8.out).mono ?_
          rintro e w9 ⟨rfl, h9⟩
          have A9 := Still.alloc w9 (.cells (mcs Y) 25)
          have x9 := (x8.still h9).still A9
          have y9 : Mb (w9.alloc (.cells (mcs Y) 25)) w9.heap.size Y := newM_mb w9 Y
          have HS9 := hid ((Still.trans HS8.out h9).trans A9)
          have HF9 := hid (Fr.trans HF8.out (h9.trans A9) (fun _ _ e => e.elim))
          clear h9 A9 x8 n8 p8 HS8 HF8 d0 d1 df c0 c1 c2 c3 c4 c5 c6 c7 c8 c9 c10 c11 c12 cf k0 k1 k2 k3 k4 k5 k6 k7 k8 k9 k10 k11 k12 kf
          obtain ⟨gy, egy⟩ : ∃ gy, w9.heap.size = gy := ⟨_, rfl⟩
          rw [egy] at y9
          obtain ⟨W9, eW9⟩ : ∃ W9, w9.alloc (.cells (mcs Y) 25) = W9 := ⟨_, rfl⟩
          rw [eW9] at x9 y9 HS9 HF9
          go_upto_region 25 with fail
          clear eW9 egy
          obtain ⟨c0, c1, c2, c3, c4, c5, c6, c7, c8, c9, c10, c11, c12, cf⟩ := x9.cells
          obtain ⟨k0, k1, k2, k3, k4, k5, k6, k7, k8, k9, k10, k11, k12, kf⟩ := y9.cells
          have xN := x9.set Y
          have HFN := hid (setM_fr HF9.out g Y (.inl rfl))
          have hY2 : nextM m x y ((k - 1 : Nat) : Int) = Y := by rw [show ((k - 1 : Nat) : Int) = (k : Int) - 1 by omega]; exact HY.out
          by_cases hk1 : k = 1
          · subst hk1
            go_wp2_with fail
            exact ⟨⟨0, by omega, by simp, by rw [hY2]; exact xN, HFN.out⟩, by simp [intOf]⟩
          · have hk1' : ((k : Int) == 1) = false := by simp; omega
            go_wp2_with fail
            refine ⟨⟨k - 1, by omega, by simp; omega, by rw [hY2]; exact xN, HFN.out⟩, by simp [intOf]; omega⟩
      · obtain rfl : k = 0 := by omega
        have HST := hid (C8.sta x y (oneM m).fc wr HS5.out)
        have hS : Hid (nextM m x y ((0 : Nat) : Int) = { startM x y (oneM m).fc with sd := (oneM m).sd }) := hid rfl
        rw [hS.out] at x5
        obtain ⟨d0, d1, df⟩ := p5.cells
        obtain ⟨c0, c1, c2, c3, c4, c5, c6, c7, c8, c9, c10, c11, c12, cf⟩ := m5.cells
        obtain ⟨Z, eZ⟩ : ∃ Z, startM x y (oneM m).fc = Z := ⟨_, rfl⟩
        rw [eZ] at x5 HST
        clear eZ hS
        go_wp2_with fail
        refine HST.out.mono ?_
        rintro e w6 ⟨rfl, h6⟩
        have x6 := x5.still h6
        have m6 := m5.still h6
        have HS6 := hid (Still.trans HS5.out h6)
        clear h6 HS5 x5 m5 d0 d1 df c0 c1 c2 c3 c4 c5 c6 c7 c8 c9 c10 c11 c12 cf
        obtain ⟨c0, c1, c2, c3, c4, c5, c6, c7, c8, c9, c10, c11, c12, cf⟩ := x6.cells
        obtain ⟨k0, k1, k2, k3, k4, k5, k6, k7, k8, k9, k10, k11, k12, kf⟩ := m6.cells
        have hl6 := x6.lt
        have hm6 := m6.lt
        have E9 := eql_mv_t { Z with sd := (oneM m).sd }
        go_wp2_with fail
        go_ret
        exact ⟨rfl, Still.trans HS6.out (Still.alloc _ _)⟩
end Go.Proofs.YtaalbkmdmocdeabDoor
