/- The law on what is kept. -/
import Derived.Test.YtaalbkmdmocdeabDoorNo
import Derived.Test.YtaalbkmdmocdeabDoorNw
import Derived.Deep.DeepCutAuto
namespace Go.Proofs.YtaalbkmdmocdeabDoor
open Go.RowKit
open Pu Gp Ap Vp Np
set_option maxRecDepth 100000

theorem chk_yes8 {m : Mv} (h : mayB m = true) : chkM m = 0 := by unfold chkM; rw [h]; rfl
theorem chk_nay8 {m : Mv} (h : mayB m = false) : chkM m = 80 := by unfold chkM; rw [h]; rfl
set_option maxHeartbeats 4000000 in
theorem keeps_law (m : Mv) (v a b c C R : Int) (s : ByteArray) (h : Int) (hz : s.size ≤ 281474976710656) (hC : C ≤ 9223372036854775807) (w : World) (C8 : Cts8 w) :
    Calls Tryd.prog 4 #[mv m, od v a b c, ar C R s, .int .i64 h] w fun e w' => e = .returned (.bool true) ∧ Still w w' := by
  have G1 := guard_mv
  have G2 := guard_pt
  have A0 := Still.alloc w (.cells (mcs m) 25)
  have A1 := Still.alloc (newM w m) (.cells #[.int .i64 v, .int .i64 a, .int .i64 b, .int .i64 c] 27)
  have A2 := Still.alloc (newO (newM w m) v a b c) (.cells #[.int .i64 C, .int .i64 R, .string s] 29)
  have m0 := ((newM_mb w m).still A1).still A2
  have o0 := (newO_orb (newM w m) v a b c).still A2
  have a0 := newA_ab (newO (newM w m) v a b c) C R s
  simp only [size_alloc] at o0 a0
  have HS0 := hid ((A0.trans A1).trans A2)
  clear A0 A1 A2
  go_enter Tryd.func4, Tryd.ntmps4
  go_wp2_with fail
  refine (awake8_any _ (C8.still HS0.out)).mono ?_
  rintro e w1 ⟨rfl, h1⟩
  have m1 := m0.still h1
  have o1 := o0.still h1
  have a1 := Ab.still a0 h1
  have HS1 := hid (HS0.out.trans h1)
  clear h1 HS0 m0 o0 a0
  obtain ⟨c0, c1, c2, c3, c4, c5, c6, c7, c8, c9, c10, c11, c12, cf⟩ := m1.cells
  have HC := hid (C8.chk m w1 HS1.out)
  cases hm : mayB m with
  | false =>
    rw [chk_nay8 hm] at HC
    go_wp2_with fail
    refine HC.out.mono ?_
    rintro e w3 ⟨rfl, h3⟩
    have HS3 := hid (Still.trans HS1.out h3)
    clear h3 HS1
    go_wp2_with fail
    go_ret
    exact ⟨rfl, HS3.out⟩
  | true =>
    rw [chk_yes8 hm] at HC
    have HM := hid hm
    obtain ⟨g1, g2, g3, g4, g5, g6, g7, g8, g9, g10, g11⟩ := mayB_iff.1 hm
    obtain ⟨hl1, hl2⟩ := g5
    obtain ⟨he1, he2⟩ := g6
    have HO8 := hid g8
    clear g1 g2 g3 g4 g7 g8 g9 g10 g11 hm
    go_wp2_with fail
    refine HC.out.mono ?_
    rintro e w3 ⟨rfl, h3⟩
    have m3 := m1.still h3
    have o3 := o1.still h3
    have a3 := Ab.still a1 h3
    have HS3 := hid (Still.trans HS1.out h3)
    clear h3 HS1 HC m1 o1 a1 c0 c1 c2 c3 c4 c5 c6 c7 c8 c9 c10 c11 c12 cf
    obtain ⟨c0, c1, c2, c3, c4, c5, c6, c7, c8, c9, c10, c11, c12, cf⟩ := m3.cells
    obtain ⟨d0, d1, d2, d3, df⟩ := o3.cells
    by_cases h0 : 0 < m.ou
    · go_wp2_with fail
      go_ret
      exact ⟨rfl, HS3.out⟩
    · have h0d : decide (0 < m.ou) = false := by simpa using h0
      have HO0 : Hid (m.ou = 0) := hid (by have := HO8.out; omega)
      clear h0
      have HA := hid (C8.act m v a b c w3 HS3.out)
      have HK := hid (fun (he : errA m v a b c = 0) => keep_act HO0.out he)
      obtain ⟨X, eX⟩ : ∃ X, actM m v a b c = X := ⟨_, rfl⟩
      obtain ⟨D, eD⟩ : ∃ D, actD m v a b c = D := ⟨_, rfl⟩
      obtain ⟨E, eE⟩ : ∃ E, errA m v a b c = E := ⟨_, rfl⟩
      rw [eX, eD, eE] at HA
      rw [eX, eE] at HK
      clear eX eD eE
      go_wp2_with fail
      refine HA.out.mono ?_
      rintro e w4 ⟨rfl, h4⟩
      have A4 := Still.alloc w4 (.cells (mcs X) 25)
      have m4 := (m3.still h4).still A4
      have a4 := Ab.still (Ab.still a3 h4) A4
      have x4 : Mb (w4.alloc (.cells (mcs X) 25)) w4.heap.size X := newM_mb w4 X
      have HS4 := hid ((Still.trans HS3.out h4).trans A4)
      clear h4 A4 HA HS3 m3 o3 a3 d0 d1 d2 d3 df c0 c1 c2 c3 c4 c5 c6 c7 c8 c9 c10 c11 c12 cf
      obtain ⟨c0, c1, c2, c3, c4, c5, c6, c7, c8, c9, c10, c11, c12, cf⟩ := m4.cells
      obtain ⟨u0, u1, u2, u3, u4, u5, u6, u7, u8, u9, u10, u11, u12, uf⟩ := x4.cells
      have hor : (E == 0) = false ∨ ((E == 0) = true ∧ X.ax = m.ax ∧ X.ay = m.ay ∧ X.hl = m.hl ∧ X.en ≤ m.en ∧ X.ou = 0) := by
        by_cases hE : E = 0
        · exact .inr ⟨by simpa using hE, HK.out hE⟩
        · exact .inl (by simpa using hE)
      rcases hor with hE1 | ⟨hE1, k1, k2, k3, k4, k5⟩
      · clear HK
        clear x4 u0 u1 u2 u3 u4 u5 u6 u7 u8 u9 u10 u11 u12 uf
        have HG := hid (C8.gli m C R s _ hz hC HS4.out)
        have hkg := keep_gli HM.out (solB C R s)
        rw [chk_yes8 HM.out] at HG
        obtain ⟨G, eG⟩ : ∃ G, gliM (solB C R s) m = G := ⟨_, rfl⟩
        rw [eG] at HG hkg
        have NE : ∀ w, (binOp .neq 25 (.agg #[.int .i64 m.ax, .int .i64 m.ay, .int .i64 m.sx, .int .i64 m.sy, .int .i64 G.px, .int .i64 G.py, .int .i64 G.fc, .int .i64 G.hl, .int .i64 G.en, .bool G.sh, .int .i64 G.co, .int .i64 G.ou, .int .i64 G.sd]) (mv m)).run Tryd.prog w = .ok (.bool false) w := fun w => by
          have := neq_mv ({ G with ax := m.ax, ay := m.ay, sx := m.sx, sy := m.sy } : Mv) m w
          rw [eqM_iff.2 hkg] at this
          exact this
        clear eG hkg
        obtain ⟨d0, d1, d2, df⟩ := a4.cells
        go_wp2_with fail
        refine HG.out.mono ?_
        rintro e w5 ⟨rfl, h5⟩
        have m5' := m4.still h5
        have HS5' := hid (Still.trans HS4.out h5)
        have hl5 := m5'.lt
        clear h5 HG HS4 m4 a4 d0 d1 d2 df c0 c1 c2 c3 c4 c5 c6 c7 c8 c9 c10 c11 c12 cf
        obtain ⟨c0, c1, c2, c3, c4, c5, c6, c7, c8, c9, c10, c11, c12, cf⟩ := m5'.cells
        go_upto_region 13 with fail
        have m5 := (m5'.still (Still.alloc _ (.cells #[.int .i64 G.ax, .int .i64 G.ay, .int .i64 G.sx, .int .i64 G.sy, .int .i64 G.px, .int .i64 G.py, .int .i64 G.fc, .int .i64 G.hl, .int .i64 G.en, .bool G.sh, .int .i64 G.co, .int .i64 G.ou, .int .i64 G.sd] 25))).still (Still.alloc _ (.cells #[.int .i64 m.ax, .int .i64 m.ay, .int .i64 m.sx, .int .i64 m.sy, .int .i64 G.px, .int .i64 G.py, .int .i64 G.fc, .int .i64 G.hl, .int .i64 G.en, .bool G.sh, .int .i64 G.co, .int .i64 G.ou, .int .i64 G.sd] 25))
        have HS5 := hid ((Still.trans HS5'.out (Still.alloc _ (.cells #[.int .i64 G.ax, .int .i64 G.ay, .int .i64 G.sx, .int .i64 G.sy, .int .i64 G.px, .int .i64 G.py, .int .i64 G.fc, .int .i64 G.hl, .int .i64 G.en, .bool G.sh, .int .i64 G.co, .int .i64 G.ou, .int .i64 G.sd] 25))).trans (Still.alloc _ (.cells #[.int .i64 m.ax, .int .i64 m.ay, .int .i64 m.sx, .int .i64 m.sy, .int .i64 G.px, .int .i64 G.py, .int .i64 G.fc, .int .i64 G.hl, .int .i64 G.en, .bool G.sh, .int .i64 G.co, .int .i64 G.ou, .int .i64 G.sd] 25)))
        obtain ⟨W5, eW5⟩ : ∃ W5, (w5.alloc (.cells #[.int .i64 G.ax, .int .i64 G.ay, .int .i64 G.sx, .int .i64 G.sy, .int .i64 G.px, .int .i64 G.py, .int .i64 G.fc, .int .i64 G.hl, .int .i64 G.en, .bool G.sh, .int .i64 G.co, .int .i64 G.ou, .int .i64 G.sd] 25)).alloc (.cells #[.int .i64 m.ax, .int .i64 m.ay, .int .i64 m.sx, .int .i64 m.sy, .int .i64 G.px, .int .i64 G.py, .int .i64 G.fc, .int .i64 G.hl, .int .i64 G.en, .bool G.sh, .int .i64 G.co, .int .i64 G.ou, .int .i64 G.sd] 25) = W5 := ⟨_, rfl⟩
        rw [eW5] at m5 HS5 ⊢
        clear eW5 m5' HS5' NE hl5 c0 c1 c2 c3 c4 c5 c6 c7 c8 c9 c10 c11 c12 cf
        obtain ⟨c0, c1, c2, c3, c4, c5, c6, c7, c8, c9, c10, c11, c12, cf⟩ := m5.cells
        have HH := hid (C8.hur m h _ HS5.out)
        have HMZ := hid (fun (he : errH m h = 0) => may_hurt he)
        have HK1 := hid (fun (he : errH m h = 0) hd => keep_hur (h := h) HO0.out he hd)
        have HK2 := hid (fun (he : errH m h = 0) hd => keep_out (h := h) HO0.out he hd)
        obtain ⟨Z, eZ⟩ : ∃ Z, hurM m h = Z := ⟨_, rfl⟩
        obtain ⟨O, eO⟩ : ∃ O, hurD m h = O := ⟨_, rfl⟩
        obtain ⟨E2, eE2⟩ : ∃ E2, errH m h = E2 := ⟨_, rfl⟩
        rw [eZ, eO, eE2] at HH HK1 HK2
        rw [eZ, eE2] at HMZ
        clear eZ eO eE2
        go_wp2_with fail
        refine HH.out.mono ?_
        rintro e w6 ⟨rfl, h6⟩
        have A6 := Still.alloc w6 (.cells (mcs Z) 25)
        have m6 := (m5.still h6).still A6
        have z6 : Mb (w6.alloc (.cells (mcs Z) 25)) w6.heap.size Z := newM_mb w6 Z
        have HS6 := hid ((Still.trans HS5.out h6).trans A6)
        clear h6 A6 HH HS5 m5 c0 c1 c2 c3 c4 c5 c6 c7 c8 c9 c10 c11 c12 cf
        obtain ⟨c0, c1, c2, c3, c4, c5, c6, c7, c8, c9, c10, c11, c12, cf⟩ := m6.cells
        obtain ⟨y0, y1, y2, y3, y4, y5, y6, y7, y8, y9, y10, y11, y12, yf⟩ := z6.cells
        by_cases hE2 : E2 = 0
        · have hE21 : (E2 == 0) = true := by rw [hE2]; rfl
          cases O with
          | false =>
            have hk := HK1.out hE2 rfl
            have P3 := neq_pt_f hk.2
            obtain ⟨g1, g2, g3, g4, g5, g6, g7, g8, g9, g10, g11⟩ := HMZ.out hE2
            obtain ⟨l1, l2⟩ := g5
            obtain ⟨l3, l4⟩ := g6
            have q5 : (m.hl + m.en - Z.hl - Z.en != h) = false := by rw [hk.1]; simp
            clear hk g1 g2 g3 g4 g7 g8 g9 g10 g11 hE2 HK1 HK2 HMZ
            have HRF := hid (keep_res (m := m) HM.out HO0.out 5 5)
            have HR := hid (C8.res m 5 5 _ HS6.out)
            rw [HRF.out.1, chk_yes8 HM.out] at HR
            obtain ⟨Q, eQ⟩ : ∃ Q, resM m 5 5 = Q := ⟨_, rfl⟩
            rw [eQ] at HR HRF
            have P5 := eql_pt_t HRF.out.2.1 HRF.out.2.2.1
            have P6 := eql_pt_t HRF.out.2.2.2.1 HRF.out.2.2.2.2.1
            have q9 : (Q.hl == m.hl) = true := by rw [HRF.out.2.2.2.2.2]; simp
            clear eQ HRF
            go_wp2_with fail
            refine HR.out.mono ?_
            rintro e w7 ⟨rfl, h7⟩
            have A7 := Still.alloc w7 (.cells (mcs Q) 25)
            have m7 := (m6.still h7).still A7
            have r7 : Mb (w7.alloc (.cells (mcs Q) 25)) w7.heap.size Q := newM_mb w7 Q
            have HS7 := hid ((Still.trans HS6.out h7).trans A7)
            clear h7 A7 HR HS6 m6 c0 c1 c2 c3 c4 c5 c6 c7 c8 c9 c10 c11 c12 cf z6 y0 y1 y2 y3 y4 y5 y6 y7 y8 y9 y10 y11 y12 yf
            obtain ⟨c0, c1, c2, c3, c4, c5, c6, c7, c8, c9, c10, c11, c12, cf⟩ := m7.cells
            obtain ⟨k0, k1, k2, k3, k4, k5, k6, k7, k8, k9, k10, k11, k12, kf⟩ := r7.cells
            go_wp2_with fail
            go_ret
            exact ⟨rfl, HS7.out⟩
          | true =>
            have hk := HK2.out hE2 rfl
            have P3 := neq_pt_f hk.2
            have q5 : ¬ h < m.hl := by have := hk.1; omega
            clear hk hE2 HK1 HK2 HMZ
            have HRF := hid (keep_res (m := m) HM.out HO0.out 5 5)
            have HR := hid (C8.res m 5 5 _ HS6.out)
            rw [HRF.out.1, chk_yes8 HM.out] at HR
            obtain ⟨Q, eQ⟩ : ∃ Q, resM m 5 5 = Q := ⟨_, rfl⟩
            rw [eQ] at HR HRF
            have P5 := eql_pt_t HRF.out.2.1 HRF.out.2.2.1
            have P6 := eql_pt_t HRF.out.2.2.2.1 HRF.out.2.2.2.2.1
            have q9 : (Q.hl == m.hl) = true := by rw [HRF.out.2.2.2.2.2]; simp
            clear eQ HRF
            go_wp2_with fail
            refine HR.out.mono ?_
            rintro e w7 ⟨rfl, h7⟩
            have A7 := Still.alloc w7 (.cells (mcs Q) 25)
            have m7 := (m6.still h7).still A7
            have r7 : Mb (w7.alloc (.cells (mcs Q) 25)) w7.heap.size Q := newM_mb w7 Q
            have HS7 := hid ((Still.trans HS6.out h7).trans A7)
            clear h7 A7 HR HS6 m6 c0 c1 c2 c3 c4 c5 c6 c7 c8 c9 c10 c11 c12 cf z6 y0 y1 y2 y3 y4 y5 y6 y7 y8 y9 y10 y11 y12 yf
            obtain ⟨c0, c1, c2, c3, c4, c5, c6, c7, c8, c9, c10, c11, c12, cf⟩ := m7.cells
            obtain ⟨k0, k1, k2, k3, k4, k5, k6, k7, k8, k9, k10, k11, k12, kf⟩ := r7.cells
            go_wp2_with fail
            go_ret
            exact ⟨rfl, HS7.out⟩
        · have hE21 : (E2 == 0) = false := by simpa using hE2
          clear hE2 HK1 HK2 HMZ
          have HRF := hid (keep_res (m := m) HM.out HO0.out 5 5)
          have HR := hid (C8.res m 5 5 _ HS6.out)
          rw [HRF.out.1, chk_yes8 HM.out] at HR
          obtain ⟨Q, eQ⟩ : ∃ Q, resM m 5 5 = Q := ⟨_, rfl⟩
          rw [eQ] at HR HRF
          have P5 := eql_pt_t HRF.out.2.1 HRF.out.2.2.1
          have P6 := eql_pt_t HRF.out.2.2.2.1 HRF.out.2.2.2.2.1
          have q9 : (Q.hl == m.hl) = true := by rw [HRF.out.2.2.2.2.2]; simp
          clear eQ HRF
          go_wp2_with fail
          refine HR.out.mono ?_
          rintro e w7 ⟨rfl, h7⟩
          have A7 := Still.alloc w7 (.cells (mcs Q) 25)
          have m7 := (m6.still h7).still A7
          have r7 : Mb (w7.alloc (.cells (mcs Q) 25)) w7.heap.size Q := newM_mb w7 Q
          have HS7 := hid ((Still.trans HS6.out h7).trans A7)
          clear h7 A7 HR HS6 m6 c0 c1 c2 c3 c4 c5 c6 c7 c8 c9 c10 c11 c12 cf z6 y0 y1 y2 y3 y4 y5 y6 y7 y8 y9 y10 y11 y12 yf
          obtain ⟨c0, c1, c2, c3, c4, c5, c6, c7, c8, c9, c10, c11, c12, cf⟩ := m7.cells
          obtain ⟨k0, k1, k2, k3, k4, k5, k6, k7, k8, k9, k10, k11, k12, kf⟩ := r7.cells
          go_wp2_with fail
          go_ret
          exact ⟨rfl, HS7.out⟩
      · have P1 := neq_pt_f (And.intro k1 k2)
        have q1 : (X.hl != m.hl) = false := by rw [k3]; simp
        have q2 : ¬ m.en < X.en := by omega
        have q3 : (X.ou != 0) = false := by rw [k5]; rfl
        clear k1 k2 k3 k4 k5 HK
        go_upto_region 7 with fail
        clear x4 P1 q1 q2 q3 u0 u1 u2 u3 u4 u5 u6 u7 u8 u9 u10 u11 u12 uf
        have HG := hid (C8.gli m C R s _ hz hC HS4.out)
        have hkg := keep_gli HM.out (solB C R s)
        rw [chk_yes8 HM.out] at HG
        obtain ⟨G, eG⟩ : ∃ G, gliM (solB C R s) m = G := ⟨_, rfl⟩
        rw [eG] at HG hkg
        have NE : ∀ w, (binOp .neq 25 (.agg #[.int .i64 m.ax, .int .i64 m.ay, .int .i64 m.sx, .int .i64 m.sy, .int .i64 G.px, .int .i64 G.py, .int .i64 G.fc, .int .i64 G.hl, .int .i64 G.en, .bool G.sh, .int .i64 G.co, .int .i64 G.ou, .int .i64 G.sd]) (mv m)).run Tryd.prog w = .ok (.bool false) w := fun w => by
          have := neq_mv ({ G with ax := m.ax, ay := m.ay, sx := m.sx, sy := m.sy } : Mv) m w
          rw [eqM_iff.2 hkg] at this
          exact this
        clear eG hkg
        obtain ⟨d0, d1, d2, df⟩ := a4.cells
        go_wp2_with fail
        refine HG.out.mono ?_
        rintro e w5 ⟨rfl, h5⟩
        have m5' := m4.still h5
        have HS5' := hid (Still.trans HS4.out h5)
        have hl5 := m5'.lt
        clear h5 HG HS4 m4 a4 d0 d1 d2 df c0 c1 c2 c3 c4 c5 c6 c7 c8 c9 c10 c11 c12 cf
        obtain ⟨c0, c1, c2, c3, c4, c5, c6, c7, c8, c9, c10, c11, c12, cf⟩ := m5'.cells
        go_upto_region 13 with fail
        have m5 := (m5'.still (Still.alloc _ (.cells #[.int .i64 G.ax, .int .i64 G.ay, .int .i64 G.sx, .int .i64 G.sy, .int .i64 G.px, .int .i64 G.py, .int .i64 G.fc, .int .i64 G.hl, .int .i64 G.en, .bool G.sh, .int .i64 G.co, .int .i64 G.ou, .int .i64 G.sd] 25))).still (Still.alloc _ (.cells #[.int .i64 m.ax, .int .i64 m.ay, .int .i64 m.sx, .int .i64 m.sy, .int .i64 G.px, .int .i64 G.py, .int .i64 G.fc, .int .i64 G.hl, .int .i64 G.en, .bool G.sh, .int .i64 G.co, .int .i64 G.ou, .int .i64 G.sd] 25))
        have HS5 := hid ((Still.trans HS5'.out (Still.alloc _ (.cells #[.int .i64 G.ax, .int .i64 G.ay, .int .i64 G.sx, .int .i64 G.sy, .int .i64 G.px, .int .i64 G.py, .int .i64 G.fc, .int .i64 G.hl, .int .i64 G.en, .bool G.sh, .int .i64 G.co, .int .i64 G.ou, .int .i64 G.sd] 25))).trans (Still.alloc _ (.cells #[.int .i64 m.ax, .int .i64 m.ay, .int .i64 m.sx, .int .i64 m.sy, .int .i64 G.px, .int .i64 G.py, .int .i64 G.fc, .int .i64 G.hl, .int .i64 G.en, .bool G.sh, .int .i64 G.co, .int .i64 G.ou, .int .i64 G.sd] 25)))
        obtain ⟨W5, eW5⟩ : ∃ W5, (w5.alloc (.cells #[.int .i64 G.ax, .int .i64 G.ay, .int .i64 G.sx, .int .i64 G.sy, .int .i64 G.px, .int .i64 G.py, .int .i64 G.fc, .int .i64 G.hl, .int .i64 G.en, .bool G.sh, .int .i64 G.co, .int .i64 G.ou, .int .i64 G.sd] 25)).alloc (.cells #[.int .i64 m.ax, .int .i64 m.ay, .int .i64 m.sx, .int .i64 m.sy, .int .i64 G.px, .int .i64 G.py, .int .i64 G.fc, .int .i64 G.hl, .int .i64 G.en, .bool G.sh, .int .i64 G.co, .int .i64 G.ou, .int .i64 G.sd] 25) = W5 := ⟨_, rfl⟩
        rw [eW5] at m5 HS5 ⊢
        clear eW5 m5' HS5' NE hl5 c0 c1 c2 c3 c4 c5 c6 c7 c8 c9 c10 c11 c12 cf
        obtain ⟨c0, c1, c2, c3, c4, c5, c6, c7, c8, c9, c10, c11, c12, cf⟩ := m5.cells
        have HH := hid (C8.hur m h _ HS5.out)
        have HMZ := hid (fun (he : errH m h = 0) => may_hurt he)
        have HK1 := hid (fun (he : errH m h = 0) hd => keep_hur (h := h) HO0.out he hd)
        have HK2 := hid (fun (he : errH m h = 0) hd => keep_out (h := h) HO0.out he hd)
        obtain ⟨Z, eZ⟩ : ∃ Z, hurM m h = Z := ⟨_, rfl⟩
        obtain ⟨O, eO⟩ : ∃ O, hurD m h = O := ⟨_, rfl⟩
        obtain ⟨E2, eE2⟩ : ∃ E2, errH m h = E2 := ⟨_, rfl⟩
        rw [eZ, eO, eE2] at HH HK1 HK2
        rw [eZ, eE2] at HMZ
        clear eZ eO eE2
        go_wp2_with fail
        refine HH.out.mono ?_
        rintro e w6 ⟨rfl, h6⟩
        have A6 := Still.alloc w6 (.cells (mcs Z) 25)
        have m6 := (m5.still h6).still A6
        have z6 : Mb (w6.alloc (.cells (mcs Z) 25)) w6.heap.size Z := newM_mb w6 Z
        have HS6 := hid ((Still.trans HS5.out h6).trans A6)
        clear h6 A6 HH HS5 m5 c0 c1 c2 c3 c4 c5 c6 c7 c8 c9 c10 c11 c12 cf
        obtain ⟨c0, c1, c2, c3, c4, c5, c6, c7, c8, c9, c10, c11, c12, cf⟩ := m6.cells
        obtain ⟨y0, y1, y2, y3, y4, y5, y6, y7, y8, y9, y10, y11, y12, yf⟩ := z6.cells
        by_cases hE2 : E2 = 0
        · have hE21 : (E2 == 0) = true := by rw [hE2]; rfl
          cases O with
          | false =>
            have hk := HK1.out hE2 rfl
            have P3 := neq_pt_f hk.2
            obtain ⟨g1, g2, g3, g4, g5, g6, g7, g8, g9, g10, g11⟩ := HMZ.out hE2
            obtain ⟨l1, l2⟩ := g5
            obtain ⟨l3, l4⟩ := g6
            have q5 : (m.hl + m.en - Z.hl - Z.en != h) = false := by rw [hk.1]; simp
            clear hk g1 g2 g3 g4 g7 g8 g9 g10 g11 hE2 HK1 HK2 HMZ
            have HRF := hid (keep_res (m := m) HM.out HO0.out 5 5)
            have HR := hid (C8.res m 5 5 _ HS6.out)
            rw [HRF.out.1, chk_yes8 HM.out] at HR
            obtain ⟨Q, eQ⟩ : ∃ Q, resM m 5 5 = Q := ⟨_, rfl⟩
            rw [eQ] at HR HRF
            have P5 := eql_pt_t HRF.out.2.1 HRF.out.2.2.1
            have P6 := eql_pt_t HRF.out.2.2.2.1 HRF.out.2.2.2.2.1
            have q9 : (Q.hl == m.hl) = true := by rw [HRF.out.2.2.2.2.2]; simp
            clear eQ HRF
            go_wp2_with fail
            refine HR.out.mono ?_
            rintro e w7 ⟨rfl, h7⟩
            have A7 := Still.alloc w7 (.cells (mcs Q) 25)
            have m7 := (m6.still h7).still A7
            have r7 : Mb (w7.alloc (.cells (mcs Q) 25)) w7.heap.size Q := newM_mb w7 Q
            have HS7 := hid ((Still.trans HS6.out h7).trans A7)
            clear h7 A7 HR HS6 m6 c0 c1 c2 c3 c4 c5 c6 c7 c8 c9 c10 c11 c12 cf z6 y0 y1 y2 y3 y4 y5 y6 y7 y8 y9 y10 y11 y12 yf
            obtain ⟨c0, c1, c2, c3, c4, c5, c6, c7, c8, c9, c10, c11, c12, cf⟩ := m7.cells
            obtain ⟨k0, k1, k2, k3, k4, k5, k6, k7, k8, k9, k10, k11, k12, kf⟩ := r7.cells
            go_wp2_with fail
            go_ret
            exact ⟨rfl, HS7.out⟩
          | true =>
            have hk := HK2.out hE2 rfl
            have P3 := neq_pt_f hk.2
            have q5 : ¬ h < m.hl := by have := hk.1; omega
            clear hk hE2 HK1 HK2 HMZ
            have HRF := hid (keep_res (m := m) HM.out HO0.out 5 5)
            have HR := hid (C8.res m 5 5 _ HS6.out)
            rw [HRF.out.1, chk_yes8 HM.out] at HR
            obtain ⟨Q, eQ⟩ : ∃ Q, resM m 5 5 = Q := ⟨_, rfl⟩
            rw [eQ] at HR HRF
            have P5 := eql_pt_t HRF.out.2.1 HRF.out.2.2.1
            have P6 := eql_pt_t HRF.out.2.2.2.1 HRF.out.2.2.2.2.1
            have q9 : (Q.hl == m.hl) = true := by rw [HRF.out.2.2.2.2.2]; simp
            clear eQ HRF
            go_wp2_with fail
            refine HR.out.mono ?_
            rintro e w7 ⟨rfl, h7⟩
            have A7 := Still.alloc w7 (.cells (mcs Q) 25)
            have m7 := (m6.still h7).still A7
            have r7 : Mb (w7.alloc (.cells (mcs Q) 25)) w7.heap.size Q := newM_mb w7 Q
            have HS7 := hid ((Still.trans HS6.out h7).trans A7)
            clear h7 A7 HR HS6 m6 c0 c1 c2 c3 c4 c5 c6 c7 c8 c9 c10 c11 c12 cf z6 y0 y1 y2 y3 y4 y5 y6 y7 y8 y9 y10 y11 y12 yf
            obtain ⟨c0, c1, c2, c3, c4, c5, c6, c7, c8, c9, c10, c11, c12, cf⟩ := m7.cells
            obtain ⟨k0, k1, k2, k3, k4, k5, k6, k7, k8, k9, k10, k11, k12, kf⟩ := r7.cells
            go_wp2_with fail
            go_ret
            exact ⟨rfl, HS7.out⟩
        · have hE21 : (E2 == 0) = false := by simpa using hE2
          clear hE2 HK1 HK2 HMZ
          have HRF := hid (keep_res (m := m) HM.out HO0.out 5 5)
          have HR := hid (C8.res m 5 5 _ HS6.out)
          rw [HRF.out.1, chk_yes8 HM.out] at HR
          obtain ⟨Q, eQ⟩ : ∃ Q, resM m 5 5 = Q := ⟨_, rfl⟩
          rw [eQ] at HR HRF
          have P5 := eql_pt_t HRF.out.2.1 HRF.out.2.2.1
          have P6 := eql_pt_t HRF.out.2.2.2.1 HRF.out.2.2.2.2.1
          have q9 : (Q.hl == m.hl) = true := by rw [HRF.out.2.2.2.2.2]; simp
          clear eQ HRF
          go_wp2_with fail
          refine HR.out.mono ?_
          rintro e w7 ⟨rfl, h7⟩
          have A7 := Still.alloc w7 (.cells (mcs Q) 25)
          have m7 := (m6.still h7).still A7
          have r7 : Mb (w7.alloc (.cells (mcs Q) 25)) w7.heap.size Q := newM_mb w7 Q
          have HS7 := hid ((Still.trans HS6.out h7).trans A7)
          clear h7 A7 HR HS6 m6 c0 c1 c2 c3 c4 c5 c6 c7 c8 c9 c10 c11 c12 cf z6 y0 y1 y2 y3 y4 y5 y6 y7 y8 y9 y10 y11 y12 yf
          obtain ⟨c0, c1, c2, c3, c4, c5, c6, c7, c8, c9, c10, c11, c12, cf⟩ := m7.cells
          obtain ⟨k0, k1, k2, k3, k4, k5, k6, k7, k8, k9, k10, k11, k12, kf⟩ := r7.cells
          go_wp2_with fail
          go_ret
          exact ⟨rfl, HS7.out⟩
end Go.Proofs.YtaalbkmdmocdeabDoor
