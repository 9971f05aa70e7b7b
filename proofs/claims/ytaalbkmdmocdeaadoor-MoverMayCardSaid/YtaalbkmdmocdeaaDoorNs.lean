/- The law on what may be: whatever happens to a mover that began. -/
import Derived.Test.YtaalbkmdmocdeaaDoorNo
import Derived.Test.YtaalbkmdmocdeaaDoorTw
import Derived.Test.YtaalbkmdmocdeaaDoorAf
import Derived.Deep.RegionWith
import Derived.Deep.DeepCutAuto
namespace Go.Proofs.YtaalbkmdmocdeaaDoor
open Go.RowKit
open Pu Gp Ap Vp Np
set_option maxRecDepth 100000

/-- it comes into no wall by its motion -/
theorem glide_free {m : Mv} {sol : Int → Int → Bool} (hm : mayB m = true) (h : bdy sol 1280 m.ax m.ay = false) : bdy sol 1280 (gliM sol m).ax (gliM sol m).ay = false := by
  obtain ⟨g1, _⟩ := mayB_iff.1 hm
  have hX : inB2 m.ax := ⟨g1.1, g1.2.1⟩
  have hY : inB2 m.ay := ⟨g1.2.2.1, g1.2.2.2⟩
  unfold gliM
  rw [if_pos hm]
  unfold glideM
  by_cases h0 : m.ou = 0
  · rw [if_pos h0]
    show bdy sol 1280 (addf (sldX sol m.ax m.ay (spd m.sx m.px)) 0) (sldY sol m.ax m.ay (spd m.sx m.px) (spd m.sy m.py)) = false
    have hs : inB2 (sldX sol m.ax m.ay (spd m.sx m.px)) := by unfold sldX addf; exact Np.bnd_in _
    rw [addf_zero hs]
    unfold sldY sldK
    rw [Np.bnd_id g1.2.2.1 g1.2.2.2, addf_zero hY]
    have k1 := free_X (sol := sol) (r := 1280) (P := stp (spd m.sx m.px)) hX hY h
    have e : sldX sol m.ax m.ay (spd m.sx m.px) = addf m.ax (sgn (stp (spd m.sx m.px)) * (kX sol 1280 m.ax m.ay (stp (spd m.sx m.px)) : Int)) := by
      unfold sldX
      rw [Np.bnd_id g1.1 g1.2.1, Np.bnd_id g1.2.2.1 g1.2.2.2]
    rw [← e] at k1
    exact free_Y hs hY k1
  · rw [if_neg h0]
    exact h
/-- n deeds, from this place on -/
def Ds (w : World) (B o n : Nat) : Prop := ∀ i, i < n → ∃ k v a b c h : Int, w.cell? ⟨B, o + i * 6, none⟩ = some (.int .i64 k) ∧ w.cell? ⟨B, o + i * 6 + 1, none⟩ = some (.int .i64 v) ∧ w.cell? ⟨B, o + i * 6 + 2, none⟩ = some (.int .i64 a) ∧ w.cell? ⟨B, o + i * 6 + 3, none⟩ = some (.int .i64 b) ∧ w.cell? ⟨B, o + i * 6 + 4, none⟩ = some (.int .i64 c) ∧ w.cell? ⟨B, o + i * 6 + 5, none⟩ = some (.int .i64 h)
theorem Ds.still {w w' : World} {B o n : Nat} (h : Ds w B o n) (hs : Still w w') : Ds w' B o n := by
  intro i hi
  obtain ⟨k, v, a, b, c, g, h1, h2, h3, h4, h5, h6⟩ := h i hi
  have on : ∀ {p : Addr} {x : Value}, w.cell? p = some x → w'.cell? p = some x := fun hp => (hs.cell (World.block_lt_of_cell? w _ hp) (fun e => e)).trans hp
  exact ⟨k, v, a, b, c, g, on h1, on h2, on h3, on h4, on h5, on h6⟩
theorem Mb.onf {F : Nat → Prop} {w w' : World} {g : Nat} {m : Mv} (h : Mb w g m) (hs : Fr F w w') (hF : ¬ F g) : Mb w' g m := hs.kept h hF
theorem chk_may {m : Mv} (h : mayB m = true) : chkM m = 0 := by unfold chkM; rw [h]; rfl
theorem amax : clampf 1280 0 2147483647 = 1280 := by decide
set_option maxHeartbeats 8000000 in
theorem may_law (x y f C R : Int) (s : ByteArray) (ao : Option Addr) (n cap : Nat) (hz : s.size ≤ 281474976710656) (hC : C ≤ 9223372036854775807) (hn : n ≤ 281474976710656) (w : World) (hd : n = 0 ∨ ∃ B o, ao = some ⟨B, o, none⟩ ∧ Ds w B o n) (C8 : Cts8 w) :
    Calls Tryd.prog 8 #[pt x y, .int .i64 f, ar C R s, .slice ao n cap] w fun e w' => e = .returned (.bool true) ∧ Still w w' := by
  have A0 := Still.alloc w (.cells #[.int .i64 x, .int .i64 y] 23)
  have A1 := Still.alloc (newP w x y) (.cells #[.int .i64 C, .int .i64 R, .string s] 37)
  have p0 := (newP_pb w x y).still A1
  have a0 := newA_ab (newP w x y) C R s
  simp only [size_alloc] at a0
  have HS0 := hid (A0.trans A1)
  clear A0 A1
  go_enter Tryd.func8, Tryd.ntmps8
  go_wp2_with fail
  refine (awake8_any _ (C8.still HS0.out)).mono ?_
  rintro e w1 ⟨rfl, h1⟩
  have p1 := p0.still h1
  have a1 := a0.still h1
  have HS1 := hid (HS0.out.trans h1)
  clear h1 HS0 p0 a0
  obtain ⟨d0, d1, df⟩ := p1.cells
  go_wp2_with fail
  refine (C8.sta x y f _ HS1.out).mono ?_
  rintro e w2 ⟨rfl, h2⟩
  have HM := hid (mayB_iff.2 (may_start x y f))
  obtain ⟨m0, em⟩ : ∃ m, startM x y f = m := ⟨_, rfl⟩
  rw [em] at HM ⊢
  have A2 := Still.alloc w2 (.cells (mcs m0) 25)
  have p2 := (p1.still h2).still A2
  have a2 := (a1.still h2).still A2
  have q2 := newM_mb w2 m0
  have HS2 := hid ((HS1.out.trans h2).trans A2)
  have HL := hid (And.intro (block_lt (p1.still h2)) (block_lt (a1.still h2)))
  clear h2 A2 HS1 p1 a1 d0 d1 df em
  obtain ⟨c0, c1, c2, c3, c4, c5, c6, c7, c8, c9, c10, c11, c12, cf⟩ := q2.cells
  have HK := hid (C8.chk m0 _ HS2.out)
  rw [show chkM m0 = 0 by unfold chkM; rw [HM.out]; rfl] at HK
  go_wp2_with fail
  refine HK.out.mono ?_
  rintro e w3 ⟨rfl, h3⟩
  have p3 := p2.still h3
  have a3 := a2.still h3
  have q3 := q2.still h3
  have HS3 := hid (HS2.out.trans h3)
  obtain ⟨g, eg⟩ : ∃ g, w2.heap.size = g := ⟨_, rfl⟩
  rw [eg] at q3 HL ⊢
  have HG : Hid (w.heap.size ≤ g) := hid (by rw [← eg]; have := HL.out; omega)
  clear h3 HS2 HK p2 a2 q2 c0 c1 c2 c3 c4 c5 c6 c7 c8 c9 c10 c11 c12 cf eg
  go_wp2_with fail
  go_loopw [11] (fun i wr => ∃ (k : Nat) (m : Mv), k ≤ n ∧ i = .int .i64 (k : Int) ∧ Hid (mayB m = true) ∧ Mb wr g m ∧ Fr (fun b => b = g) w3 wr) (fun i _ => n - (intOf i).toNat)
  case atStart => exact ⟨0, m0, by omega, rfl, HM, q3, Fr.refl _ _⟩
  case round =>
    obtain ⟨k, m, hk, rfl, Hm, q4, hf⟩ := hrel
    have hl := HL.out
    have hg := HG.out
    have p4 : Pb wr w.heap.size x y := hf.kept p3 (by omega)
    have a4 : Ab wr (w.heap.size + 1) C R s := hf.kept a3 (by omega)
    have HS4 : Hid (Still w wr) := hid (Fr.trans HS3.out hf (fun j h1 h2 => by omega))
    have HF4 := hid hf
    clear hf p3 a3 q3 HS3 HM
    by_cases hkn : k < n
    · have hki : (k : Int) < (n : Int) := by omega
      have hds : ∃ B o, ao = some ⟨B, o, none⟩ ∧ Ds w B o n := by
        rcases hd with rfl | h
        · omega
        · exact h
      obtain ⟨B, o, rfl, hD⟩ := hds
      obtain ⟨κ, v, a, b, c, h, e0, e1, e2, e3, e4, e5⟩ := hD.still HS4.out k hkn
      obtain ⟨c0, c1, c2, c3, c4, c5, c6, c7, c8, c9, c10, c11, c12, cf⟩ := q4.cells
      have hB : B < wr.heap.size := World.block_lt_of_cell? wr ⟨B, o + k * 6, none⟩ e0
      have A5 := Still.alloc wr (.cells (mcs m) 25)
      have q5 := q4.still A5
      have n5 : Mb (wr.alloc (.cells (mcs m) 25)) wr.heap.size m := newM_mb wr m
      have HS5 := hid (HS4.out.trans A5)
      go_upto_region 14 with fail
      have HFA := hid (HF4.out.alloc (.cells (mcs m) 25))
      obtain ⟨W, eW⟩ : ∃ W, wr.alloc (.cells (mcs m) 25) = W := ⟨_, rfl⟩
      obtain ⟨gn, egn⟩ : ∃ gn, wr.heap.size = gn := ⟨_, rfl⟩
      have hgn : g ≠ gn := by rw [← egn]; have := q4.lt; omega
      have hga : w.heap.size + 1 ≠ gn := by rw [← egn]; have := block_lt a4; omega
      have hgw : w.heap.size ≤ gn := by rw [← egn]; have := q4.lt; omega
      have p5 := p4.still A5
      have a5 := a4.still A5
      have f0 := e0
      rw [eW] at q5 n5 HS5 HFA p5 a5
      rw [egn] at n5
      have D5 := (hD.still HS5.out) k hkn
      rw [show wr.alloc (.cells #[.int .i64 m.ax, .int .i64 m.ay, .int .i64 m.sx, .int .i64 m.sy, .int .i64 m.px, .int .i64 m.py, .int .i64 m.fc, .int .i64 m.hl, .int .i64 m.en, .bool m.sh, .int .i64 m.co, .int .i64 m.ou, .int .i64 m.sd] 25) = W from eW, egn]
      obtain ⟨κ', v, a, b, c, h, e0', e1, e2, e3, e4, e5⟩ := D5
      have hg3 : w3.heap.size ≤ gn := by rw [← egn]; exact HF4.out.size
      obtain ⟨c0, c1, c2, c3, c4, c5, c6, c7, c8, c9, c10, c11, c12, cf⟩ := q5.cells
      obtain ⟨k0, k1, k2, k3, k4, k5, k6, k7, k8, k9, k10, k11, k12, kf⟩ := n5.cells
      clear eW egn A5 q4 p4 a4 HS4 f0 e0'
      by_cases y0 : κ = 0
      · have y0' : (κ == 0) = true := by simpa using y0
        have z2 : W.cell? ⟨B, o + k * 6 + 1 + 1, none⟩ = some (.int .i64 a) := e2
        have z3 : W.cell? ⟨B, o + k * 6 + 1 + 2, none⟩ = some (.int .i64 b) := e3
        have z4 : W.cell? ⟨B, o + k * 6 + 1 + 3, none⟩ = some (.int .i64 c) := e4
        have H1 := hid (fun u (hu : Still w u) => C8.act m v a b c u hu)
        have HMay := hid (fun (he : errA m v a b c = 0) => mayB_iff.2 (may_act he))
        obtain ⟨N, eN⟩ : ∃ N, actM m v a b c = N := ⟨_, rfl⟩
        obtain ⟨D, eD⟩ : ∃ D, actD m v a b c = D := ⟨_, rfl⟩
        obtain ⟨E, eE⟩ : ∃ E, errA m v a b c = E := ⟨_, rfl⟩
        rw [eN, eD, eE] at H1
        rw [eN, eE] at HMay
        clear eN eD eE
        go_upto_region 15 with fail
        go_region_with (go_at_call 14; refine (H1.out _ ?_).mono ?_; (first | exact HS5.out | exact HS5.out.drew | exact HS5.out.drewN _); rintro e w6 ⟨rfl, h6⟩; have g6 : Still W w6 := (by first | exact h6 | exact Still.trans ((Fr.refl _ W).drew) h6 | exact Still.trans ((Fr.refl _ W).drewN _) h6); have n6 := n5.still g6; obtain ⟨k0', k1', k2', k3', k4', k5', k6', k7', k8', k9', k10', k11', k12', kf'⟩ := n6.cells)
        all_goals
          have qg := (q5.still g6).apart N hgn
          have qn := (n5.still g6).set N
          have HS7 := hid (setM_fr (HS5.out.trans g6) gn N (.inr hgw))
          have HF7 := hid (setM_fr (Fr.trans HFA.out g6 (fun _ _ e => e.elim)) gn N (.inr hg3))
          obtain ⟨Wc, eWc⟩ : ∃ Wc, setM w6 gn N = Wc := ⟨_, rfl⟩
          rw [eWc] at qg qn HS7 HF7
          rw [show (((((((((((((w6.setCell ⟨gn, 0, none⟩ (.int .i64 N.ax)).setCell ⟨gn, 1, none⟩ (.int .i64 N.ay)).setCell ⟨gn, 2, none⟩ (.int .i64 N.sx)).setCell ⟨gn, 3, none⟩ (.int .i64 N.sy)).setCell ⟨gn, 4, none⟩ (.int .i64 N.px)).setCell ⟨gn, 5, none⟩ (.int .i64 N.py)).setCell ⟨gn, 6, none⟩ (.int .i64 N.fc)).setCell ⟨gn, 7, none⟩ (.int .i64 N.hl)).setCell ⟨gn, 8, none⟩ (.int .i64 N.en)).setCell ⟨gn, 9, none⟩ (.bool N.sh)).setCell ⟨gn, 10, none⟩ (.int .i64 N.co)).setCell ⟨gn, 11, none⟩ (.int .i64 N.ou)).setCell ⟨gn, 12, none⟩ (.int .i64 N.sd)) = Wc from eWc]
          clear eWc h6 g6 q5 n5 HS5 HFA c0 c1 c2 c3 c4 c5 c6 c7 c8 c9 c10 c11 c12 cf k0 k1 k2 k3 k4 k5 k6 k7 k8 k9 k10 k11 k12 kf e1 e2 e3 e4 e5 H1
          clear z2 z3 z4 n6 k0' k1' k2' k3' k4' k5' k6' k7' k8' k9' k10' k11' k12' kf'
          by_cases hE : E = 0
          · have hE1 : (E == 0) = true := by rw [hE]; rfl
            have HMN := hid (HMay.out hE)
            have HC := hid (C8.chk N _ (setM_fr HS7.out g N (.inr hg)))
            rw [chk_may HMN.out] at HC
            have qN := qg.set N
            have HFN := hid (setM_fr HF7.out g N (.inl rfl))
            obtain ⟨c0, c1, c2, c3, c4, c5, c6, c7, c8, c9, c10, c11, c12, cf⟩ := qg.cells
            obtain ⟨k0, k1, k2, k3, k4, k5, k6, k7, k8, k9, k10, k11, k12, kf⟩ := qn.cells
            clear hE
            go_wp2_with fail
            refine HC.out.mono ?_
            rintro e w8 ⟨rfl, h8⟩
            go_wp2_with fail
            refine ⟨⟨k + 1, N, by omega, by simp, HMN, qN.still h8, Fr.trans HFN.out h8 (fun _ _ e => e.elim)⟩, by simp [intOf]; omega⟩
          · have hE1 : (E == 0) = false := by simpa using hE
            have HC := hid (C8.chk m _ HS7.out)
            rw [chk_may Hm.out] at HC
            obtain ⟨c0, c1, c2, c3, c4, c5, c6, c7, c8, c9, c10, c11, c12, cf⟩ := qg.cells
            clear hE
            go_wp2_with fail
            refine HC.out.mono ?_
            rintro e w8 ⟨rfl, h8⟩
            go_wp2_with fail
            refine ⟨⟨k + 1, m, by omega, by simp, Hm, qg.still h8, Fr.trans HF7.out h8 (fun _ _ e => e.elim)⟩, by simp [intOf]; omega⟩
      · have y0' : (κ == 0) = false := by simpa using y0
        by_cases y1 : κ = 1
        · have y1' : (κ == 1) = true := by simpa using y1
          have H1 := hid (C8.gli m C R s W hz hC HS5.out)
          have HMN := hid (mayB_iff.2 (may_glide (solB C R s) (mayB_iff.1 Hm.out)))
          have HFr := hid (fun (hb : bdy (solB C R s) 1280 m.ax m.ay = false) => glide_free Hm.out hb)
          rw [chk_may Hm.out] at H1
          obtain ⟨N, eN⟩ : ∃ N, gliM (solB C R s) m = N := ⟨_, rfl⟩
          rw [eN] at H1 HMN HFr
          clear eN
          obtain ⟨d0, d1, d2, df⟩ := a5.cells
          go_wp2_with fail
          refine H1.out.mono ?_
          rintro e w6 ⟨rfl, g6⟩
          have n6 := n5.still g6
          have a6 : Ab w6 (w.heap.size + 1) C R s := a5.still g6
          obtain ⟨k0', k1', k2', k3', k4', k5', k6', k7', k8', k9', k10', k11', k12', kf'⟩ := n6.cells
          go_upto_region 18 with fail
          have qg := (q5.still g6).apart N hgn
          have qn := (n5.still g6).set N
          have HS7 := hid (setM_fr (HS5.out.trans g6) gn N (.inr hgw))
          have HF7 := hid (setM_fr (Fr.trans HFA.out g6 (fun _ _ e => e.elim)) gn N (.inr hg3))
          have hfc : Fr (fun b => b = gn) w6 (setM w6 gn N) := setM_fr (Fr.refl _ _) gn N (.inl rfl)
          have a7 : Ab (setM w6 gn N) (w.heap.size + 1) C R s := hfc.kept a6 hga
          obtain ⟨Wc, eWc⟩ : ∃ Wc, setM w6 gn N = Wc := ⟨_, rfl⟩
          rw [eWc] at qg qn HS7 HF7 a7
          rw [show (((((((((((((w6.setCell ⟨gn, 0, none⟩ (.int .i64 N.ax)).setCell ⟨gn, 1, none⟩ (.int .i64 N.ay)).setCell ⟨gn, 2, none⟩ (.int .i64 N.sx)).setCell ⟨gn, 3, none⟩ (.int .i64 N.sy)).setCell ⟨gn, 4, none⟩ (.int .i64 N.px)).setCell ⟨gn, 5, none⟩ (.int .i64 N.py)).setCell ⟨gn, 6, none⟩ (.int .i64 N.fc)).setCell ⟨gn, 7, none⟩ (.int .i64 N.hl)).setCell ⟨gn, 8, none⟩ (.int .i64 N.en)).setCell ⟨gn, 9, none⟩ (.bool N.sh)).setCell ⟨gn, 10, none⟩ (.int .i64 N.co)).setCell ⟨gn, 11, none⟩ (.int .i64 N.ou)).setCell ⟨gn, 12, none⟩ (.int .i64 N.sd)) = Wc from eWc]
          clear eWc g6 q5 n5 a6 hfc HS5 HFA c0 c1 c2 c3 c4 c5 c6 c7 c8 c9 c10 c11 c12 cf k0 k1 k2 k3 k4 k5 k6 k7 k8 k9 k10 k11 k12 kf e1 e2 e3 e4 e5 H1 n6 d0 d1 d2 df k0' k1' k2' k3' k4' k5' k6' k7' k8' k9' k10' k11' k12' kf'
          have B1 := hid (fun u : World => around_any m.ax m.ay 1280 u)
          have B2 := hid (fun u : World => touched C R m.ax m.ay 1280 s hz (around_ok m.ax m.ay 1280 (by omega) (by omega)) (t := bdy (solB C R s) 1280 m.ax m.ay) rfl u)
          have B3 := hid (fun u : World => around_any N.ax N.ay 1280 u)
          have B4 := hid (fun u : World => touched C R N.ax N.ay 1280 s hz (around_ok N.ax N.ay 1280 (by omega) (by omega)) (t := bdy (solB C R s) 1280 N.ax N.ay) rfl u)
          rw [amax] at B1 B3
          obtain ⟨b1, eb1⟩ : ∃ b1, bdy (solB C R s) 1280 m.ax m.ay = b1 := ⟨_, rfl⟩
          obtain ⟨b2, eb2⟩ : ∃ b2, bdy (solB C R s) 1280 N.ax N.ay = b2 := ⟨_, rfl⟩
          rw [eb1] at B2 HFr
          rw [eb2] at B4 HFr
          clear eb1 eb2
          obtain ⟨d0, d1, d2, df⟩ := a7.cells
          obtain ⟨c0, c1, c2, c3, c4, c5, c6, c7, c8, c9, c10, c11, c12, cf⟩ := qg.cells
          have x0 := Cl.cell d0
          have x1 := Cl.cell d1
          have x2 := Cl.cell d2
          have x3 := Cl.cell c0
          have x4 := Cl.cell c1
          have hne := Aft.here Wc
          clear d0 d1 d2 df c0 c1 c2 c3 c4 c5 c6 c7 c8 c9 c10 c11 c12 cf
          refine region_all (by kernel_rfl) (by kernel_rfl) ?_
          repeat (go_big_quiet_step ((first | (go_at_call 23; exact Calls.cl (B1.out _)) | (go_at_call 22; exact Calls.cl (B2.out _)))))
          refine wpQuiet_nil ?_
          intro w7 h7
          have qg7 := qg.still h7
          have qn7 := qn.still h7
          have a8 := Ab.still a7 h7
          have HS8 := hid (Still.trans HS7.out h7)
          have HF8 := hid (Fr.trans HF7.out h7 (fun _ _ e => e.elim))
          clear h7 x0 x1 x2 x3 x4 hne qg qn a7 HS7 HF7
          go_upto_region 19 with fail
          obtain ⟨d0, d1, d2, df⟩ := a8.cells
          obtain ⟨c0, c1, c2, c3, c4, c5, c6, c7, c8, c9, c10, c11, c12, cf⟩ := qn7.cells
          have x0 := Cl.cell d0
          have x1 := Cl.cell d1
          have x2 := Cl.cell d2
          have x3 := Cl.cell c0
          have x4 := Cl.cell c1
          have hne := Aft.here w7
          clear d0 d1 d2 df c0 c1 c2 c3 c4 c5 c6 c7 c8 c9 c10 c11 c12 cf
          refine region_all (by kernel_rfl) (by kernel_rfl) ?_
          repeat (go_big_quiet_step ((first | (go_at_call 23; exact Calls.cl (B3.out _)) | (go_at_call 22; exact Calls.cl (B4.out _)))))
          refine wpQuiet_nil ?_
          intro w9 h9
          have qg := qg7.still h9
          have qn := qn7.still h9
          have HS7 := hid (Still.trans HS8.out h9)
          have HF7 := hid (Fr.trans HF8.out h9 (fun _ _ e => e.elim))
          clear h9 x0 x1 x2 x3 x4 hne qg7 qn7 a8 HS8 HF8
          have hb : b1 = true ∨ b1 = false ∧ b2 = false := by
            cases b1
            · exact .inr ⟨rfl, HFr.out rfl⟩
            · exact .inl rfl
          clear HFr B1 B2 B3 B4
          rcases hb with rfl | ⟨rfl, rfl⟩
          · have HC := hid (C8.chk N _ (setM_fr HS7.out g N (.inr hg)))
            rw [chk_may HMN.out] at HC
            have qN := qg.set N
            have HFN := hid (setM_fr HF7.out g N (.inl rfl))
            obtain ⟨c0, c1, c2, c3, c4, c5, c6, c7, c8, c9, c10, c11, c12, cf⟩ := qg.cells
            obtain ⟨k0, k1, k2, k3, k4, k5, k6, k7, k8, k9, k10, k11, k12, kf⟩ := qn.cells
            go_wp2_with fail
            refine HC.out.mono ?_
            rintro e w8 ⟨rfl, h8⟩
            go_wp2_with fail
            refine ⟨⟨k + 1, N, by omega, by simp, HMN, qN.still h8, Fr.trans HFN.out h8 (fun _ _ e => e.elim)⟩, by simp [intOf]; omega⟩
          · have HC := hid (C8.chk N _ (setM_fr HS7.out g N (.inr hg)))
            rw [chk_may HMN.out] at HC
            have qN := qg.set N
            have HFN := hid (setM_fr HF7.out g N (.inl rfl))
            obtain ⟨c0, c1, c2, c3, c4, c5, c6, c7, c8, c9, c10, c11, c12, cf⟩ := qg.cells
            obtain ⟨k0, k1, k2, k3, k4, k5, k6, k7, k8, k9, k10, k11, k12, kf⟩ := qn.cells
            go_wp2_with fail
            refine HC.out.mono ?_
            rintro e w8 ⟨rfl, h8⟩
            go_wp2_with fail
            refine ⟨⟨k + 1, N, by omega, by simp, HMN, qN.still h8, Fr.trans HFN.out h8 (fun _ _ e => e.elim)⟩, by simp [intOf]; omega⟩
        · have y1' : (κ == 1) = false := by simpa using y1
          by_cases y2 : κ = 2
          · have y2' : (κ == 2) = true := by simpa using y2
            have H1 := hid (fun u (hu : Still w u) => C8.hur m h u hu)
            have HMay := hid (fun (he : errH m h = 0) => mayB_iff.2 (may_hurt he))
            obtain ⟨N, eN⟩ : ∃ N, hurM m h = N := ⟨_, rfl⟩
            obtain ⟨D, eD⟩ : ∃ D, hurD m h = D := ⟨_, rfl⟩
            obtain ⟨E, eE⟩ : ∃ E, errH m h = E := ⟨_, rfl⟩
            rw [eN, eD, eE] at H1
            rw [eN, eE] at HMay
            clear eN eD eE
            go_upto_region 23 with fail
            go_region_with (go_at_call 18; refine (H1.out _ ?_).mono ?_; (first | exact HS5.out | exact HS5.out.drew | exact HS5.out.drewN _); rintro e w6 ⟨rfl, h6⟩; have g6 : Still W w6 := (by first | exact h6 | exact Still.trans ((Fr.refl _ W).drew) h6 | exact Still.trans ((Fr.refl _ W).drewN _) h6); have n6 := n5.still g6; obtain ⟨k0', k1', k2', k3', k4', k5', k6', k7', k8', k9', k10', k11', k12', kf'⟩ := n6.cells)
            all_goals
              have qg := (q5.still g6).apart N hgn
              have qn := (n5.still g6).set N
              have HS7 := hid (setM_fr (HS5.out.trans g6) gn N (.inr hgw))
              have HF7 := hid (setM_fr (Fr.trans HFA.out g6 (fun _ _ e => e.elim)) gn N (.inr hg3))
              obtain ⟨Wc, eWc⟩ : ∃ Wc, setM w6 gn N = Wc := ⟨_, rfl⟩
              rw [eWc] at qg qn HS7 HF7
              rw [show (((((((((((((w6.setCell ⟨gn, 0, none⟩ (.int .i64 N.ax)).setCell ⟨gn, 1, none⟩ (.int .i64 N.ay)).setCell ⟨gn, 2, none⟩ (.int .i64 N.sx)).setCell ⟨gn, 3, none⟩ (.int .i64 N.sy)).setCell ⟨gn, 4, none⟩ (.int .i64 N.px)).setCell ⟨gn, 5, none⟩ (.int .i64 N.py)).setCell ⟨gn, 6, none⟩ (.int .i64 N.fc)).setCell ⟨gn, 7, none⟩ (.int .i64 N.hl)).setCell ⟨gn, 8, none⟩ (.int .i64 N.en)).setCell ⟨gn, 9, none⟩ (.bool N.sh)).setCell ⟨gn, 10, none⟩ (.int .i64 N.co)).setCell ⟨gn, 11, none⟩ (.int .i64 N.ou)).setCell ⟨gn, 12, none⟩ (.int .i64 N.sd)) = Wc from eWc]
              clear eWc h6 g6 q5 n5 HS5 HFA c0 c1 c2 c3 c4 c5 c6 c7 c8 c9 c10 c11 c12 cf k0 k1 k2 k3 k4 k5 k6 k7 k8 k9 k10 k11 k12 kf e1 e2 e3 e4 e5 H1 n6 k0' k1' k2' k3' k4' k5' k6' k7' k8' k9' k10' k11' k12' kf'
              by_cases hE : E = 0
              · have hE1 : (E == 0) = true := by rw [hE]; rfl
                have HMN := hid (HMay.out hE)
                have HC := hid (C8.chk N _ (setM_fr HS7.out g N (.inr hg)))
                rw [chk_may HMN.out] at HC
                have qN := qg.set N
                have HFN := hid (setM_fr HF7.out g N (.inl rfl))
                obtain ⟨c0, c1, c2, c3, c4, c5, c6, c7, c8, c9, c10, c11, c12, cf⟩ := qg.cells
                obtain ⟨k0, k1, k2, k3, k4, k5, k6, k7, k8, k9, k10, k11, k12, kf⟩ := qn.cells
                clear hE
                go_wp2_with fail
                refine HC.out.mono ?_
                rintro e w8 ⟨rfl, h8⟩
                go_wp2_with fail
                refine ⟨⟨k + 1, N, by omega, by simp, HMN, qN.still h8, Fr.trans HFN.out h8 (fun _ _ e => e.elim)⟩, by simp [intOf]; omega⟩
              · have hE1 : (E == 0) = false := by simpa using hE
                have HC := hid (C8.chk m _ HS7.out)
                rw [chk_may Hm.out] at HC
                obtain ⟨c0, c1, c2, c3, c4, c5, c6, c7, c8, c9, c10, c11, c12, cf⟩ := qg.cells
                clear hE
                go_wp2_with fail
                refine HC.out.mono ?_
                rintro e w8 ⟨rfl, h8⟩
                go_wp2_with fail
                refine ⟨⟨k + 1, m, by omega, by simp, Hm, qg.still h8, Fr.trans HF7.out h8 (fun _ _ e => e.elim)⟩, by simp [intOf]; omega⟩
          · have y2' : (κ == 2) = false := by simpa using y2
            have H1 := hid (C8.res m x y W HS5.out)
            have HMN := hid (mayB_iff.2 (may_rest x y (mayB_iff.1 Hm.out)))
            rw [chk_may Hm.out] at H1
            obtain ⟨N, eN⟩ : ∃ N, resM m x y = N := ⟨_, rfl⟩
            obtain ⟨D, eD⟩ : ∃ D, resD m = D := ⟨_, rfl⟩
            rw [eN, eD] at H1
            rw [eN] at HMN
            clear eN eD
            obtain ⟨d0, d1, df⟩ := p5.cells
            go_wp2_with fail
            refine H1.out.mono ?_
            rintro e w6 ⟨rfl, g6⟩
            have n6 := n5.still g6
            obtain ⟨k0', k1', k2', k3', k4', k5', k6', k7', k8', k9', k10', k11', k12', kf'⟩ := n6.cells
            go_upto_region 12 with fail
            have qg := (q5.still g6).apart N hgn
            have qn := (n5.still g6).set N
            have HS7 := hid (setM_fr (HS5.out.trans g6) gn N (.inr hgw))
            have HF7 := hid (setM_fr (Fr.trans HFA.out g6 (fun _ _ e => e.elim)) gn N (.inr hg3))
            obtain ⟨Wc, eWc⟩ : ∃ Wc, setM w6 gn N = Wc := ⟨_, rfl⟩
            rw [eWc] at qg qn HS7 HF7
            rw [show (((((((((((((w6.setCell ⟨gn, 0, none⟩ (.int .i64 N.ax)).setCell ⟨gn, 1, none⟩ (.int .i64 N.ay)).setCell ⟨gn, 2, none⟩ (.int .i64 N.sx)).setCell ⟨gn, 3, none⟩ (.int .i64 N.sy)).setCell ⟨gn, 4, none⟩ (.int .i64 N.px)).setCell ⟨gn, 5, none⟩ (.int .i64 N.py)).setCell ⟨gn, 6, none⟩ (.int .i64 N.fc)).setCell ⟨gn, 7, none⟩ (.int .i64 N.hl)).setCell ⟨gn, 8, none⟩ (.int .i64 N.en)).setCell ⟨gn, 9, none⟩ (.bool N.sh)).setCell ⟨gn, 10, none⟩ (.int .i64 N.co)).setCell ⟨gn, 11, none⟩ (.int .i64 N.ou)).setCell ⟨gn, 12, none⟩ (.int .i64 N.sd)) = Wc from eWc]
            clear eWc g6 q5 n5 HS5 HFA c0 c1 c2 c3 c4 c5 c6 c7 c8 c9 c10 c11 c12 cf k0 k1 k2 k3 k4 k5 k6 k7 k8 k9 k10 k11 k12 kf e1 e2 e3 e4 e5 H1 n6 d0 d1 df k0' k1' k2' k3' k4' k5' k6' k7' k8' k9' k10' k11' k12' kf'
            have HC := hid (C8.chk N _ (setM_fr HS7.out g N (.inr hg)))
            rw [chk_may HMN.out] at HC
            have qN := qg.set N
            have HFN := hid (setM_fr HF7.out g N (.inl rfl))
            obtain ⟨c0, c1, c2, c3, c4, c5, c6, c7, c8, c9, c10, c11, c12, cf⟩ := qg.cells
            obtain ⟨k0, k1, k2, k3, k4, k5, k6, k7, k8, k9, k10, k11, k12, kf⟩ := qn.cells
            go_wp2_with fail
            refine HC.out.mono ?_
            rintro e w8 ⟨rfl, h8⟩
            go_wp2_with fail
            refine ⟨⟨k + 1, N, by omega, by simp, HMN, qN.still h8, Fr.trans HFN.out h8 (fun _ _ e => e.elim)⟩, by simp [intOf]; omega⟩
    · have hki : ¬ (k : Int) < (n : Int) := by omega
      go_wp2_with fail
      go_ret
      exact ⟨rfl, HS4.out⟩
end Go.Proofs.YtaalbkmdmocdeaaDoor
