/- The chapter's example. -/
import Derived.Test.YtgpmjlibanoapaaQup
namespace Go.Proofs.Ytgpmjlibanoapaa
open Go.RowKit
set_option maxRecDepth 100000

abbrev ka : En := ken 3 0 1
abbrev kb : En := ken 2 1 4
abbrev kd : En := ken 2 0 9
theorem aw_below {L O M : List En} (h : Cm L O M) (hp : L.Perm [ka, kb, kd]) (h1 : ∀ x ∈ O, x.fr ≤ 2) (h2 : ∀ y ∈ M, (2 : Int) < y.fr) : O = [kd, kb] ∧ M = [ka] := by
  obtain ⟨a, b⟩ := h.parts hp h1 h2
  have e1 : [ka, kb, kd].filter (fun x => decide (x.fr ≤ 2)) = [kb, kd] := by decide
  have e2 : [ka, kb, kd].filter (fun x => !decide (x.fr ≤ 2)) = [ka] := by decide
  rw [e1] at a
  rw [e2] at b
  refine ⟨srt_eq h.sr ?_ (a.trans (List.Perm.swap kd kb [])), List.perm_singleton.1 b⟩
  exact List.pairwise_cons.2 ⟨fun y hy => by rw [List.mem_singleton] at hy; subst hy; decide, List.pairwise_singleton _ _⟩
theorem aw_least {L : List En} (h : Qu L) (hp : L.Perm [ka, kb, kd]) : att L 0 = kd := by
  refine qu_is h hp (x := kd) (by simp) (fun y hy => ?_)
  simp at hy
  rcases hy with rfl | rfl | rfl <;> (unfold le; decide)
set_option maxHeartbeats 4000000 in
theorem awake_any (w : World) : Calls Try.prog 7 #[] w fun e w' => e = .returned (.bool true) ∧ Still w w' := by
  have HN := hid (fun w => qnew_any w)
  have HEa := hid (fun w => qent_any 3 0 1 w)
  have HEb := hid (fun w => qent_any 2 1 4 w)
  have HEd := hid (fun w => qent_any 2 0 9 w)
  go_enter Try.func7, Try.ntmps7
  go_wp2_with fail
  refine (HN.out _).mono ?_
  rintro e w1 ⟨he, hw⟩
  rw [he, hw]
  clear he hw w1 HN
  have HS0 := hid (Still.alloc w (.cells #[.slice none 0 0] 59))
  have HQ0 := hid (newQ_qk w w.heap.size (Nat.le_refl _))
  obtain ⟨W, eW⟩ : ∃ W, newQ w = W := ⟨_, rfl⟩
  have eW' := eW
  simp only [newQ] at eW'
  rw [eW] at HQ0 ⊢
  rw [eW'] at HS0
  have HP : Hid (w.heap.size < W.heap.size) := hid (by rw [← eW]; simp)
  obtain ⟨p, ep⟩ : ∃ p, w.heap.size = p := ⟨_, rfl⟩
  rw [ep] at HQ0 HP ⊢
  have hpw := ep
  clear eW eW' ep
  obtain ⟨L0, eL0⟩ : ∃ L : List En, [] = L := ⟨_, rfl⟩
  have HL0 : Hid (Qu L0) := hid (by rw [← eL0]; exact Qu.nil)
  have HM0 : Hid (L0.Perm []) := hid (by rw [← eL0])
  rw [eL0] at HQ0
  clear eL0
  go_wp2_with fail
  refine (HEa.out _).mono ?_
  rintro e u0 ⟨he, h1⟩
  rw [he]
  have hq1 := HQ0.out.still h1
  have hs1 := HS0.out.trans h1
  have HC := hid (qPush_any ka L0 p p _ HL0.out u0 (by have := hs1.size; omega) hq1)
  have HQa := hid hq1
  have HSa := hid hs1
  clear he h1 hq1 hs1 HEa
  go_wp2_with fail
  refine HC.out.mono ?_
  rintro e w1 ⟨c, v1, L1, he, hp2, hq2, hf2, _⟩
  rw [he]
  obtain ⟨rfl, hQ2, hP2⟩ := hp2.new HM0.out (by decide) (by decide)
  have HQ1 := hid hq2
  have HS1 := hid (HQa.out.stl HSa.out (Nat.le_of_eq hpw) hf2)
  have HL1 := hid hQ2
  have HM1 := hid hP2
  clear he hp2 hq2 hf2 hQ2 hP2 HC HQa HSa HQ0 HS0 HL0 HM0
  go_wp2_with fail
  refine (HEb.out _).mono ?_
  rintro e u1 ⟨he, h1⟩
  rw [he]
  have hq1 := HQ1.out.still h1
  have hs1 := HS1.out.trans h1
  have HC := hid (qPush_any kb L1 p p _ HL1.out u1 (by have := hs1.size; omega) hq1)
  have HQa := hid hq1
  have HSa := hid hs1
  clear he h1 hq1 hs1
  go_wp2_with fail
  refine HC.out.mono ?_
  rintro e w2 ⟨c, v2, L2, he, hp2, hq2, hf2, _⟩
  rw [he]
  obtain ⟨rfl, hQ2, hP2⟩ := hp2.new HM1.out (by decide) (by decide)
  have HQ2 := hid hq2
  have HS2 := hid (HQa.out.stl HSa.out (Nat.le_of_eq hpw) hf2)
  have HL2 := hid hQ2
  have HM2 := hid hP2
  clear he hp2 hq2 hf2 hQ2 hP2 HC HQa HSa HQ1 HS1 HL1 HM1
  go_wp2_with fail
  refine (HEd.out _).mono ?_
  rintro e u2 ⟨he, h1⟩
  rw [he]
  have hq1 := HQ2.out.still h1
  have hs1 := HS2.out.trans h1
  have HC := hid (qPush_any kd L2 p p _ HL2.out u2 (by have := hs1.size; omega) hq1)
  have HQa := hid hq1
  have HSa := hid hs1
  clear he h1 hq1 hs1 
  go_wp2_with fail
  refine HC.out.mono ?_
  rintro e w3 ⟨c, v3, L3, he, hp2, hq2, hf2, _⟩
  rw [he]
  obtain ⟨rfl, hQ2, hP2⟩ := hp2.new HM2.out (by decide) (by decide)
  have HQ3 := hid hq2
  have HS3 := hid (HQa.out.stl HSa.out (Nat.le_of_eq hpw) hf2)
  have HL3 := hid hQ2
  have HM3 := hid hP2
  clear he hp2 hq2 hf2 hQ2 hP2 HC HQa HSa HQ2 HS2 HL2 HM2
  go_wp2_with fail
  refine (HEd.out _).mono ?_
  rintro e u3 ⟨he, h1⟩
  rw [he]
  have hq1 := HQ3.out.still h1
  have hs1 := HS3.out.trans h1
  have HC := hid (qPush_any kd L3 p p _ HL3.out u3 (by have := hs1.size; omega) hq1)
  have HQa := hid hq1
  have HSa := hid hs1
  clear he h1 hq1 hs1 
  go_wp2_with fail
  refine HC.out.mono ?_
  rintro e w4 ⟨c, v4, L4, he, hp2, hq2, hf2, _⟩
  rw [he]
  obtain ⟨rfl, rfl⟩ := hp2.old HM3.out (by decide)
  have HQ4 := hid hq2
  have HS4 := hid (HQa.out.stl HSa.out (Nat.le_of_eq hpw) hf2)
  have HL4 := HL3
  have HM4 := HM3
  clear he hp2 hq2 hf2 HC HQa HSa HQ3 HS3 HL3 HM3
  have hl4 : 0 < L4.length := by rw [HM4.out.length_eq]; decide
  have HC := hid (qPeek_some L4 p p v4 hl4 w4 HQ4.out)
  rw [aw_least HL4.out HM4.out] at HC
  go_wp2_with fail
  refine HC.out.mono ?_
  rintro e w5 ⟨he, h5⟩
  rw [he]
  have HQ5 := hid (HQ4.out.still h5)
  have HS5 := hid (HS4.out.trans h5)
  clear he h5 HC HQ4 HS4
  have A6 := Still.alloc w5 (.cells (ecs kd) 38)
  obtain ⟨W6, eW6⟩ : ∃ W, newE w5 kd = W := ⟨_, rfl⟩
  have HQ6 : Hid (Qk W6 p p v4 L4) := hid (by rw [← eW6]; exact HQ5.out.still A6)
  have HX6 : Hid (Eb W6 w5.heap.size kd) := hid (by rw [← eW6]; exact newE_eb w5 kd)
  have HS6 : Hid (Still w W6) := hid (by rw [← eW6]; exact HS5.out.trans A6)
  have HG : Hid (p < w5.heap.size ∧ v4.ownBlock ≠ some w5.heap.size) := hid ⟨block_lt HQ5.out.bk, fun e => by have := (HQ5.out.ow.block e).2; omega⟩
  obtain ⟨gx, egx⟩ : ∃ g, w5.heap.size = g := ⟨_, rfl⟩
  have hgx : gx < W6.heap.size := by rw [← eW6, ← egx]; simp
  have HC := hid (qBelow_any L4 2 p p v4 HL4.out W6 HQ6.out)
  have HA := hid (fun O M (h : Cm L4 O M) h1 h2 => aw_below h HM4.out h1 h2)
  clear A6 HQ5 HS5 HM4
  go_wp2_with fail
  refine HC.out.mono ?_
  rintro e w7 ⟨ov, v7, O, M, he, ho7, hc7, h71, h72, hu7, hq7, hf7, hb7⟩
  rw [he]
  obtain ⟨rfl, rfl⟩ := HA.out O M hc7 h71 h72
  rw [egx] at HX6 HG
  clear eW6 egx he HC HA hc7 h71 h72
  have HX7 := hid (HX6.out.fr HQ6.out (by have := HG.out.1; omega) HG.out.2 hf7)
  have HS7 := hid (HQ6.out.stl HS6.out (Nat.le_of_eq hpw) hf7)
  obtain ⟨gl, cl, rfl, hgl, hgl2⟩ := ho7.head (by decide)
  have HO7 := hid ho7
  have HV7 : Hid (v7.ownBlock ≠ some gx ∧ v7.ownBlock ≠ some gl ∧ gl ≠ p) := hid ⟨by rw [hb7]; exact HG.out.2, fun e => by rw [hb7] at e; have := (HQ6.out.ow.block e).2; omega, by have := HG.out.1; omega⟩
  have HC := hid (qPop_some [ka] p p v7 hu7 (by decide) w7 hq7)
  rw [show att [ka] 0 = ka from rfl] at HC
  have HQ7 := hid hq7
  have hgx7 : gx < w7.heap.size := block_lt HX7.out
  clear ho7 hu7 hq7 hf7 hb7 HX6 HQ6 HS6
  go_wp2_with fail
  refine HC.out.mono ?_
  rintro e w8 ⟨he, v8, M8, hp8, hu8, hq8, hf8, hb8⟩
  rw [he]
  obtain rfl : M8 = [] := by have := hp8.length_eq; simp at this; exact this
  clear he HC hp8 hu8
  have HX8 := hid (HX7.out.fr HQ7.out (by have := HG.out.1; omega) HV7.out.1 hf8)
  have HS8 := hid (HQ7.out.stl HS7.out (Nat.le_of_eq hpw) hf8)
  have HO8 := hid (HO7.out.keep hf8 (fun k hk e => by
    have e : gl = k := by simpa [Value.ownBlock] using e
    subst e
    rcases hk with h | h
    · exact HV7.out.2.2 h
    · exact HV7.out.2.1 h))
  have A9 := Still.alloc w8 (.cells (ecs ka) 38)
  obtain ⟨W9, eW9⟩ : ∃ W, newE w8 ka = W := ⟨_, rfl⟩
  have HQ9 : Hid (Qk W9 p p v8 []) := hid (by rw [← eW9]; exact hq8.still A9)
  have HX9 : Hid (Eb W9 gx kd) := hid (by rw [← eW9]; exact HX8.out.still A9)
  have HY9 : Hid (Eb W9 w8.heap.size ka) := hid (by rw [← eW9]; exact newE_eb w8 ka)
  have HO9 : Hid (OwG KE 38 W9 W6.heap.size (.slice (some ⟨gl, 0, none⟩) [kd, kb].length cl) [kd, kb]) := hid (by rw [← eW9]; exact HO8.out.still A9)
  have HS9 : Hid (Still w W9) := hid (by rw [← eW9]; exact HS8.out.trans A9)
  obtain ⟨gy, egy⟩ : ∃ g, w8.heap.size = g := ⟨_, rfl⟩
  have HC := hid (qPop_nil p p v8 W9 HQ9.out)
  clear A9 HX7 HS7 HO7 HQ7 HX8 HS8 HO8 hq8 hf8 hb8
  go_wp2_with fail
  refine HC.out.mono ?_
  rintro e w10 ⟨he, h10⟩
  rw [he]
  rw [egy] at HY9
  clear eW9 egy he HC
  have HX10 := hid (HX9.out.still h10)
  have HY10 := hid (HY9.out.still h10)
  have HO10 := hid (HO9.out.still h10)
  have HS10 := hid (HS9.out.trans h10)
  clear HX9 HY9 HO9 HS9 HQ9 h10
  have A11 := Still.alloc w10 (.cells (ecs zE) 38)
  obtain ⟨W11, eW11⟩ : ∃ W, newE w10 zE = W := ⟨_, rfl⟩
  have HX11 : Hid (Eb W11 gx kd) := hid (by rw [← eW11]; exact HX10.out.still A11)
  have HY11 : Hid (Eb W11 gy ka) := hid (by rw [← eW11]; exact HY10.out.still A11)
  have HO11 : Hid (OwG KE 38 W11 W6.heap.size (.slice (some ⟨gl, 0, none⟩) [kd, kb].length cl) [kd, kb]) := hid (by rw [← eW11]; exact HO10.out.still A11)
  have HS11 : Hid (Still w W11) := hid (by rw [← eW11]; exact HS10.out.trans A11)
  clear A11 HX10 HY10 HO10 HS10
  go_wp2_with fail
  refine (HEd.out _).mono ?_
  rintro e w12 ⟨he, h12⟩
  rw [he]
  clear he eW11
  have HX12 := hid (HX11.out.still h12)
  have HY12 := hid (HY11.out.still h12)
  have HO12 := hid (HO11.out.still h12)
  have HS12 := hid (HS11.out.trans h12)
  clear HX11 HY11 HO11 HS11 h12
  go_wp2_with fail
  refine (HEb.out _).mono ?_
  rintro e w13 ⟨he, h13⟩
  rw [he]
  clear he
  have A14 := Still.alloc w13 (.cells (ecs2 kd kb) 38)
  have HX14 := hid ((HX12.out.still h13).still A14)
  have HY14 := hid ((HY12.out.still h13).still A14)
  have HO14 := hid ((HO12.out.still h13).still A14)
  have HR14 := hid (rd_two w13 kd kb)
  have HS14 := hid ((HS12.out.trans h13).trans A14)
  obtain ⟨W14, eW14⟩ : ∃ W, w13.alloc (.cells (ecs2 kd kb) 38) = W := ⟨_, rfl⟩
  rw [eW14] at HX14 HY14 HO14 HR14 HS14
  clear A14 HX12 HY12 HO12 HS12 h13
  go_upto_region 14 with fail
  obtain ⟨gw, egw⟩ : ∃ g, w13.heap.size = g := ⟨_, rfl⟩
  rw [egw] at HR14 ⊢
  clear eW14 egw
  have HSa := hid (fun z : Aft W14 => rsame_t [kd, kb] (some ⟨gl, 0, none⟩) (some ⟨gw, 0, none⟩) 2 cl 2 z.u ((HO14.out.rdE rfl (by decide)).still z.s) (HR14.out.still z.s))
  have HEa := hid (fun w => qent_any 3 0 1 w)
  obtain ⟨c0, c1, c2, c3, c4, c5, c6, c7, _⟩ := HX14.out.cells
  obtain ⟨d0, d1, d2, d3, d4, d5, d6, d7, _⟩ := HY14.out.cells
  obtain ⟨b0, b1, b2, b3, b4, b5, b6, b7⟩ := rdE HR14.out (i := 0) (by decide)
  rw [show att [kd, kb] 0 = kd from rfl] at b0 b1 b2 b3 b4 b5 b6 b7
  simp only [Nat.zero_mul, Nat.zero_add] at b0 b1 b2 b3 b4 b5 b6 b7
  have k0 := Cl.cell c0
  have k1 := Cl.cell c1
  have k2 := Cl.cell c2
  have k3 := Cl.cell c3
  have k4 := Cl.cell c4
  have k5 := Cl.cell c5
  have k6 := Cl.cell c6
  have k7 := Cl.cell c7
  have l0 := Cl.cell d0
  have l1 := Cl.cell d1
  have l2 := Cl.cell d2
  have l3 := Cl.cell d3
  have l4 := Cl.cell d4
  have l5 := Cl.cell d5
  have l6 := Cl.cell d6
  have l7 := Cl.cell d7
  have m0 := Cl.cell b0
  have m1 := Cl.cell b1
  have m2 := Cl.cell b2
  have m3 := Cl.cell b3
  have m4 := Cl.cell b4
  have m5 := Cl.cell b5
  have m6 := Cl.cell b6
  have m7 := Cl.cell b7
  have hne := Aft.here W14
  have q1 := fun w => eql_ev_t kd w
  have q2 := fun w => eql_ev_t ka w
  have hg := fun a b xs ys w => guard_ev .eql a b xs ys w
  clear c0 c1 c2 c3 c4 c5 c6 c7 d0 d1 d2 d3 d4 d5 d6 d7 b0 b1 b2 b3 b4 b5 b6 b7
  refine region_all (by kernel_rfl) (by kernel_rfl) ?_
  repeat (go_big_quiet_step ((first | (go_at_call 20; with_reducible exact Calls.cl (HSa.out _)) | (go_at_call 18; with_reducible exact Calls.cl (HEa.out _)) | rfl)))
  refine wpQuiet_nil ?_
  intro w15 h15
  have HS15 := hid (HS14.out.trans h15)
  clear h15 hne k0 k1 k2 k3 k4 k5 k6 k7 l0 l1 l2 l3 l4 l5 l6 l7 m0 m1 m2 m3 m4 m5 m6 m7 q1 q2 hg
  go_wp2_with fail
  (try simp only [Exit.inBlock, Exit.then])
  go_ret
  exact ⟨rfl, HS15.out⟩
end Go.Proofs.Ytgpmjlibanoapaa
