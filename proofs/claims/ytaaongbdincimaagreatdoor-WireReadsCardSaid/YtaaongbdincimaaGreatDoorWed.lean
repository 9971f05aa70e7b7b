/- The document's eye: a command that is one. -/
import Derived.Test.YtaaongbdincimaaGreatDoorWec
namespace Go.Proofs.YtaaongbdincimaaGreatDoor
open Go.RowKit
open Wp Vp
set_option maxRecDepth 100000
set_option linter.unusedVariables false
set_option linter.unusedSimpArgs false

set_option maxHeartbeats 4000000 in
/-- where it is one -/
theorem ecm_yes (q p : Nat) (s : Rs) (mk f sq : Int) (hyes : eOkC s = true) (w : World) (hO : ∀ u, Fr (RF q p) w u → OTab u) (h : Ez w q p s) : Calls Tryz.prog 52 #[.pointer (some ⟨q, 0, none⟩), .int .i64 f, .int .i64 sq, .int .i64 mk] w fun r w' => r = .returned (kmv (eCmM mk f sq s).1) ∧ Te w w' q p (eCmM mk f sq s).2 := by
  have A0 := Still.alloc w (.cells #[.int .i64 0, .int .i64 0, .int .i64 0, .int .i64 0, .int .i64 0, .int .i64 0, .int .i64 0] 42)
  have b0 : Ccb (w.alloc (.cells #[.int .i64 0, .int .i64 0, .int .i64 0, .int .i64 0, .int .i64 0, .int .i64 0, .int .i64 0] 42)) w.heap.size zC := heap_alloc_new w _
  have h0 := h.still A0
  obtain ⟨c0, _, _⟩ := h0.cells
  have HC := hid (eint_any q p s _ h0)
  have HY1 : Hid ((inM s).2.y = s.y) := hid rfl
  have HBy := hid (fun (u : World) (b : Bool) (hu : Ez u q p ⟨(inM s).2.bs, (inM s).2.e, b⟩) => ebyte_any q p ⟨(inM s).2.bs, (inM s).2.e, b⟩ u hu)
  have HBe : Hid (∀ b : Bool, byM ⟨(inM s).2.bs, (inM s).2.e, b⟩ = ((byM (inM s).2).1, ⟨(byM (inM s).2).2.bs, (byM (inM s).2).2.e, b⟩)) := hid (fun b => rfl)
  obtain ⟨W, eW⟩ : ∃ W, w.alloc (.cells #[.int .i64 0, .int .i64 0, .int .i64 0, .int .i64 0, .int .i64 0, .int .i64 0, .int .i64 0] 42) = W := ⟨_, rfl⟩
  obtain ⟨g, eg⟩ : ∃ g, w.heap.size = g := ⟨_, rfl⟩
  rw [eW] at A0 b0 h0 c0 HC
  rw [eg] at b0
  have HG : Hid (w.heap.size ≤ g ∧ ¬ RF q p g) := hid ⟨by omega, by have := h.lt; exact RF.ne h.lt (by omega)⟩
  have HQ := hid h.lt
  have HA := hid A0
  have HB := hid b0
  have HE : Hid (eCmM mk f sq s = mB (opM (nOp (nm (byM (inM s).2).1)) 0 (0, 0, 0)) (fun t => mR ⟨IntKind.i64.wrap (mk + (inM s).1), f, sq, nm (byM (inM s).2).1, t.1, t.2.1, t.2.2⟩) ⟨(byM (inM s).2).2.bs, (byM (inM s).2).2.e, false⟩) := hid (if_pos hyes)
  obtain ⟨R, eR⟩ : ∃ R, eCmM mk f sq s = R := ⟨_, rfl⟩
  rw [eR] at HE ⊢
  clear eR
  unfold eOkC dsB at hyes
  obtain ⟨far, S1, e1⟩ : ∃ a b, inM s = (a, b) := ⟨_, _, rfl⟩
  rw [e1] at HC HY1 HBy HBe hyes HE
  dsimp only at HC HY1 HBy HBe hyes HE
  obtain ⟨vb, S2, e2⟩ : ∃ a b, byM S1 = (a, b) := ⟨_, _, rfl⟩
  rw [e2] at HBe hyes HE
  dsimp only at HBe hyes HE
  clear e1 e2 A0 b0 h0 h
  have HIs := hid (fun u => ris_any (nm vb) u)
  obtain ⟨vv, ev⟩ : ∃ v, nm vb = v := ⟨_, rfl⟩
  have HVv : Hid (nm vb = vv) := hid ev
  have hvr : 0 ≤ vv ∧ vv < 256 := by rw [← ev]; unfold nm; have := vb.toNat_lt; omega
  rw [ev] at HIs hyes HE
  clear ev
  simp only [Bool.and_eq_true, decide_eq_true_eq, Bool.not_eq_true'] at hyes
  obtain ⟨hy, ⟨k1, k2⟩, hiv, k3⟩ := hyes
  rw [hy] at HY1
  rw [hiv] at HIs
  have HE0 := hid k3
  clear hy hiv k3
  have fin : ∀ (b : Bool) (w1 : World), Te W w1 q p S1 → Te W (w1.setCell ⟨q, 1, none⟩ (.bool b)) q p ⟨S1.bs, S1.e, !b⟩ := fun b w1 h1 => h1.trans (h1.r.put b)
  have HF := hid fin
  have HOT := hid hO
  clear fin hO
  obtain ⟨v0, v1⟩ := hvr
  go_enter Tryz.func52, Tryz.ntmps52
  go_wp2_with fail
  refine HC.out.mono ?_
  rintro e w1 ⟨he, h1⟩
  rw [he]
  obtain ⟨d0, d1, df⟩ := h1.r.cells
  rw [HY1.out] at d1
  have HH := hid (HF.out true w1 h1)
  clear he h1 c0 HC
  go_upto_region 3 with fail
  obtain ⟨w2, e2⟩ : ∃ u, w1.setCell ⟨q, 1, none⟩ (.bool true) = u := ⟨_, rfl⟩
  rw [e2] at HH ⊢
  clear e2 d0 d1 df
  have HC := hid (HBy.out w2 (!true) HH.out.r)
  rw [HBe.out] at HC
  dsimp only at HC
  rw [HVv.out] at HC
  obtain ⟨d0, _, _⟩ := HH.out.r.cells
  go_wp2_with fail
  refine HC.out.mono ?_
  rintro e w3 ⟨he, h3⟩
  rw [he]
  have HT := hid (HH.out.trans h3)
  clear he h3 HC HH d0
  go_wp2_with fail
  refine (HIs.out _).mono ?_
  rintro e w4 ⟨he, e4⟩
  rw [he]
  subst e4
  obtain ⟨d0, d1, df⟩ := HT.out.r.cells
  have d2 := HT.out.r.err
  dsimp only at d1 d2
  rw [HE0.out] at d2
  have HH2 := hid (HT.out.trans (HT.out.r.put true))
  clear he HT
  go_upto_region 6 with fail
  obtain ⟨w5, e5⟩ : ∃ u, w4.setCell ⟨q, 1, none⟩ (.bool true) = u := ⟨_, rfl⟩
  rw [e5] at HH2 ⊢
  clear e5 d0 d1 d2 df
  obtain ⟨d0, d1, df⟩ := HH2.out.r.cells
  dsimp only at d1
  have T5 := Te.from HA.out HH2.out
  have X5 := HH2.out.ccb HG.out.2 HB.out
  have A6 := Still.alloc w5 (.cells #[.int .i64 0, .int .i64 0, .int .i64 0] 3)
  have t6 : Tri (w5.alloc (.cells #[.int .i64 0, .int .i64 0, .int .i64 0] 3)) w5.heap.size (0, 0, 0) := heap_alloc_new w5 _
  have T6 := T5.still A6
  have X6 := X5.still A6
  have hsz6 : w.heap.size ≤ w5.heap.size := T5.f.size
  have hgh : g < w5.heap.size := block_lt X5
  obtain ⟨W6, eW6⟩ : ∃ W, w5.alloc (.cells #[.int .i64 0, .int .i64 0, .int .i64 0] 3) = W := ⟨_, rfl⟩
  obtain ⟨h, eh⟩ : ∃ h, w5.heap.size = h := ⟨_, rfl⟩
  rw [eW6] at t6 T6 X6
  rw [eh] at t6 hsz6 hgh
  have HC := hid (roper_any vv W6 (HOT.out _ T6.f))
  have HT6 := hid T6
  have HX6 := hid X6
  have Ht6 := hid t6
  have HSz := hid hsz6
  have HGh := hid hgh
  clear HH2 T5 X5 A6 t6 T6 X6 hsz6 hgh
  go_wp2_with fail
  refine HC.out.mono ?_
  rintro e w7 ⟨xx, he, ho7, h7⟩
  rw [he]
  obtain ⟨xo, xc, exx, _⟩ := ho7.slice
  subst exx
  have hno : (opV vv).length = nOp vv := rfl
  rw [hno]
  have hn2 := nOp_le vv
  obtain ⟨N, eN⟩ : ∃ N, nOp vv = N := ⟨_, rfl⟩
  rw [eN] at hn2 HE ⊢
  have HT7 := hid (HT6.out.still h7)
  have HX7 := hid (HX6.out.still h7)
  have Ht7 : Hid (Tri w7 h (0, 0, 0)) := hid (h7.kept_still Ht6.out)
  clear he ho7 h7 hno eN HC HT6 HX6 Ht6 d0 d1 df
  go_wp2_with fail
  go_loopw [14] (fun vi wr => ∃ (k : Nat) (t : Int × Int × Int) (S : Rs), k ≤ N ∧ vi = .int .i64 (k : Int) ∧ Hid (Tri wr h t ∧ Ccb wr g zC ∧ Te w wr q p S ∧ opM (N - k) k t S = opM N 0 (0, 0, 0) ⟨S2.bs, S2.e, false⟩)) (fun vi _ => N - (intOf vi).toNat)
  case atStart => exact ⟨0, (0, 0, 0), _, Nat.zero_le _, rfl, hid ⟨Ht7.out, HX7.out, HT7.out, rfl⟩⟩
  case round =>
    clear Ht7 HX7 HT7
    obtain ⟨k, t, S, hk, rfl, HH⟩ := hrel
    by_cases hlt : k < N
    · have hlt' : (k : Int) < (N : Int) := by omega
      obtain ⟨d0, _, _⟩ := HH.out.2.2.1.r.cells
      have HC := hid (eint_any q p S wr HH.out.2.2.1.r)
      have HSt : Hid (opM (N - k) k t S = opM (N - (k + 1)) (k + 1) (put3 t k (inM S).1) (inM S).2) := hid (by rw [show N - k = (N - (k + 1)) + 1 by omega]; rfl)
      obtain ⟨x, S', ex⟩ : ∃ a b, inM S = (a, b) := ⟨_, _, rfl⟩
      rw [ex] at HC HSt
      dsimp only at HC HSt
      clear ex
      go_wp2_with fail
      refine HC.out.mono ?_
      rintro e wa ⟨he, ha⟩
      rw [he]
      have ta : Tri wa h t := ha.tri (RF.ne HQ.out HSz.out) HH.out.1
      have xa : Ccb wa g zC := ha.ccb HG.out.2 HH.out.2.1
      have Ta := HH.out.2.2.1.trans ha
      clear he ha d0
      rcases (show k = 0 ∨ k = 1 by omega) with rfl | rfl
      · obtain ⟨t0, t1, t2, tf⟩ := ta.cells
        have f1 := (Fr.refl (fun b => b = h) wa).setCell ⟨h, 0, none⟩ (.int .i64 x) (.inl rfl)
        have tb : Tri (wa.setCell ⟨h, 0, none⟩ (.int .i64 x)) h (put3 t 0 x) := by unfold Tri; rw [heap_setCell_same _ h 0 _ _ _ ta]; rfl
        have HN := hid (And.intro tb (And.intro (show Ccb (wa.setCell ⟨h, 0, none⟩ (.int .i64 x)) g zC from f1.kept xa (by have := HGh.out; omega)) (Ta.other ta (by decide) HQ.out HSz.out f1)))
        clear ta xa Ta f1 tb HC
        go_wp2_with fail
        go_roundw
        case rel => exact ⟨0 + 1, _, S', by omega, by go_num, hid ⟨HN.out.1, HN.out.2.1, HN.out.2.2, HSt.out.symm.trans HH.out.2.2.2⟩⟩
        case measure => simp [intOf]; omega
      · obtain ⟨t0, t1, t2, tf⟩ := ta.cells
        have f1 := (Fr.refl (fun b => b = h) wa).setCell ⟨h, 1, none⟩ (.int .i64 x) (.inl rfl)
        have tb : Tri (wa.setCell ⟨h, 1, none⟩ (.int .i64 x)) h (put3 t 1 x) := by unfold Tri; rw [heap_setCell_same _ h 1 _ _ _ ta]; rfl
        have HN := hid (And.intro tb (And.intro (show Ccb (wa.setCell ⟨h, 1, none⟩ (.int .i64 x)) g zC from f1.kept xa (by have := HGh.out; omega)) (Ta.other ta (by decide) HQ.out HSz.out f1)))
        clear ta xa Ta f1 tb HC
        go_wp2_with fail
        go_roundw
        case rel => exact ⟨1 + 1, _, S', by omega, by go_num, hid ⟨HN.out.1, HN.out.2.1, HN.out.2.2, HSt.out.symm.trans HH.out.2.2.2⟩⟩
        case measure => simp [intOf]; omega
    · have hge : ¬ (k : Int) < (N : Int) := by omega
      obtain rfl : k = N := by omega
      have HO : Hid (opM k 0 (0, 0, 0) ⟨S2.bs, S2.e, false⟩ = (t, S)) := hid (by rw [← HH.out.2.2.2, Nat.sub_self]; rfl)
      obtain ⟨t0, t1, t2, _⟩ := HH.out.1.cells
      have y0 := Cl.cell t0
      have y1 := Cl.cell t1
      have y2 := Cl.cell t2
      have hne := Aft.here wr
      clear t0 t1 t2
      go_upto_region 15 with fail
      refine region_rest 17 (by kernel_rfl) (by kernel_rfl) ?_
      simp only [List.take_succ_cons, List.take_zero, List.drop_succ_cons, List.drop_zero]
      repeat (go_big_quiet_step (fail))
      refine wpQuiet_nil ?_
      intro wz hz
      have HX := hid (HH.out.2.1.still hz)
      have HZ := hid ((HH.out.2.2.1.still hz).other HX.out (by decide) HQ.out HG.out.1 (setCc_fr (Fr.refl _ _) g ⟨wrap64 (mk + far), f, sq, vv, t.1, t.2.1, t.2.2⟩ (.inl rfl)))
      have HRR : Hid (R = (⟨wrap64 (mk + far), f, sq, vv, t.1, t.2.1, t.2.2⟩, S)) := hid (by rw [HE.out]; unfold mB mR; rw [HO.out, IntWalk.i64_left])
      obtain ⟨n0, n1, n2, n3, n4, n5, n6, nf⟩ := HX.out.cells
      clear hne hz y0 y1 y2
      go_wp2_with fail
      rw [HRR.out]
      exact bodyPost_ret ((HX.out.set ⟨wrap64 (mk + far), f, sq, vv, t.1, t.2.1, t.2.2⟩).res rfl _ rfl) rfl ⟨rfl, HZ.out⟩
theorem ecm_any (q p : Nat) (s : Rs) (mk f sq : Int) (w : World) (hO : ∀ u, Fr (RF q p) w u → OTab u) (h : Ez w q p s) : Calls Tryz.prog 52 #[.pointer (some ⟨q, 0, none⟩), .int .i64 f, .int .i64 sq, .int .i64 mk] w fun r w' => r = .returned (kmv (eCmM mk f sq s).1) ∧ Te w w' q p (eCmM mk f sq s).2 := by
  cases hok : eOkC s with
  | true => exact ecm_yes q p s mk f sq hok w hO h
  | false =>
    have e1 : eCmM mk f sq s = (zC, ⟨(byM (inM s).2).2.bs, (byM (inM s).2).2.e, true⟩) := by unfold eCmM; rw [if_neg (by rw [hok]; decide)]
    rw [e1]
    exact ecm_no q p s mk f sq hok w h
end Go.Proofs.YtaaongbdincimaaGreatDoor
