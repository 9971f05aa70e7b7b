/- The law on free bodies and rays: what the walk asks, from the plain facts. -/
import Derived.Test.YtnoaomocdmkigabLe
namespace Go.Proofs.Ytnoaomocdmkigab
open Go.RowKit
open Pu Gp Ap

theorem tou_pt (C R x y : Int) (s : ByteArray) (hx : inB2 x) (hy : inB2 y) : touB C R s x y x y = solB C R s (dn x) (dn y) := by
  unfold touB
  rw [okb_of (show okB x y x y from ⟨hx.1, hx.2, hy.1, hy.2, hx.1, hx.2, hy.1, hy.2, Int.le_refl _, Int.le_refl _⟩), Bool.true_and]
  unfold tch
  cases h : solB C R s (dn x) (dn y) with
  | true => exact anyC_iff.2 ⟨dn x, dn y, Int.le_refl _, Int.le_refl _, Int.le_refl _, Int.le_refl _, h⟩
  | false =>
    refine anyC_false fun i j h1 h2 h3 h4 => ?_
    rw [show i = dn x by omega, show j = dn y by omega]
    exact h
theorem diff_wrap {a b : Int} (ha : inB2 a) (hb : inB2 b) : IntKind.i64.wrap (a - b) = a - b := by
  unfold inB2 at *
  rw [IntKind.wrap_i64]; omega
theorem free_law (C R : Int) (s : ByteArray) (x y p q n : Int) (_hC : C ≤ 9223372036854775807) (hz : s.size ≤ 140737488355328) (w : World) :
    Calls Try.prog 4 #[ar C R s, pt x y, pt p q, .int .i64 n] w fun e w' => e = .returned (.bool true) ∧ Still w w' := by
  have hz' : s.size ≤ 281474976710656 := by omega
  have hX : inB2 (bnd x) := ⟨bnd_lo _, bnd_hi _⟩
  have hY : inB2 (bnd y) := ⟨bnd_lo _, bnd_hi _⟩
  have hP := stp_in p
  have hQ := stp_in q
  have hr := clamp_r n
  obtain ⟨X, eX⟩ : ∃ X, bnd x = X := ⟨_, rfl⟩
  obtain ⟨Y, eY⟩ : ∃ Y, bnd y = Y := ⟨_, rfl⟩
  obtain ⟨P, eP⟩ : ∃ P, stp p = P := ⟨_, rfl⟩
  obtain ⟨Q, eQ⟩ : ∃ Q, stp q = Q := ⟨_, rfl⟩
  obtain ⟨r, er⟩ : ∃ r, clampf n 0 4096 = r := ⟨_, rfl⟩
  rw [eX] at hX
  rw [eY] at hY
  rw [eP] at hP
  rw [eQ] at hQ
  rw [er] at hr
  obtain ⟨k, ek⟩ : ∃ k, kX (solB C R s) r X Y P = k := ⟨_, rfl⟩
  obtain ⟨X2, eX2⟩ : ∃ X2, addf X (sgn P * (k : Int)) = X2 := ⟨_, rfl⟩
  obtain ⟨l, el⟩ : ∃ l, kY (solB C R s) r X2 Y Q = l := ⟨_, rfl⟩
  obtain ⟨Y2, eY2⟩ : ∃ Y2, addf Y (sgn Q * (l : Int)) = Y2 := ⟨_, rfl⟩
  have hX2 : inB2 X2 := eX2 ▸ addf_in _ _
  have hY2 : inB2 Y2 := eY2 ▸ addf_in _ _
  have hk : k ≤ P.natAbs := ek ▸ kX_le _ _ _ _ _
  have hl : l ≤ Q.natAbs := el ▸ kY_le _ _ _ _ _
  have H1 := hid (fun u => slide_any C R X Y P Q n s hz' X Y P Q r X2 Y X2 Y2 k l (bnd_id hX.1 hX.2) (bnd_id hY.1 hY.2) (stp_id hP.1 hP.2) (stp_id hQ.1 hQ.2) er ek eX2 (addf_zero hY) el (addf_zero hX2) eY2 u)
  have hS := side_in k P.natAbs l Q.natAbs
  obtain ⟨m, em⟩ : ∃ m, rayN P Q = m := ⟨_, rfl⟩
  obtain ⟨j, ej⟩ : ∃ j, go (rayT (solB C R s) X Y P Q m) m = j := ⟨_, rfl⟩
  have hj : j ≤ m := ej ▸ go_le _ _
  have hm : m ≤ 32 := em ▸ rayN_le hP.1 hP.2 hQ.1 hQ.2
  have RY := hid (fun u => ray_any C R X Y P Q s hz' X Y P Q m j (bnd_id hX.1 hX.2) (bnd_id hY.1 hY.2) (stp_id hP.1 hP.2) (stp_id hQ.1 hQ.2) em ej u)
  have w3 := rp_way (j := j) hX hP.1 hP.2 hj hm
  have w4 := rp_way (j := j) hY hQ.1 hQ.2 hj hm
  have hfr : solB C R s (dn X) (dn Y) = false → solB C R s (dn (rp X P m j)) (dn (rp Y Q m j)) = false := fun h => by
    rw [← ej]; exact ray_free h
  have hend : ¬ j < m → rp X P m j = addf X P ∧ rp Y Q m j = addf Y Q := fun h => by
    obtain rfl : j = m := by omega
    exact ⟨rp_end hX fun h0 => (rayN_zero (em.trans h0)).1, rp_end hY fun h0 => (rayN_zero (em.trans h0)).2⟩
  have rpIn : ∀ {A B : Int} (_ : inB2 A), inB2 (rp A B m j) := fun {A B} h => by
    unfold rp
    split
    · exact h
    · exact addf_in _ _
  have hX3 := rpIn (B := P) hX
  have hY3 := rpIn (B := Q) hY
  obtain ⟨X3, eX3⟩ : ∃ X3, rp X P m j = X3 := ⟨_, rfl⟩
  obtain ⟨Y3, eY3⟩ : ∃ Y3, rp Y Q m j = Y3 := ⟨_, rfl⟩
  rw [eX3] at hX3 RY w3 hfr hend
  rw [eY3] at hY3 RY w4 hfr hend
  have w1 : wayP (X2 - X) P := by
    have := sgn_small hP.1 hP.2 hk
    rw [← eX2]; exact way_add hX (by omega) (by omega) (way_sgn hk)
  have w2 : wayP (Y2 - Y) Q := by
    have := sgn_small hQ.1 hQ.2 hl
    rw [← eY2]; exact way_add hY (by omega) (by omega) (way_sgn hl)
  have hwh : inB2 (X + P) → inB2 (Y + Q) → (side k P.natAbs l Q.natAbs = 0 ↔ X2 = X + P ∧ Y2 = Y + Q) := fun a b => by
    have := whole_iff hX hY hP.1 hP.2 hQ.1 hQ.2 hk hl a b
    rw [eX2, eY2] at this
    exact this
  have fP : addf X P = bnd (X + P) := addf_small hX (by omega) (by omega)
  have fQ : addf Y Q = bnd (Y + Q) := addf_small hY (by omega) (by omega)
  refine free_walk C R x y p q n X Y P Q r X2 Y2 (side k P.natAbs l Q.natAbs) (addf X P) (addf Y Q) X3 Y3 (subf X r) (subf Y r) (addf X r) (addf Y r) (subf X2 r) (subf Y2 r) (addf X2 r) (addf Y2 r) (X2 - X) (Y2 - Y) (X3 - X) (Y3 - Y) (X + P) (Y + Q)
    (bdy (solB C R s) r X Y) (bdy (solB C R s) r X2 Y2) (touB C R s X Y X Y) (touB C R s X3 Y3 X3 Y3) (decide (j < m)) (X2 == addf X P && Y2 == addf Y Q) s eX eY eP eQ er
    (diff_wrap hX2 hX) (diff_wrap hY2 hY) (diff_wrap hX3 hX) (diff_wrap hY3 hY) (by unfold inB2 at *; rw [IntKind.wrap_i64]; omega) (by unfold inB2 at *; rw [IntKind.wrap_i64]; omega)
    H1 (hid fun u => raround_r X Y r hr.1 hr.2 u) (hid fun u => raround_r X2 Y2 r hr.1 hr.2 u)
    (hid fun u => touched C R X Y r s hz' (around_ok X Y r hr.1 hr.2) rfl u) (hid fun u => touched C R X2 Y2 r s hz' (around_ok X2 Y2 r hr.1 hr.2) rfl u)
    (hid fun u => touches_any C R X Y X Y s hz' u) (hid fun u => touches_any C R X3 Y3 X3 Y3 s hz' u)
    (hid fun u => way_true _ _ w1 u) (hid fun u => way_true _ _ w2 u) (hid fun u => way_true _ _ w3 u) (hid fun u => way_true _ _ w4 u)
    (hid fun u => rgadd_any X Y P Q u) RY hS.1 hS.2 (hid ?_) (hid ?_) (fun u => eql_pt _ _ _ _ u) (hid ?_) (hid ?_) w
  · cases hb : bdy (solB C R s) r X Y with
    | true => exact .inl rfl
    | false =>
      right
      have f1 := free_X (P := P) hX hY hb
      rw [ek, eX2] at f1
      have f2 := free_Y (Q := Q) hX2 hY f1
      rw [el, eY2] at f2
      exact f2
  · rw [tou_pt C R X Y s hX hY, tou_pt C R X3 Y3 s hX3 hY3]
    cases hb : solB C R s (dn X) (dn Y) with
    | true => exact .inl rfl
    | false => exact .inr (hfr hb)
  · by_cases hb : inB2 (X + P) ∧ inB2 (Y + Q)
    · left
      rw [fP, fQ, bnd_id hb.1.1 hb.1.2, bnd_id hb.2.1 hb.2.2]
      have := hwh hb.1 hb.2
      rw [Bool.eq_iff_iff]
      simp only [decide_eq_true_eq, Bool.and_eq_true, beq_iff_eq]
      exact this
    · by_cases he : decide (side k P.natAbs l Q.natAbs = 0) = (X2 == addf X P && Y2 == addf Y Q)
      · exact .inl he
      · refine .inr ⟨he, neq_pt_t fun h => hb ?_⟩
        rw [fP, fQ] at h
        have b1 := bnd_lo (X + P); have b2 := bnd_hi (X + P); have b3 := bnd_lo (Y + Q); have b4 := bnd_hi (Y + Q)
        unfold inB2
        omega
  · by_cases h : j < m
    · exact .inl (decide_eq_true h)
    · obtain ⟨h1, h2⟩ := hend h
      exact .inr ⟨decide_eq_false h, eql_pt_t h1 h2⟩
end Go.Proofs.Ytnoaomocdmkigab
