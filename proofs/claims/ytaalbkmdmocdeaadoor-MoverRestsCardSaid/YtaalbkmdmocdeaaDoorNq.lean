/- What may be stays so: plain words on movers. -/
import Derived.Test.YtaalbkmdmocdeaaDoorNp

namespace Go.Proofs.YtaalbkmdmocdeaaDoor.Np
open Pu Gp Ap Vp

theorem bnd_in (n : Int) : -2147483647 ≤ bnd n ∧ bnd n ≤ 2147483647 := by
  unfold bnd
  repeat' split
  all_goals omega
theorem bnd_id {n : Int} (h1 : -2147483647 ≤ n) (h2 : n ≤ 2147483647) : bnd n = n := by
  unfold bnd
  rw [if_neg (by omega), if_neg (by omega)]
theorem may_start (x y f : Int) : May (startM x y f) := by
  have h1 := bnd_in x
  have h2 := bnd_in y
  unfold May startM
  simp only
  refine ⟨⟨h1.1, h1.2, h2.1, h2.2⟩, ?_⟩
  simp
  omega
/-- an order that may be -/
theorem chk_rng {v a b c : Int} (h : chkO v a b c = 0) : (v = 1 ∧ -8 ≤ a ∧ a ≤ 8 ∧ -8 ≤ b ∧ b ≤ 8) ∨ v = 2 ∨ (v = 3 ∧ 0 ≤ a ∧ a ≤ 15) ∨ (v = 4 ∧ 1 ≤ a ∧ a ≤ 3) ∨ (v = 5 ∧ 0 ≤ a ∧ a ≤ 1) ∨ (v = 6 ∧ 0 ≤ a ∧ a ≤ 15) ∨ (v = 7 ∧ 0 ≤ a ∧ a ≤ 255) := by
  unfold chkO at h
  split at h
  · rename_i hv
    split at h
    · rename_i ho
      unfold okO at ho
      simp only [Bool.and_eq_true, decide_eq_true_eq] at ho
      obtain ⟨⟨⟨h1, h2⟩, h3⟩, h4⟩ := ho
      rcases verbs hv with rfl | rfl | rfl | rfl | rfl | rfl | rfl <;> simp [lo, hi, loL, hiL] at h1 h2 h3 ⊢ <;> omega
    · cases h
  · cases h
theorem unit_in : ∀ d : Nat, d < 16 → (-1024 ≤ mulf (ux d) 1024 ∧ mulf (ux d) 1024 ≤ 1024) ∧ (-1024 ≤ mulf (uy d) 1024 ∧ mulf (uy d) 1024 ≤ 1024) := by decide
theorem may_deed {m : Mv} {v a b c : Int} (hm : May m) (hc : chkO v a b c = 0) (hd : doneA m v a = true) : May (deed m v a b) := by
  have hu := unit_in (a % 16).toNat (by omega)
  have hr := chk_rng hc
  unfold doneA at hd
  simp only [Bool.and_eq_true, beq_iff_eq] at hd
  obtain ⟨h0, hd⟩ := hd
  obtain ⟨g1, g2, g3, g4, g5, g6, g7, g8, g9, g10, g11⟩ := hm
  have h1 := g10 h0
  clear g10 g11
  unfold deed
  rcases hr with ⟨rfl, hr⟩ | rfl | ⟨rfl, hr⟩ | ⟨rfl, hr⟩ | ⟨rfl, hr⟩ | ⟨rfl, hr⟩ | ⟨rfl, hr⟩ <;> simp at hd ⊢ <;> refine ⟨?_, ?_, ?_, ?_, ?_, ?_, ?_, ?_, ?_, ?_, ?_⟩ <;> simp only <;> first | omega | (intro hh; omega)
theorem may_act {m : Mv} {v a b c : Int} (he : errA m v a b c = 0) : May (actM m v a b c) := by
  have hm : May m := by
    unfold errA at he
    split at he
    · exact mayB_iff.1 (by assumption)
    · cases he
  have hc : chkO v a b c = 0 := by
    unfold errA at he
    rw [if_pos (mayB_iff.2 hm)] at he
    exact he
  unfold actM
  rw [if_pos he]
  split
  · exact may_deed hm hc (by assumption)
  · exact hm
theorem spd_in (s p : Int) : -1024 ≤ spd s p ∧ spd s p ≤ 1024 := by
  unfold spd clampf
  have h1 : bnd (-1024) = -1024 := by decide
  have h2 : bnd 1024 = 1024 := by decide
  rw [h1, h2]
  repeat' split
  all_goals omega
theorem half_in {n : Int} (h1 : -1024 ≤ n) (h2 : n ≤ 1024) : -1024 ≤ -(n.tdiv 2) ∧ -(n.tdiv 2) ≤ 1024 := by
  rcases Int.le_total 0 n with h | h
  · rw [Int.tdiv_eq_ediv_of_nonneg h]; omega
  · have e : n.tdiv 2 = -((-n).tdiv 2) := by rw [Int.neg_tdiv]; omega
    rw [e, Int.tdiv_eq_ediv_of_nonneg (by omega)]; omega
theorem may_glide {m : Mv} (sol : Int → Int → Bool) (hm : May m) : May (gliM sol m) := by
  unfold gliM
  rw [if_pos (mayB_iff.2 hm)]
  unfold glideM
  split
  · rename_i h0
    obtain ⟨g1, g2, g3, g4, g5, g6, g7, g8, g9, g10, g11⟩ := hm
    have hs := spd_in m.sx m.px
    have ht := spd_in m.sy m.py
    have hs2 := half_in hs.1 hs.2
    have ht2 := half_in ht.1 ht.2
    refine ⟨?_, ?_, g3, g4, g5, g6, g7, g8, g9, g10, fun h => absurd h0 h⟩
    · exact ⟨(bnd_in _).1, (bnd_in _).2, (bnd_in _).1, (bnd_in _).2⟩
    · simp only
      refine ⟨?_, ?_, ?_, ?_⟩ <;> split <;> omega
  · exact hm
theorem tak_in {m : Mv} {h : Int} (hm : May m) (h1 : 1 ≤ h) : 0 ≤ tak m h ∧ tak m h ≤ m.en ∧ tak m h ≤ h := by
  have := hm.2.2.2.2.2.1
  unfold tak
  split <;> omega
theorem may_hurt {m : Mv} {h : Int} (he : errH m h = 0) : May (hurM m h) := by
  have hm : May m := by
    unfold errH at he
    split at he
    · exact mayB_iff.1 (by assumption)
    · cases he
  have hh : 1 ≤ h ∧ h ≤ 100 := by
    unfold errH at he
    rw [if_pos (mayB_iff.2 hm)] at he
    split at he
    · cases he
    · omega
  unfold hurM
  rw [if_pos he]
  have ht := tak_in hm hh.1
  have hm0 := hm
  obtain ⟨g1, g2, g3, g4, g5, g6, g7, g8, g9, g10, g11⟩ := hm
  unfold hurtM
  split
  · rename_i h0
    split
    · unfold outM May
      simp only
      refine ⟨g1, ?_⟩
      simp
      omega
    · refine ⟨g1, g2, g3, g4, ?_, ?_, g7, g8, g9, ?_, fun h => absurd h0 h⟩ <;> simp only <;> omega
  · exact hm0
theorem may_rest {m : Mv} (x y : Int) (hm : May m) : May (resM m x y) := by
  unfold resM
  rw [if_pos (mayB_iff.2 hm)]
  have hm0 := hm
  obtain ⟨g1, g2, g3, g4, g5, g6, g7, g8, g9, g10, g11⟩ := hm
  unfold restM
  split
  · have := may_start x y m.fc
    obtain ⟨k1, k2, k3, k4, k5, k6, k7, k8, k9, k10, k11⟩ := this
    exact ⟨k1, k2, k3, k4, k5, k6, k7, k8, g9, k10, k11⟩
  · split
    · obtain ⟨e1, e2, e3, e4, e5, e6, e7, e8⟩ := g11 (by omega)
      refine ⟨g1, g2, g3, g4, g5, g6, g7, ?_, g9, ?_, fun _ => ⟨e1, e2, e3, e4, e5, e6, e7, e8⟩⟩ <;> simp only <;> omega
    · have h0 : m.ou = 0 := by omega
      refine ⟨g1, g2, g3, g4, g5, ?_, ?_, g8, g9, g10, fun h => absurd h0 h⟩ <;> simp only
      · repeat' split
        all_goals omega
      · split <;> omega
end Go.Proofs.YtaalbkmdmocdeaaDoor.Np
