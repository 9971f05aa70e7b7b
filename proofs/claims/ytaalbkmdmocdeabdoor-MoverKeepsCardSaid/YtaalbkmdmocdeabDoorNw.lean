/- What orders, motion, harm and rest leave as it is: plain words. -/
import Derived.Test.YtaalbkmdmocdeabDoorNq

namespace Go.Proofs.YtaalbkmdmocdeabDoor.Np
open Pu Gp Ap Vp

theorem keep_act {m : Mv} {v a b c : Int} (h0 : m.ou = 0) (he : errA m v a b c = 0) : (actM m v a b c).ax = m.ax ∧ (actM m v a b c).ay = m.ay ∧ (actM m v a b c).hl = m.hl ∧ (actM m v a b c).en ≤ m.en ∧ (actM m v a b c).ou = 0 := by
  have hm : mayB m = true := by
    unfold errA at he
    split at he
    · assumption
    · cases he
  have hc : chkO v a b c = 0 := by
    unfold errA at he
    rw [if_pos hm] at he
    exact he
  unfold actM
  rw [if_pos he]
  split
  · unfold deed
    rcases chk_rng hc with ⟨rfl, hr⟩ | rfl | ⟨rfl, hr⟩ | ⟨rfl, hr⟩ | ⟨rfl, hr⟩ | ⟨rfl, hr⟩ | ⟨rfl, hr⟩ <;> simp <;> omega
  · exact ⟨rfl, rfl, rfl, Int.le_refl _, h0⟩
theorem keep_gli {m : Mv} (hm : mayB m = true) (sol : Int → Int → Bool) : ({ gliM sol m with ax := m.ax, ay := m.ay, sx := m.sx, sy := m.sy } : Mv) = m := by
  unfold gliM
  rw [if_pos hm]
  unfold glideM
  split <;> rfl
theorem keep_hur {m : Mv} {h : Int} (h0 : m.ou = 0) (he : errH m h = 0) (hd : hurD m h = false) : m.hl + m.en - (hurM m h).hl - (hurM m h).en = h ∧ (hurM m h).ax = m.ax ∧ (hurM m h).ay = m.ay := by
  have hw : went m h = false := by
    unfold hurD at hd
    rw [he] at hd
    simpa using hd
  have hn : ¬ m.hl - (h - tak m h) ≤ 0 := by
    unfold went at hw
    rw [show (m.ou == 0) = true by simpa using h0, Bool.true_and] at hw
    simpa using hw
  unfold hurM hurtM
  rw [if_pos he, if_pos h0, if_neg hn]
  refine ⟨?_, rfl, rfl⟩
  show m.hl + m.en - (m.hl - (h - tak m h)) - (m.en - tak m h) = h
  omega
theorem keep_out {m : Mv} {h : Int} (h0 : m.ou = 0) (he : errH m h = 0) (hd : hurD m h = true) : m.hl ≤ h ∧ (hurM m h).ax = m.ax ∧ (hurM m h).ay = m.ay := by
  have hm : mayB m = true := by
    unfold errH at he
    split at he
    · assumption
    · cases he
  have hh : 1 ≤ h := by
    unfold errH at he
    rw [if_pos hm] at he
    split at he
    · cases he
    · omega
  have hw : went m h = true := by
    unfold hurD at hd
    rw [he] at hd
    simpa using hd
  have hn : m.hl - (h - tak m h) ≤ 0 := by
    unfold went at hw
    rw [show (m.ou == 0) = true by simpa using h0, Bool.true_and] at hw
    simpa using hw
  have ht := tak_in (mayB_iff.1 hm) hh
  unfold hurM hurtM
  rw [if_pos he, if_pos h0, if_pos hn]
  exact ⟨by omega, rfl, rfl⟩
theorem keep_res {m : Mv} (hm : mayB m = true) (h0 : m.ou = 0) (x y : Int) : resD m = false ∧ (resM m x y).ax = m.ax ∧ (resM m x y).ay = m.ay ∧ (resM m x y).sx = m.sx ∧ (resM m x y).sy = m.sy ∧ (resM m x y).hl = m.hl := by
  unfold resD resM restM
  rw [if_pos hm, if_neg (by omega), if_neg (by omega)]
  refine ⟨?_, rfl, rfl, rfl, rfl, rfl⟩
  rw [hm, Bool.true_and]
  simp
  omega
end Go.Proofs.YtaalbkmdmocdeabDoor.Np
