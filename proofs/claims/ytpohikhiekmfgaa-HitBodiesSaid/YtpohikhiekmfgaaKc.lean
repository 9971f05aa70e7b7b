/- The document's Check of pickups. -/
import Derived.Test.YtpohikhiekmfgaaKb
import Derived.Test.YtpohikhiekmfgaaK5b
namespace Go.Proofs.Ytpohikhiekmfgaa
open Go.RowKit
open Pu Gp Np Ka
set_option maxRecDepth 100000

/-- what is asked of one but its spot against those ahead of it -/
def badK (L : List Pk) (s : Int) (k : Nat) : Bool := decide ((pk L k).no < 1) || decide (1099511627776 < (pk L k).no) || (decide (0 < k) && decide ((pk L k).no ≤ (pk L (k - 1)).no)) || decide ((pk L k).sp < 0) || decide (s ≤ (pk L k).sp) || decide ((pk L k).kd < 1) || decide (3 < (pk L k).kd)
theorem badK_fit {L : List Pk} {s : Int} {k : Nat} (h : badK L s k = false) (hs : ∀ q, q < k → (pk L q).sp ≠ (pk L k).sp) : Fit L s k := by
  unfold badK at h
  simp only [Bool.or_eq_false_iff, Bool.and_eq_false_iff, decide_eq_false_iff_not] at h
  exact ⟨by omega, fun h0 => by omega, by omega, by omega, hs⟩
theorem badK_no {L : List Pk} {s : Int} {k : Nat} (h : badK L s k = true) : ¬ Fit L s k := by
  rintro ⟨h1, h2, h3, h4, _⟩
  unfold badK at h
  simp only [Bool.or_eq_true, Bool.and_eq_true, decide_eq_true_eq] at h
  have := h2
  omega
theorem RdK.get {w : World} {B o n : Nat} {L : List Pk} (h : RdK w (some ⟨B, o, none⟩) n L) {i : Nat} (hi : i < n) : w.cell? ⟨B, o + i * 3, none⟩ = some (.int .i64 (pk L i).no) ∧ w.cell? ⟨B, o + i * 3 + 1, none⟩ = some (.int .i64 (pk L i).sp) ∧ w.cell? ⟨B, o + i * 3 + 2, none⟩ = some (.int .i64 (pk L i).kd) := by
  obtain ⟨B', o', e, hc⟩ := h.at (by omega)
  cases e
  exact hc i hi
theorem cases7 (a p sp kd s : Int) (k : Nat) (r : Bool) (hr : (decide (a < 1) || decide (1099511627776 < a) || (decide (0 < k) && decide (a ≤ p)) || decide (sp < 0) || decide (s ≤ sp) || decide (kd < 1) || decide (3 < kd)) = r) :
    ((a < 1) ∧ decide (a < 1) = true ∧ r = true) ∨
    ((¬ a < 1) ∧ decide (a < 1) = false ∧ (1099511627776 < a) ∧ decide (1099511627776 < a) = true ∧ r = true) ∨
    ((¬ a < 1) ∧ decide (a < 1) = false ∧ (¬ 1099511627776 < a) ∧ decide (1099511627776 < a) = false ∧ (0 : Int) < (k : Int) ∧ decide ((0 : Int) < (k : Int)) = true ∧ decide (0 < k) = true ∧ (a ≤ p) ∧ decide (a ≤ p) = true ∧ r = true) ∨
    ((¬ a < 1) ∧ decide (a < 1) = false ∧ (¬ 1099511627776 < a) ∧ decide (1099511627776 < a) = false ∧ (0 : Int) < (k : Int) ∧ decide ((0 : Int) < (k : Int)) = true ∧ decide (0 < k) = true ∧ (¬ a ≤ p) ∧ decide (a ≤ p) = false ∧ (sp < 0) ∧ decide (sp < 0) = true ∧ r = true) ∨
    ((¬ a < 1) ∧ decide (a < 1) = false ∧ (¬ 1099511627776 < a) ∧ decide (1099511627776 < a) = false ∧ (0 : Int) < (k : Int) ∧ decide ((0 : Int) < (k : Int)) = true ∧ decide (0 < k) = true ∧ (¬ a ≤ p) ∧ decide (a ≤ p) = false ∧ (¬ sp < 0) ∧ decide (sp < 0) = false ∧ (s ≤ sp) ∧ decide (s ≤ sp) = true ∧ r = true) ∨
    ((¬ a < 1) ∧ decide (a < 1) = false ∧ (¬ 1099511627776 < a) ∧ decide (1099511627776 < a) = false ∧ (0 : Int) < (k : Int) ∧ decide ((0 : Int) < (k : Int)) = true ∧ decide (0 < k) = true ∧ (¬ a ≤ p) ∧ decide (a ≤ p) = false ∧ (¬ sp < 0) ∧ decide (sp < 0) = false ∧ (¬ s ≤ sp) ∧ decide (s ≤ sp) = false ∧ (kd < 1) ∧ decide (kd < 1) = true ∧ r = true) ∨
    ((¬ a < 1) ∧ decide (a < 1) = false ∧ (¬ 1099511627776 < a) ∧ decide (1099511627776 < a) = false ∧ (0 : Int) < (k : Int) ∧ decide ((0 : Int) < (k : Int)) = true ∧ decide (0 < k) = true ∧ (¬ a ≤ p) ∧ decide (a ≤ p) = false ∧ (¬ sp < 0) ∧ decide (sp < 0) = false ∧ (¬ s ≤ sp) ∧ decide (s ≤ sp) = false ∧ (¬ kd < 1) ∧ decide (kd < 1) = false ∧ (3 < kd) ∧ decide (3 < kd) = true ∧ r = true) ∨
    ((¬ a < 1) ∧ decide (a < 1) = false ∧ (¬ 1099511627776 < a) ∧ decide (1099511627776 < a) = false ∧ (0 : Int) < (k : Int) ∧ decide ((0 : Int) < (k : Int)) = true ∧ decide (0 < k) = true ∧ (¬ a ≤ p) ∧ decide (a ≤ p) = false ∧ (¬ sp < 0) ∧ decide (sp < 0) = false ∧ (¬ s ≤ sp) ∧ decide (s ≤ sp) = false ∧ (¬ kd < 1) ∧ decide (kd < 1) = false ∧ (¬ 3 < kd) ∧ decide (3 < kd) = false ∧ r = false) ∨
    ((¬ a < 1) ∧ decide (a < 1) = false ∧ (¬ 1099511627776 < a) ∧ decide (1099511627776 < a) = false ∧ (¬ (0 : Int) < (k : Int)) ∧ decide ((0 : Int) < (k : Int)) = false ∧ decide (0 < k) = false ∧ (sp < 0) ∧ decide (sp < 0) = true ∧ r = true) ∨
    ((¬ a < 1) ∧ decide (a < 1) = false ∧ (¬ 1099511627776 < a) ∧ decide (1099511627776 < a) = false ∧ (¬ (0 : Int) < (k : Int)) ∧ decide ((0 : Int) < (k : Int)) = false ∧ decide (0 < k) = false ∧ (¬ sp < 0) ∧ decide (sp < 0) = false ∧ (s ≤ sp) ∧ decide (s ≤ sp) = true ∧ r = true) ∨
    ((¬ a < 1) ∧ decide (a < 1) = false ∧ (¬ 1099511627776 < a) ∧ decide (1099511627776 < a) = false ∧ (¬ (0 : Int) < (k : Int)) ∧ decide ((0 : Int) < (k : Int)) = false ∧ decide (0 < k) = false ∧ (¬ sp < 0) ∧ decide (sp < 0) = false ∧ (¬ s ≤ sp) ∧ decide (s ≤ sp) = false ∧ (kd < 1) ∧ decide (kd < 1) = true ∧ r = true) ∨
    ((¬ a < 1) ∧ decide (a < 1) = false ∧ (¬ 1099511627776 < a) ∧ decide (1099511627776 < a) = false ∧ (¬ (0 : Int) < (k : Int)) ∧ decide ((0 : Int) < (k : Int)) = false ∧ decide (0 < k) = false ∧ (¬ sp < 0) ∧ decide (sp < 0) = false ∧ (¬ s ≤ sp) ∧ decide (s ≤ sp) = false ∧ (¬ kd < 1) ∧ decide (kd < 1) = false ∧ (3 < kd) ∧ decide (3 < kd) = true ∧ r = true) ∨
    ((¬ a < 1) ∧ decide (a < 1) = false ∧ (¬ 1099511627776 < a) ∧ decide (1099511627776 < a) = false ∧ (¬ (0 : Int) < (k : Int)) ∧ decide ((0 : Int) < (k : Int)) = false ∧ decide (0 < k) = false ∧ (¬ sp < 0) ∧ decide (sp < 0) = false ∧ (¬ s ≤ sp) ∧ decide (s ≤ sp) = false ∧ (¬ kd < 1) ∧ decide (kd < 1) = false ∧ (¬ 3 < kd) ∧ decide (3 < kd) = false ∧ r = false) := by
  have e : decide ((0 : Int) < (k : Int)) = decide (0 < k) := by simp
  rw [e]
  by_cases h1 : a < 1
  · simp [h1] at hr; exact .inl ⟨h1, by simp [h1], hr⟩
  right
  by_cases h2 : 1099511627776 < a
  · simp [h2] at hr; exact .inl ⟨h1, by simp [h1], h2, by simp [h2], hr⟩
  right
  by_cases hg : 0 < k
  · have hg' : (0 : Int) < (k : Int) := by omega
    by_cases h3 : a ≤ p
    · simp [hg, h3] at hr; exact .inl ⟨h1, by simp [h1], h2, by simp [h2], hg', by simp [hg], by simp [hg], h3, by simp [h3], hr⟩
    right
    by_cases h4 : sp < 0
    · simp [h4] at hr; exact .inl ⟨h1, by simp [h1], h2, by simp [h2], hg', by simp [hg], by simp [hg], h3, by simp [h3], h4, by simp [h4], hr⟩
    right
    by_cases h5 : s ≤ sp
    · simp [h5] at hr; exact .inl ⟨h1, by simp [h1], h2, by simp [h2], hg', by simp [hg], by simp [hg], h3, by simp [h3], h4, by simp [h4], h5, by simp [h5], hr⟩
    right
    by_cases h6 : kd < 1
    · simp [h6] at hr; exact .inl ⟨h1, by simp [h1], h2, by simp [h2], hg', by simp [hg], by simp [hg], h3, by simp [h3], h4, by simp [h4], h5, by simp [h5], h6, by simp [h6], hr⟩
    right
    by_cases h7 : 3 < kd
    · simp [h7] at hr; exact .inl ⟨h1, by simp [h1], h2, by simp [h2], hg', by simp [hg], by simp [hg], h3, by simp [h3], h4, by simp [h4], h5, by simp [h5], h6, by simp [h6], h7, by simp [h7], hr⟩
    right
    simp only [h1, h2, h3, h4, h5, h6, h7, decide_false, Bool.or_false, Bool.and_false] at hr
    exact .inl ⟨h1, by simp [h1], h2, by simp [h2], hg', by simp [hg], by simp [hg], h3, by simp [h3], h4, by simp [h4], h5, by simp [h5], h6, by simp [h6], h7, by simp [h7], hr.symm⟩
  · have hg' : ¬ (0 : Int) < (k : Int) := by omega
    right; right; right; right; right; right
    by_cases h4 : sp < 0
    · simp [h4] at hr; exact .inl ⟨h1, by simp [h1], h2, by simp [h2], hg', by simp [hg], by simp [hg], h4, by simp [h4], hr⟩
    right
    by_cases h5 : s ≤ sp
    · simp [h5] at hr; exact .inl ⟨h1, by simp [h1], h2, by simp [h2], hg', by simp [hg], by simp [hg], h4, by simp [h4], h5, by simp [h5], hr⟩
    right
    by_cases h6 : kd < 1
    · simp [h6] at hr; exact .inl ⟨h1, by simp [h1], h2, by simp [h2], hg', by simp [hg], by simp [hg], h4, by simp [h4], h5, by simp [h5], h6, by simp [h6], hr⟩
    right
    by_cases h7 : 3 < kd
    · simp [h7] at hr; exact .inl ⟨h1, by simp [h1], h2, by simp [h2], hg', by simp [hg], by simp [hg], h4, by simp [h4], h5, by simp [h5], h6, by simp [h6], h7, by simp [h7], hr⟩
    right
    simp only [h1, h2, hg, h4, h5, h6, h7, decide_false, Bool.or_false, Bool.false_and] at hr
    exact ⟨h1, by simp [h1], h2, by simp [h2], hg', by simp [hg], by simp [hg], h4, by simp [h4], h5, by simp [h5], h6, by simp [h6], h7, by simp [h7], hr.symm⟩
set_option maxHeartbeats 8000000 in
theorem rchk10_in (L : List Pk) (s : Int) (ao : Option Addr) (n cap : Nat) (w : World) (hr : RdK w ao n L) (h0 : ¬ s < 0) (h1 : decide (16 < s) = false) (h8 : decide ((8 : Int) < (n : Int)) = false) : Calls Try.prog 40 #[.slice ao n cap, .int .i64 s] w fun e w' => e = .returned (.int .i64 (chkK L s)) ∧ Still w w' := by
  have HN := hid (show (0 ≤ s ∧ s ≤ 16) ∧ n ≤ 8 by simp at h1 h8; omega)
  have HL := hid hr.1
  go_enter Try.func40, Try.ntmps40
  go_wp2_with fail
  clear h0 h1 h8
  go_loopw [5] (fun u wr => ∃ k : Nat, k ≤ n ∧ u = .int .i64 (k : Int) ∧ Hid (∀ i, i < k → Fit L s i) ∧ Still w wr) (fun u _ => n - (intOf u).toNat)
  case atStart => exact ⟨0, by omega, rfl, hid (fun i hi => by omega), Fr.refl _ _⟩
  case round =>
    obtain ⟨k, hk, rfl, HF, hs⟩ := hrel
    by_cases hkn : k < n
    · have hlt : (k : Int) < (n : Int) := by omega
      obtain ⟨B, o, rfl, hc⟩ := (hr.still hs).at (by omega)
      have HC := hid hc
      obtain ⟨c0, c1, c2⟩ := hc k hkn
      have HS1 := hid (hs.trans (Still.alloc wr (.cells (kcs (pk L k)) 57)))
      have q0 := newK_kb wr (pk L k)
      have A0 := Still.alloc wr (.cells (kcs (pk L k)) 57)
      have on : ∀ {p : Addr} {x : Value}, wr.cell? p = some x → (newK wr (pk L k)).cell? p = some x := fun hp => (A0.cell (World.block_lt_of_cell? wr _ hp) (fun e => e)).trans hp
      have f0 : 0 < k → (newK wr (pk L k)).cell? ⟨B, o + (k - 1) * 3, none⟩ = some (.int .i64 (pk L (k - 1)).no) := fun h => on (hc (k - 1) (by omega)).1
      have HR0 := hid hr
      have hcs := cases7 (pk L k).no (pk L (k - 1)).no (pk L k).sp (pk L k).kd s k (badK L s k) rfl
      have HBad := hid (show badK L s k = true → chkK L s = 100 from fun h => chkK_no (fun hm => badK_no h (hm.2.2 k (by rw [HL.out]; exact hkn))))
      have HGood := hid (show badK L s k = false → ∀ q, q < k → (pk L q).sp = (pk L k).sp → chkK L s = 100 from fun _ q hq he => chkK_no (fun hm => (hm.2.2 k (by rw [HL.out]; exact hkn)).2.2.2.2 q hq he))
      have HFit := hid (fun h hq => badK_fit (L := L) (s := s) (k := k) h hq)
      obtain ⟨W, eW⟩ : ∃ W, wr.alloc (.cells (kcs (pk L k)) 57) = W := ⟨_, rfl⟩
      obtain ⟨g, eg⟩ : ∃ g, wr.heap.size = g := ⟨_, rfl⟩
      have q1 : Kb W g (pk L k) := by rw [← eW, ← eg]; exact q0
      have f1 : 0 < k → W.cell? ⟨B, o + (k - 1) * 3, none⟩ = some (.int .i64 (pk L (k - 1)).no) := by rw [← eW]; exact f0
      rw [eW] at HS1
      clear on f0 q0 hr hs hc A0 HC
      obtain ⟨x, ex⟩ : ∃ x, pk L k = x := ⟨_, rfl⟩
      obtain ⟨pv, ep⟩ : ∃ x, (pk L (k - 1)).no = x := ⟨_, rfl⟩
      obtain ⟨bad, eb⟩ : ∃ b, badK L s k = b := ⟨_, rfl⟩
      have HX := hid ex
      rw [ex] at c0 c1 c2 q1 hcs eW HGood
      rw [ep] at hcs f1
      rw [eb] at hcs HBad HGood HFit
      clear ex ep eb
      go_upto_region 7 with fail
      clear eW eg
      obtain ⟨e0, e1, e2, ef⟩ := q1.cells
      have k0 := Cl.cell e0
      have k1 := Cl.cell e1
      have k2 := Cl.cell e2
      have hne := Aft.here W
      clear e0 e1 e2 ef c0 c1 c2
      rcases hcs with ⟨h1, d1, rfl⟩ | ⟨h1, d1, h2, d2, rfl⟩ | ⟨h1, d1, h2, d2, hg, dg, dg2, h3, d3, rfl⟩ | ⟨h1, d1, h2, d2, hg, dg, dg2, h3, d3, h4, d4, rfl⟩ | ⟨h1, d1, h2, d2, hg, dg, dg2, h3, d3, h4, d4, h5, d5, rfl⟩ | ⟨h1, d1, h2, d2, hg, dg, dg2, h3, d3, h4, d4, h5, d5, h6, d6, rfl⟩ | ⟨h1, d1, h2, d2, hg, dg, dg2, h3, d3, h4, d4, h5, d5, h6, d6, h7, d7, rfl⟩ | ⟨h1, d1, h2, d2, hg, dg, dg2, h3, d3, h4, d4, h5, d5, h6, d6, h7, d7, rfl⟩ | ⟨h1, d1, h2, d2, hg, dg, dg2, h4, d4, rfl⟩ | ⟨h1, d1, h2, d2, hg, dg, dg2, h4, d4, h5, d5, rfl⟩ | ⟨h1, d1, h2, d2, hg, dg, dg2, h4, d4, h5, d5, h6, d6, rfl⟩ | ⟨h1, d1, h2, d2, hg, dg, dg2, h4, d4, h5, d5, h6, d6, h7, d7, rfl⟩ | ⟨h1, d1, h2, d2, hg, dg, dg2, h4, d4, h5, d5, h6, d6, h7, d7, rfl⟩
      · have HB := hid (HBad.out rfl)
        clear HBad HGood
        refine region_all (by kernel_rfl) (by kernel_rfl) ?_
        repeat (go_big_quiet_step (fail))
        refine wpQuiet_nil ?_
        intro w2 h2
        have HS2 := hid (HS1.out.trans h2)
        clear h2 HS1 hne k0 k1 k2 HFit q1 f1
        go_wp2_with fail
        (first | rw [Exit.noGoto_ret] | skip)
        go_ret
        exact ⟨by rw [HB.out]; rfl, HS2.out⟩
      · have HB := hid (HBad.out rfl)
        clear HBad HGood
        refine region_all (by kernel_rfl) (by kernel_rfl) ?_
        repeat (go_big_quiet_step (fail))
        refine wpQuiet_nil ?_
        intro w2 h2
        have HS2 := hid (HS1.out.trans h2)
        clear h2 HS1 hne k0 k1 k2 HFit q1 f1
        go_wp2_with fail
        (first | rw [Exit.noGoto_ret] | skip)
        go_ret
        exact ⟨by rw [HB.out]; rfl, HS2.out⟩
      · have k3 := Cl.cell (f1 (by omega))
        have hk8 : k < 8 := by have := HN.out; omega
        have HB := hid (HBad.out rfl)
        clear HBad HGood
        refine region_all (by kernel_rfl) (by kernel_rfl) ?_
        repeat (go_big_quiet_step (fail))
        refine wpQuiet_nil ?_
        intro w2 h2
        have HS2 := hid (HS1.out.trans h2)
        clear h2 HS1 hne k0 k1 k2 HFit q1 f1
        go_wp2_with fail
        (first | rw [Exit.noGoto_ret] | skip)
        go_ret
        exact ⟨by rw [HB.out]; rfl, HS2.out⟩
      · have k3 := Cl.cell (f1 (by omega))
        have hk8 : k < 8 := by have := HN.out; omega
        have HB := hid (HBad.out rfl)
        clear HBad HGood
        refine region_all (by kernel_rfl) (by kernel_rfl) ?_
        repeat (go_big_quiet_step (fail))
        refine wpQuiet_nil ?_
        intro w2 h2
        have HS2 := hid (HS1.out.trans h2)
        clear h2 HS1 hne k0 k1 k2 HFit q1 f1
        go_wp2_with fail
        (first | rw [Exit.noGoto_ret] | skip)
        go_ret
        exact ⟨by rw [HB.out]; rfl, HS2.out⟩
      · have k3 := Cl.cell (f1 (by omega))
        have hk8 : k < 8 := by have := HN.out; omega
        have HB := hid (HBad.out rfl)
        clear HBad HGood
        refine region_all (by kernel_rfl) (by kernel_rfl) ?_
        repeat (go_big_quiet_step (fail))
        refine wpQuiet_nil ?_
        intro w2 h2
        have HS2 := hid (HS1.out.trans h2)
        clear h2 HS1 hne k0 k1 k2 HFit q1 f1
        go_wp2_with fail
        (first | rw [Exit.noGoto_ret] | skip)
        go_ret
        exact ⟨by rw [HB.out]; rfl, HS2.out⟩
      · have k3 := Cl.cell (f1 (by omega))
        have hk8 : k < 8 := by have := HN.out; omega
        have HB := hid (HBad.out rfl)
        clear HBad HGood
        refine region_all (by kernel_rfl) (by kernel_rfl) ?_
        repeat (go_big_quiet_step (fail))
        refine wpQuiet_nil ?_
        intro w2 h2
        have HS2 := hid (HS1.out.trans h2)
        clear h2 HS1 hne k0 k1 k2 HFit q1 f1
        go_wp2_with fail
        (first | rw [Exit.noGoto_ret] | skip)
        go_ret
        exact ⟨by rw [HB.out]; rfl, HS2.out⟩
      · have k3 := Cl.cell (f1 (by omega))
        have hk8 : k < 8 := by have := HN.out; omega
        have HB := hid (HBad.out rfl)
        clear HBad HGood
        refine region_all (by kernel_rfl) (by kernel_rfl) ?_
        repeat (go_big_quiet_step (fail))
        refine wpQuiet_nil ?_
        intro w2 h2
        have HS2 := hid (HS1.out.trans h2)
        clear h2 HS1 hne k0 k1 k2 HFit q1 f1
        go_wp2_with fail
        (first | rw [Exit.noGoto_ret] | skip)
        go_ret
        exact ⟨by rw [HB.out]; rfl, HS2.out⟩
      · have k3 := Cl.cell (f1 (by omega))
        have hk8 : k < 8 := by have := HN.out; omega
        have HG2 := hid (HGood.out rfl)
        have HF2 := hid (HFit.out rfl)
        clear HBad HGood HFit
        refine region_all (by kernel_rfl) (by kernel_rfl) ?_
        repeat (go_big_quiet_step (fail))
        refine wpQuiet_nil ?_
        intro w2 h2
        have q2 := q1.still h2
        have HS2 := hid (HS1.out.trans h2)
        clear h2 HS1 hne k0 k1 k2 q1 f1
        go_wp2_with fail
        go_loopw [7] (fun u wr => ∃ q : Nat, q ≤ k ∧ u = .int .i64 (q : Int) ∧ Hid (∀ j, j < q → (pk L j).sp ≠ x.sp) ∧ Kb wr g x ∧ Still w wr) (fun u _ => k - (intOf u).toNat)
        case atStart => exact ⟨0, by omega, rfl, hid (fun i hi => by omega), q2, HS2.out⟩
        case round =>
          clear q2 HS2
          obtain ⟨q, hq, rfl, HQ, q3, hs3⟩ := hrel
          have HS3 := hid hs3
          clear hs3
          by_cases hqk : q < k
          · have hlt2 : (q : Int) < (k : Int) := by omega
            obtain ⟨_, z1, _⟩ := (HR0.out.still HS3.out).get (i := q) (by omega)
            obtain ⟨e0, e1, e2, ef⟩ := q3.cells
            have HEq := hid (fun h => HG2.out q hqk h)
            have HNe := hid (show (pk L q).sp ≠ x.sp → ∀ j, j < q + 1 → (pk L j).sp ≠ x.sp from fun h j hj => by
              by_cases e : j = q
              · subst e; exact h
              · exact HQ.out j (by omega))
            obtain ⟨y, ey⟩ : ∃ y, (pk L q).sp = y := ⟨_, rfl⟩
            obtain ⟨t, et⟩ : ∃ y, x.sp = y := ⟨_, rfl⟩
            rw [ey] at z1 HEq HNe
            rw [et] at e1 HEq
            have k1 := Cl.cell z1
            have k2 := Cl.cell e1
            have hne := Aft.here wr
            clear z1 e0 e1 e2 ef ey HQ
            by_cases hyt : y = t
            · have hyt' : (y == t) = true := by simpa using hyt
              have HE := hid (HEq.out hyt)
              clear hyt HEq HNe et
              go_wp2_with fail
              refine region_all (by kernel_rfl) (by kernel_rfl) ?_
              repeat (go_big_quiet_step (fail))
              refine wpQuiet_nil ?_
              intro w4 h4
              have HS4 := hid (HS3.out.trans h4)
              clear h4 HS3 hne k1 k2
              go_wp2_with fail
              (first | rw [Exit.noGoto_ret] | skip)
              go_ret
              exact ⟨by rw [HE.out]; rfl, HS4.out⟩
            · have hyt' : (y == t) = false := by simpa using hyt
              have HE := hid (HNe.out (by rw [et]; exact hyt))
              clear hyt HEq HNe et
              go_wp2_with fail
              refine region_all (by kernel_rfl) (by kernel_rfl) ?_
              repeat (go_big_quiet_step (fail))
              refine wpQuiet_nil ?_
              intro w4 h4
              have HS4 := hid (HS3.out.trans h4)
              have HQ4 := hid (q3.still h4)
              clear h4 HS3 hne k1 k2 q3
              go_wp2_with fail
              go_roundw
              case rel => exact ⟨q + 1, by omega, by go_num, HE, HQ4.out, HS4.out⟩
              case measure => simp [intOf]; omega
          · have hge2 : ¬ (q : Int) < (k : Int) := by omega
            have HE := hid (show ∀ i, i < k + 1 → Fit L s i from fun i hi => by
              by_cases e : i = k
              · subst e; exact HF2.out (fun j hj => HX.out ▸ HQ.out j (by omega))
              · exact HF.out i (by omega))
            clear hqk hq q3 HF HQ
            go_wp2_with fail
            go_roundw
            case rel => exact ⟨k + 1, by omega, by go_num, HE, HS3.out⟩
            case measure => simp [intOf]; omega
      · have HB := hid (HBad.out rfl)
        clear HBad HGood
        refine region_all (by kernel_rfl) (by kernel_rfl) ?_
        repeat (go_big_quiet_step (fail))
        refine wpQuiet_nil ?_
        intro w2 h2
        have HS2 := hid (HS1.out.trans h2)
        clear h2 HS1 hne k0 k1 k2 HFit q1 f1
        go_wp2_with fail
        (first | rw [Exit.noGoto_ret] | skip)
        go_ret
        exact ⟨by rw [HB.out]; rfl, HS2.out⟩
      · have HB := hid (HBad.out rfl)
        clear HBad HGood
        refine region_all (by kernel_rfl) (by kernel_rfl) ?_
        repeat (go_big_quiet_step (fail))
        refine wpQuiet_nil ?_
        intro w2 h2
        have HS2 := hid (HS1.out.trans h2)
        clear h2 HS1 hne k0 k1 k2 HFit q1 f1
        go_wp2_with fail
        (first | rw [Exit.noGoto_ret] | skip)
        go_ret
        exact ⟨by rw [HB.out]; rfl, HS2.out⟩
      · have HB := hid (HBad.out rfl)
        clear HBad HGood
        refine region_all (by kernel_rfl) (by kernel_rfl) ?_
        repeat (go_big_quiet_step (fail))
        refine wpQuiet_nil ?_
        intro w2 h2
        have HS2 := hid (HS1.out.trans h2)
        clear h2 HS1 hne k0 k1 k2 HFit q1 f1
        go_wp2_with fail
        (first | rw [Exit.noGoto_ret] | skip)
        go_ret
        exact ⟨by rw [HB.out]; rfl, HS2.out⟩
      · have HB := hid (HBad.out rfl)
        clear HBad HGood
        refine region_all (by kernel_rfl) (by kernel_rfl) ?_
        repeat (go_big_quiet_step (fail))
        refine wpQuiet_nil ?_
        intro w2 h2
        have HS2 := hid (HS1.out.trans h2)
        clear h2 HS1 hne k0 k1 k2 HFit q1 f1
        go_wp2_with fail
        (first | rw [Exit.noGoto_ret] | skip)
        go_ret
        exact ⟨by rw [HB.out]; rfl, HS2.out⟩
      · have HG2 := hid (HGood.out rfl)
        have HF2 := hid (HFit.out rfl)
        clear HBad HGood HFit
        refine region_all (by kernel_rfl) (by kernel_rfl) ?_
        repeat (go_big_quiet_step (fail))
        refine wpQuiet_nil ?_
        intro w2 h2
        have q2 := q1.still h2
        have HS2 := hid (HS1.out.trans h2)
        clear h2 HS1 hne k0 k1 k2 q1 f1
        go_wp2_with fail
        go_loopw [7] (fun u wr => ∃ q : Nat, q ≤ k ∧ u = .int .i64 (q : Int) ∧ Hid (∀ j, j < q → (pk L j).sp ≠ x.sp) ∧ Kb wr g x ∧ Still w wr) (fun u _ => k - (intOf u).toNat)
        case atStart => exact ⟨0, by omega, rfl, hid (fun i hi => by omega), q2, HS2.out⟩
        case round =>
          clear q2 HS2
          obtain ⟨q, hq, rfl, HQ, q3, hs3⟩ := hrel
          have HS3 := hid hs3
          clear hs3
          by_cases hqk : q < k
          · exact absurd hqk (by omega)
          · have hge2 : ¬ (q : Int) < (k : Int) := by omega
            have HE := hid (show ∀ i, i < k + 1 → Fit L s i from fun i hi => by
              by_cases e : i = k
              · subst e; exact HF2.out (fun j hj => HX.out ▸ HQ.out j (by omega))
              · exact HF.out i (by omega))
            clear hqk hq q3 HF HQ
            go_wp2_with fail
            go_roundw
            case rel => exact ⟨k + 1, by omega, by go_num, HE, HS3.out⟩
            case measure => simp [intOf]; omega
    · have hge : ¬ (k : Int) < (n : Int) := by omega
      have HE : Hid (chkK L s = 0) := hid (chkK_yes ⟨HN.out.1, by rw [HL.out]; exact HN.out.2, fun i hi => HF.out i (by have := HL.out; omega)⟩)
      have HS1 := hid hs
      clear hs hr hkn hk
      go_wp2_with fail
      go_ret
      exact ⟨by rw [HE.out]; rfl, HS1.out⟩
theorem rchk10_any (L : List Pk) (s : Int) (ao : Option Addr) (n cap : Nat) (w : World) (hr : RdK w ao n L) : Calls Try.prog 40 #[.slice ao n cap, .int .i64 s] w fun e w' => e = .returned (.int .i64 (chkK L s)) ∧ Still w w' := by
  by_cases h0 : s < 0
  · have HE : Hid (chkK L s = 100) := hid (chkK_no (fun h => by have := h.1; omega))
    clear hr
    go_enter Try.func40, Try.ntmps40
    go_wp2_with fail
    go_ret
    exact ⟨by rw [HE.out]; rfl, Fr.refl _ _⟩
  · by_cases h1 : s > 16
    · have HE : Hid (chkK L s = 100) := hid (chkK_no (fun h => by have := h.1; omega))
      clear hr
      go_enter Try.func40, Try.ntmps40
      go_wp2_with fail
      go_ret
      exact ⟨by rw [HE.out]; rfl, Fr.refl _ _⟩
    · have h1' : decide (16 < s) = false := by simpa using h1
      by_cases h8 : 8 < n
      · have HE : Hid (chkK L s = 100) := hid (chkK_no (fun h => by have := h.2.1; have := hr.1; omega))
        have h8' : (n : Int) > 8 := by omega
        clear hr
        go_enter Try.func40, Try.ntmps40
        go_wp2_with fail
        go_ret
        exact ⟨by rw [HE.out]; rfl, Fr.refl _ _⟩
      · exact rchk10_in L s ao n cap w hr h0 h1' (by simp; omega)
end Go.Proofs.Ytpohikhiekmfgaa
