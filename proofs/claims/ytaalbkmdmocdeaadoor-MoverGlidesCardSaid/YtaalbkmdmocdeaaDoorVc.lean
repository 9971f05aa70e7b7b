/- The document's Check. -/
import Derived.Test.YtaalbkmdmocdeaaDoorVo
namespace Go.Proofs.YtaalbkmdmocdeaaDoor
open Go.RowKit
open Vp
set_option maxRecDepth 100000

/-- what is given, by number -/
def gv (a b c : Int) (i : Nat) : Int := [a, b, c].getD i 0
/-- is the i-th in its range -/
def okI (ps : List (ByteArray × Int × Int)) (x : Int) (i : Nat) : Bool := match ps[i]? with
  | some p => decide (p.2.1 ≤ x) && decide (x ≤ p.2.2)
  | none => decide (x = 0)
def Arb (w : World) (g : Nat) (a b c : Int) : Prop := w.heap[g]? = some (.cells #[.int .i64 a, .int .i64 b, .int .i64 c] 85 (0, 0))
theorem Arb.still {w w' : World} {g : Nat} {a b c : Int} (h : Arb w g a b c) (hs : Still w w') : Arb w' g a b c := hs.kept_still h
theorem Arb.at {w : World} {g : Nat} {a b c : Int} (h : Arb w g a b c) (i : Nat) (hi : i < 3) : w.cell? ⟨g, i, none⟩ = some (.int .i64 (gv a b c i)) := by
  rcases (show i = 0 ∨ i = 1 ∨ i = 2 by omega) with rfl | rfl | rfl <;> (rw [cell_of_row _ _ _ _ _ _ h]; rfl)
theorem newArr (w : World) (a b c : Int) : Arb (w.alloc (.cells #[.int .i64 a, .int .i64 b, .int .i64 c] 85)) w.heap.size a b c := heap_alloc_new w _
theorem okI_out {ps : List (ByteArray × Int × Int)} {x : Int} {i : Nat} (h : ps.length ≤ i) : okI ps x i = decide (x = 0) := by unfold okI; rw [List.getElem?_eq_none h]
theorem okI_in {ps : List (ByteArray × Int × Int)} {x : Int} {i : Nat} (h : i < ps.length) : okI ps x i = (decide ((ps[i]).2.1 ≤ x) && decide (x ≤ (ps[i]).2.2)) := by unfold okI; rw [List.getElem?_eq_getElem h]
theorem ok3 {ps : List (ByteArray × Int × Int)} {a b c : Int} (h : ∀ i, i < 3 → okI ps (gv a b c i) i = true) : (0 : Int) = if okI ps a 0 && okI ps b 1 && okI ps c 2 then 0 else 71 := by
  have h0 := h 0 (by omega)
  have h1 := h 1 (by omega)
  have h2 := h 2 (by omega)
  simp only [gv, List.getD_cons_zero, List.getD_cons_succ] at h0 h1 h2
  rw [h0, h1, h2]; rfl
theorem no3 {ps : List (ByteArray × Int × Int)} {a b c : Int} {i : Nat} (hi : i < 3) (h : okI ps (gv a b c i) i = false) : (71 : Int) = if okI ps a 0 && okI ps b 1 && okI ps c 2 then 0 else 71 := by
  rcases (show i = 0 ∨ i = 1 ∨ i = 2 by omega) with rfl | rfl | rfl <;> simp only [gv, List.getD_cons_zero, List.getD_cons_succ] at h <;> rw [h] <;> simp
set_option maxHeartbeats 4000000 in
theorem rchk_yes (v a b c : Int) (hv : isV v = true) (w : World) (ht : OTab w) : Calls Tryd.prog 34 #[od v a b c] w fun e w' => e = .returned (.int .i64 (if okI (opV v) a 0 && okI (opV v) b 1 && okI (opV v) c 2 then 0 else 71)) ∧ Still w w' := by
  obtain ⟨ps, eps⟩ : ∃ ps, opV v = ps := ⟨_, rfl⟩
  rw [eps]
  have HP := hid eps
  clear eps
  obtain ⟨X, eX⟩ : ∃ X : Int, (if okI ps a 0 && okI ps b 1 && okI ps c 2 then 0 else 71) = X := ⟨_, rfl⟩
  rw [eX]
  have HX := hid eX
  clear eX
  have p := newO_orb w v a b c
  have H := hid (fun u => ris_any v u)
  rw [hv] at H
  have HS0 := hid (Still.alloc w (.cells #[.int .i64 v, .int .i64 a, .int .i64 b, .int .i64 c] 32))
  have HT := hid (ht.still HS0.out)
  obtain ⟨c0, c1, c2, c3, cf⟩ := p.cells
  clear hv
  go_enter Tryd.func34, Tryd.ntmps34
  go_wp2_with (go_at_call 66; refine (H.out _).mono ?_; rintro e w' ⟨he, hw⟩; rw [he, hw]; clear he hw w')
  refine (roper_any v _ HT.out).mono ?_
  rintro e w1 ⟨x, rfl, ho, h1⟩
  rw [HP.out] at ho
  have p1 := p.still h1
  clear c0 c1 c2 c3 cf p
  obtain ⟨c0, c1, c2, c3, cf⟩ := p1.cells
  have HT1 := hid h1
  have p2 := newArr w1 a b c
  have o2 := ho.alloc (.cells #[.int .i64 a, .int .i64 b, .int .i64 c] 85)
  have HSW := hid ((HS0.out.trans h1).trans (Still.alloc w1 (.cells #[.int .i64 a, .int .i64 b, .int .i64 c] 85)))
  obtain ⟨ao, cap, rfl, _⟩ := o2.slice
  obtain ⟨n, en⟩ : ∃ n, ps.length = n := ⟨_, rfl⟩
  rw [en]
  have HN := hid en
  clear ho h1 HT1 en
  go_wp2_with fail
  go_loopw [6] (fun u wr => ∃ k : Nat, k ≤ 3 ∧ u = .int .i64 (k : Int) ∧ (∀ i, i < k → okI ps (gv a b c i) i = true) ∧ Still (w1.alloc (.cells #[.int .i64 a, .int .i64 b, .int .i64 c] 85)) wr) (fun u _ => 3 - (intOf u).toNat)
  case atStart => exact ⟨0, by omega, rfl, fun i hi => by omega, Fr.refl _ _⟩
  case round =>
    clear c0 c1 c2 c3 cf
    obtain ⟨k, hk, rfl, hF, hs⟩ := hrel
    by_cases hk3 : k < 3
    · have q2 := p2.still hs
      have r2 := o2.still hs
      have HS2 := hid hs
      have k0 := Cl.cell (q2.at k hk3)
      have hne := Aft.here wr
      have hi3 : (k : Int) < 3 := by omega
      obtain ⟨y, ey⟩ : ∃ y, gv a b c k = y := ⟨_, rfl⟩
      rw [ey] at k0
      clear hs q2
      by_cases hkn : k < n
      · have hlt : (k : Int) < (n : Int) := by omega
        have hng : decide ((n : Int) ≤ (k : Int)) = false := by simp; omega
        have hng' : decide (n ≤ k) = false := by simp; omega
        have hlt' : decide (k < n) = true := by simp; omega
        have hpl : k < ps.length := by rw [HN.out]; exact hkn
        obtain ⟨g, cg, e1, _, _⟩ := r2.head (by omega)
        rw [HN.out] at e1
        cases e1
        obtain ⟨_, m1, m2, _⟩ := r2.cell k hpl
        have hx := okI_in (ps := ps) (x := gv a b c k) (i := k) hpl
        obtain ⟨lw, elw⟩ : ∃ z, (ps[k]).2.1 = z := ⟨_, rfl⟩
        obtain ⟨up, eup⟩ : ∃ z, (ps[k]).2.2 = z := ⟨_, rfl⟩
        rw [elw] at m1 hx
        rw [eup] at m2 hx
        rw [ey] at hx
        have k1 := Cl.cell m1
        have k2 := Cl.cell m2
        clear hkn r2 m1 m2 elw eup
        by_cases hy : lw ≤ y
        · have hd1 : decide (y < lw) = false := by simp; omega
          by_cases hz : y ≤ up
          · have HE := hid (show okI ps (gv a b c k) k = true by rw [ey, hx]; simp [hy, hz])
            have hd2 : decide (up < y) = false := by simp; omega
            clear hx ey hy hz
            go_wp2_with fail
            refine region_all (by kernel_rfl) (by kernel_rfl) ?_
            repeat (go_big_quiet_step (fail))
            refine wpQuiet_nil ?_
            intro w2 h2
            have HS3 := hid (Still.trans HS2.out h2)
            clear hne k0 k1 k2 h2 HS2
            go_wp2_with fail
            go_roundw
            case rel => exact ⟨k + 1, by omega, by go_num, fun i hi => by
              by_cases e : i = k
              · subst e; exact HE.out
              · exact hF i (by omega), HS3.out⟩
            case measure => simp [intOf]; omega
          · have HE := hid (show okI ps (gv a b c k) k = false by rw [ey, hx]; simp; omega)
            have hd2 : decide (up < y) = true := by simp; omega
            have hu : up < y := by omega
            clear hx ey hy hz
            go_wp2_with fail
            refine region_all (by kernel_rfl) (by kernel_rfl) ?_
            repeat (go_big_quiet_step (fail))
            refine wpQuiet_nil ?_
            intro w2 h2
            have HS3 := hid (Still.trans HS2.out h2)
            clear hne k0 k1 k2 h2 HS2
            go_wp2_with fail
            first | rw [Exit.noGoto_ret] | skip
            go_ret
            exact ⟨by rw [← HX.out, ← no3 hk3 HE.out]; rfl, Still.trans HSW.out HS3.out⟩
        · have HE := hid (show okI ps (gv a b c k) k = false by rw [ey, hx]; simp; omega)
          have hd1 : decide (y < lw) = true := by simp; omega
          have hu : y < lw := by omega
          clear hx ey hy
          go_wp2_with fail
          refine region_all (by kernel_rfl) (by kernel_rfl) ?_
          repeat (go_big_quiet_step (fail))
          refine wpQuiet_nil ?_
          intro w2 h2
          have HS3 := hid (Still.trans HS2.out h2)
          clear hne k0 k1 k2 h2 HS2
          go_wp2_with fail
          first | rw [Exit.noGoto_ret] | skip
          go_ret
          exact ⟨by rw [← HX.out, ← no3 hk3 HE.out]; rfl, Still.trans HSW.out HS3.out⟩
      · have hge : (n : Int) ≤ (k : Int) := by omega
        have hnl : decide ((k : Int) < (n : Int)) = false := by simp; omega
        have hnl' : decide (k < n) = false := by simp; omega
        have hge' : decide (n ≤ k) = true := by simp; omega
        have hx := okI_out (ps := ps) (x := gv a b c k) (i := k) (by rw [HN.out]; omega)
        rw [ey] at hx
        clear hkn r2
        by_cases hy : y = 0
        · subst hy
          have HE := hid (show okI ps (gv a b c k) k = true by rw [ey, hx]; rfl)
          clear hx ey
          go_wp2_with fail
          refine region_all (by kernel_rfl) (by kernel_rfl) ?_
          repeat (go_big_quiet_step (fail))
          refine wpQuiet_nil ?_
          intro w2 h2
          have HS3 := hid (Still.trans HS2.out h2)
          clear hne k0 h2 HS2
          go_wp2_with fail
          go_roundw
          case rel => exact ⟨k + 1, by omega, by go_num, fun i hi => by
            by_cases e : i = k
            · subst e; exact HE.out
            · exact hF i (by omega), HS3.out⟩
          case measure => simp [intOf]; omega
        · have HE := hid (show okI ps (gv a b c k) k = false by rw [ey, hx]; simpa using hy)
          have hb : (y != 0) = true := by simpa using hy
          clear hx ey
          go_wp2_with fail
          refine region_all (by kernel_rfl) (by kernel_rfl) ?_
          repeat (go_big_quiet_step (fail))
          refine wpQuiet_nil ?_
          intro w2 h2
          have HS3 := hid (Still.trans HS2.out h2)
          clear hne k0 h2 HS2
          go_wp2_with fail
          first | rw [Exit.noGoto_ret] | skip
          go_ret
          exact ⟨by rw [← HX.out, ← no3 hk3 HE.out]; rfl, Still.trans HSW.out HS3.out⟩
    · have HE := hid (ok3 (fun i hi => hF i (by omega)))
      have HS2 := hid hs
      clear hs hF
      go_wp2_with fail
      go_ret
      exact ⟨by rw [← HX.out, ← HE.out]; rfl, Still.trans HSW.out HS2.out⟩
theorem okI_all {v a b c : Int} (h : isV v = true) : (okI (opV v) a 0 && okI (opV v) b 1 && okI (opV v) c 2) = okO v a b c := by
  rcases verbs h with rfl | rfl | rfl | rfl | rfl | rfl | rfl
  · rw [show opV 1 = [(⟨#[120]⟩, -8, 8), (⟨#[121]⟩, -8, 8)] from rfl]
    unfold okO
    rw [show lo ((1 : Int) - 1).toNat = -8 from rfl, show hi ((1 : Int) - 1).toNat = 8 from rfl, if_pos rfl]
    rfl
  · rw [show opV 2 = [] from rfl]
    unfold okO
    rw [show lo ((2 : Int) - 1).toNat = 0 from rfl, show hi ((2 : Int) - 1).toNat = 0 from rfl, if_neg (by decide)]
    show (decide (a = 0) && decide (b = 0) && decide (c = 0)) = _
    rw [Bool.eq_iff_iff]
    simp only [Bool.and_eq_true, decide_eq_true_eq]
    omega
  all_goals
    unfold okO
    rw [if_neg (by decide)]
    rfl
theorem rchk_no (v a b c : Int) (hv : isV v = false) (w : World) : Calls Tryd.prog 34 #[od v a b c] w fun e w' => e = .returned (.int .i64 70) ∧ Still w w' := by
  have p := newO_orb w v a b c
  have H := hid (fun u => ris_any v u)
  rw [hv] at H
  have HS0 := hid (Still.alloc w (.cells #[.int .i64 v, .int .i64 a, .int .i64 b, .int .i64 c] 32))
  obtain ⟨c0, c1, c2, c3, cf⟩ := p.cells
  clear hv
  go_enter Tryd.func34, Tryd.ntmps34
  go_wp2_with (go_at_call 66; refine (H.out _).mono ?_; rintro e w' ⟨he, hw⟩; rw [he, hw]; clear he hw w')
  go_ret
  exact ⟨rfl, HS0.out⟩
theorem rchk_any (v a b c : Int) (w : World) (ht : OTab w) : Calls Tryd.prog 34 #[od v a b c] w fun e w' => e = .returned (.int .i64 (chkO v a b c)) ∧ Still w w' := by
  unfold chkO
  cases h : isV v with
  | false => exact rchk_no v a b c h w
  | true =>
    have := rchk_yes v a b c h w ht
    rw [okI_all h] at this
    rw [if_pos rfl]
    exact this
end Go.Proofs.YtaalbkmdmocdeaaDoor
