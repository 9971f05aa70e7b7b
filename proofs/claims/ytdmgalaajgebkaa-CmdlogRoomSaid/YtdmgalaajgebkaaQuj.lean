/- Is a key there? The library's IndexFunc, ContainsFunc of entries; has. -/
import Derived.Test.YtdmgalaajgebkaaQui
namespace Go.Proofs.Ytdmgalaajgebkaa
open Go.RowKit
set_option maxRecDepth 100000

/-- where the first one of this key is -/
def idx (x : En) : List En → Nat → Int
  | [], _ => -1
  | y :: l, k => if kc x y = 0 then (k : Int) else idx x l (k + 1)
def hasK (x : En) (L : List En) : Bool := L.any fun y => decide (kc x y = 0)
theorem idx_has (x : En) : ∀ (L : List En) (k : Nat), decide (idx x L k ≥ 0) = hasK x L
  | [], k => by simp [idx, hasK]
  | y :: l, k => by
    by_cases h : kc x y = 0
    · simp only [idx, if_pos h, hasK, List.any_cons, decide_eq_true h, Bool.true_or]
      exact decide_eq_true (by omega)
    · have := idx_has x l (k + 1)
      simp only [idx, if_neg h, hasK, List.any_cons, decide_eq_false h, Bool.false_or]
      exact this
theorem idx_drop (x : En) (L : List En) (k : Nat) (hk : k < L.length) : idx x (L.drop k) k = if kc x (att L k) = 0 then (k : Int) else idx x (L.drop (k + 1)) (k + 1) := by
  rw [List.drop_eq_getElem_cons hk]
  have : att L k = L[k] := by unfold att; rw [List.getD_eq_getElem?_getD, List.getElem?_eq_getElem hk]; rfl
  rw [this]; rfl
/-- the question: has another one this key? -/
abbrev fvE (g : Nat) : Value := .func (.func 57) #[] #[.pointer (some ⟨g, 0, none⟩)]
theorem qask_any (x y : En) (g : Nat) (w : World) (hx : Eb w g x) : Calls Try.prog 57 #[ev y, .pointer (some ⟨g, 0, none⟩)] w fun e w' => e = .returned (.bool (decide (kc x y = 0))) ∧ Still w w' := by
  have A0 := Still.alloc w (.cells (ecs y) 44)
  have p0 := hx.still A0
  have q0 := newE_eb w y
  obtain ⟨c0, c1, c2, c3, c4, c5, c6, c7, _⟩ := p0.cells
  obtain ⟨d0, d1, d2, d3, d4, d5, d6, d7, _⟩ := q0.cells
  have HC := hid (qcmp_any x y (newE w y))
  have HS := hid A0
  obtain ⟨r, er⟩ : ∃ r, kc x y = r := ⟨_, rfl⟩
  rw [er] at HC ⊢
  clear A0 p0 q0 hx er
  by_cases hr : r = 0
  · subst hr
    go_enter Try.func57, Try.ntmps57
    go_wp2_with fail
    refine HC.out.mono ?_
    rintro e w2 ⟨he, h2⟩
    rw [he]
    have HS2 := hid (HS.out.trans h2)
    clear he h2 HC HS c0 c1 c2 c3 c4 c5 c6 c7 d0 d1 d2 d3 d4 d5 d6 d7
    go_wp2_with fail
    go_ret
    exact ⟨by simp, HS2.out⟩
  · have hr' : (r == 0) = false := by simpa using hr
    go_enter Try.func57, Try.ntmps57
    go_wp2_with fail
    refine HC.out.mono ?_
    rintro e w2 ⟨he, h2⟩
    rw [he]
    have HS2 := hid (HS.out.trans h2)
    clear he h2 HC HS c0 c1 c2 c3 c4 c5 c6 c7 d0 d1 d2 d3 d4 d5 d6 d7
    go_wp2_with fail
    go_ret
    exact ⟨by simp [hr], HS2.out⟩
set_option maxHeartbeats 2000000 in
theorem qidx_any (x : En) (L : List En) (ao : Option Addr) (n cap g : Nat) (w : World) (hr : RdG KE w ao n L) (hx : Eb w g x) : Calls Try.prog 64 #[.slice ao n cap, fvE g] w fun e w' => e = .returned (.int .i64 (idx x L 0)) ∧ Still w w' := by
  have hl := hr.1
  have h47 := hr.2.1
  have HR := hid hr
  have HX := hid hx
  clear hr hx
  go_enter Try.func64, Try.ntmps64
  go_wp2_with fail
  go_loopw [8] (fun u wr => ∃ k : Nat, k ≤ n ∧ u = .int .i64 (k : Int) ∧ Hid (idx x L 0 = idx x (L.drop k) k ∧ Still w wr)) (fun u _ => n - (intOf u).toNat)
  case atStart => exact ⟨0, by omega, rfl, hid ⟨by simp, Fr.refl _ _⟩⟩
  case round =>
    obtain ⟨k, hk, rfl, HE⟩ := hrel
    by_cases hkn : k < n
    · have hlt : (k : Int) < (n : Int) := by omega
      obtain ⟨B, o, rfl⟩ := HR.out.at (by omega)
      obtain ⟨c0, c1, c2, c3, c4, c5, c6, c7⟩ := rdE (HR.out.still HE.out.2) hkn
      have HD := hid (idx_drop x L k (by omega))
      have HC := hid (qask_any x (att L k) g wr (HX.out.still HE.out.2))
      obtain ⟨y, ey⟩ : ∃ y, att L k = y := ⟨_, rfl⟩
      rw [ey] at c0 c1 c2 c3 c4 c5 c6 c7 HD HC
      clear ey
      by_cases hy : kc x y = 0
      · rw [decide_eq_true hy] at HC
        have HE2 : Hid (idx x L 0 = (k : Int)) := hid (by rw [HE.out.1, HD.out, if_pos hy])
        clear hy HD
        go_wp2_with fail
        refine HC.out.mono ?_
        rintro e w2 ⟨he, h2⟩
        rw [he]
        have HS2 := hid (HE.out.2.trans h2)
        clear he h2 HC HE c0 c1 c2 c3 c4 c5 c6 c7
        go_wp2_with fail
        (first | rw [Exit.noGoto_ret] | skip)
        go_ret
        exact ⟨by rw [HE2.out]; rfl, HS2.out⟩
      · rw [decide_eq_false hy] at HC
        have HE2 : Hid (idx x L 0 = idx x (L.drop (k + 1)) (k + 1)) := hid (by rw [HE.out.1, HD.out, if_neg hy])
        clear hy HD
        go_wp2_with fail
        refine HC.out.mono ?_
        rintro e w2 ⟨he, h2⟩
        rw [he]
        have HS2 := hid (HE.out.2.trans h2)
        clear he h2 HC HE c0 c1 c2 c3 c4 c5 c6 c7
        go_wp2_with fail
        go_roundw
        case rel => exact ⟨k + 1, by omega, by go_num, hid ⟨HE2.out, HS2.out⟩⟩
        case measure => simp [intOf]; omega
    · have hge : ¬ (k : Int) < (n : Int) := by omega
      have HE2 : Hid (idx x L 0 = -1) := hid (by rw [HE.out.1, List.drop_eq_nil_of_le (by omega)]; rfl)
      go_wp2_with fail
      go_ret
      exact ⟨by rw [HE2.out]; rfl, HE.out.2⟩
theorem qhas_any (x : En) (L : List En) (ao : Option Addr) (n cap : Nat) (w : World) (hr : RdG KE w ao n L) : Calls Try.prog 51 #[.slice ao n cap, ev x] w fun e w' => e = .returned (.bool (hasK x L)) ∧ Still w w' := by
  have A0 := Still.alloc w (.cells (ecs x) 44)
  have H1 : ∀ w1 g, RdG KE w1 ao n L → Eb w1 g x → Calls Try.prog 56 #[.slice ao n cap, fvE g] w1 fun e w' => e = .returned (.bool (hasK x L)) ∧ Still w1 w' := by
    intro w1 g h1 h2
    have HC := hid (qidx_any x L ao n cap g w1 h1 h2)
    have HI := hid (idx_has x L 0)
    obtain ⟨r, er⟩ : ∃ r, idx x L 0 = r := ⟨_, rfl⟩
    rw [er] at HC HI
    clear er h1 h2 hr A0
    by_cases hr : r ≥ 0
    · rw [decide_eq_true hr] at HI
      go_enter Try.func56, Try.ntmps56
      go_wp2_with fail
      refine HC.out.mono ?_
      rintro e w2 ⟨he, h2⟩
      rw [he]
      have HS := hid h2
      clear he h2 HC
      go_wp2_with fail
      go_ret
      exact ⟨by rw [← HI.out]; simp, HS.out⟩
    · rw [decide_eq_false hr] at HI
      go_enter Try.func56, Try.ntmps56
      go_wp2_with fail
      refine HC.out.mono ?_
      rintro e w2 ⟨he, h2⟩
      rw [he]
      have HS := hid h2
      clear he h2 HC
      go_wp2_with fail
      go_ret
      exact ⟨by rw [← HI.out]; simp; omega, HS.out⟩
  have HC := hid (H1 (newE w x) w.heap.size (hr.still A0) (newE_eb w x))
  have HS := hid A0
  clear H1 hr A0
  go_enter Try.func51, Try.ntmps51
  go_wp2_with fail
  refine HC.out.mono ?_
  rintro e w2 ⟨he, h2⟩
  rw [he]
  have HS2 := hid (HS.out.trans h2)
  clear he h2 HC HS
  go_wp2_with fail
  go_ret
  exact ⟨rfl, HS2.out⟩
end Go.Proofs.Ytdmgalaajgebkaa
