/- What the law ViewTurns says, of any two worlds. -/
import Derived.Test.YtdljmpjfiggdiaaDoorWvl
namespace Go.Proofs.YtdljmpjfiggdiaaDoor
open Go.RowKit
open Pu Gp Np Za Ka Ja Ea Ha
set_option maxRecDepth 100000

set_option maxHeartbeats 1000000 in
theorem turns_yes (f1 x1 f2 x2 : Int) (a1 b1 c1 d1 a4 b4 c4 d4 : Option Addr) (n a3 b3 c2 c3 d2 d3 a6 b6 c5 c6 d5 d6 : Nat) (M M' : List Mv) (C C' : List Scr) (w : World) (D : Cts23 w) (h1 : RdG KM w a1 n M) (h2 : RdG KC w b1 n C) (h3 : RdG KM w a4 n M') (h4 : RdG KC w b4 n C') (hb : (n + 1) * 56 ≤ 140737488355328) (hI : ∀ i, I64 (mm M i).hl ∧ I64 (mm M' i).hl ∧ I64 (sc C i).p ∧ I64 (sc C' i).p) :
    Calls Tryd.prog 4 #[.agg (wdcs f1 x1 (.slice a1 n a3) (.slice b1 n b3) (.slice c1 c2 c3) (.slice d1 d2 d3)), .agg (wdcs f2 x2 (.slice a4 n a6) (.slice b4 n b6) (.slice c4 c5 c6) (.slice d4 d5 d6))] w fun e w' => e = .returned (.bool true) ∧ Still w w' := by
  have hp := cr_pair M M' C C' hI n
  have hl := crN_len M M' C C' n
  refine turns_core f1 x1 f2 x2 a1 b1 c1 d1 a4 b4 c4 d4 n a3 n b3 c2 c3 d2 d3 n a6 n b6 c5 c6 d5 d6 (crN M M' C C' n) (crN M' M C' C n) 0 0 (crN M M' C C' n).length w D (fun u hu => D.cyes f1 x1 f2 x2 a1 b1 a4 b4 c1 d1 c4 d4 a3 b3 a6 b6 c2 c3 d2 d3 c5 c6 d5 d6 n M M' C C' u hu (h1.still hu) (h2.still hu) (h3.still hu) (h4.still hu) (fun i => ⟨(hI i).1, (hI i).2.2.1⟩) (fun i => ⟨(hI i).2.1, (hI i).2.2.2⟩) hb) (fun u hu => D.cyes f2 x2 f1 x1 a4 b4 a1 b1 c4 d4 c1 d1 a6 b6 a3 b3 c5 c6 d5 d6 c2 c3 d2 d3 n M' M C' C u hu (h3.still hu) (h4.still hu) (h1.still hu) (h2.still hu) (fun i => ⟨(hI i).2.1, (hI i).2.2.2⟩) (fun i => ⟨(hI i).1, (hI i).2.2.1⟩) hb) (fun u hu => ?_) rfl hp.1.symm (by omega) hp.2 (by simp)
  have h := D.cyes f1 x1 f1 x1 a1 b1 a1 b1 c1 d1 c1 d1 a3 b3 a3 b3 c2 c3 d2 d3 c2 c3 d2 d3 n M M C C u hu (h1.still hu) (h2.still hu) (h1.still hu) (h2.still hu) (fun i => ⟨(hI i).1, (hI i).2.2.1⟩) (fun i => ⟨(hI i).1, (hI i).2.2.1⟩) hb
  rw [cr_self] at h
  exact h
set_option maxHeartbeats 1000000 in
theorem turns_no (f1 x1 f2 x2 : Int) (a1 b1 c1 d1 a4 b4 c4 d4 : Option Addr) (a2 a3 b2 b3 c2 c3 d2 d3 a5 a6 b5 b6 c5 c6 d5 d6 : Nat) (M : List Mv) (C : List Scr) (w : World) (D : Cts23 w) (h1 : RdG KM w a1 a2 M) (h2 : RdG KC w b1 b2 C) (hi : InH M C) (hb : (a2 + 1) * 56 ≤ 140737488355328) (h : ¬ (a5 = a2 ∧ b2 = a2 ∧ b5 = a2)) : Calls Tryd.prog 4 #[.agg (wdcs f1 x1 (.slice a1 a2 a3) (.slice b1 b2 b3) (.slice c1 c2 c3) (.slice d1 d2 d3)), .agg (wdcs f2 x2 (.slice a4 a5 a6) (.slice b4 b5 b6) (.slice c4 c5 c6) (.slice d4 d5 d6))] w fun e w' => e = .returned (.bool true) ∧ Still w w' := by
  have k1 := fun u (hu : Still w u) => (D.cno f1 x1 f2 x2 a1 b1 a4 b4 c1 d1 c4 d4 a3 b3 a6 b6 c2 c3 d2 d3 c5 c6 d5 d6 a2 a5 b2 b5 u hu h).mono fun e w' k => (⟨.slice none 0 0, k.1, OwG.nil _ _, k.2⟩ : ∃ v, e = .returned (.tuple #[v, .int .i64 230]) ∧ OwG KCr 37 w' u.heap.size v [] ∧ Still u w')
  have k2 := fun u (hu : Still w u) => (D.cno f2 x2 f1 x1 a4 b4 a1 b1 c4 d4 c1 d1 a6 b6 a3 b3 c5 c6 d5 d6 c2 c3 d2 d3 a5 a2 b5 b2 u hu (fun e => h ⟨by omega, by omega, by omega⟩)).mono fun e w' k => (⟨.slice none 0 0, k.1, OwG.nil _ _, k.2⟩ : ∃ v, e = .returned (.tuple #[v, .int .i64 230]) ∧ OwG KCr 37 w' u.heap.size v [] ∧ Still u w')
  by_cases hab : b2 = a2
  · rw [hab] at h2 k1 k2 ⊢
    refine turns_core f1 x1 f2 x2 a1 b1 c1 d1 a4 b4 c4 d4 a2 a3 a2 b3 c2 c3 d2 d3 a5 a6 b5 b6 c5 c6 d5 d6 [] [] 230 0 0 w D k1 k2 (fun u hu => ?_) rfl rfl (by decide) (fun j hj => absurd hj (Nat.not_lt_zero _)) (by simp)
    have h := D.cyes f1 x1 f1 x1 a1 b1 a1 b1 c1 d1 c1 d1 a3 b3 a3 b3 c2 c3 d2 d3 c2 c3 d2 d3 a2 M M C C u hu (h1.still hu) (h2.still hu) (h1.still hu) (h2.still hu) hi hi hb
    rw [cr_self] at h
    exact h
  · refine turns_core f1 x1 f2 x2 a1 b1 c1 d1 a4 b4 c4 d4 a2 a3 b2 b3 c2 c3 d2 d3 a5 a6 b5 b6 c5 c6 d5 d6 [] [] 230 230 0 w D k1 k2 (fun u hu => ?_) rfl rfl (by decide) (fun j hj => absurd hj (Nat.not_lt_zero _)) ?_
    · exact (D.cno f1 x1 f1 x1 a1 b1 a1 b1 c1 d1 c1 d1 a3 b3 a3 b3 c2 c3 d2 d3 c2 c3 d2 d3 a2 a2 b2 b2 u hu (fun e => hab e.2.1)).mono fun e w' k => ⟨.slice none 0 0, k.1, OwG.nil _ _, k.2⟩
    · rw [show (((a2 : Int) == (b2 : Int)) = false) by simp; omega]
      rfl
theorem turns_law (f1 x1 f2 x2 : Int) (a1 b1 c1 d1 a4 b4 c4 d4 : Option Addr) (a2 a3 b2 b3 c2 c3 d2 d3 a5 a6 b5 b6 c5 c6 d5 d6 : Nat) (M M' : List Mv) (C C' : List Scr) (w : World) (D : Cts23 w) (h1 : RdG KM w a1 a2 M) (h2 : RdG KC w b1 b2 C) (h3 : RdG KM w a4 a5 M') (h4 : RdG KC w b4 b5 C') (hb : (a2 + 1) * 56 ≤ 140737488355328) (hI : ∀ i, I64 (mm M i).hl ∧ I64 (mm M' i).hl ∧ I64 (sc C i).p ∧ I64 (sc C' i).p) :
    Calls Tryd.prog 4 #[.agg (wdcs f1 x1 (.slice a1 a2 a3) (.slice b1 b2 b3) (.slice c1 c2 c3) (.slice d1 d2 d3)), .agg (wdcs f2 x2 (.slice a4 a5 a6) (.slice b4 b5 b6) (.slice c4 c5 c6) (.slice d4 d5 d6))] w fun e w' => e = .returned (.bool true) ∧ Still w w' := by
  by_cases h : a5 = a2 ∧ b2 = a2 ∧ b5 = a2
  · obtain ⟨e1, e2, e3⟩ := h
    rw [e1] at h3 ⊢
    rw [e2] at h2 ⊢
    rw [e3] at h4 ⊢
    exact turns_yes f1 x1 f2 x2 a1 b1 c1 d1 a4 b4 c4 d4 a2 a3 b3 c2 c3 d2 d3 a6 b6 c5 c6 d5 d6 M M' C C' w D h1 h2 h3 h4 hb hI
  · exact turns_no f1 x1 f2 x2 a1 b1 c1 d1 a4 b4 c4 d4 a2 a3 b2 b3 c2 c3 d2 d3 a5 a6 b5 b6 c5 c6 d5 d6 M C w D h1 h2 (fun i => ⟨(hI i).1, (hI i).2.2.1⟩) hb h
end Go.Proofs.YtdljmpjfiggdiaaDoor
