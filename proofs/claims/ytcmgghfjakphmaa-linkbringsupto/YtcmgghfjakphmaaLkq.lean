/- The law LinkAcks. -/
import Derived.Test.YtcmgghfjakphmaaLkp
namespace Go.Proofs.Ytcmgghfjakphmaa
open Go.RowKit
open Wp Vp Lp
set_option maxRecDepth 100000
set_option linter.unusedVariables false
set_option linter.unusedSimpArgs false

def KIn : Kd Int := ⟨fun s => [.int .i64 s], 1, 0, fun _ => rfl, fun m u hu => by
  simp at hu
  subst hu
  rfl, by decide⟩
theorem rdIn {w : World} {B o n : Nat} {L : List Int} (h : RdG KIn w (some ⟨B, o, none⟩) n L) {i : Nat} (hi : i < n) : w.cell? ⟨B, o + i, none⟩ = some (.int .i64 (L.getD i 0)) := by
  have := h.get hi 0 _ rfl
  simpa [KIn] using this
/-- the commands of the law -/
def acC (i : Nat) : Cc := ⟨100 + (i : Int), 2, (i : Int) + 1, 2, 0, 0, 0⟩
def acO (n : Nat) : List Cc := (List.range n).map acC
theorem acO_len (n : Nat) : (acO n).length = n := by simp [acO]
theorem acO_at {n i : Nat} (h : i < n) : cc (acO n) i = acC i := by
  rw [cc_at (by rw [acO_len]; exact h)]
  simp [acO]
theorem acO_succ (n : Nat) : acO (n + 1) = acO n ++ [acC n] := by
  simp [acO, List.range_succ]
def acL (n t : Nat) (m : Bool) : Ln := ⟨9, 2, 4, acO n, t, [], 0, m⟩
theorem acC_ok (i : Nat) (h : i ≤ 1000) : okL 2 i (acC i) = true := okL_iff.2 ⟨rfl, rfl, by show 1 ≤ 100 + (i : Int); omega, by show 100 + (i : Int) ≤ _; omega, rfl⟩
theorem acL_fits {n t : Nat} {m : Bool} (hn : n ≤ 40) (ht : t ≤ n) : Fits (acL n t m) :=
  ⟨by show t ≤ (acO n).length; rw [acO_len]; exact ht, by show (acO n).length - t ≤ 336; rw [acO_len]; omega, ⟨by simp [acL], by simp [acL]⟩, ⟨by simp [acL], by simp [acL]⟩, ⟨by simp [acL], by simp [acL]⟩, by simp [acL], ⟨by simp [acL], by simp [acL]⟩, fun i hi => by
    have hi2 : i < n := by have := hi; unfold acL at this; simp only [acO_len] at this; exact this
    show okL 2 i (cc (acO n) i) = true
    rw [acO_at hi2]
    exact acC_ok i (by omega), by simp [acL], fun c hc => by simp [acL] at hc, fun f => by simp [acL, onN]⟩
theorem acL_lay {n : Nat} (hn : n < 40) (m : Bool) : layE (acL n 0 m) (acC n) = 0 ∧ layS (acL n 0 m) (acC n) = acL (n + 1) 0 m := by
  have e : layE (acL n 0 m) (acC n) = 0 := by
    unfold layE
    rw [show (acL n 0 m).O.length = n from acO_len n, show (acL n 0 m).se = 2 from rfl, if_pos (acC_ok n (by omega)), if_neg (by show ¬ 336 ≤ n - 0; omega)]
  refine ⟨e, ?_⟩
  unfold layS
  rw [if_pos e]
  show (⟨9, 2, 4, acO n ++ [acC n], 0, [], 0, m⟩ : Ln) = ⟨9, 2, 4, acO (n + 1), 0, [], 0, m⟩
  rw [acO_succ]
def acD (k : Int) : Dg := ⟨2, 9, 4, 2, 0, 0, [], k⟩
theorem acL_ref {n t : Nat} {m : Bool} {k : Int} (hk : 0 ≤ k ∧ k ≤ 1000) : refE (acL n t m) (acD k) 0 = if (n : Int) < k then 183 else 0 := by
  have ok : okD (acD k) = true := by
    unfold okD seatB Wp.prtB nonB ackB acD
    simp
    omega
  have eb : brkB (acL n t m) (acD k) 0 = decide ((n : Int) < k) := by
    unfold brkB
    rw [show (acL n t m).O.length = n from acO_len n]
    show (decide ((n : Int) < k) || ((2 : Int) == 1 && _)) = _
    simp
  unfold refE
  rw [if_pos ok, if_pos (show (acD k).ss = (acL n t m).ss from rfl), if_pos (show (acD k).fr = (acL n t m).ot ∧ (acD k).to = (acL n t m).se from ⟨rfl, rfl⟩), if_neg (fun e => by have : (2 : Int) = 1 := e.1; omega), eb]
  by_cases h : (n : Int) < k <;> simp [h]
theorem acL_take {n t : Nat} {m : Bool} {k : Int} (hk : 0 ≤ k) : takS (acL n t m) (acD k) = acL n (max t k.toNat) true ∧ frs (acL n t m) (acD k) = [] ∧ broB (acL n t m) (acD k) = decide ((t : Int) < k) := by
  refine ⟨rfl, rfl, ?_⟩
  unfold broB
  show (decide ((t : Int) < k) || (decide (0 < 0) || decide ((0 : Int) < 0))) = _
  simp
end Go.Proofs.Ytcmgghfjakphmaa
