/- Who meets whom, in plain words. No function of the program is named here. -/
import Derived.Test.YtdljmpjfiggdiaaDoorKa
import Derived.Test.YtdljmpjfiggdiaaDoorZa
import Derived.Test.YtdljmpjfiggdiaaDoorK5b
namespace Go.Proofs.YtdljmpjfiggdiaaDoor.Ja
open Pu Gp Ap Vp Np Za Ka

def mm (L : List Mv) (i : Nat) : Mv := L.getD i zM
def ss (S : List Sh) (i : Nat) : Sh := S.getD i zS
def pp (T : List (Int × Int)) (i : Nat) : Int × Int := T.getD i (0, 0)
/-- movers may be together -/
def togB (L : List Mv) : Bool := decide (L.length ≤ 6) && L.all mayB
theorem togB_iff {L : List Mv} : togB L = true ↔ L.length ≤ 6 ∧ ∀ i, i < L.length → mayB (mm L i) = true := by
  unfold togB
  rw [Bool.and_eq_true, List.all_eq_true, decide_eq_true_eq]
  refine and_congr Iff.rfl ⟨fun h i hi => ?_, fun h x hx => ?_⟩
  · have e : mm L i = L[i] := by simp [mm, List.getD, hi]
    rw [e]; exact h _ (List.getElem_mem hi)
  · obtain ⟨i, hi, rfl⟩ := List.mem_iff_getElem.1 hx
    have e : mm L i = L[i] := by simp [mm, List.getD, hi]
    rw [← e]; exact h i hi
theorem togB_no {L : List Mv} {i : Nat} (hi : i < L.length) (h : mayB (mm L i) = false) : togB L = false := by
  cases e : togB L with
  | false => rfl
  | true => rw [(togB_iff.1 e).2 i hi] at h; cases h
def err11 (b : Bool) : Int := if b then 0 else 110
/-- a body and a box about a point -/
def ov (m : Mv) (x y r : Int) : Bool := mt (subf m.ax 1280) (subf m.ay 1280) (addf m.ax 1280) (addf m.ay 1280) (subf x r) (subf y r) (addf x r) (addf y r)
def inn (m : Mv) (x y : Int) : Bool := mt (subf m.ax 1280) (subf m.ay 1280) (addf m.ax 1280) (addf m.ay 1280) x y x y
def two (L : List Mv) (i k : Nat) : Bool := ((mm L i).ou == 0) && ((mm L k).ou == 0) && ov (mm L i) (mm L k).ax (mm L k).ay 1280
/-- whom one meets, up to a place -/
def rowB (L : List Mv) (i : Nat) : Nat → List (Int × Int)
  | 0 => []
  | k + 1 => rowB L i k ++ (if decide (i < k) && two L i k then [((i : Int), (k : Int))] else [])
def allB (L : List Mv) : Nat → List (Int × Int)
  | 0 => []
  | i + 1 => allB L i ++ rowB L i L.length
theorem rowB_start (L : List Mv) (i : Nat) : ∀ k, k ≤ i + 1 → rowB L i k = []
  | 0, _ => rfl
  | k + 1, h => by
    rw [rowB, rowB_start L i k (by omega)]
    have e : decide (i < k) = false := by simp; omega
    rw [e]; rfl
theorem rowB_step (L : List Mv) {i k : Nat} (h : i < k) : rowB L i (k + 1) = rowB L i k ++ (if two L i k then [((i : Int), (k : Int))] else []) := by
  rw [rowB]
  have e : decide (i < k) = true := by simpa using h
  rw [e, Bool.true_and]
theorem rowB_len (L : List Mv) (i : Nat) : ∀ k, (rowB L i k).length ≤ k
  | 0 => by simp [rowB]
  | k + 1 => by have := rowB_len L i k; simp only [rowB, List.length_append]; split <;> simp <;> omega
theorem allB_len (L : List Mv) : ∀ i, (allB L i).length ≤ i * L.length
  | 0 => by simp [allB]
  | i + 1 => by have := allB_len L i; have := rowB_len L i L.length; simp only [allB, List.length_append, Nat.succ_mul]; omega
theorem rowB_mem {L : List Mv} {i : Nat} {x : Int × Int} : ∀ {k : Nat}, x ∈ rowB L i k → ∃ j, j < k ∧ i < j ∧ x = ((i : Int), (j : Int)) ∧ two L i j = true
  | 0, h => by simp [rowB] at h
  | k + 1, h => by
    rw [rowB, List.mem_append] at h
    rcases h with h | h
    · obtain ⟨j, h1, h2⟩ := rowB_mem h
      exact ⟨j, by omega, h2⟩
    · cases hc : (decide (i < k) && two L i k) with
      | false => rw [hc] at h; simp at h
      | true =>
        rw [hc] at h
        simp at h hc
        exact ⟨k, by omega, hc.1, h, hc.2⟩
theorem allB_mem {L : List Mv} {x : Int × Int} : ∀ {n : Nat}, x ∈ allB L n → ∃ i j, i < n ∧ j < L.length ∧ i < j ∧ x = ((i : Int), (j : Int)) ∧ two L i j = true
  | 0, h => by simp [allB] at h
  | n + 1, h => by
    rw [allB, List.mem_append] at h
    rcases h with h | h
    · obtain ⟨i, j, h1, h2⟩ := allB_mem h
      exact ⟨i, j, by omega, h2⟩
    · obtain ⟨j, h1, h2⟩ := rowB_mem h
      exact ⟨n, j, by omega, h1, h2⟩
def bod (L : List Mv) : List (Int × Int) := if togB L then allB L L.length else []
theorem bod_len {L : List Mv} : (bod L).length ≤ 36 := by
  unfold bod
  cases h : togB L with
  | false => simp
  | true =>
    have h1 := (togB_iff.1 h).1
    have := allB_len L L.length
    have h2 : L.length * L.length ≤ 6 * 6 := Nat.mul_le_mul h1 h1
    simp
    omega
/-- speeds exchanged -/
def aptE (a b : Mv) : Bool := mayB a && mayB b
def aptA (a b : Mv) : Mv := if aptE a b then (if a.ou = 0 ∧ b.ou = 0 then { a with sx := b.sx, sy := b.sy } else a) else zM
/-- shots may be together -/
def Flo (S : List Sh) : Prop := S.length ≤ 48 ∧ ∀ i, i < S.length → maySB (ss S i) = true ∧ (0 < i → (ss S (i - 1)).no < (ss S i).no)
def decFlo (S : List Sh) : Decidable (Flo S) := by unfold Flo; infer_instance
def flo (S : List Sh) : Bool := @decide (Flo S) (decFlo S)
theorem flo_iff {S : List Sh} : flo S = true ↔ Flo S := @decide_eq_true_iff (Flo S) (decFlo S)
theorem flo_no {S : List Sh} (h : ¬ Flo S) : flo S = false := by
  cases e : flo S with
  | false => rfl
  | true => exact absurd (flo_iff.1 e) h
/-- the least of m places from k on at which it is so; -1: at none -/
def lo (P : Nat → Bool) : Nat → Nat → Int
  | _, 0 => -1
  | k, m + 1 => if P k then (k : Int) else lo P (k + 1) m
theorem lo_in (P : Nat → Bool) : ∀ (m k : Nat), lo P k m = -1 ∨ ∃ j, k ≤ j ∧ j < k + m ∧ lo P k m = (j : Int) ∧ P j = true
  | 0, _ => .inl rfl
  | m + 1, k => by
    rw [lo]
    cases h : P k with
    | true => exact .inr ⟨k, by omega, by omega, by simp, h⟩
    | false =>
      rcases lo_in P m (k + 1) with h1 | ⟨j, h1, h2, h3⟩
      · left; simpa using h1
      · exact .inr ⟨j, by omega, by omega, by simpa using h3.1, h3.2⟩
/-- downwards: one more place ahead -/
theorem lo_down (P : Nat → Bool) {n k : Nat} (h : k < n) : lo P k (n - k) = if P k then (k : Int) else lo P (k + 1) (n - (k + 1)) := by
  obtain ⟨m, e⟩ : ∃ m, n - k = m + 1 := ⟨n - k - 1, by omega⟩
  rw [e, lo, show n - (k + 1) = m by omega]
/-- for each its first one -/
def rowS (P : Nat → Nat → Bool) (n : Nat) : Nat → List (Int × Int)
  | 0 => []
  | i + 1 => rowS P n i ++ (if 0 ≤ lo (P i) 0 n then [((i : Int), lo (P i) 0 n)] else [])
theorem rowS_len (P : Nat → Nat → Bool) (n : Nat) : ∀ m, (rowS P n m).length ≤ m
  | 0 => by simp [rowS]
  | m + 1 => by have := rowS_len P n m; simp only [rowS, List.length_append]; split <;> simp <;> omega
theorem rowS_at (P : Nat → Nat → Bool) (n : Nat) : ∀ (m i : Nat) (h : i < (rowS P n m).length), ∃ j k : Nat, j < m ∧ k < n ∧ (rowS P n m)[i] = ((j : Int), (k : Int)) ∧ P j k = true ∧ ∀ i2, i2 < i → ∀ h2 : i2 < (rowS P n m).length, (rowS P n m)[i2].1 < (j : Int)
  | 0, i, h => by simp [rowS] at h
  | m + 1, i, h => by
    by_cases hi : i < (rowS P n m).length
    · obtain ⟨j, k, h1, h2, h3, h4, h5⟩ := rowS_at P n m i hi
      refine ⟨j, k, by omega, h2, ?_, h4, fun i2 hi2 hh => ?_⟩
      · simp only [rowS]; rw [List.getElem_append_left hi]; exact h3
      · simp only [rowS]; rw [List.getElem_append_left (by omega)]; exact h5 i2 hi2 (by omega)
    · simp only [rowS, List.length_append] at h
      by_cases hc : 0 ≤ lo (P m) 0 n
      · rw [if_pos hc] at h
        simp at h
        have he : i = (rowS P n m).length := by omega
        rcases lo_in (P m) n 0 with h1 | ⟨k, h1, h2, h3, h4⟩
        · omega
        · refine ⟨m, k, by omega, by omega, ?_, h4, fun i2 hi2 hh => ?_⟩
          · subst he
            simp only [rowS]
            rw [List.getElem_append_right (Nat.le_refl _)]
            simp [h3]
          · have hi3 : i2 < (rowS P n m).length := by omega
            obtain ⟨j, k', g1, g2, g3, _⟩ := rowS_at P n m i2 hi3
            simp only [rowS]
            rw [List.getElem_append_left hi3, g3]
            show (j : Int) < (m : Int)
            omega
      · rw [if_neg hc] at h; simp at h; omega
def hS (L : List Mv) (s : Sh) (k : Nat) : Bool := ((mm L k).ou == 0) && !((k : Int) == s.ow) && inn (mm L k) s.ax s.ay
def shoE (L : List Mv) (S : List Sh) : Bool := togB L && flo S
def sho (L : List Mv) (S : List Sh) : List (Int × Int) := if shoE L S then rowS (fun i k => hS L (ss S i) k) L.length S.length else []
def hP (L : List Mv) (p : Int × Int) (k : Nat) : Bool := ((mm L k).ou == 0) && ov (mm L k) p.1 p.2 768
def picE (L : List Mv) (Q : List Pk) (T : List (Int × Int)) : Bool := togB L && mayK Q (T.length : Int)
def pic (L : List Mv) (Q : List Pk) (T : List (Int × Int)) : List (Int × Int) := if picE L Q T then rowS (fun i k => hP L (pp T (pk Q i).sp.toNat) k) L.length Q.length else []
theorem sho_len {L : List Mv} {S : List Sh} : (sho L S).length ≤ 48 := by
  unfold sho shoE
  cases h : togB L && flo S with
  | false => simp
  | true =>
    simp only [Bool.and_eq_true] at h
    have h1 := (flo_iff.1 h.2).1
    have := rowS_len (fun i k => hS L (ss S i) k) L.length S.length
    simp
    omega
theorem pic_len {L : List Mv} {Q : List Pk} {T : List (Int × Int)} : (pic L Q T).length ≤ 8 := by
  unfold pic picE
  cases h : togB L && mayK Q (T.length : Int) with
  | false => simp
  | true =>
    simp only [Bool.and_eq_true] at h
    have h1 := (mayK_iff.1 h.2).2.1
    have := rowS_len (fun i k => hP L (pp T (pk Q i).sp.toNat) k) L.length Q.length
    simp
    omega
/-- apart twice is as nothing -/
theorem apt_twice {a b : Mv} (h : aptE a b = true) : aptE (aptA a b) (aptA b a) = true ∧ aptA (aptA a b) (aptA b a) = a := by
  have hc : aptE b a = true := by unfold aptE at h ⊢; rw [Bool.and_comm]; exact h
  have hab := h
  unfold aptE at hab
  rw [Bool.and_eq_true] at hab
  by_cases ho : a.ou = 0 ∧ b.ou = 0
  · have e1 : aptA a b = { a with sx := b.sx, sy := b.sy } := by unfold aptA; rw [if_pos h, if_pos ho]
    have e2 : aptA b a = { b with sx := a.sx, sy := a.sy } := by unfold aptA; rw [if_pos hc, if_pos ⟨ho.2, ho.1⟩]
    have ma := mayB_iff.1 hab.1
    have mb := mayB_iff.1 hab.2
    have m1 : mayB (aptA a b) = true := by
      rw [mayB_iff, e1]
      obtain ⟨a1, a2, a3, a4, a5, a6, a7, a8, a9, a10, a11⟩ := ma
      exact ⟨a1, mb.2.1, a3, a4, a5, a6, a7, a8, a9, a10, fun h => absurd ho.1 h⟩
    have m2 : mayB (aptA b a) = true := by
      rw [mayB_iff, e2]
      obtain ⟨a1, a2, a3, a4, a5, a6, a7, a8, a9, a10, a11⟩ := mb
      exact ⟨a1, ma.2.1, a3, a4, a5, a6, a7, a8, a9, a10, fun h => absurd ho.2 h⟩
    have m3 : aptE (aptA a b) (aptA b a) = true := by unfold aptE; rw [m1, m2]; rfl
    refine ⟨m3, ?_⟩
    rw [show aptA (aptA a b) (aptA b a) = { aptA a b with sx := (aptA b a).sx, sy := (aptA b a).sy } by
      show (if aptE (aptA a b) (aptA b a) then _ else _) = _
      rw [if_pos m3, if_pos (by rw [e1, e2]; exact ho)]]
    rw [e1, e2]
  · have e1 : aptA a b = a := by unfold aptA; rw [if_pos h, if_neg ho]
    have e2 : aptA b a = b := by unfold aptA; rw [if_pos hc, if_neg (fun h => ho ⟨h.2, h.1⟩)]
    rw [e1, e2]
    exact ⟨h, e1⟩
theorem apt_sum {a b : Mv} (h : aptE a b = true) : (aptA a b).sx + (aptA b a).sx = a.sx + b.sx ∧ (aptA a b).sy + (aptA b a).sy = a.sy + b.sy ∧ (aptA a b).ax = a.ax ∧ (aptA a b).ay = a.ay := by
  have hc : aptE b a = true := by unfold aptE at h ⊢; rw [Bool.and_comm]; exact h
  by_cases ho : a.ou = 0 ∧ b.ou = 0
  · have e1 : aptA a b = { a with sx := b.sx, sy := b.sy } := by unfold aptA; rw [if_pos h, if_pos ho]
    have e2 : aptA b a = { b with sx := a.sx, sy := a.sy } := by unfold aptA; rw [if_pos hc, if_pos ⟨ho.2, ho.1⟩]
    rw [e1, e2]
    exact ⟨Int.add_comm _ _, Int.add_comm _ _, rfl, rfl⟩
  · have e1 : aptA a b = a := by unfold aptA; rw [if_pos h, if_neg ho]
    have e2 : aptA b a = b := by unfold aptA; rw [if_pos hc, if_neg (fun h => ho ⟨h.2, h.1⟩)]
    rw [e1, e2]
    exact ⟨rfl, rfl, rfl, rfl⟩
end Go.Proofs.YtdljmpjfiggdiaaDoor.Ja
