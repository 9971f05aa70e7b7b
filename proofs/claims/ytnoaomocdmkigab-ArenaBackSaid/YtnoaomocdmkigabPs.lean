/- Maps out of texts: the document's Parse. -/
import Derived.Test.YtnoaomocdmkigabPr
namespace Go.Proofs.Ytnoaomocdmkigab
open Go.RowKit
open Pu Gp Ap

/-- the first line of a text, without its end -/
def linB (t : ByteArray) : ByteArray := if fnd t 10 0 < 0 then t else t.extract 0 (fnd t 10 0).toNat
/-- may it be the next line, behind R lines of C signs -/
def linOk (C R : Nat) (t : ByteArray) : Bool :=
  decide (0 ≤ fnd t 10 0) && (sgnsB (linB t) (linB t).size && ((if R = 0 then decide (3 ≤ (linB t).size) && decide ((linB t).size ≤ 32) else decide ((linB t).size = C)) && decide (R ≠ 24)))
/-- the lines of a text: the line that may not be, or the map -/
def prs : Nat → Nat → Nat → ByteArray → ByteArray → Sum Nat (Nat × Nat × ByteArray)
  | 0, _, R, _, _ => .inl (R + 1)
  | f + 1, C, R, S, t =>
    if R ≠ 0 ∧ t.size = 0 then .inr (C, R, S)
    else if linOk C R t then prs f (linB t).size (R + 1) (S ++ linB t) (t.extract ((linB t).size + 1) t.size)
    else .inl (R + 1)
theorem not_nil {t : ByteArray} (h : t.size ≠ 0) : (!t.toList.isEmpty) = true := by
  rw [Lib.toList_data]
  cases e : t.data.toList with
  | nil =>
    have : t.data.toList.length = 0 := by rw [e]; rfl
    rw [Array.length_toList] at this
    exact absurd this h
  | cons a l => rfl
theorem Ab.drew {w : World} {b : Nat} {C R : Int} {s : ByteArray} (h : Ab w b C R s) : Ab w.drew b C R s := h
def strN : Value → Nat
  | .string s => s.size
  | _ => 0
theorem setA_ab {w : World} {b g : Nat} {C R : Int} {s : ByteArray} (h : Ab w b C R s) (hb : b ≠ g) (C' R' : Int) (s' : ByteArray) : Ab (setA w g C' R' s') b C R s := by
  unfold Ab
  rw [heap_setCell_other _ _ _ _ hb, heap_setCell_other _ _ _ _ hb, heap_setCell_other _ _ _ _ hb]
  exact h
theorem lin_sz (t : ByteArray) : (linB t).size ≤ t.size ∧ (0 ≤ fnd t 10 0 → (linB t).size + 1 ≤ t.size) := by
  unfold linB
  rcases fnd_spec t 10 0 (by omega) with ⟨e, _⟩ | ⟨k, e, _, h2, _⟩
  · rw [e, if_pos (by omega)]
    exact ⟨Nat.le_refl _, fun h => by omega⟩
  · rw [e, if_neg (by omega)]
    simp only [Int.toNat_natCast, ByteArray.size_extract]
    exact ⟨by omega, fun _ => by omega⟩
/-- is the next line too short, or too long -/
def lonB (C R : Nat) (n : Nat) : Bool := if R = 0 then decide (n < 3) || decide (32 < n) else decide (n ≠ C)
theorem lin_is (C R : Nat) (t : ByteArray) : linOk C R t = (decide (0 ≤ fnd t 10 0) && (sgnsB (linB t) (linB t).size && (!lonB C R (linB t).size && decide (R ≠ 24)))) := by
  unfold linOk lonB
  split
  · congr 3
    rw [Bool.not_or, ← decide_not, ← decide_not]
    congr 1 <;> exact decide_eq_decide.mpr (by omega)
  · congr 3
    rw [← decide_not]
    exact decide_eq_decide.mpr (by omega)
theorem lon_ways (C R n : Nat) : (R = 0 ∧ n < 3 ∧ lonB C R n = true) ∨ (R = 0 ∧ 3 ≤ n ∧ 32 < n ∧ lonB C R n = true) ∨ (R = 0 ∧ 3 ≤ n ∧ n ≤ 32 ∧ lonB C R n = false) ∨ (R ≠ 0 ∧ n = C ∧ lonB C R n = false) ∨ (R ≠ 0 ∧ n ≠ C ∧ lonB C R n = true) := by
  unfold lonB
  by_cases h : R = 0
  · rw [if_pos h]
    by_cases h1 : n < 3
    · exact .inl ⟨h, h1, by simp [h1]⟩
    · by_cases h2 : 32 < n
      · exact .inr (.inl ⟨h, by omega, h2, by simp [h2]⟩)
      · exact .inr (.inr (.inl ⟨h, by omega, by omega, by simp [h1, h2]⟩))
  · rw [if_neg h]
    by_cases h1 : n = C
    · exact .inr (.inr (.inr (.inl ⟨h, h1, by simp [h1]⟩)))
    · exact .inr (.inr (.inr (.inr ⟨h, h1, by simp [h1]⟩)))
/-- what Parse answers of lines that gave T -/
def PrsT (T : Sum Nat (Nat × Nat × ByteArray)) (C R : Int) (S : ByteArray) (e n : Int) : Prop :=
  (∃ l : Nat, T = .inl l ∧ C = 0 ∧ R = 0 ∧ S = ByteArray.empty ∧ e = 60 ∧ n = (l : Int)) ∨
  (∃ (c r : Nat) (s : ByteArray), T = .inr (c, r, s) ∧ ChkV (c : Int) (r : Int) s e ∧ n = 0 ∧ ((e = 0 ∧ C = c ∧ R = r ∧ S = s) ∨ (e ≠ 0 ∧ C = 0 ∧ R = 0 ∧ S = ByteArray.empty)))
/-- what Parse answers -/
def PrsV (t : ByteArray) (C R : Int) (S : ByteArray) (v n : Int) : Prop :=
  (65536 < t.size ∧ C = 0 ∧ R = 0 ∧ S = ByteArray.empty ∧ v = 2 ∧ n = 0) ∨ (t.size ≤ 65536 ∧ PrsT (prs 25 0 0 ByteArray.empty t) C R S v n)
theorem prsT_one {T : Sum Nat (Nat × Nat × ByteArray)} {C R C' R' : Int} {S S' : ByteArray} {v n v' n' : Int} (h : PrsT T C R S v n) (k : PrsT T C' R' S' v' n') : C = C' ∧ R = R' ∧ S = S' ∧ v = v' ∧ n = n' := by
  rcases h with ⟨l, h0, rfl, rfl, rfl, rfl, rfl⟩ | ⟨c, r, s, h0, h1, rfl, h2⟩ <;> rcases k with ⟨l', k0, rfl, rfl, rfl, rfl, rfl⟩ | ⟨c', r', s', k0, k1, rfl, k2⟩
  · rw [h0] at k0
    cases k0
    exact ⟨rfl, rfl, rfl, rfl, rfl⟩
  · rw [h0] at k0; cases k0
  · rw [h0] at k0; cases k0
  · rw [h0] at k0
    cases k0
    have e := chkV_one h1 k1
    subst e
    rcases h2 with ⟨e1, rfl, rfl, rfl⟩ | ⟨e1, rfl, rfl, rfl⟩ <;> rcases k2 with ⟨e2, rfl, rfl, rfl⟩ | ⟨e2, rfl, rfl, rfl⟩
    · exact ⟨rfl, rfl, rfl, rfl, rfl⟩
    · exact absurd e1 e2
    · exact absurd e2 e1
    · exact ⟨rfl, rfl, rfl, rfl, rfl⟩
theorem prsV_one {t : ByteArray} {C R C' R' : Int} {S S' : ByteArray} {v n v' n' : Int} (h : PrsV t C R S v n) (k : PrsV t C' R' S' v' n') : C = C' ∧ R = R' ∧ S = S' ∧ v = v' ∧ n = n' := by
  rcases h with ⟨h0, rfl, rfl, rfl, rfl, rfl⟩ | ⟨h0, h⟩ <;> rcases k with ⟨k0, rfl, rfl, rfl, rfl, rfl⟩ | ⟨k0, k⟩
  · exact ⟨rfl, rfl, rfl, rfl, rfl⟩
  · omega
  · omega
  · exact prsT_one h k
end Go.Proofs.Ytnoaomocdmkigab
