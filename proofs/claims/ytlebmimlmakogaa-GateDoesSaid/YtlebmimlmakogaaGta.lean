/- Stage 21, plain: marks, the least of the others', a plan. -/
import Derived.Test.YtlebmimlmakogaaGa
namespace Go.Proofs.Ytlebmimlmakogaa
open Go.RowKit
set_option maxRecDepth 100000

/-- the least of a first one and some more -/
def fm : Int → List Int → Int
  | a, [] => a
  | a, x :: r => fm (min a x) r
theorem fm_le : ∀ (M : List Int) (a : Int), fm a M ≤ a ∧ ∀ x ∈ M, fm a M ≤ x
  | [], a => ⟨Int.le_refl _, fun x h => by cases h⟩
  | y :: r, a => by
    have ih := fm_le r (min a y)
    unfold fm
    refine ⟨by omega, fun x hx => ?_⟩
    rcases List.mem_cons.1 hx with rfl | h
    · omega
    · exact ih.2 x h
theorem fm_in : ∀ (M : List Int) (a : Int), fm a M = a ∨ fm a M ∈ M
  | [], a => .inl rfl
  | y :: r, a => by
    have ih := fm_in r (min a y)
    unfold fm
    rcases ih with h | h
    · rw [h]
      rcases Int.le_total a y with h2 | h2
      · rw [Int.min_eq_left h2]; exact .inl rfl
      · rw [Int.min_eq_right h2]; exact .inr (List.mem_cons_self ..)
    · exact .inr (List.mem_cons_of_mem _ h)
theorem fm_app : ∀ (M : List Int) (a x : Int), fm a (M ++ [x]) = min (fm a M) x
  | [], a, x => rfl
  | y :: r, a, x => by
    rw [List.cons_append]
    unfold fm
    exact fm_app r _ x
theorem fm_take (M : List Int) (a : Int) (k : Nat) (hk : k < M.length) : fm a (M.take (k + 1)) = min (fm a (M.take k)) (M.getD k 0) := by
  rw [List.take_add_one, List.getElem?_eq_getElem hk, show (some M[k]).toList = [M[k]] from rfl, fm_app]
  simp [List.getD, hk]
/-- the marks of the others -/
def oth (s : Nat) (L : List Int) : List Int := L.take s ++ L.drop (s + 1)
theorem oth_len {s : Nat} {L : List Int} (hs : s < L.length) : (oth s L).length = L.length - 1 := by
  unfold oth
  simp
  omega
theorem oth_mem {s : Nat} {L : List Int} {x : Int} : x ∈ oth s L ↔ ∃ i, i < L.length ∧ i ≠ s ∧ L.getD i 0 = x := by
  unfold oth
  rw [List.mem_append, List.mem_take_iff_getElem, List.mem_drop_iff_getElem]
  constructor
  · rintro (⟨i, hi, e⟩ | ⟨i, hi, e⟩)
    · exact ⟨i, by omega, by omega, by simp [List.getD, show i < L.length by omega]; exact e⟩
    · exact ⟨s + 1 + i, by omega, by omega, by simp [List.getD, show s + 1 + i < L.length by omega]; exact e⟩
  · rintro ⟨i, hi, hne, e⟩
    simp [List.getD, hi] at e
    rcases Nat.lt_or_ge i s with h | h
    · exact .inl ⟨i, by omega, e⟩
    · obtain ⟨j, rfl⟩ : ∃ j, i = s + 1 + j := ⟨i - (s + 1), by omega⟩
      exact .inr ⟨j, by omega, e⟩
/-- n is the least of the marks of the others -/
structure IsL (s : Nat) (L : List Int) (n : Int) : Prop where
  le : ∀ i, i < L.length → i ≠ s → n ≤ L.getD i 0
  ex : ∃ i, i < L.length ∧ i ≠ s ∧ L.getD i 0 = n
theorem IsL.one {s : Nat} {L : List Int} {a b : Int} (h : IsL s L a) (k : IsL s L b) : a = b := by
  obtain ⟨i, hi, hs, e⟩ := h.ex
  obtain ⟨j, hj, hs', e'⟩ := k.ex
  have h1 := h.le j hj hs'
  have h2 := k.le i hi hs
  omega
def lea (s : Nat) (L : List Int) : Int := match oth s L with
  | [] => 0
  | a :: M => fm a M
theorem isL_lea {s : Nat} {L : List Int} (hs : s < L.length) (h2 : 2 ≤ L.length) : IsL s L (lea s L) := by
  have hl := oth_len hs
  have hm := fun x => oth_mem (s := s) (L := L) (x := x)
  unfold lea
  generalize oth s L = O at hl hm
  match O, hl with
  | [], hl => simp at hl; omega
  | a :: M, _ =>
    refine ⟨fun i hi hne => ?_, ?_⟩
    · have h := (hm (L.getD i 0)).2 ⟨i, hi, hne, rfl⟩
      rcases List.mem_cons.1 h with h | h
      · rw [h]; exact (fm_le M a).1
      · exact (fm_le M a).2 _ h
    · apply (hm _).1
      rcases fm_in M a with h | h
      · show fm a M ∈ _
        rw [h]; exact List.mem_cons_self ..
      · exact List.mem_cons_of_mem _ h
/-- may this mark be taken? -/
def MayG (n s : Nat) (p f : Int) : Prop := 0 ≤ p ∧ p < n ∧ p ≠ s ∧ 0 ≤ f ∧ f ≤ 1099511627776
theorem MayG.dec (n s : Nat) (p f : Int) : MayG n s p f ∨ ¬ MayG n s p f := Classical.em _
def mkL (L : List Int) (p : Nat) (f : Int) : List Int := L.set p (max (L.getD p 0) f)
/-- may such a plan be asked for? -/
def MayL (a h l : Int) : Prop := 0 ≤ h ∧ h ≤ a ∧ a ≤ 1099511627776 ∧ a - h ≤ 48 ∧ 1 ≤ l ∧ l < 48
/-- where it leads -/
def plT (n a h l : Int) : Int := max (min (min (a + 1 - l) n) (h + 4)) h
end Go.Proofs.Ytlebmimlmakogaa
