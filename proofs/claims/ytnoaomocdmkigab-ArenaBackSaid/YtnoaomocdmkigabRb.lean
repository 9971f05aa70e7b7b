/- Rows of bools that a call made; which cells one comes to: the plain facts. -/
import Derived.Test.YtnoaomocdmkigabFm
import Derived.Laws.MakeOwn
namespace Go.Proofs.Ytnoaomocdmkigab
open Go.RowKit
open Pu Gp Ap

def rowB (I : Nat → Bool) (n : Nat) : Array Value := ((List.range n).map fun i => Value.bool (I i)).toArray
theorem rowB_at (I : Nat → Bool) {n i : Nat} (h : i < n) : (rowB I n)[i]? = some (.bool (I i)) := by simp [rowB, h]
theorem rowB_size (I : Nat → Bool) (n : Nat) : (rowB I n).size = n := by simp [rowB]
def upd (I : Nat → Bool) (k : Nat) : Nat → Bool := fun j => if j = k then true else I j
theorem rowB_set (I : Nat → Bool) {n k : Nat} (_h : k < n) : (rowB I n).setIfInBounds k (.bool true) = rowB (upd I k) n := by
  apply Array.ext_getElem?
  intro i
  by_cases hi : i < n
  · rw [rowB_at _ hi]
    by_cases e : k = i
    · subst e
      rw [Array.getElem?_setIfInBounds_self, rowB_size, if_pos hi]
      simp [upd]
    · rw [Array.getElem?_setIfInBounds_ne e, rowB_at _ hi]
      simp [upd, show ¬ i = k from fun h => e h.symm]
  · rw [Array.getElem?_eq_none (by rw [Array.size_setIfInBounds, rowB_size]; omega), Array.getElem?_eq_none (by rw [rowB_size]; omega)]
/-- block g is a row of n bools -/
def Rb (w : World) (g n : Nat) (I : Nat → Bool) : Prop := w.heap[g]? = some (.cells (rowB I n) 4 (0, 0))
theorem Rb.still {w w' : World} {g n : Nat} {I : Nat → Bool} (h : Rb w g n I) (hs : Still w w') : Rb w' g n I := hs.kept_still h
theorem Rb.cell {w : World} {g n i : Nat} {I : Nat → Bool} (h : Rb w g n I) (hi : i < n) : w.cell? ⟨g, i, none⟩ = some (.bool (I i)) := by
  rw [cell_of_row _ _ _ _ _ _ h, rowB_at _ hi]
theorem Rb.frozen {w : World} {g n : Nat} {I : Nat → Bool} (h : Rb w g n I) (o : Nat) : w.frozen? ⟨g, o, none⟩ = false := frozen_of_row w g o _ _ h
theorem Rb.set {w : World} {g n k : Nat} {I : Nat → Bool} (h : Rb w g n I) (hk : k < n) : Rb (w.setCell ⟨g, k, none⟩ (.bool true)) g n (upd I k) := by
  unfold Rb
  rw [heap_setCell_same w g k _ _ (.bool true) h, rowB_set I hk]
/-- how many are false -/
def cntB (I : Nat → Bool) : Nat → Nat
  | 0 => 0
  | n + 1 => cntB I n + if I n then 0 else 1
theorem cntB_congr {I J : Nat → Bool} : ∀ {n : Nat}, (∀ i, i < n → I i = J i) → cntB I n = cntB J n
  | 0, _ => rfl
  | n + 1, h => by rw [cntB, cntB, cntB_congr (n := n) (fun i hi => h i (by omega)), h n (by omega)]
theorem cntB_upd {I : Nat → Bool} {k : Nat} (hk : I k = false) : ∀ {n : Nat}, k < n → cntB (upd I k) n + 1 = cntB I n
  | 0, h => by omega
  | n + 1, h => by
    rw [cntB, cntB]
    by_cases e : k = n
    · subst e
      rw [cntB_congr (n := k) (J := I) (fun i hi => by simp [upd, show ¬ i = k by omega]), hk]
      simp [upd]
    · have := cntB_upd hk (n := n) (by omega)
      simp only [upd, show ¬ n = k from fun h => e h.symm, if_false]
      omega
/-- the same, read in memory -/
def cntW (w : World) (g : Nat) : Nat → Nat
  | 0 => 0
  | n + 1 => cntW w g n + match w.cell? ⟨g, n, none⟩ with
    | some (.bool true) => 0
    | _ => 1
theorem cntW_eq {w : World} {g n : Nat} {I : Nat → Bool} (h : Rb w g n I) : ∀ {m : Nat}, m ≤ n → cntW w g m = cntB I m
  | 0, _ => rfl
  | m + 1, hm => by
    rw [cntW, cntB, cntW_eq h (by omega), h.cell (by omega)]
    cases I m <;> rfl

/-- may the i-th cell be gone to from a neighbour -/
def nbB (C : Nat) (I : Nat → Bool) (i : Nat) : Bool := I (i - 1) || (I (i + 1) || (I (i - C) || I (i + C)))
/-- what is closed under steps -/
def Shut (C N : Nat) (s : ByteArray) (I : Nat → Bool) : Prop := ∀ i, C ≤ i → i + C < N → byt s i ≠ 35 → nbB C I i = true → I i = true
/-- the cells that one comes to -/
def Rch (C N : Nat) (s : ByteArray) (f i : Nat) : Prop := ∀ I : Nat → Bool, I f = true → Shut C N s I → I i = true
theorem rch_from (C N : Nat) (s : ByteArray) (f : Nat) : Rch C N s f f := fun _ h _ => h
theorem rch_step {C N : Nat} {s : ByteArray} {f i : Nat} {I : Nat → Bool} (hI : ∀ j, I j = true → Rch C N s f j) (h1 : C ≤ i) (h2 : i + C < N) (h3 : byt s i ≠ 35) (h4 : nbB C I i = true) : Rch C N s f i := by
  intro J hf hJ
  refine hJ i h1 h2 h3 ?_
  unfold nbB at h4 ⊢
  simp only [Bool.or_eq_true] at h4 ⊢
  rcases h4 with h | h | h | h
  · exact .inl (hI _ h J hf hJ)
  · exact .inr (.inl (hI _ h J hf hJ))
  · exact .inr (.inr (.inl (hI _ h J hf hJ)))
  · exact .inr (.inr (.inr (hI _ h J hf hJ)))
/-- what is reached, as a row of bools -/
def IsR (C N : Nat) (s : ByteArray) (f : Nat) (I : Nat → Bool) : Prop := I f = true ∧ Shut C N s I ∧ ∀ i, I i = true → Rch C N s f i
theorem isR_one {C N : Nat} {s : ByteArray} {f : Nat} {I J : Nat → Bool} (h : IsR C N s f I) (k : IsR C N s f J) (i : Nat) : I i = J i := by
  cases e : I i with
  | true => exact (h.2.2 i e J k.1 k.2.1).symm
  | false =>
    cases e2 : J i with
    | false => rfl
    | true =>
      rw [k.2.2 i e2 I h.1 h.2.1] at e
      cases e
end Go.Proofs.Ytnoaomocdmkigab
