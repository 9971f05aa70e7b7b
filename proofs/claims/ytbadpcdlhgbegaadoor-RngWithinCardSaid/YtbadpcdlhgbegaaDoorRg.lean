/- Plain: a place by weights; an order in which two change places again and again. No program is named here. -/
namespace Go.Proofs.YtbadpcdlhgbegaaDoor.Rg

/-- The sum of weights. -/
def sum : List Int → Int
  | [] => 0
  | w :: r => w + sum r
/-- The first place of which the weights up to it, with it, are together above x. -/
def pick (x : Int) : List Int → Nat
  | [] => 0
  | w :: r => if x < w then 0 else pick (x - w) r + 1
theorem sum_append (a b : List Int) : sum (a ++ b) = sum a + sum b := by
  induction a with
  | nil => simp [sum]
  | cons w r ih => simp [sum, ih]; omega
theorem sum_nonneg {l : List Int} (h : ∀ w ∈ l, 0 ≤ w) : 0 ≤ sum l := by
  induction l with
  | nil => simp [sum]
  | cons w r ih =>
    have h1 := h w (List.mem_cons_self ..)
    have h2 := ih fun v hv => h v (List.mem_cons_of_mem _ hv)
    simp only [sum]; omega
theorem sum_le {l : List Int} {m : Int} (h : ∀ w ∈ l, w ≤ m) : sum l ≤ l.length * m := by
  induction l with
  | nil => simp [sum]
  | cons w r ih =>
    have h1 := h w (List.mem_cons_self ..)
    have h2 := ih fun v hv => h v (List.mem_cons_of_mem _ hv)
    simp only [sum, List.length_cons]
    rw [Int.natCast_add, Int.add_mul]
    have : ((1 : Nat) : Int) * m = m := by simp
    omega
/-- It is a place, and its weight is not 0. -/
theorem pick_ok : ∀ (l : List Int) (x : Int), (∀ w ∈ l, 0 ≤ w) → 0 ≤ x → x < sum l → ∃ h : pick x l < l.length, 0 < l[pick x l]
  | [], x, _, h0, h1 => by simp [sum] at h1; omega
  | w :: r, x, hw, h0, h1 => by
    by_cases hx : x < w
    · have e : pick x (w :: r) = 0 := by simp [pick, hx]
      refine ⟨by simp [e], ?_⟩
      simp only [e, List.getElem_cons_zero]
      omega
    · have e : pick x (w :: r) = pick (x - w) r + 1 := by simp [pick, hx]
      obtain ⟨a, b⟩ := pick_ok r (x - w) (fun v hv => hw v (List.mem_cons_of_mem _ hv)) (by omega) (by simp only [sum] at h1; omega)
      refine ⟨by simp only [e, List.length_cons]; omega, ?_⟩
      simp only [e, List.getElem_cons_succ]
      exact b
/-- Passing a weight that is not above what is left. -/
theorem pick_step {l : List Int} {i : Nat} {x y : Int} (hi : i < l.length) (h : pick x l = i + pick y (l.drop i)) (hy : ¬ y < l[i]) : pick x l = (i + 1) + pick (y - l[i]) (l.drop (i + 1)) := by
  rw [h, List.drop_eq_getElem_cons hi]
  simp only [pick, if_neg hy]
  omega
theorem pick_here {l : List Int} {i : Nat} {x y : Int} (hi : i < l.length) (h : pick x l = i + pick y (l.drop i)) (hy : y < l[i]) : pick x l = i := by
  rw [h, List.drop_eq_getElem_cons hi]
  simp only [pick, if_pos hy]
  omega

/-- Two change places. -/
def swap (l : List Int) (i j : Nat) : List Int := (l.set i (l.getD j 0)).set j (l.getD i 0)
theorem swap_length (l : List Int) (i j : Nat) : (swap l i j).length = l.length := by simp [swap]
theorem count_set {l : List Int} {i : Nat} (hi : i < l.length) (v u : Int) : (l.set i v).count u + (if l[i] = u then 1 else 0) = l.count u + (if v = u then 1 else 0) := by
  have e : l = l.take i ++ l[i] :: l.drop (i + 1) := by rw [← List.drop_eq_getElem_cons hi, List.take_append_drop]
  have e2 : l.set i v = l.take i ++ v :: l.drop (i + 1) := by rw [List.set_eq_take_append_cons_drop, if_pos hi]
  rw [e2]
  have e3 : l.count u = (l.take i ++ l[i] :: l.drop (i + 1)).count u := congrArg (List.count u) e
  rw [e3]
  simp only [List.count_append, List.count_cons, beq_iff_eq]
  omega
/-- Each number is there as often as before. -/
theorem swap_count {l : List Int} {i j : Nat} (hi : i < l.length) (hj : j < l.length) (u : Int) : (swap l i j).count u = l.count u := by
  have a1 : l.getD j 0 = l[j] := by simp [List.getD, hj]
  have a2 : l.getD i 0 = l[i] := by simp [List.getD, hi]
  unfold swap
  rw [a1, a2]
  have h1 := count_set hi l[j] u
  have h2 := count_set (l := l.set i l[j]) (i := j) (by simpa using hj) l[i] u
  have h3 : (l.set i l[j])[j]'(by simpa using hj) = l[j] := by
    by_cases hij : i = j
    · subst hij; simp
    · rw [List.getElem_set_ne hij]
  rw [h3] at h2
  omega
/-- Behind the turns at i, i - 1, .., 1. -/
def turns (f : Nat → Nat) : Nat → List Int → List Int
  | 0, l => l
  | i + 1, l => turns f i (swap l (i + 1) (f (i + 1)))
theorem turns_length (f : Nat → Nat) : ∀ (i : Nat) (l : List Int), (turns f i l).length = l.length
  | 0, _ => rfl
  | i + 1, l => by rw [turns, turns_length f i, swap_length]
theorem turns_count (f : Nat → Nat) (u : Int) : ∀ (i : Nat) (l : List Int), i < l.length → (∀ k, k ≤ i → f k ≤ k) → (turns f i l).count u = l.count u
  | 0, _, _, _ => rfl
  | i + 1, l, hi, hf => by
    have h1 := hf (i + 1) (Nat.le_refl _)
    rw [turns, turns_count f u i _ (by rw [swap_length]; omega) (fun k hk => hf k (by omega)), swap_count hi (by omega)]
/-- The numbers from 0 on. -/
def upTo : Nat → List Int
  | 0 => []
  | n + 1 => upTo n ++ [(n : Int)]
theorem upTo_length (n : Nat) : (upTo n).length = n := by
  induction n with
  | zero => rfl
  | succ n ih => simp [upTo, ih]
theorem upTo_count (n m : Nat) : (upTo n).count (m : Int) = if m < n then 1 else 0 := by
  induction n with
  | zero => simp [upTo]
  | succ n ih =>
    simp only [upTo, List.count_append, ih, List.count_cons, List.count_nil, beq_iff_eq]
    split <;> split <;> split <;> omega
end Go.Proofs.YtbadpcdlhgbegaaDoor.Rg
