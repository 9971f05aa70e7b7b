/- A log plainly: its entries in order, by frames; what each call makes of it. -/
import Derived.Test.YtdmgalaajgebkaaQve
namespace Go.Proofs.Ytdmgalaajgebkaa
open Go.RowKit
set_option maxRecDepth 100000

/-- a log: for how many peers and copies, its base, its entries in order -/
structure Lgs where
  np : Int
  nr : Int
  ba : Int
  S : List En
structure Lo (s : Lgs) : Prop where
  p : 2 ≤ s.np ∧ s.np ≤ 6
  r : 2 ≤ s.nr ∧ s.nr ≤ 5
  b : 0 ≤ s.ba ∧ s.ba ≤ 1099511627776
  srt : Srt s.S
  fr : ∀ x ∈ s.S, s.ba < x.fr ∧ x.fr ≤ s.ba + 112
  pe : ∀ x ∈ s.S, 0 ≤ x.pe ∧ x.pe < s.np
  ms : ∀ x ∈ s.S, 0 ≤ x.ms ∧ x.ms < s.nr
  few : ∀ f p, s.S.countP (fun x => decide (x.fr = f ∧ x.pe = p)) ≤ 3
/-- a frame's; a place's -/
def onF (f : Int) (S : List En) : List En := S.filter fun x => decide (x.fr = f)
def plc (i : Nat) (S : List En) : List En := S.filter fun x => decide (x.fr % 112 = (i : Int))
/-- how many lie below a frame -/
def lowN (f : Int) (S : List En) : Nat := S.countP fun x => decide (x.fr < f)
theorem cntP_or {p q : En → Bool} (h : ∀ x, ¬ (p x = true ∧ q x = true)) : ∀ (S : List En), S.countP (fun x => p x || q x) = S.countP p + S.countP q
  | [] => rfl
  | x :: S => by
    have ih := cntP_or h S
    have hx := h x
    simp only [List.countP_cons, ih]
    cases hp : p x <;> cases hq : q x <;> simp [hp, hq] at hx ⊢ <;> omega
theorem lowN_next (f : Int) (S : List En) : lowN (f + 1) S = lowN f S + (onF f S).length := by
  unfold lowN onF
  rw [← List.countP_eq_length_filter, ← cntP_or (fun x => by simp; omega)]
  congr 1
  funext x
  rw [← Bool.decide_or]
  exact decide_eq_decide.2 (by omega)
theorem lowN_first {s : Lgs} (h : Lo s) : lowN (s.ba + 1) s.S = 0 := by
  unfold lowN
  rw [List.countP_eq_zero]
  intro x hx
  have := h.fr x hx
  simp; omega
theorem lowN_last {s : Lgs} (h : Lo s) : lowN (s.ba + 113) s.S = s.S.length := by
  unfold lowN
  rw [List.countP_eq_length]
  intro x hx
  have := h.fr x hx
  simp; omega
theorem lowN_le (f : Int) (S : List En) : lowN f S ≤ S.length := List.countP_le_length
theorem plc_on {s : Lgs} (h : Lo s) {f : Int} (h1 : s.ba < f) (h2 : f ≤ s.ba + 112) : plc (f % 112).toNat s.S = onF f s.S := by
  unfold plc onF
  apply List.filter_congr
  intro x hx
  have := h.fr x hx
  have := h.b
  exact decide_eq_decide.2 (by omega)
/-- a list in order, cut at a frame -/
theorem srt_cut {S : List En} (h : Srt S) (f : Int) : S = (S.filter fun x => decide (x.fr < f)) ++ (onF f S ++ (S.filter fun x => decide (f < x.fr))) := by
  have hle : S.Pairwise (fun x y => x.fr ≤ y.fr) := h.imp (fun hxy => by rw [kc_lt] at hxy; omega)
  clear h
  unfold onF
  induction S with
  | nil => rfl
  | cons x S ih =>
    obtain ⟨h1, h2⟩ := List.pairwise_cons.1 hle
    have ih := ih h2
    by_cases hx : x.fr < f
    · rw [List.filter_cons_of_pos (by simpa using hx), List.filter_cons_of_neg (by simp; omega), List.filter_cons_of_neg (by simp; omega), List.cons_append, ← ih]
    · have e1 : (S.filter fun x => decide (x.fr < f)) = [] := by
        rw [List.filter_eq_nil_iff]
        intro y hy
        have := h1 y hy
        simp; omega
      rw [e1, List.nil_append] at ih
      rw [List.filter_cons_of_neg (by simpa using hx), e1, List.nil_append]
      by_cases hf : x.fr = f
      · rw [List.filter_cons_of_pos (by simpa using hf), List.filter_cons_of_neg (by simp; omega), List.cons_append, ← ih]
      · have e2 : (S.filter fun x => decide (x.fr = f)) = [] := by
          rw [List.filter_eq_nil_iff]
          intro y hy
          have := h1 y hy
          simp; omega
        rw [e2, List.nil_append] at ih
        rw [List.filter_cons_of_neg (by simpa using hf), e2, List.nil_append, List.filter_cons_of_pos (by simp; omega), ← ih]
theorem att_app_l {A B : List En} {k : Nat} (h : k < A.length) : att (A ++ B) k = att A k := by
  unfold att; rw [List.getD_eq_getElem?_getD, List.getD_eq_getElem?_getD, List.getElem?_append_left h]
theorem att_app_r {A B : List En} {k : Nat} : att (A ++ B) (A.length + k) = att B k := by
  unfold att; rw [List.getD_eq_getElem?_getD, List.getD_eq_getElem?_getD, List.getElem?_append_right (by omega), Nat.add_sub_cancel_left]
/-- the j-th of a frame is that one of all -/
theorem att_on {S : List En} (h : Srt S) (f : Int) {j : Nat} (hj : j < (onF f S).length) : att S (lowN f S + j) = att (onF f S) j := by
  have e : lowN f S = (S.filter fun x => decide (x.fr < f)).length := by unfold lowN; rw [List.countP_eq_length_filter]
  have e2 : att S (lowN f S + j) = att ((S.filter fun x => decide (x.fr < f)) ++ (onF f S ++ (S.filter fun x => decide (f < x.fr)))) (lowN f S + j) := congrArg (fun L => att L (lowN f S + j)) (srt_cut h f)
  rw [e2, e, att_app_r, att_app_l hj]
theorem on_fr {S : List En} {f : Int} {j : Nat} (hj : j < (onF f S).length) : (att (onF f S) j).fr = f := by
  have h1 := (List.mem_filter.1 (show att (onF f S) j ∈ S.filter _ from att_mem hj)).2
  exact of_decide_eq_true h1
theorem low_on_le {f g : Int} (h : f < g) (S : List En) : lowN f S + (onF f S).length ≤ lowN g S := by
  rw [← lowN_next]
  unfold lowN
  apply List.countP_mono_left
  intro x _ hx
  simp at hx ⊢; omega
/-- which frame the k-th has, and where it stands there -/
theorem att_at {s : Lgs} (h : Lo s) {k : Nat} (hk : k < s.S.length) : lowN (att s.S k).fr s.S ≤ k ∧ k - lowN (att s.S k).fr s.S < (onF (att s.S k).fr s.S).length := by
  have hm := att_mem hk
  obtain ⟨x, ex⟩ : ∃ x, att s.S k = x := ⟨_, rfl⟩
  rw [ex] at hm ⊢
  have e : lowN x.fr s.S = (s.S.filter fun y => decide (y.fr < x.fr)).length := by unfold lowN; rw [List.countP_eq_length_filter]
  have hc := srt_cut h.srt x.fr
  have h1 : lowN x.fr s.S ≤ k := by
    rcases Nat.lt_or_ge k (lowN x.fr s.S) with hlt | hge
    · exfalso
      rw [e] at hlt
      have e2 : att s.S k = att (s.S.filter fun y => decide (y.fr < x.fr)) k := by
        conv => lhs; rw [hc]
        rw [att_app_l hlt]
      have := (List.mem_filter.1 (att_mem hlt)).2
      rw [← e2, ex] at this
      simp at this
    · exact hge
  refine ⟨h1, ?_⟩
  rcases Nat.lt_or_ge (k - lowN x.fr s.S) (onF x.fr s.S).length with hlt | hge
  · exact hlt
  · exfalso
    have hl : s.S.length = (s.S.filter fun y => decide (y.fr < x.fr)).length + ((onF x.fr s.S).length + (s.S.filter fun y => decide (x.fr < y.fr)).length) := by
      conv => lhs; rw [hc]
      simp
    have e2 : att s.S k = att (s.S.filter fun y => decide (x.fr < y.fr)) (k - lowN x.fr s.S - (onF x.fr s.S).length) := by
      conv => lhs; rw [hc]
      rw [show k = (s.S.filter fun y => decide (y.fr < x.fr)).length + ((onF x.fr s.S).length + (k - lowN x.fr s.S - (onF x.fr s.S).length)) by omega, att_app_r, att_app_r]
      congr 1
      omega
    have hlt : k - lowN x.fr s.S - (onF x.fr s.S).length < (s.S.filter fun y => decide (x.fr < y.fr)).length := by omega
    have := (List.mem_filter.1 (att_mem hlt)).2
    rw [← e2, ex] at this
    simp at this
theorem att_fr {s : Lgs} (h : Lo s) {k : Nat} (hk : k < s.S.length) : s.ba < (att s.S k).fr ∧ (att s.S k).fr ≤ s.ba + 112 := h.fr _ (att_mem hk)
/-- how many of a peer on a frame -/
def cntF (f p : Int) (S : List En) : Nat := S.countP fun x => decide (x.fr = f ∧ x.pe = p)
/-- below a frame, or on it below a seat -/
def lowP (f p : Int) (S : List En) : Nat := S.countP fun x => decide (x.fr < f ∨ (x.fr = f ∧ x.pe < p))
theorem lowP_next (f p : Int) (S : List En) : lowP f (p + 1) S = lowP f p S + cntF f p S := by
  unfold lowP cntF
  rw [← cntP_or (fun x => by simp; omega)]
  congr 1
  funext x
  rw [← Bool.decide_or]
  exact decide_eq_decide.2 (by omega)
theorem lowP_zero {s : Lgs} (h : Lo s) (f : Int) : lowP f 0 s.S = lowN f s.S := by
  unfold lowP lowN
  apply List.countP_congr
  intro x hx
  have := h.pe x hx
  simp; omega
theorem lowP_all {s : Lgs} (h : Lo s) (f : Int) : lowP f s.np s.S = lowN (f + 1) s.S := by
  unfold lowP lowN
  apply List.countP_congr
  intro x hx
  have := h.pe x hx
  simp; omega
theorem lowP_le {s : Lgs} (h : Lo s) (f : Int) : ∀ i : Nat, lowP f (i : Int) s.S ≤ lowN f s.S + 3 * i
  | 0 => by rw [show ((0 : Nat) : Int) = 0 from rfl, lowP_zero h]; omega
  | i + 1 => by
    have ih := lowP_le h f i
    have := h.few f i
    rw [show ((i + 1 : Nat) : Int) = (i : Int) + 1 by omega, lowP_next]
    unfold cntF
    omega
theorem lowN_few {s : Lgs} (h : Lo s) : ∀ j : Nat, lowN (s.ba + 1 + (j : Int)) s.S ≤ 3 * s.np.toNat * j
  | 0 => by
    have := lowN_first h
    simp only [Int.ofNat_zero, Int.add_zero]
    omega
  | j + 1 => by
    have ih := lowN_few h j
    have h1 := lowP_le h (s.ba + 1 + (j : Int)) s.np.toNat
    have hp := h.p
    rw [Int.toNat_of_nonneg (by omega), lowP_all h] at h1
    rw [show s.ba + 1 + ((j + 1 : Nat) : Int) = s.ba + 1 + (j : Int) + 1 by omega, Nat.mul_add]
    omega
theorem len_few {s : Lgs} (h : Lo s) : s.S.length ≤ 3 * s.np.toNat * 112 := by
  have := lowN_few h 112
  rw [show s.ba + 1 + ((112 : Nat) : Int) = s.ba + 113 by omega, lowN_last h] at this
  exact this
theorem len_2016 {s : Lgs} (h : Lo s) : s.S.length ≤ 2016 := by
  have h1 := len_few h
  have h2 := h.p
  have h3 : s.np.toNat ≤ 6 := by omega
  have h4 : 3 * s.np.toNat * 112 ≤ 3 * 6 * 112 := Nat.mul_le_mul_right _ (Nat.mul_le_mul_left _ h3)
  omega
theorem on_len {s : Lgs} (h : Lo s) (f : Int) : (onF f s.S).length ≤ 18 := by
  have h1 := lowP_le h f s.np.toNat
  have hp := h.p
  rw [Int.toNat_of_nonneg (by omega), lowP_all h, lowN_next] at h1
  omega
end Go.Proofs.Ytdmgalaajgebkaa
