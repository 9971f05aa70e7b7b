/- Scores in plain words: which may be, what a hit and a gain make of them, who is ahead. No function of the program is named here. -/
namespace Go.Proofs.YtdljmpjfiggdiaaDoor.Ea

/-- a score -/
structure Scr where
  p : Int
  h : Int
  o : Int
  k : Int
def zC : Scr := ⟨0, 0, 0, 0⟩
def MayC (s : Scr) : Prop := (-2147483647 ≤ s.p ∧ s.p ≤ 2147483647) ∧ (0 ≤ s.h ∧ s.h ≤ 2147483647) ∧ (0 ≤ s.o ∧ s.o ≤ 2147483647) ∧ (0 ≤ s.k ∧ s.k ≤ 2147483647)
def decMayC (s : Scr) : Decidable (MayC s) := by unfold MayC; infer_instance
def mayC (s : Scr) : Bool := @decide (MayC s) (decMayC s)
theorem mayC_iff {s : Scr} : mayC s = true ↔ MayC s := @decide_eq_true_iff (MayC s) (decMayC s)
theorem mayC_no {s : Scr} (h : ¬ MayC s) : mayC s = false := by
  cases e : mayC s with
  | false => rfl
  | true => exact absurd (mayC_iff.1 e) h
def chkC (s : Scr) : Int := if mayC s then 0 else 120
theorem chkC_yes {s : Scr} (h : MayC s) : chkC s = 0 := by unfold chkC; rw [mayC_iff.2 h]; rfl
theorem chkC_no {s : Scr} (h : ¬ MayC s) : chkC s = 120 := by unfold chkC; rw [mayC_no h]; rfl
/-- within the bounds -/
def bdC (n : Int) : Int := if n > 2147483647 then 2147483647 else if n < -2147483647 then -2147483647 else n
theorem bdC_in (n : Int) : -2147483647 ≤ bdC n ∧ bdC n ≤ 2147483647 := by unfold bdC; split <;> (try split) <;> omega
theorem bdC_id {n : Int} (h1 : -2147483647 ≤ n) (h2 : n ≤ 2147483647) : bdC n = n := by unfold bdC; rw [if_neg (by omega), if_neg (by omega)]
theorem bdC_pos {n : Int} (h : 0 ≤ n) : 0 ≤ bdC n := by unfold bdC; split <;> (try split) <;> omega
/-- what a hit brings -/
def moreC (s : Scr) (w : Int) (out : Bool) : Int := if out then w + 10 + (if s.k < 5 then s.k else 5) else w
def hitA (s : Scr) (w : Int) (out : Bool) : Scr := ⟨bdC (s.p + moreC s w out), bdC (s.h + 1), s.o, if out then bdC (s.k + 1) else s.k⟩
def hitW (s : Scr) (out : Bool) : Scr := if out then ⟨bdC (s.p - 2), s.h, bdC (s.o + 1), 0⟩ else s
def errC (a b : Scr) (w : Int) : Int := if mayC a && mayC b then (if 1 ≤ w ∧ w ≤ 3 then 0 else 1) else 120
def hit1 (a b : Scr) (w : Int) (out : Bool) : Scr := if errC a b w = 0 then hitA a w out else zC
def hit2 (a b : Scr) (w : Int) (out : Bool) : Scr := if errC a b w = 0 then hitW b out else zC
theorem errC_ok {a b : Scr} {w : Int} (h : errC a b w = 0) : MayC a ∧ MayC b ∧ 1 ≤ w ∧ w ≤ 3 := by
  unfold errC at h
  cases ha : mayC a with
  | false => rw [ha] at h; simp at h
  | true =>
    cases hb : mayC b with
    | false => rw [ha, hb] at h; simp at h
    | true =>
      rw [ha, hb] at h
      by_cases hw : 1 ≤ w ∧ w ≤ 3
      · exact ⟨mayC_iff.1 ha, mayC_iff.1 hb, hw⟩
      · simp [hw] at h
theorem errC_yes {a b : Scr} {w : Int} (ha : MayC a) (hb : MayC b) (hw : 1 ≤ w ∧ w ≤ 3) : errC a b w = 0 := by
  unfold errC; rw [mayC_iff.2 ha, mayC_iff.2 hb, if_pos hw]; rfl
theorem errC_arg {a b : Scr} {w : Int} (ha : MayC a) (hb : MayC b) (hw : ¬ (1 ≤ w ∧ w ≤ 3)) : errC a b w = 1 := by
  unfold errC; rw [mayC_iff.2 ha, mayC_iff.2 hb, if_neg hw]; rfl
theorem errC_may {a b : Scr} {w : Int} (h : ¬ (MayC a ∧ MayC b)) : errC a b w = 120 := by
  unfold errC
  rw [if_neg]
  intro e
  rw [Bool.and_eq_true] at e
  exact h ⟨mayC_iff.1 e.1, mayC_iff.1 e.2⟩
theorem moreC_in {s : Scr} {w : Int} {out : Bool} (hs : MayC s) (hw : 1 ≤ w ∧ w ≤ 3) : w ≤ moreC s w out ∧ moreC s w out ≤ 18 := by
  unfold moreC
  obtain ⟨_, _, _, hk⟩ := hs
  split
  · split <;> omega
  · omega
/-- what a hit makes may be -/
theorem may_hitA {s : Scr} {w : Int} {out : Bool} (hs : MayC s) : MayC (hitA s w out) := by
  obtain ⟨h1, h2, h3, h4⟩ := hs
  refine ⟨bdC_in _, ⟨bdC_pos (by omega), (bdC_in _).2⟩, h3, ?_⟩
  show 0 ≤ (if out then bdC (s.k + 1) else s.k) ∧ (if out then bdC (s.k + 1) else s.k) ≤ 2147483647
  split
  · exact ⟨bdC_pos (by omega), (bdC_in _).2⟩
  · exact h4
theorem may_hitW {s : Scr} {out : Bool} (hs : MayC s) : MayC (hitW s out) := by
  obtain ⟨h1, h2, h3, h4⟩ := hs
  unfold hitW
  split
  · exact ⟨bdC_in _, h2, ⟨bdC_pos (by omega), (bdC_in _).2⟩, Int.le_refl 0, (by decide : (0 : Int) ≤ 2147483647)⟩
  · exact ⟨h1, h2, h3, h4⟩
def errG (s : Scr) (n : Int) : Int := if mayC s then (if 0 ≤ n ∧ n ≤ 100 then 0 else 1) else 120
def gain (s : Scr) (n : Int) : Scr := if errG s n = 0 then { s with p := bdC (s.p + n) } else zC
theorem errG_yes {s : Scr} {n : Int} (hs : MayC s) (hn : 0 ≤ n ∧ n ≤ 100) : errG s n = 0 := by
  unfold errG; rw [mayC_iff.2 hs, if_pos hn]; rfl
theorem errG_arg {s : Scr} {n : Int} (hs : MayC s) (hn : ¬ (0 ≤ n ∧ n ≤ 100)) : errG s n = 1 := by
  unfold errG; rw [mayC_iff.2 hs, if_neg hn]; rfl
theorem errG_may {s : Scr} {n : Int} (hs : ¬ MayC s) : errG s n = 120 := by
  unfold errG; rw [mayC_no hs]; rfl
theorem may_gain {s : Scr} {n : Int} (hs : MayC s) : MayC { s with p := bdC (s.p + n) } := ⟨bdC_in _, hs.2⟩

/-- the score at a place -/
def sc (L : List Scr) (i : Nat) : Scr := L.getD i zC
theorem sc_at {L : List Scr} {i : Nat} (h : i < L.length) : sc L i = L[i] := by simp [sc, List.getD, h]
/-- the same in what counts -/
def evn (a b : Scr) : Prop := a.p = b.p ∧ a.o = b.o ∧ a.h = b.h
/-- ahead: the one at i of the one at k -/
def ahd (L : List Scr) (i k : Nat) : Bool := if (sc L i).p ≠ (sc L k).p then decide ((sc L i).p > (sc L k).p) else if (sc L i).o ≠ (sc L k).o then decide ((sc L i).o < (sc L k).o) else if (sc L i).h ≠ (sc L k).h then decide ((sc L i).h > (sc L k).h) else decide (i < k)
def Fore (a b : Scr) : Prop := a.p > b.p ∨ a.p = b.p ∧ (a.o < b.o ∨ a.o = b.o ∧ a.h > b.h)
theorem ahd_iff {L : List Scr} {i k : Nat} : ahd L i k = true ↔ Fore (sc L i) (sc L k) ∨ evn (sc L i) (sc L k) ∧ i < k := by
  unfold ahd Fore evn
  split
  · simp only [decide_eq_true_eq]; omega
  · split
    · simp only [decide_eq_true_eq]; omega
    · split
      · simp only [decide_eq_true_eq]; omega
      · simp only [decide_eq_true_eq]; omega
theorem ahd_irr (L : List Scr) (i : Nat) : ahd L i i = false := by
  cases h : ahd L i i with
  | false => rfl
  | true =>
    have := ahd_iff.1 h
    unfold Fore evn at this
    omega
theorem ahd_trans {L : List Scr} {i j k : Nat} (h1 : ahd L i j = true) (h2 : ahd L j k = true) : ahd L i k = true := by
  rw [ahd_iff] at h1 h2 ⊢
  unfold Fore evn at *
  omega
theorem ahd_total {L : List Scr} {i k : Nat} (h : i ≠ k) : ahd L i k = true ∨ ahd L k i = true := by
  rw [ahd_iff, ahd_iff]
  unfold Fore evn
  omega
/-- how many are ahead of the one at i -/
def cntC (L : List Scr) (i : Nat) : Nat := (List.range L.length).countP fun k => ahd L k i
theorem count_or {α : Type} (p q : α → Bool) (l : List α) (hd : ∀ x ∈ l, ¬ (p x = true ∧ q x = true)) : (l.countP fun x => p x || q x) = l.countP p + l.countP q := by
  induction l with
  | nil => rfl
  | cons a l ih =>
    have ih' := ih (fun x hx => hd x (List.mem_cons_of_mem a hx))
    have ha := hd a (List.mem_cons_self ..)
    simp only [List.countP_cons, ih']
    cases hp : p a <;> cases hq : q a
    · simp
    · simp; omega
    · simp; omega
    · exact absurd ⟨hp, hq⟩ ha
theorem count_le {α : Type} (p q : α → Bool) (l : List α) (h : ∀ x ∈ l, p x = true → q x = true) : l.countP p ≤ l.countP q := List.countP_mono_left h
theorem one_count {n i : Nat} (h : i < n) : ((List.range n).countP fun k => decide (k = i)) = 1 := by
  induction n with
  | zero => omega
  | succ n ih =>
    rw [List.range_succ, List.countP_append]
    simp only [List.countP_cons, List.countP_nil, decide_eq_true_eq]
    by_cases hi : i = n
    · subst hi
      have : ((List.range i).countP fun k => decide (k = i)) = 0 := by
        rw [List.countP_eq_zero]
        intro x hx
        have := List.mem_range.1 hx
        simp; omega
      rw [this]; simp
    · rw [ih (by omega), if_neg (by omega)]
theorem cntC_mono {L : List Scr} {i k : Nat} (hi : i < L.length) (h : ahd L i k = true) : cntC L i < cntC L k := by
  have h1 := count_or (fun x => ahd L x i) (fun x => decide (x = i)) (List.range L.length) (fun x _ ⟨a, b⟩ => by
    simp at b; subst b; rw [ahd_irr] at a; cases a)
  have h2 := count_le (fun x => ahd L x i || decide (x = i)) (fun x => ahd L x k) (List.range L.length) (fun x _ hx => by
    rw [Bool.or_eq_true] at hx
    rcases hx with hx | hx
    · exact ahd_trans hx h
    · simp at hx; subst hx; exact h)
  rw [h1, one_count hi] at h2
  unfold cntC
  omega
theorem cntC_lt {L : List Scr} {i : Nat} (hi : i < L.length) : cntC L i < L.length := by
  have h1 := count_or (fun x => ahd L x i) (fun x => decide (x = i)) (List.range L.length) (fun x _ ⟨a, b⟩ => by
    simp at b; subst b; rw [ahd_irr] at a; cases a)
  have h2 : ((List.range L.length).countP fun x => ahd L x i || decide (x = i)) ≤ (List.range L.length).length := List.countP_le_length
  rw [h1, one_count hi, List.length_range] at h2
  unfold cntC
  omega
theorem cntC_inj {L : List Scr} {i k : Nat} (hi : i < L.length) (hk : k < L.length) (h : cntC L i = cntC L k) : i = k := by
  by_cases he : i = k
  · exact he
  · rcases ahd_total (L := L) he with h1 | h1
    · have := cntC_mono hi h1; omega
    · have := cntC_mono hk h1; omega
theorem cntC_ahd {L : List Scr} {i k : Nat} (hk : k < L.length) (h : cntC L i < cntC L k) : ahd L i k = true := by
  by_cases he : i = k
  · subst he; omega
  · rcases ahd_total (L := L) he with h1 | h1
    · exact h1
    · have := cntC_mono hk h1; omega
/-- as many numbers below n as there are below n: each is met -/
theorem pig_low (f : Nat → Nat) (n : Nat) (hi : ∀ i k, i < n → k < n → f i = f k → i = k) : ∀ m, ((List.range n).countP fun i => decide (f i < m)) ≤ m
  | 0 => by
    have : ((List.range n).countP fun i => decide (f i < 0)) = 0 := by rw [List.countP_eq_zero]; intro x _; simp
    omega
  | m + 1 => by
    have ih := pig_low f n hi m
    have h1 := count_or (fun i => decide (f i < m)) (fun i => decide (f i = m)) (List.range n) (fun x _ ⟨a, b⟩ => by simp at a b; omega)
    have h2 : ((List.range n).countP fun i => decide (f i < m + 1)) = (List.range n).countP fun i => decide (f i < m) || decide (f i = m) := by
      congr 1
      funext i
      rw [Bool.eq_iff_iff, Bool.or_eq_true]
      simp only [decide_eq_true_eq]
      omega
    have h3 : ((List.range n).countP fun i => decide (f i = m)) ≤ 1 := by
      by_cases he : ∃ i, i < n ∧ f i = m
      · obtain ⟨i, hin, hfm⟩ := he
        have := count_le (fun k => decide (f k = m)) (fun k => decide (k = i)) (List.range n) (fun k hk hx => by
          simp at hx ⊢
          exact hi k i (List.mem_range.1 hk) hin (by omega))
        rw [one_count hin] at this
        exact this
      · have : ((List.range n).countP fun i => decide (f i = m)) = 0 := by
          rw [List.countP_eq_zero]
          intro x hx
          simp
          exact fun e => he ⟨x, List.mem_range.1 hx, e⟩
        omega
    omega
theorem pig (f : Nat → Nat) (n : Nat) (hf : ∀ i, i < n → f i < n) (hi : ∀ i k, i < n → k < n → f i = f k → i = k) (j : Nat) (hj : j < n) : ∃ i, i < n ∧ f i = j := by
  by_cases he : ∃ i, i < n ∧ f i = j
  · exact he
  · exfalso
    -- what lies above j, one lower
    have h1 := pig_low (fun i => if f i > j then f i - 1 else f i) n (fun i k h1 h2 h3 => by
      have g1 : f i ≠ j := fun e => he ⟨i, h1, e⟩
      have g2 : f k ≠ j := fun e => he ⟨k, h2, e⟩
      apply hi i k h1 h2
      split at h3 <;> split at h3 <;> omega) (n - 1)
    have h2 : ((List.range n).countP fun i => decide ((if f i > j then f i - 1 else f i) < n - 1)) = n := by
      have : ((List.range n).countP fun i => decide ((if f i > j then f i - 1 else f i) < n - 1)) = (List.range n).length := by
        rw [List.countP_eq_length]
        intro x hx
        have hx' := List.mem_range.1 hx
        have := hf x hx'
        have g1 : f x ≠ j := fun e => he ⟨x, hx', e⟩
        simp only [decide_eq_true_eq]
        split <;> omega
      rw [this, List.length_range]
    omega
theorem cntC_sur {L : List Scr} {j : Nat} (hj : j < L.length) : ∃ i, i < L.length ∧ cntC L i = j :=
  pig (cntC L) L.length (fun _ h => cntC_lt h) (fun _ _ h1 h2 h3 => cntC_inj h1 h2 h3) j hj
/-- the ranking, as far as the first i -/
def rnkF (L : List Scr) : Nat → List Int
  | 0 => List.replicate L.length 0
  | i + 1 => (rnkF L i).set (cntC L i) (i : Int)
def rnk (L : List Scr) : List Int := rnkF L L.length
theorem rnkF_len (L : List Scr) : ∀ i, (rnkF L i).length = L.length
  | 0 => by simp [rnkF]
  | i + 1 => by rw [rnkF, List.length_set, rnkF_len L i]
theorem rnk_len (L : List Scr) : (rnk L).length = L.length := rnkF_len L _
theorem rnkF_at {L : List Scr} : ∀ {i : Nat}, i ≤ L.length → ∀ k, k < i → (rnkF L i)[cntC L k]? = some (k : Int)
  | 0, _, k, h => by omega
  | i + 1, hi, k, h => by
    have hl := rnkF_len L i
    have hc := cntC_lt (L := L) (i := k) (by omega)
    rw [rnkF]
    by_cases he : k = i
    · subst he
      rw [List.getElem?_set_self (by rw [hl]; exact hc)]
    · rw [List.getElem?_set_ne (fun e => he (cntC_inj (by omega) (by omega) e.symm)), rnkF_at (by omega) k (by omega)]
theorem rnk_at {L : List Scr} {k : Nat} (h : k < L.length) : (rnk L)[cntC L k]? = some (k : Int) := rnkF_at (Nat.le_refl _) k h
/-- who stands at a rank -/
theorem rnk_who {L : List Scr} {j : Nat} (h : j < L.length) : ∃ i, i < L.length ∧ cntC L i = j ∧ (rnk L)[j]? = some (i : Int) := by
  obtain ⟨i, hi, rfl⟩ := cntC_sur h
  exact ⟨i, hi, rfl, rnk_at hi⟩
/-- a list in which each stands behind as many as are ahead of it is the ranking -/
theorem rnk_only {L : List Scr} {R : List Int} (hl : R.length = L.length) (h : ∀ i, i < L.length → R[cntC L i]? = some (i : Int)) : R = rnk L := by
  apply List.ext_getElem?
  intro j
  by_cases hj : j < L.length
  · obtain ⟨i, hi, rfl⟩ := cntC_sur hj
    rw [h i hi, rnk_at hi]
  · rw [List.getElem?_eq_none (by omega), List.getElem?_eq_none (by rw [rnk_len]; omega)]
/-- may they be ranked -/
def rnkE (L : List Scr) : Bool := decide (L.length ≤ 6) && L.all mayC
def rnkA (L : List Scr) : List Int := if rnkE L then rnk L else []
def errR (L : List Scr) : Int := if rnkE L then 0 else 120
theorem rnkE_iff {L : List Scr} : rnkE L = true ↔ L.length ≤ 6 ∧ ∀ i, i < L.length → MayC (sc L i) := by
  unfold rnkE
  rw [Bool.and_eq_true, decide_eq_true_eq, List.all_eq_true]
  constructor
  · rintro ⟨h1, h2⟩
    exact ⟨h1, fun i hi => by rw [sc_at hi]; exact mayC_iff.1 (h2 _ (List.getElem_mem hi))⟩
  · rintro ⟨h1, h2⟩
    refine ⟨h1, fun x hx => ?_⟩
    obtain ⟨i, hi, rfl⟩ := List.mem_iff_getElem.1 hx
    rw [← sc_at hi]
    exact mayC_iff.2 (h2 i hi)
theorem rnkA_len (L : List Scr) : (rnkA L).length ≤ L.length := by
  unfold rnkA
  split
  · exact Nat.le_of_eq (rnk_len L)
  · simp
theorem rnkA_six (L : List Scr) : (rnkA L).length ≤ 6 := by
  unfold rnkA
  split
  · rename_i h
    rw [rnk_len]
    exact (rnkE_iff.1 h).1
  · simp
/-- how many are ahead of a score by what they have; how many are ahead or even -/
def foreB (a b : Scr) : Bool := decide (a.p > b.p) || (decide (a.p = b.p) && (decide (a.o < b.o) || (decide (a.o = b.o) && decide (a.h > b.h))))
def leB (a b : Scr) : Bool := foreB a b || (decide (a.p = b.p) && decide (a.o = b.o) && decide (a.h = b.h))
theorem foreB_iff {a b : Scr} : foreB a b = true ↔ Fore a b := by
  unfold foreB Fore
  simp only [Bool.or_eq_true, Bool.and_eq_true, decide_eq_true_eq]
theorem leB_iff {a b : Scr} : leB a b = true ↔ Fore a b ∨ evn a b := by
  unfold leB evn
  rw [Bool.or_eq_true, foreB_iff]
  simp only [Bool.and_eq_true, decide_eq_true_eq, and_assoc]
theorem count_range {L : List Scr} (p : Scr → Bool) : ((List.range L.length).countP fun k => p (sc L k)) = L.countP p := by
  have e : L = (List.range L.length).map (sc L) := by
    apply List.ext_getElem
    · simp
    · intro i h1 h2
      simp [sc_at h1]
  conv => rhs; rw [e, List.countP_map]
  rfl
theorem cntC_between {L : List Scr} {i : Nat} (hi : i < L.length) : L.countP (fun x => foreB x (sc L i)) ≤ cntC L i ∧ cntC L i < L.countP (fun x => leB x (sc L i)) := by
  rw [← count_range, ← count_range]
  constructor
  · exact count_le _ _ _ (fun x _ h => ahd_iff.2 (.inl (foreB_iff.1 h)))
  · have h1 := count_or (fun x => ahd L x i) (fun x => decide (x = i)) (List.range L.length) (fun x _ ⟨a, b⟩ => by
      simp at b; subst b; rw [ahd_irr] at a; cases a)
    have h2 := count_le (fun x => ahd L x i || decide (x = i)) (fun x => leB (sc L x) (sc L i)) (List.range L.length) (fun x _ hx => by
      rw [Bool.or_eq_true] at hx
      rw [leB_iff]
      rcases hx with hx | hx
      · rcases ahd_iff.1 hx with h | h
        · exact .inl h
        · exact .inr h.1
      · simp at hx; subst hx; exact .inr ⟨rfl, rfl, rfl⟩)
    rw [h1, one_count hi] at h2
    unfold cntC
    omega
/-- turned about, the same rank has the like of it -/
theorem rnk_turned {L : List Scr} {i k : Nat} (hi : i < L.length) (hk : k < L.length) (h : cntC L i = cntC L.reverse k) : evn (sc L i) (sc L.reverse k) := by
  obtain ⟨a1, a2⟩ := cntC_between hi
  obtain ⟨b1, b2⟩ := cntC_between (L := L.reverse) (i := k) (by simpa using hk)
  rw [List.countP_reverse] at b1 b2
  have tri : Fore (sc L i) (sc L.reverse k) ∨ evn (sc L i) (sc L.reverse k) ∨ Fore (sc L.reverse k) (sc L i) := by
    unfold Fore evn; omega
  rcases tri with t | t | t
  · have := count_le (fun x => leB x (sc L i)) (fun x => foreB x (sc L.reverse k)) L (fun x _ hx => by
      rw [leB_iff] at hx
      rw [foreB_iff]
      unfold Fore evn at *
      omega)
    omega
  · exact t
  · have := count_le (fun x => leB x (sc L.reverse k)) (fun x => foreB x (sc L i)) L (fun x _ hx => by
      rw [leB_iff] at hx
      rw [foreB_iff]
      unfold Fore evn at *
      omega)
    omega
theorem all_rev {L : List Scr} : rnkE L.reverse = rnkE L := by unfold rnkE; simp
end Go.Proofs.YtdljmpjfiggdiaaDoor.Ea
