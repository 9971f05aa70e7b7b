/- Pickups in plain words: which may lie together, what comes, what one does. No function of the program is named here. -/
import Derived.Test.YtdljmpjfiggdiaaDoorK8
import Derived.Test.YtdljmpjfiggdiaaDoorK4
namespace Go.Proofs.YtdljmpjfiggdiaaDoor.Ka
open Np

/-- a pickup -/
structure Pk where
  no : Int
  sp : Int
  kd : Int
def zK : Pk := ⟨0, 0, 0⟩
def pk (L : List Pk) (i : Nat) : Pk := L.getD i zK
/-- this one may lie behind those ahead of it -/
def Fit (L : List Pk) (s : Int) (i : Nat) : Prop :=
  (1 ≤ (pk L i).no ∧ (pk L i).no ≤ 1099511627776) ∧ (0 < i → (pk L (i - 1)).no < (pk L i).no) ∧ (0 ≤ (pk L i).sp ∧ (pk L i).sp < s) ∧ (1 ≤ (pk L i).kd ∧ (pk L i).kd ≤ 3) ∧ ∀ k, k < i → (pk L k).sp ≠ (pk L i).sp
/-- they may lie together -/
def MayK (L : List Pk) (s : Int) : Prop := (0 ≤ s ∧ s ≤ 16) ∧ L.length ≤ 8 ∧ ∀ i, i < L.length → Fit L s i
def decMayK (L : List Pk) (s : Int) : Decidable (MayK L s) := by unfold MayK Fit; infer_instance
def mayK (L : List Pk) (s : Int) : Bool := @decide (MayK L s) (decMayK L s)
theorem mayK_iff {L : List Pk} {s : Int} : mayK L s = true ↔ MayK L s := @decide_eq_true_iff (MayK L s) (decMayK L s)
def chkK (L : List Pk) (s : Int) : Int := if mayK L s then 0 else 100
theorem chkK_yes {L : List Pk} {s : Int} (h : MayK L s) : chkK L s = 0 := by unfold chkK; rw [mayK_iff.2 h]; rfl
theorem chkK_no {L : List Pk} {s : Int} (h : ¬ MayK L s) : chkK L s = 100 := by
  unfold chkK
  rw [if_neg (fun e => h (mayK_iff.1 e))]
/-- does one lie at this spot -/
def lies (L : List Pk) (j : Nat) : Bool := L.any fun x => x.sp == (j : Int)
theorem lies_iff {L : List Pk} {j : Nat} : lies L j = true ↔ ∃ i, i < L.length ∧ (pk L i).sp = (j : Int) := by
  unfold lies
  rw [List.any_eq_true]
  constructor
  · rintro ⟨x, hx, h⟩
    obtain ⟨i, hi, rfl⟩ := List.mem_iff_getElem.1 hx
    refine ⟨i, hi, ?_⟩
    have : pk L i = L[i] := by simp [pk, List.getD, hi]
    rw [this]; simpa using h
  · rintro ⟨i, hi, h⟩
    have : pk L i = L[i] := by simp [pk, List.getD, hi]
    rw [this] at h
    exact ⟨L[i], List.getElem_mem hi, by simpa using h⟩
theorem lies_step {L : List Pk} {k j : Nat} (h : k < L.length) : lies (L.take (k + 1)) j = (lies (L.take k) j || (pk L k).sp == (j : Int)) := by
  have : pk L k = L[k] := by simp [pk, List.getD, h]
  rw [this]
  unfold lies
  rw [List.take_succ_eq_append_getElem h, List.any_append]
  simp
/-- the free spots below a number -/
def fre (L : List Pk) : Nat → List Int
  | 0 => []
  | j + 1 => fre L j ++ (if lies L j then [] else [(j : Int)])
theorem fre_len_le (L : List Pk) (s : Nat) : (fre L s).length ≤ s := by
  induction s with
  | zero => simp [fre]
  | succ s ih => simp only [fre, List.length_append]; split <;> simp <;> omega
theorem fre_mem {L : List Pk} {x : Int} : ∀ {s : Nat}, x ∈ fre L s → ∃ j, j < s ∧ x = (j : Int) ∧ lies L j = false
  | 0, h => by simp [fre] at h
  | s + 1, h => by
    rw [fre, List.mem_append] at h
    rcases h with h | h
    · obtain ⟨j, h1, h2⟩ := fre_mem h
      exact ⟨j, by omega, h2⟩
    · cases hl : lies L s with
      | true => simp [hl] at h
      | false => simp [hl] at h; exact ⟨s, by omega, h, hl⟩
/-- how many lie below a spot -/
def low (L : List Pk) (s : Nat) : Nat := L.countP fun x => decide (x.sp < (s : Int))
theorem count_one {L : List Pk} {j : Nat} (hd : ∀ i k, i < L.length → k < i → (pk L k).sp ≠ (pk L i).sp) : (L.countP fun x => x.sp == (j : Int)) = if lies L j then 1 else 0 := by
  induction L with
  | nil => simp [lies]
  | cons x L ih =>
    have hd' : ∀ i k, i < L.length → k < i → (pk L k).sp ≠ (pk L i).sp := fun i k hi hk => by
      have := hd (i + 1) (k + 1) (by simp; omega) (by omega)
      simpa [pk] using this
    rw [List.countP_cons, ih hd']
    cases hx : x.sp == (j : Int) with
    | false =>
      have e : lies (x :: L) j = lies L j := by simp [lies, hx]
      rw [e]; simp
    | true =>
      have e : lies (x :: L) j = true := by simp [lies, hx]
      have e2 : lies L j = false := by
        cases hl : lies L j with
        | false => rfl
        | true =>
          obtain ⟨i, hi, h⟩ := lies_iff.1 hl
          have := hd (i + 1) 0 (by simp; omega) (by omega)
          have hx' : x.sp = (j : Int) := by simpa using hx
          simp [pk] at this
          exact absurd (show x.sp = (L[i]?.getD zK).sp by rw [hx']; rw [← h]; rfl) this
      rw [e, e2]; simp
theorem low_step (L : List Pk) (s : Nat) : low L (s + 1) = low L s + L.countP fun x => x.sp == (s : Int) := by
  unfold low
  induction L with
  | nil => simp
  | cons x L ih =>
    simp only [List.countP_cons, ih, decide_eq_true_eq, beq_iff_eq]
    split <;> split <;> split <;> omega
theorem fre_len {L : List Pk} (hd : ∀ i k, i < L.length → k < i → (pk L k).sp ≠ (pk L i).sp) (h0 : ∀ i, i < L.length → 0 ≤ (pk L i).sp) : ∀ s, (fre L s).length + low L s = s
  | 0 => by
    have : low L 0 = 0 := by
      unfold low
      rw [List.countP_eq_zero]
      intro x hx
      obtain ⟨i, hi, rfl⟩ := List.mem_iff_getElem.1 hx
      have e : pk L i = L[i] := by simp [pk, List.getD, hi]
      have := h0 i hi
      rw [e] at this
      simp; omega
    simp [fre, this]
  | s + 1 => by
    have ih := fre_len hd h0 s
    rw [low_step, count_one hd]
    simp only [fre, List.length_append]
    split <;> simp <;> omega
theorem low_all {L : List Pk} {s : Nat} (h : ∀ i, i < L.length → (pk L i).sp < (s : Int)) : low L s = L.length := by
  unfold low
  rw [List.countP_eq_length]
  intro x hx
  obtain ⟨i, hi, rfl⟩ := List.mem_iff_getElem.1 hx
  have e : pk L i = L[i] := by simp [pk, List.getD, hi]
  have := h i hi
  rw [e] at this
  simpa using this
/-- as many spots are free as none lies at -/
theorem may_free {L : List Pk} {s : Int} (h : MayK L s) : (fre L s.toNat).length + L.length = s.toNat := by
  obtain ⟨h1, h2, h3⟩ := h
  have := fre_len (fun i k hi hk => (h3 i hi).2.2.2.2 k hk) (fun i hi => (h3 i hi).2.2.1.1) s.toNat
  rw [low_all (fun i hi => by have := (h3 i hi).2.2.1.2; omega)] at this
  exact this
theorem pk_app {L : List Pk} {x : Pk} {i : Nat} (h : i < L.length) : pk (L ++ [x]) i = pk L i := by
  simp [pk, List.getD, List.getElem?_append_left h]
theorem pk_end (L : List Pk) (x : Pk) : pk (L ++ [x]) L.length = x := by simp [pk]
/-- one more -/
theorem may_more {L : List Pk} {s : Int} {x : Pk} (h : MayK L s) (h8 : L.length < 8) (h1 : 1 ≤ x.no ∧ x.no ≤ 1099511627776) (h2 : ∀ i, i < L.length → (pk L i).no < x.no) (h3 : 0 ≤ x.sp ∧ x.sp < s) (h4 : 1 ≤ x.kd ∧ x.kd ≤ 3) (h5 : ∀ i, i < L.length → (pk L i).sp ≠ x.sp) : MayK (L ++ [x]) s := by
  obtain ⟨g1, g2, g3⟩ := h
  refine ⟨g1, by simp; omega, fun i hi => ?_⟩
  simp at hi
  by_cases he : i < L.length
  · obtain ⟨a1, a2, a3, a4, a5⟩ := g3 i he
    refine ⟨?_, fun h0 => ?_, ?_, ?_, fun k hk => ?_⟩
    · rw [pk_app he]; exact a1
    · rw [pk_app he, pk_app (show i - 1 < L.length by omega)]; exact a2 h0
    · rw [pk_app he]; exact a3
    · rw [pk_app he]; exact a4
    · rw [pk_app he, pk_app (show k < L.length by omega)]; exact a5 k hk
  · obtain rfl : i = L.length := by omega
    refine ⟨?_, fun h0 => ?_, ?_, ?_, fun k hk => ?_⟩
    · rw [pk_end]; exact h1
    · rw [pk_end, pk_app (show L.length - 1 < L.length by omega)]; exact h2 _ (by omega)
    · rw [pk_end]; exact h3
    · rw [pk_end]; exact h4
    · rw [pk_end, pk_app hk]; exact h5 k hk
/-- what is asked of Spawn's numbers -/
def argK (f no : Int) : Bool := decide (0 ≤ f) && decide (f ≤ 1099511627776) && decide (1 ≤ no) && decide (no ≤ 1099511627776)
theorem argK_iff {f no : Int} : argK f no = true ↔ (0 ≤ f ∧ f ≤ 1099511627776) ∧ 1 ≤ no ∧ no ≤ 1099511627776 := by
  unfold argK
  simp only [Bool.and_eq_true, decide_eq_true_eq]
  omega
def errK (L : List Pk) (f s no : Int) : Int := if mayK L s then (if argK f no then 0 else 1) else 100
/-- does one come -/
def comes (L : List Pk) (f s no : Int) : Bool := (errK L f s no == 0) && (f % 16 == 0) && !(L.length == 8) && !((fre L s.toNat).length == 0)
/-- where, and what -/
def spotK (q f : Int) (L : List Pk) (s : Int) : Int := (fre L s.toNat).getD (bel (atI q f 1) ((fre L s.toNat).length : Int)).toNat 0
def kindK (q f : Int) : Int := wgt (atI q f 2) [5, 3, 2] + 1
def spwn (q f : Int) (L : List Pk) (s no : Int) : Pk := if comes L f s no then ⟨no, spotK q f L s, kindK q f⟩ else zK
theorem bel_in {n : Int} {k : Nat} (hk : 0 < k) : 0 ≤ bel n k ∧ bel n k < (k : Int) := by
  unfold bel
  rw [if_neg (by omega)]
  exact ⟨Int.emod_nonneg _ (by omega), Int.emod_lt_of_pos _ (by omega)⟩
theorem w532 : wgtE [5, 3, 2] = 0 := by kernel_rfl
theorem kind_in (q f : Int) : 1 ≤ kindK q f ∧ kindK q f ≤ 3 := by
  unfold kindK wgt
  rw [if_pos w532]
  have h := Rg.pick_ok [5, 3, 2] (atI q f 2 % Rg.sum [5, 3, 2]) (by decide) (Int.emod_nonneg _ (by decide)) (Int.emod_lt_of_pos _ (by decide))
  obtain ⟨h1, _⟩ := h
  simp at h1
  omega
theorem comes_may {L : List Pk} {f s no : Int} (h : comes L f s no = true) : MayK L s ∧ (0 ≤ f ∧ f ≤ 1099511627776) ∧ (1 ≤ no ∧ no ≤ 1099511627776) ∧ f % 16 = 0 ∧ L.length < 8 ∧ 0 < (fre L s.toNat).length := by
  unfold comes errK at h
  simp only [Bool.and_eq_true, Bool.not_eq_true', beq_iff_eq, beq_eq_false_iff_ne] at h
  obtain ⟨⟨⟨h1, h2⟩, h3⟩, h4⟩ := h
  cases hm : mayK L s with
  | false => rw [hm] at h1; simp at h1
  | true =>
    cases ha : argK f no with
    | false => rw [hm, ha] at h1; simp at h1
    | true =>
      have := argK_iff.1 ha
      have hm2 := mayK_iff.1 hm
      exact ⟨hm2, this.1, this.2, h2, by have := hm2.2.1; omega, by omega⟩
theorem spot_in {L : List Pk} {q f s : Int} (h : MayK L s) (hl : 0 < (fre L s.toNat).length) : (0 ≤ spotK q f L s ∧ spotK q f L s < s) ∧ ∀ i, i < L.length → (pk L i).sp ≠ spotK q f L s := by
  have hb := bel_in (n := atI q f 1) (k := (fre L s.toNat).length) hl
  have hi : (bel (atI q f 1) ((fre L s.toNat).length : Int)).toNat < (fre L s.toNat).length := by omega
  have e : spotK q f L s = (fre L s.toNat)[(bel (atI q f 1) ((fre L s.toNat).length : Int)).toNat] := by
    unfold spotK
    simp [List.getD, hi]
  have hm : spotK q f L s ∈ fre L s.toNat := by rw [e]; exact List.getElem_mem hi
  obtain ⟨j, h1, h2, h3⟩ := fre_mem hm
  rw [h2]
  refine ⟨⟨by omega, by have := h.1; omega⟩, fun i hi he => ?_⟩
  have := lies_iff.2 ⟨i, hi, he⟩
  rw [h3] at this
  cases this
/-- what comes may lie behind what lies, if its number is above theirs -/
theorem may_spawn {L : List Pk} {q f s no : Int} (h : comes L f s no = true) (hn : ∀ i, i < L.length → (pk L i).no < no) : MayK (L ++ [spwn q f L s no]) s := by
  obtain ⟨h1, h2, h3, h4, h5, h6⟩ := comes_may h
  have e : spwn q f L s no = ⟨no, spotK q f L s, kindK q f⟩ := by unfold spwn; rw [if_pos h]
  obtain ⟨g1, g2⟩ := spot_in (q := q) (f := f) h1 h6
  rw [e]
  exact may_more h1 h5 h3 hn g1 (kind_in q f) g2
/-- what is taken makes of a mover -/
def errT (m : Mv) (k : Int) : Int := if mayB m then (if 1 ≤ k ∧ k ≤ 3 then 0 else 1) else 80
def taken (m : Mv) (k : Int) : Mv := if m.ou = 0 then (if k = 1 then { m with hl := min (m.hl + 30) 100 } else if k = 2 then { m with en := min (m.en + 40) 100 } else m) else m
def takM (m : Mv) (k : Int) : Mv := if errT m k = 0 then taken m k else zM
def takP (m : Mv) (k : Int) : Int := if errT m k = 0 ∧ m.ou = 0 ∧ k = 3 then 5 else 0
theorem errT_ok {m : Mv} {k : Int} (h : errT m k = 0) : May m ∧ 1 ≤ k ∧ k ≤ 3 := by
  unfold errT at h
  cases hm : mayB m with
  | false => rw [hm] at h; simp at h
  | true =>
    rw [hm] at h
    by_cases hk : 1 ≤ k ∧ k ≤ 3
    · exact ⟨mayB_iff.1 hm, hk⟩
    · simp [hk] at h
theorem helps {m : Mv} {k : Int} (h : errT m k = 0) : m.hl ≤ (takM m k).hl ∧ m.en ≤ (takM m k).en ∧ 0 ≤ takP m k ∧ { takM m k with hl := m.hl, en := m.en } = m := by
  obtain ⟨hm, hk⟩ := errT_ok h
  obtain ⟨_, _, _, _, h5, h6, _⟩ := hm
  refine ⟨?_, ?_, ?_, ?_⟩
  · unfold takM taken
    rw [if_pos h]
    split
    · split
      · show m.hl ≤ min (m.hl + 30) 100
        omega
      · split <;> exact Int.le_refl _
    · exact Int.le_refl _
  · unfold takM taken
    rw [if_pos h]
    split
    · split
      · exact Int.le_refl _
      · split
        · show m.en ≤ min (m.en + 40) 100
          omega
        · exact Int.le_refl _
    · exact Int.le_refl _
  · unfold takP; split <;> omega
  · unfold takM taken
    rw [if_pos h]
    split
    · split
      · rfl
      · split <;> rfl
    · rfl
end Go.Proofs.YtdljmpjfiggdiaaDoor.Ka
