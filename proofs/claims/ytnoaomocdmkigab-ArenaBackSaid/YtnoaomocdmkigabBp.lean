/- Plain facts: where a sign is found, how many starts there are, which cells one comes to by a stack of work. No function of the program is named here. -/
import Derived.Test.YtnoaomocdmkigabCh
import Derived.Test.YtnoaomocdmkigabShelf
namespace Go.Proofs.Ytnoaomocdmkigab
open Pu Gp Ap

/-! ### strings.IndexByte -/
theorem index_at (s : ByteArray) (b : UInt8) : ∀ (f i : Nat), i + f = s.size → fndF s (b.toNat : Int) f i = if Lib.indexByte (s.data.toList.drop i) b = -1 then -1 else (i : Int) + Lib.indexByte (s.data.toList.drop i) b
  | 0, i, h => by
    rw [List.drop_eq_nil_of_le (by rw [Array.length_toList]; show s.size ≤ i; omega)]
    rfl
  | f + 1, i, h => by
    have hl : i < s.data.toList.length := by rw [Array.length_toList]; show i < s.size; omega
    have ih := index_at s b f (i + 1) (by omega)
    have ge := Lib.indexByte_ge (s.data.toList.drop (i + 1)) b
    rw [List.drop_eq_getElem_cons hl, fndF, Lib.indexByte]
    have e : byt s i = ((s.data.toList[i]).toNat : Int) := by
      unfold byt
      rw [List.getD_eq_getElem?_getD, List.getElem?_eq_getElem hl]; rfl
    obtain ⟨c, ec⟩ : ∃ c, s.data.toList[i] = c := ⟨_, rfl⟩
    rw [ec] at e ⊢
    rw [e]
    obtain ⟨J, eJ⟩ : ∃ J, Lib.indexByte (s.data.toList.drop (i + 1)) b = J := ⟨_, rfl⟩
    rw [eJ] at ih ge ⊢
    by_cases hb : c = b
    · subst hb
      rw [if_pos rfl, beq_self_eq_true]
      simp
    · have h1 : ¬ ((c.toNat : Int) = (b.toNat : Int)) := fun k => hb (UInt8.toNat_inj.1 (by omega))
      have hbq : (c == b) = false := by simpa using hb
      rw [if_neg h1, ih, hbq]
      simp only [Bool.false_eq_true, if_false]
      by_cases k : J = -1
      · rw [if_pos k, beq_iff_eq.2 k]; simp
      · have kq : (J == -1) = false := by simpa using k
        rw [if_neg k, kq]
        simp only [Bool.false_eq_true, if_false]
        rw [if_neg (by omega)]
        omega
theorem index_is (s : ByteArray) (c : Int) (h0 : 0 ≤ c) (h1 : c ≤ 255) : Lib.indexByte s.data.toList c.toNat.toUInt8 = fnd s c 0 := by
  have h := index_at s c.toNat.toUInt8 s.size 0 (by omega)
  have e : (c.toNat.toUInt8.toNat : Int) = c := by
    rw [UInt8.toNat_ofNat_of_lt' (by show c.toNat < 256; omega)]
    omega
  rw [e] at h
  have ge := Lib.indexByte_ge s.data.toList c.toNat.toUInt8
  unfold fnd
  rw [show s.size - 0 = s.size from rfl, h, List.drop_zero]
  split <;> omega

/-! ### How many starts -/
def cntD (s : ByteArray) (d : Int) : Nat → Nat
  | 0 => 0
  | n + 1 => cntD s d n + if byt s n = d then 1 else 0
def cstN (s : ByteArray) : Nat → Nat
  | 0 => 0
  | n + 1 => cstN s n + if (49 ≤ byt s n ∧ byt s n ≤ 54) then 1 else 0
theorem cst_sum (s : ByteArray) : ∀ n, cstN s n = cntD s 49 n + cntD s 50 n + cntD s 51 n + cntD s 52 n + cntD s 53 n + cntD s 54 n
  | 0 => rfl
  | n + 1 => by
    rw [cstN, cst_sum s n]
    simp only [cntD]
    repeat' split
    all_goals omega
theorem cst_le (s : ByteArray) : ∀ n, cstN s n ≤ n
  | 0 => Nat.le_refl _
  | n + 1 => by
    have := cst_le s n
    rw [cstN]
    split <;> omega
theorem cntD_mono (s : ByteArray) (d : Int) : ∀ {n m : Nat}, n ≤ m → cntD s d n ≤ cntD s d m
  | n, 0, h => by obtain rfl : n = 0 := by omega
                  exact Nat.le_refl _
  | n, m + 1, h => by
    by_cases e : n = m + 1
    · subst e; exact Nat.le_refl _
    · have := cntD_mono s d (n := n) (m := m) (by omega)
      rw [cntD]
      omega
theorem cntD_one {s : ByteArray} {d : Int} {i m : Nat} (hi : i < m) (h : byt s i = d) : 1 ≤ cntD s d m := by
  have := cntD_mono s d (show i + 1 ≤ m by omega)
  rw [cntD, if_pos h] at this
  omega
theorem cntD_two {s : ByteArray} {d : Int} {i j m : Nat} (hij : i < j) (hj : j < m) (h : byt s i = d) (k : byt s j = d) : 2 ≤ cntD s d m := by
  have a := cntD_mono s d (show j + 1 ≤ m by omega)
  rw [cntD, if_pos k] at a
  have := cntD_one hij h
  omega
theorem cntD_zero {s : ByteArray} {d : Int} : ∀ {m : Nat}, (∀ i, i < m → byt s i ≠ d) → cntD s d m = 0
  | 0, _ => rfl
  | m + 1, h => by rw [cntD, if_neg (h m (by omega)), cntD_zero (fun i hi => h i (by omega))]
theorem cntD_le {s : ByteArray} {d : Int} : ∀ {m : Nat}, (∀ i j, i < j → j < m → byt s i = d → byt s j ≠ d) → cntD s d m ≤ 1
  | 0, _ => by simp [cntD]
  | m + 1, h => by
    rw [cntD]
    by_cases k : byt s m = d
    · rw [cntD_zero (m := m) (fun i hi e => h i m hi (by omega) e k), if_pos k]
      omega
    · rw [if_neg k]
      have := cntD_le (m := m) (fun i j h1 h2 => h i j h1 (by omega))
      omega
theorem mnyF_found {s : ByteArray} : ∀ (f n k : Nat), n ≤ k → k < mnyF s f n → 0 ≤ fnd s (49 + (k : Int)) 0
  | 0, n, k, h1, h2 => by simp [mnyF] at h2; omega
  | f + 1, n, k, h1, h2 => by
    rw [mnyF] at h2
    by_cases c : 0 ≤ fnd s (49 + (n : Int)) 0
    · rw [if_pos c] at h2
      by_cases e : k = n
      · subst e; exact c
      · exact mnyF_found f (n + 1) k (by omega) h2
    · rw [if_neg c] at h2
      omega
theorem mny_found {s : ByteArray} {k : Nat} (h : k < mny s) : ∃ i, i < s.size ∧ byt s i = 49 + (k : Int) := by
  have c := mnyF_found 6 0 k (by omega) h
  rcases fnd_spec s (49 + (k : Int)) 0 (by omega) with ⟨e, _⟩ | ⟨i, _, _, h2, h3, _⟩
  · omega
  · exact ⟨i, h2, h3⟩
theorem mny_six (s : ByteArray) : mny s ≤ 6 := by have := mny_le s 6 0; unfold mny; omega
/-- each start is one of the first n, and there once -/
def once (n : Nat) (s : ByteArray) : Prop := ∀ i, i < s.size → 49 ≤ byt s i → byt s i ≤ 54 → byt s i - 48 ≤ (n : Int) ∧ fnd s (byt s i) (i + 1) < 0
theorem fnd_none {s : ByteArray} {c : Int} {i : Nat} (hi : i ≤ s.size) : fnd s c i < 0 ↔ ∀ j, i ≤ j → j < s.size → byt s j ≠ c := by
  rcases fnd_spec s c i hi with ⟨e, h⟩ | ⟨k, e, h1, h2, h3, _⟩
  · rw [e]; exact ⟨fun _ => h, fun _ => by omega⟩
  · rw [e]; exact ⟨fun h => by omega, fun h => absurd h3 (h k h1 h2)⟩
theorem once_iff (s : ByteArray) : cstN s s.size = mny s ↔ once (mny s) s := by
  have six := mny_six s
  have found : ∀ k : Nat, k < mny s → 1 ≤ cntD s (49 + (k : Int)) s.size := fun k hk => by
    obtain ⟨i, hi, e⟩ := mny_found hk
    exact cntD_one hi e
  have f0 : 0 < mny s → 1 ≤ cntD s 49 s.size := fun h => by simpa using found 0 h
  have f1 : 1 < mny s → 1 ≤ cntD s 50 s.size := fun h => by simpa using found 1 h
  have f2 : 2 < mny s → 1 ≤ cntD s 51 s.size := fun h => by simpa using found 2 h
  have f3 : 3 < mny s → 1 ≤ cntD s 52 s.size := fun h => by simpa using found 3 h
  have f4 : 4 < mny s → 1 ≤ cntD s 53 s.size := fun h => by simpa using found 4 h
  have f5 : 5 < mny s → 1 ≤ cntD s 54 s.size := fun h => by simpa using found 5 h
  rw [cst_sum]
  obtain ⟨n, en⟩ : ∃ n, mny s = n := ⟨_, rfl⟩
  rw [en] at six f0 f1 f2 f3 f4 f5 ⊢
  constructor
  · intro h i hi h1 h2
    refine ⟨?_, ?_⟩
    · have d := cntD_one (d := byt s i) hi rfl
      rcases (show byt s i = 49 ∨ byt s i = 50 ∨ byt s i = 51 ∨ byt s i = 52 ∨ byt s i = 53 ∨ byt s i = 54 by omega) with e | e | e | e | e | e <;> rw [e] at d ⊢ <;> omega
    · refine (fnd_none (by omega)).2 fun j hj1 hj2 e => ?_
      have d := cntD_two (d := byt s i) (show i < j by omega) hj2 rfl e
      rcases (show byt s i = 49 ∨ byt s i = 50 ∨ byt s i = 51 ∨ byt s i = 52 ∨ byt s i = 53 ∨ byt s i = 54 by omega) with e | e | e | e | e | e <;> rw [e] at d <;> omega
  · intro h
    have le1 : ∀ d : Int, 49 ≤ d → d ≤ 54 → cntD s d s.size ≤ 1 := fun d h1 h2 => cntD_le fun i j hij hj ei ej => by
      have := (h i (by omega) (by omega) (by omega)).2
      exact (fnd_none (by omega)).1 this j (by omega) hj (by rw [ej, ei])
    have zero : ∀ d : Int, 49 ≤ d → d ≤ 54 → (n : Int) < d - 48 → cntD s d s.size = 0 := fun d h1 h2 h3 => cntD_zero fun i hi e => by
      have := (h i hi (by omega) (by omega)).1
      omega
    have a0 := le1 49 (by omega) (by omega)
    have a1 := le1 50 (by omega) (by omega)
    have a2 := le1 51 (by omega) (by omega)
    have a3 := le1 52 (by omega) (by omega)
    have a4 := le1 53 (by omega) (by omega)
    have a5 := le1 54 (by omega) (by omega)
    have z0 := zero 49 (by omega) (by omega)
    have z1 := zero 50 (by omega) (by omega)
    have z2 := zero 51 (by omega) (by omega)
    have z3 := zero 52 (by omega) (by omega)
    have z4 := zero 53 (by omega) (by omega)
    have z5 := zero 54 (by omega) (by omega)
    omega
theorem allS_iff {n : Nat} {I : Nat → Bool} {s : ByteArray} : ∀ {k : Nat}, allS n I s k = true ↔ ∀ i, i < k → okS n I s i = true
  | 0 => ⟨fun _ i h => by omega, fun _ => rfl⟩
  | k + 1 => by
    rw [allS, Bool.and_eq_true, allS_iff]
    constructor
    · rintro ⟨h1, h2⟩ i hi
      by_cases e : i = k
      · subst e; exact h2
      · exact h1 i (by omega)
    · intro h
      exact ⟨fun i hi => h i (by omega), h k (by omega)⟩
/-- all that is marked is reached -/
def mrkB (I : Nat → Bool) (s : ByteArray) : Nat → Bool
  | 0 => true
  | n + 1 => mrkB I s n && (!((decide (49 ≤ byt s n) && decide (byt s n ≤ 54)) || byt s n == 42) || I n)
theorem mrk_more {I : Nat → Bool} {s : ByteArray} : ∀ {n m : Nat}, n ≤ m → mrkB I s n = false → mrkB I s m = false
  | n, 0, h, k => by obtain rfl : n = 0 := by omega
                     exact k
  | n, m + 1, h, k => by
    by_cases e : n = m + 1
    · subst e; exact k
    · rw [mrkB, mrk_more (n := n) (m := m) (by omega) k]; rfl
theorem mrk_iff {I : Nat → Bool} {s : ByteArray} : ∀ {n : Nat}, mrkB I s n = true ↔ ∀ i, i < n → (((49 ≤ byt s i ∧ byt s i ≤ 54) ∨ byt s i = 42) → I i = true)
  | 0 => ⟨fun _ i h => by omega, fun _ => rfl⟩
  | n + 1 => by
    have e : (!((decide (49 ≤ byt s n) && decide (byt s n ≤ 54)) || byt s n == 42) || I n) = true ↔ (((49 ≤ byt s n ∧ byt s n ≤ 54) ∨ byt s n = 42) → I n = true) := by
      constructor
      · intro h k
        rcases k with k | k
        · simpa [k] using h
        · simpa [k] using h
      · intro h
        by_cases k : (49 ≤ byt s n ∧ byt s n ≤ 54) ∨ byt s n = 42
        · rw [h k]; simp
        · have : ((decide (49 ≤ byt s n) && decide (byt s n ≤ 54)) || byt s n == 42) = false := by
            simp only [not_or, not_and] at k
            simp only [Bool.or_eq_false_iff, Bool.and_eq_false_iff, decide_eq_false_iff_not, beq_eq_false_iff_ne]
            omega
          rw [this]; rfl
    rw [mrkB, Bool.and_eq_true, mrk_iff, e]
    constructor
    · rintro ⟨h1, h2⟩ i hi
      by_cases e : i = n
      · subst e; exact h2
      · exact h1 i (by omega)
    · intro h
      exact ⟨fun i hi => h i (by omega), h n (by omega)⟩
theorem check_same {C R : Int} {s : ByteArray} (h : forB C R s = true) (I : Nat → Bool) : allS (mny s) I s s.size = (decide (cstN s s.size = mny s) && mrkB I s s.size) := by
  rw [Bool.eq_iff_iff, Bool.and_eq_true, decide_eq_true_iff, once_iff, mrk_iff, allS_iff]
  constructor
  · intro k
    refine ⟨fun i hi h1 h2 => ?_, fun i hi hm => ?_⟩
    · have := k i hi
      unfold okS at this
      simp only [Bool.or_eq_true, Bool.and_eq_true, beq_iff_eq, decide_eq_true_eq] at this
      omega
    · have := k i hi
      unfold okS at this
      simp only [Bool.or_eq_true, Bool.and_eq_true, beq_iff_eq, decide_eq_true_eq] at this
      rcases this with e | e | e
      · omega
      · omega
      · exact e.1
  · rintro ⟨k1, k2⟩ i hi
    have g := form_sign h hi
    unfold okS
    simp only [Bool.or_eq_true, Bool.and_eq_true, beq_iff_eq, decide_eq_true_eq]
    rcases g with g | g | g | g
    · exact .inl g
    · exact .inr (.inl g)
    · exact .inr (.inr ⟨k2 i hi (.inr g), .inl g⟩)
    · exact .inr (.inr ⟨k2 i hi (.inl g), .inr (k1 i hi g.1 g.2)⟩)

/-! ### Which cells one comes to -/
def nbr (C i : Nat) : Nat → Nat
  | 0 => i - C
  | 1 => i - 1
  | 2 => i + 1
  | _ => i + C
theorem free_in {C R : Nat} {s : ByteArray} (h : forB (C : Int) (R : Int) s = true) {i : Nat} (hi : i < s.size) (hf : byt s i ≠ 35) : C ≤ i ∧ i + C < s.size := by
  obtain ⟨q1, q2, q3, q4, q5, q6⟩ := form_shape h
  unfold forB at h
  simp only [Bool.and_eq_true] at h
  have g := goodN_iff h.2.1 i hi
  unfold goodC at g
  have hb : (byt s i == 35) = false := by simpa using hf
  rw [hb, Bool.false_or, Bool.and_eq_true] at g
  have ne : edgB (C : Int) (R : Int) i = false := by simpa using g.1
  unfold edgB at ne
  have e2 : (i : Int) / (C : Int) = ((i / C : Nat) : Int) := (Int.natCast_ediv i C).symm
  rw [e2] at ne
  simp only [Bool.or_eq_false_iff, decide_eq_false_iff_not] at ne
  obtain ⟨⟨⟨n1, n2⟩, n3⟩, n4⟩ := ne
  have q7 : s.size = C * R := by exact_mod_cast q5
  have d1 : i / C < R := by
    rw [Nat.div_lt_iff_lt_mul (by omega), Nat.mul_comm R C, ← q7]
    exact hi
  have e := Nat.div_add_mod i C
  have m1 : i % C < C := Nat.mod_lt _ (by omega)
  obtain ⟨D, eD⟩ : ∃ D, i / C = D := ⟨_, rfl⟩
  obtain ⟨M, eM⟩ : ∃ M, i % C = M := ⟨_, rfl⟩
  rw [eD] at n2 n4 d1 e
  rw [eM] at m1 e
  have l1 : C * 1 ≤ C * D := Nat.mul_le_mul_left C (by omega)
  have l2 : C * (D + 2) ≤ C * R := Nat.mul_le_mul_left C (by omega)
  rw [Nat.mul_add] at l2
  omega
/-- what a round keeps: all in I is reached, the work lies in I, all else in I is done (but for x) -/
structure Wk (C : Nat) (s : ByteArray) (f : Nat) (I : Nat → Bool) (W : List Int) (x : Option Nat) : Prop where
  from_ : I f = true
  in_ : ∀ i, I i = true → i < s.size ∧ byt s i ≠ 35 ∧ Rch C s.size s f i
  work : ∀ v ∈ W, ∃ i : Nat, v = (i : Int) ∧ I i = true
  done : ∀ i, I i = true → (i : Int) ∈ W ∨ x = some i ∨ ∀ k, k < 4 → byt s (nbr C i k) ≠ 35 → I (nbr C i k) = true
theorem Wk.start {C : Nat} {s : ByteArray} {f : Nat} (hf : f < s.size) (h : byt s f ≠ 35) : Wk C s f (upd (fun _ => false) f) [(f : Int)] none := by
  have only : ∀ i, upd (fun _ => false) f i = true → i = f := fun i hi => by
    by_cases e : i = f
    · exact e
    · simp [upd, e] at hi
  refine ⟨by simp [upd], fun i hi => ?_, fun v hv => ?_, fun i hi => ?_⟩
  · rw [only i hi]; exact ⟨hf, h, rch_from C s.size s f⟩
  · rw [List.mem_singleton.1 hv]; exact ⟨f, rfl, by simp [upd]⟩
  · rw [only i hi]; exact .inl (by simp)
theorem Wk.pop {C : Nat} {s : ByteArray} {f i : Nat} {I : Nat → Bool} {W : List Int} (h : Wk C s f I (W ++ [(i : Int)]) none) : Wk C s f I W (some i) ∧ I i = true := by
  obtain ⟨j, e, hj⟩ := h.work (i : Int) (by simp)
  have : j = i := by omega
  subst this
  refine ⟨⟨h.from_, h.in_, fun v hv => h.work v (by simp [hv]), fun k hk => ?_⟩, hj⟩
  rcases h.done k hk with m | m | m
  · rcases List.mem_append.1 m with m | m
    · exact .inl m
    · have : k = j := by have := List.mem_singleton.1 m; omega
      exact .inr (.inl (by rw [this]))
  · cases m
  · exact .inr (.inr m)
theorem Wk.shut {C : Nat} {s : ByteArray} {f i : Nat} {I : Nat → Bool} {W : List Int} (h : Wk C s f I W (some i)) (hd : ∀ k, k < 4 → byt s (nbr C i k) ≠ 35 → I (nbr C i k) = true) : Wk C s f I W none := by
  refine ⟨h.from_, h.in_, h.work, fun k hk => ?_⟩
  rcases h.done k hk with m | m | m
  · exact .inl m
  · cases m; exact .inr (.inr hd)
  · exact .inr (.inr m)
theorem nbr_back {C i k : Nat} (hC : 1 ≤ C) (hi : C ≤ i) {I : Nat → Bool} (h : I i = true) : nbB C I (nbr C i k) = true := by
  unfold nbB
  match k with
  | 0 => simp only [nbr]; rw [show i - C + C = i by omega, h]; simp
  | 1 => simp only [nbr]; rw [show i - 1 + 1 = i by omega, h]; simp
  | 2 => simp only [nbr]; rw [show i + 1 - 1 = i by omega, h]; simp
  | k + 3 => simp only [nbr]; rw [show i + C - C = i by omega, h]; simp
theorem nbr_lt {C i k N : Nat} (hC : 1 ≤ C) (hi : C ≤ i) (h2 : i + C < N) : nbr C i k < N := by
  match k with
  | 0 => simp only [nbr]; omega
  | 1 => simp only [nbr]; omega
  | 2 => simp only [nbr]; omega
  | k + 3 => simp only [nbr]; omega
/-- a neighbour that is free and not yet there is put in -/
theorem Wk.push {C R : Nat} {s : ByteArray} {f i k : Nat} {I : Nat → Bool} {W : List Int} (hform : forB (C : Int) (R : Int) s = true) (h : Wk C s f I W (some i)) (hi : I i = true) (hf : byt s (nbr C i k) ≠ 35) :
    Wk C s f (upd I (nbr C i k)) (W ++ [((nbr C i k : Nat) : Int)]) (some i) := by
  obtain ⟨q1, _⟩ := form_shape hform
  obtain ⟨b1, b2, b3⟩ := h.in_ i hi
  obtain ⟨l1, l2⟩ := free_in hform b1 b2
  have hn := nbr_lt (C := C) (i := i) (k := k) (by omega) l1 l2
  obtain ⟨m1, m2⟩ := free_in hform hn hf
  have up : ∀ j, I j = true → upd I (nbr C i k) j = true := fun j hj => by
    unfold upd; split
    · rfl
    · exact hj
  have dn : ∀ j, upd I (nbr C i k) j = true → j = nbr C i k ∨ I j = true := fun j hj => by
    unfold upd at hj
    by_cases e : j = nbr C i k
    · exact .inl e
    · rw [if_neg e] at hj; exact .inr hj
  refine ⟨up f h.from_, fun j hj => ?_, fun v hv => ?_, fun j hj => ?_⟩
  · rcases dn j hj with e | e
    · rw [e]
      exact ⟨hn, hf, rch_step (I := I) (fun j hj => (h.in_ j hj).2.2) m1 m2 hf (nbr_back (by omega) l1 hi)⟩
    · exact h.in_ j e
  · rcases List.mem_append.1 hv with m | m
    · obtain ⟨j, e, hj⟩ := h.work v m
      exact ⟨j, e, up j hj⟩
    · exact ⟨nbr C i k, List.mem_singleton.1 m, by simp [upd]⟩
  · rcases dn j hj with e | e
    · exact .inl (by rw [e]; simp)
    · rcases h.done j e with m | m | m
      · exact .inl (by simp [m])
      · exact .inr (.inl m)
      · exact .inr (.inr fun k' h1 h2 => up _ (m k' h1 h2))
theorem Wk.isR {C : Nat} {s : ByteArray} {f : Nat} {I : Nat → Bool} (hC : 1 ≤ C) (h : Wk C s f I [] none) : IsR C s.size s f I := by
  refine ⟨h.from_, fun i h1 h2 h3 h4 => ?_, fun i hi => (h.in_ i hi).2.2⟩
  have cl : ∀ j, I j = true → ∀ k, k < 4 → byt s (nbr C j k) ≠ 35 → I (nbr C j k) = true := fun j hj => by
    rcases h.done j hj with m | m | m
    · cases m
    · cases m
    · exact m
  unfold nbB at h4
  simp only [Bool.or_eq_true] at h4
  rcases h4 with e | e | e | e
  · have := cl _ e 2 (by omega)
    simp only [nbr] at this
    rw [show i - 1 + 1 = i by omega] at this
    exact this h3
  · have := cl _ e 1 (by omega)
    simp only [nbr] at this
    rw [show i + 1 - 1 = i by omega] at this
    exact this h3
  · have := cl _ e 3 (by omega)
    simp only [nbr] at this
    rw [show i - C + C = i by omega] at this
    exact this h3
  · have := cl _ e 0 (by omega)
    simp only [nbr] at this
    rw [show i + C - C = i by omega] at this
    exact this h3
end Go.Proofs.Ytnoaomocdmkigab
