/- The places sorted by who is ahead, one put in behind the other, in plain words. No function of the program is named here. -/
import Derived.Test.YtgkojpgpnkeacaaEa
import Derived.Test.YtgkojpgpnkeacaaK4
namespace Go.Proofs.Ytgkojpgpnkeacaa.Ea

/-- who stands at a place of a row -/
def pl (R : List Int) (a : Nat) : Nat := (R.getD a 0).toNat
/-- a row of places below n, each once -/
structure Plc (n : Nat) (R : List Int) : Prop where
  len : R.length = n
  low : ∀ a, a < n → R.getD a 0 = ((pl R a : Nat) : Int) ∧ pl R a < n
  inj : ∀ a b, a < n → b < n → pl R a = pl R b → a = b
theorem getD_swap {R : List Int} {i j : Nat} (hi : i < R.length) (hj : j < R.length) (a : Nat) : (Rg.swap R i j).getD a 0 = if a = j then R.getD i 0 else if a = i then R.getD j 0 else R.getD a 0 := by
  unfold Rg.swap
  simp only [List.getD_eq_getElem?_getD, List.getElem?_set, List.length_set]
  by_cases h1 : a = j
  · subst h1
    simp [hj]
  · by_cases h2 : a = i
    · subst h2
      simp [h1, Ne.symm h1, hi]
    · simp [h1, h2, Ne.symm h1, Ne.symm h2]
theorem pl_swap {R : List Int} {i j : Nat} (hi : i < R.length) (hj : j < R.length) (a : Nat) : pl (Rg.swap R i j) a = if a = j then pl R i else if a = i then pl R j else pl R a := by
  unfold pl
  rw [getD_swap hi hj]
  split
  · rfl
  · split <;> rfl
theorem Plc.swap {n : Nat} {R : List Int} (h : Plc n R) {i j : Nat} (hi : i < n) (hj : j < n) : Plc n (Rg.swap R i j) := by
  have hl := h.len
  refine ⟨by rw [Rg.swap_length]; exact hl, fun a ha => ?_, fun a b ha hb e => ?_⟩
  · rw [getD_swap (by omega) (by omega), pl_swap (by omega) (by omega)]
    split
    · exact h.low i hi
    · split
      · exact h.low j hj
      · exact h.low a ha
  · rw [pl_swap (by omega) (by omega), pl_swap (by omega) (by omega)] at e
    have k1 := h.inj i j hi hj
    have k2 := h.inj j i hj hi
    have k3 := h.inj i a hi ha
    have k4 := h.inj i b hi hb
    have k5 := h.inj j a hj ha
    have k6 := h.inj j b hj hb
    have k7 := h.inj a b ha hb
    have k8 := h.inj a i ha hi
    have k9 := h.inj a j ha hj
    split at e <;> split at e <;> (try split at e) <;> (try split at e) <;> first | omega | (have := k1 e; omega) | (have := k2 e; omega) | (have := k3 e; omega) | (have := k4 e; omega) | (have := k5 e; omega) | (have := k6 e; omega) | (have := k7 e; omega) | (have := k8 e; omega) | (have := k9 e; omega)
theorem plc_up (n : Nat) : Plc n (Rg.upTo n) := by
  have hg : ∀ n a, a < n → (Rg.upTo n).getD a 0 = (a : Int) := by
    intro n
    induction n with
    | zero => intro a h; omega
    | succ n ih =>
      intro a h
      rw [Rg.upTo, List.getD_eq_getElem?_getD]
      by_cases e : a = n
      · subst e
        rw [List.getElem?_append_right (by rw [Rg.upTo_length]; exact Nat.le_refl _), Rg.upTo_length]
        simp
      · rw [List.getElem?_append_left (by rw [Rg.upTo_length]; omega), ← List.getD_eq_getElem?_getD]
        exact ih a (by omega)
  have hp : ∀ a, a < n → pl (Rg.upTo n) a = a := fun a h => by unfold pl; rw [hg n a h]; simp
  exact ⟨Rg.upTo_length n, fun a h => ⟨by rw [hg n a h, hp a h], by rw [hp a h]; exact h⟩, fun a b ha hb e => by rw [hp a ha, hp b hb] at e; exact e⟩
/-- the first i stand in order -/
def Srt (L : List Scr) (R : List Int) (i : Nat) : Prop := ∀ a b, a < b → b < i → ahd L (pl R a) (pl R b) = true
/-- so do the first i + 1, but for the one at j, which is ahead of those behind it -/
def Ins (L : List Scr) (R : List Int) (i j : Nat) : Prop := (∀ a b, a < b → b ≤ i → a ≠ j → b ≠ j → ahd L (pl R a) (pl R b) = true) ∧ ∀ b, j < b → b ≤ i → ahd L (pl R j) (pl R b) = true
theorem ins_start {L : List Scr} {R : List Int} {i : Nat} (h : Srt L R i) : Ins L R i i :=
  ⟨fun a b h1 h2 _ h4 => h a b h1 (by omega), fun b h1 h2 => by omega⟩
theorem ins_stop {L : List Scr} {R : List Int} {n i j : Nat} (hp : Plc n R) (hi : i < n) (hj : j ≤ i) (h : Ins L R i j) (hs : j = 0 ∨ ahd L (pl R j) (pl R (j - 1)) = false) : Srt L R (i + 1) := by
  intro a b hab hb
  by_cases e : b = j
  · subst e
    rcases hs with hs | hs
    · omega
    · have hne : pl R (b - 1) ≠ pl R b := fun e => by have := hp.inj (b - 1) b (by omega) (by omega) e; omega
      have h1 : ahd L (pl R (b - 1)) (pl R b) = true := by
        rcases ahd_total (L := L) hne with h1 | h1
        · exact h1
        · rw [hs] at h1; cases h1
      by_cases e2 : a = b - 1
      · rw [e2]; exact h1
      · exact ahd_trans (h.1 a (b - 1) (by omega) (by omega) (by omega) (by omega)) h1
  · by_cases e2 : a = j
    · subst e2
      exact h.2 b hab (by omega)
    · exact h.1 a b hab (by omega) e2 e
theorem ins_step {L : List Scr} {R : List Int} {n i j : Nat} (hp : Plc n R) (hi : i < n) (hj : j + 1 ≤ i) (h : Ins L R i (j + 1)) (hs : ahd L (pl R (j + 1)) (pl R j) = true) : Ins L (Rg.swap R (j + 1) j) i j := by
  have hl := hp.len
  have e : ∀ a, pl (Rg.swap R (j + 1) j) a = if a = j then pl R (j + 1) else if a = j + 1 then pl R j else pl R a := fun a => pl_swap (by omega) (by omega) a
  refine ⟨fun a b h1 h2 h3 h4 => ?_, fun b h1 h2 => ?_⟩
  · rw [e, e, if_neg h3, if_neg h4]
    by_cases e1 : a = j + 1
    · rw [if_pos e1, if_neg (by omega)]
      exact h.1 j b (by omega) h2 (by omega) (by omega)
    · rw [if_neg e1]
      by_cases e2 : b = j + 1
      · rw [if_pos e2]
        exact h.1 a j (by omega) (by omega) e1 (by omega)
      · rw [if_neg e2]
        exact h.1 a b h1 h2 e1 e2
  · rw [e, e, if_pos rfl, if_neg (by omega)]
    by_cases e2 : b = j + 1
    · rw [if_pos e2]; exact hs
    · rw [if_neg e2]; exact h.2 b (by omega) h2
theorem rise_id (f : Nat → Nat) (n : Nat) (hf : ∀ a, a < n → f a < n) (hr : ∀ a b, a < b → b < n → f a < f b) : ∀ a, a < n → f a = a := by
  have lo : ∀ a, a < n → a ≤ f a := by
    intro a
    induction a with
    | zero => intro _; omega
    | succ a ih => intro h; have := ih (by omega); have := hr a (a + 1) (by omega) h; omega
  have hi : ∀ d a, a + d + 1 = n → f a ≤ a := by
    intro d
    induction d with
    | zero => intro a h; have := hf a (by omega); omega
    | succ d ih => intro a h; have := ih (a + 1) (by omega); have := hr a (a + 1) (by omega) (by omega); omega
  intro a h
  have := lo a h
  have := hi (n - a - 1) a (by omega)
  omega
/-- all in order: it is the ranking -/
theorem srt_done {L : List Scr} {R : List Int} (hp : Plc L.length R) (h : Srt L R L.length) : R = rnk L := by
  apply rnk_only hp.len
  have hc := rise_id (fun a => cntC L (pl R a)) L.length (fun a ha => cntC_lt (hp.low a ha).2) (fun a b hab hb => cntC_mono (hp.low a (by omega)).2 (h a b hab hb))
  intro i hi
  have hk := cntC_lt hi
  have he : pl R (cntC L i) = i := cntC_inj (hp.low _ hk).2 hi (hc _ hk)
  have hg := (hp.low _ hk).1
  rw [he] at hg
  rw [List.getD_eq_getElem?_getD] at hg
  rw [List.getElem?_eq_getElem (by rw [hp.len]; exact hk)] at hg ⊢
  simpa using hg
/-- below, above, the same -/
def cI (x y : Int) : Int := if x < y then -1 else if x > y then 1 else 0
/-- the first that is not 0 -/
def orI : List Int → Int
  | [] => 0
  | x :: r => if x ≠ 0 then x else orI r
def cfL (L : List Scr) (a b : Nat) : Int := orI [cI (sc L b).p (sc L a).p, cI (sc L a).o (sc L b).o, cI (sc L b).h (sc L a).h, cI (a : Int) (b : Int)]
theorem cI_cases (x y : Int) : x < y ∧ cI x y = -1 ∨ x = y ∧ cI x y = 0 ∨ y < x ∧ cI x y = 1 := by
  unfold cI
  by_cases h1 : x < y
  · rw [if_pos h1]; exact .inl ⟨h1, rfl⟩
  · rw [if_neg h1]
    by_cases h2 : x > y
    · rw [if_pos h2]; exact .inr (.inr ⟨h2, rfl⟩)
    · rw [if_neg h2]; exact .inr (.inl ⟨by omega, rfl⟩)
theorem orI_0 (r : List Int) : orI (0 :: r) = orI r := rfl
theorem orI_n (r : List Int) : orI (-1 :: r) = -1 := rfl
theorem orI_p (r : List Int) : orI (1 :: r) = 1 := rfl
theorem cfL_neg (L : List Scr) (a b : Nat) : decide (cfL L a b < 0) = ahd L a b := by
  have hi : ahd L a b = true ↔ cfL L a b < 0 := by
    rw [ahd_iff]
    unfold cfL Fore evn
    rcases cI_cases (sc L b).p (sc L a).p with ⟨h, e⟩ | ⟨h, e⟩ | ⟨h, e⟩
    · rw [e, orI_n]; omega
    · rw [e, orI_0]
      rcases cI_cases (sc L a).o (sc L b).o with ⟨g, e⟩ | ⟨g, e⟩ | ⟨g, e⟩
      · rw [e, orI_n]; omega
      · rw [e, orI_0]
        rcases cI_cases (sc L b).h (sc L a).h with ⟨k, e⟩ | ⟨k, e⟩ | ⟨k, e⟩
        · rw [e, orI_n]; omega
        · rw [e, orI_0]
          rcases cI_cases (a : Int) (b : Int) with ⟨m, e⟩ | ⟨m, e⟩ | ⟨m, e⟩
          · rw [e, orI_n]; omega
          · rw [e, orI_0]
            have z : orI [] = 0 := rfl
            rw [z]; omega
          · rw [e, orI_p]; omega
        · rw [e, orI_p]; omega
      · rw [e, orI_p]; omega
    · rw [e, orI_p]; omega
  cases e : ahd L a b with
  | true => exact decide_eq_true (hi.1 e)
  | false => exact decide_eq_false fun h => by rw [hi.2 h] at e; cases e
end Go.Proofs.Ytgkojpgpnkeacaa.Ea
