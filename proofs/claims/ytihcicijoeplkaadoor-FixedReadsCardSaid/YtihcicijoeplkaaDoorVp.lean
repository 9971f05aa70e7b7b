/- Plain lists of bytes: the document's reading. No program is named here. -/
import Derived.Test.YtihcicijoeplkaaDoorRt
namespace Go.Proofs.YtihcicijoeplkaaDoor.Pu

/-- The end of the document's reading: digits up to the eighth, then the number, or -1. -/
def valEnd (wh re sc : Int) : Int :=
  if 8388607 < wh ∨ ¬ (if 0 < sc then re * 10 ^ (9 - sc).toNat else re) % 390625 = 0 then -1
  else 256 * wh + (if 0 < sc then re * 10 ^ (9 - sc).toNat else re) / 390625
/-- The document's reading on. -/
def valL : Int → Int → Int → List UInt8 → Int
  | wh, re, sc, [] => valEnd wh re sc
  | wh, re, sc, b :: l =>
    if b.toNat = 46 ∧ sc = 0 then valL wh re 1 l
    else if b.toNat < 48 ∨ 57 < b.toNat ∨ 8 < sc ∨ 2147483647 < wh then -1
    else if sc = 0 then valL (10 * wh + b.toNat - 48) re sc l
    else valL wh (10 * re + b.toNat - 48) (sc + 1) l
theorem valL_digit (wh : Int) (d : Nat) (l : List UInt8) (hd : d < 10) (h : wh ≤ 2147483647) :
    valL wh 0 0 (UInt8.ofNat (48 + d) :: l) = valL (10 * wh + d) 0 0 l := by
  rw [valL, dig_nat hd, if_neg (by omega), if_neg (by omega), if_pos rfl]
  congr 1; omega
theorem valL_dec (m : Nat) : m ≤ 8388607 → ∀ (l : List UInt8), valL 0 0 0 (Lib.decDigits m ++ l) = valL m 0 0 l := by
  induction m using Nat.strongRecOn with
  | _ m ih =>
    intro hm l
    by_cases h : m < 10
    · rw [Lib.decDigits_one h]
      have := valL_digit 0 m l h (by omega)
      simpa using this
    · rw [Lib.decDigits, dif_neg h, List.append_assoc, ih (m / 10) (by omega) (by omega)]
      show valL _ 0 0 (UInt8.ofNat (48 + m % 10) :: l) = _
      rw [valL_digit _ _ _ (by omega) (by omega)]
      congr 1; omega
/-- the digits behind the point, in the document's way. -/
def fracV : Int → Int → List UInt8 → Option Int
  | re, sc, [] => some (re * 10 ^ (9 - sc).toNat)
  | re, sc, b :: l => if b.toNat < 48 ∨ 57 < b.toNat ∨ 8 < sc then none else fracV (10 * re + b.toNat - 48) (sc + 1) l
theorem valL_frac : ∀ (l : List UInt8) (wh re sc p : Int), wh ≤ 8388607 → 1 ≤ sc → fracV re sc l = some p → p % 390625 = 0 → valL wh re sc l = 256 * wh + p / 390625
  | [], wh, re, sc, p, hw, hs, h, hp => by
    have e := Option.some.inj h
    have e0 : (if 0 < sc then re * 10 ^ (9 - sc).toNat else re) = p := by rw [if_pos (by omega)]; exact e
    rw [valL, valEnd, e0, if_neg (by omega)]
  | b :: l, wh, re, sc, p, hw, hs, h, hp => by
    rw [fracV] at h
    by_cases hc : b.toNat < 48 ∨ 57 < b.toNat ∨ 8 < sc
    · rw [if_pos hc] at h; cases h
    · rw [if_neg hc] at h
      rw [valL, if_neg (by omega), if_neg (by omega), if_neg (by omega)]
      exact valL_frac l wh _ _ p hw (by omega) h hp
theorem fracV_all : ∀ r : Fin 256, fracV 0 1 (tail8 r.val) = some ((r.val * 390625 : Nat) : Int) := by decide +kernel
theorem rt_val {n : Nat} (hn : n ≤ 2147483647) : valL 0 0 0 (sizeL n) = n := by
  unfold sizeL
  rw [valL_dec _ (by omega)]
  by_cases h : n % 256 = 0
  · rw [if_pos h, valL, valEnd, if_neg (show ¬ (0 : Int) < 0 by omega), if_neg (by omega)]
    omega
  · rw [if_neg h, valL, if_pos ⟨by decide, rfl⟩, valL_frac _ _ _ _ _ (by omega) (by omega) (fracV_all ⟨n % 256, by omega⟩) (by show ((n % 256 * 390625 : Nat) : Int) % 390625 = 0; omega)]
    show 256 * ((n / 256 : Nat) : Int) + ((n % 256 * 390625 : Nat) : Int) / 390625 = _
    omega
theorem ten_pos (k : Nat) : (1 : Int) ≤ 10 ^ k := by
  have := Nat.one_le_pow k 10 (by decide)
  exact_mod_cast this
theorem ten_le {k m : Nat} (h : k ≤ m) : (10 : Int) ^ k ≤ 10 ^ m := by
  have := Nat.pow_le_pow_right (n := 10) (by omega) h
  exact_mod_cast this
theorem ten_up (k : Nat) : (10 : Int) ^ (k + 1) = 10 * 10 ^ k := by rw [Int.pow_succ]; omega
/-- the rest stays below its place. -/
def RB (re sc : Int) : Prop := 0 ≤ re ∧ ((sc = 0 ∧ re = 0) ∨ ∃ k : Nat, k ≤ 8 ∧ sc = k + 1 ∧ re < 10 ^ k)
theorem RB.next {re sc d : Int} (h : RB re sc) (h0 : sc ≠ 0) (h8 : sc ≤ 8) (d0 : 0 ≤ d) (d9 : d ≤ 9) : RB (10 * re + d) (sc + 1) := by
  obtain ⟨r0, h | ⟨k, hk, rfl, hr⟩⟩ := h
  · omega
  · exact ⟨by omega, Or.inr ⟨k + 1, by omega, by omega, by rw [ten_up]; omega⟩⟩
theorem RB.one {re : Int} (h : RB re 0) : RB re 1 := by
  obtain ⟨r0, ⟨_, h⟩ | ⟨k, hk, h, _⟩⟩ := h
  · exact ⟨r0, Or.inr ⟨0, by omega, by omega, by rw [h]; decide⟩⟩
  · omega
theorem RB.bd {re sc : Int} (h : RB re sc) : 0 ≤ re ∧ re < 100000000 ∧ 0 ≤ sc ∧ sc ≤ 9 := by
  obtain ⟨r0, h | ⟨k, hk, rfl, hr⟩⟩ := h
  · omega
  · have := ten_le hk
    have e : (10 : Int) ^ 8 = 100000000 := by decide
    omega
theorem RB.last {re sc : Int} (h : RB re sc) : 0 ≤ (if 0 < sc then re * 10 ^ (9 - sc).toNat else re) ∧ (if 0 < sc then re * 10 ^ (9 - sc).toNat else re) < 100000000 := by
  obtain ⟨r0, h | ⟨k, hk, rfl, hr⟩⟩ := h
  · rw [if_neg (by omega)]; omega
  · rw [if_pos (by omega)]
    have e : ((9 : Int) - (k + 1)).toNat = 8 - k := by omega
    have p := ten_pos (8 - k)
    have m := Int.mul_lt_mul_of_pos_right hr (show (0 : Int) < 10 ^ (8 - k) by omega)
    rw [← Int.pow_add, show k + (8 - k) = 8 by omega] at m
    have e8 : (10 : Int) ^ 8 = 100000000 := by decide
    rw [e]
    exact ⟨Int.mul_nonneg r0 (by omega), by omega⟩
/-- what the document reads is -1, or lies within the bounds. -/
theorem valL_bd : ∀ (l : List UInt8) (wh re sc : Int), 0 ≤ wh → RB re sc → -1 ≤ valL wh re sc l ∧ valL wh re sc l ≤ 2147483647
  | [], wh, re, sc, hw, h => by
    have he := h.last
    rw [valL, valEnd]
    generalize (if 0 < sc then re * 10 ^ (9 - sc).toNat else re) = p at *
    split <;> omega
  | b :: l, wh, re, sc, hw, h => by
    rw [valL]
    by_cases c1 : b.toNat = 46 ∧ sc = 0
    · rw [if_pos c1]
      rw [c1.2] at h
      exact valL_bd l wh re 1 hw h.one
    · rw [if_neg c1]
      by_cases c2 : b.toNat < 48 ∨ 57 < b.toNat ∨ 8 < sc ∨ 2147483647 < wh
      · rw [if_pos c2]; omega
      · rw [if_neg c2]
        by_cases c3 : sc = 0
        · rw [if_pos c3]
          exact valL_bd l _ re sc (by omega) h
        · rw [if_neg c3]
          refine valL_bd l wh _ _ hw ?_
          rw [show 10 * re + (b.toNat : Int) - 48 = 10 * re + ((b.toNat : Int) - 48) by omega]
          exact h.next c3 (by omega) (by omega) (by omega)
/-- The document's answer to a text: a minus ahead or not. -/
def rparse (l : List UInt8) : Option Int :=
  match l with
  | [] => if valL 0 0 0 [] < 0 ∨ ¬ printL (bnd (valL 0 0 0 [])) = [] then none else some (valL 0 0 0 [])
  | b :: r =>
    if b.toNat = 45 then (if valL 0 0 0 r < 0 ∨ ¬ printL (bnd (valL 0 0 0 r)) = r ∨ valL 0 0 0 r = 0 then none else some (-valL 0 0 0 r))
    else (if valL 0 0 0 (b :: r) < 0 ∨ ¬ printL (bnd (valL 0 0 0 (b :: r))) = b :: r then none else some (valL 0 0 0 (b :: r)))
theorem dec_head (m : Nat) : ∃ d r, Lib.decDigits m = d :: r ∧ 48 ≤ d.toNat := by
  induction m using Nat.strongRecOn with
  | _ m ih =>
    by_cases h : m < 10
    · exact ⟨_, [], Lib.decDigits_one h, by rw [dig_nat h]; omega⟩
    · obtain ⟨d, r, e, hd⟩ := ih (m / 10) (by omega)
      exact ⟨d, r ++ [UInt8.ofNat (48 + m % 10)], by rw [Lib.decDigits, dif_neg h, e]; rfl, hd⟩
theorem size_head (n : Nat) : ∃ d r, sizeL n = d :: r ∧ 48 ≤ d.toNat := by
  obtain ⟨d, r, e, hd⟩ := dec_head (n / 256)
  exact ⟨d, r ++ if n % 256 = 0 then [] else 46 :: tail8 (n % 256), by unfold sizeL; rw [e]; rfl, hd⟩
theorem printL_nn {n : Int} (h : 0 ≤ n) : printL n = sizeL n.toNat := by unfold printL; rw [if_neg (by omega)]
theorem printL_neg {n : Int} (h : 0 < n) : printL (-n) = 45 :: printL n := by
  rw [printL_nn (n := n) (by omega)]
  unfold printL; rw [if_pos (by omega), Int.neg_neg]
theorem val0 (l : List UInt8) : -1 ≤ valL 0 0 0 l ∧ valL 0 0 0 l ≤ 2147483647 := valL_bd l 0 0 0 (by omega) ⟨by omega, Or.inl ⟨rfl, rfl⟩⟩
theorem rparse_some {l : List UInt8} {n : Int} (h : rparse l = some n) : -2147483647 ≤ n ∧ n ≤ 2147483647 ∧ printL n = l := by
  unfold rparse at h
  split at h
  · have hb := val0 []
    split at h
    · cases h
    · rename_i hc
      have e := Option.some.inj h
      have h0 : 0 ≤ valL 0 0 0 [] := by omega
      have h1 : printL (bnd (valL 0 0 0 [])) = [] := Classical.byContradiction fun k => hc (Or.inr k)
      rw [bnd_id (by omega) (by omega)] at h1
      rw [← e]
      exact ⟨by omega, by omega, h1⟩
  · rename_i b r
    split at h
    · rename_i hb45
      have hb := val0 r
      split at h
      · cases h
      · rename_i hc
        have e := Option.some.inj h
        have h0 : 0 < valL 0 0 0 r := by omega
        have h1 : printL (bnd (valL 0 0 0 r)) = r := Classical.byContradiction fun k => hc (Or.inr (Or.inl k))
        rw [bnd_id (by omega) (by omega)] at h1
        rw [← e]
        refine ⟨by omega, by omega, ?_⟩
        rw [printL_neg h0, h1]
        congr 1
        exact UInt8.toNat_inj.1 (by rw [hb45]; rfl)
    · have hb := val0 (b :: r)
      split at h
      · cases h
      · rename_i hc
        have e := Option.some.inj h
        have h0 : 0 ≤ valL 0 0 0 (b :: r) := by omega
        have h1 : printL (bnd (valL 0 0 0 (b :: r))) = b :: r := Classical.byContradiction fun k => hc (Or.inr k)
        rw [bnd_id (by omega) (by omega)] at h1
        rw [← e]
        exact ⟨by omega, by omega, h1⟩
theorem rparse_of {n : Int} (h1 : -2147483647 ≤ n) (h2 : n ≤ 2147483647) : rparse (printL n) = some n := by
  by_cases hn : n < 0
  · have e : printL n = 45 :: printL (-n) := by
      have := printL_neg (n := -n) (by omega)
      rwa [Int.neg_neg] at this
    have ev : valL 0 0 0 (printL (-n)) = -n := by
      rw [printL_nn (by omega), rt_val (by omega)]; omega
    rw [e, rparse, if_pos (by decide), ev, bnd_id (by omega) (by omega), if_neg]
    · rw [Int.neg_neg]
    · intro k
      rcases k with k | k | k
      · omega
      · exact k rfl
      · omega
  · obtain ⟨d, r, e, hd⟩ := size_head n.toNat
    have ev : valL 0 0 0 (printL n) = n := by
      rw [printL_nn (by omega), rt_val (by omega)]; omega
    have ep : printL n = d :: r := by rw [printL_nn (by omega), e]
    rw [ep, rparse, if_neg (by omega), ← ep, ev, bnd_id (by omega) (by omega), if_neg]
    intro k
    rcases k with k | k
    · omega
    · exact k rfl
theorem rparse_eq (l : List UInt8) : rparse l = parseS l := by
  cases h : parseS l with
  | some n =>
    obtain ⟨h1, h2, h3⟩ := parse_bd h
    rw [← h3]; exact rparse_of h1 h2
  | none =>
    cases k : rparse l with
    | none => rfl
    | some m =>
      obtain ⟨h1, h2, h3⟩ := rparse_some k
      rw [← h3, rt_parse h1 h2] at h
      cases h
theorem valEnd_step {wh re sc : Int} (h1 : 1 ≤ sc) (h8 : sc ≤ 8) : valEnd wh (10 * re) (sc + 1) = valEnd wh re sc := by
  have e : (9 - sc).toNat = (9 - (sc + 1)).toNat + 1 := by omega
  have e2 : re * 10 ^ (9 - sc).toNat = 10 * re * 10 ^ (9 - (sc + 1)).toNat := by
    rw [e, ten_up, ← Int.mul_assoc, Int.mul_comm re 10]
  unfold valEnd
  rw [if_pos (show 0 < sc + 1 by omega), if_pos (show 0 < sc by omega), e2]
theorem valEnd_last {wh re sc : Int} (h : sc = 0 ∨ sc = 9) : valEnd wh re sc = if 8388607 < wh ∨ ¬ re % 390625 = 0 then -1 else 256 * wh + re / 390625 := by
  have e : (if 0 < sc then re * 10 ^ (9 - sc).toNat else re) = re := by
    rcases h with rfl | rfl
    · rw [if_neg (by omega)]
    · rw [if_pos (by omega)]
      have : (10 : Int) ^ ((9 : Int) - 9).toNat = 1 := by decide
      rw [this]; omega
  unfold valEnd
  rw [e]
theorem RB.ten {re sc : Int} (h : RB re sc) (h1 : 1 ≤ sc) (h8 : sc ≤ 8) : RB (10 * re) (sc + 1) := by
  have := h.next (d := 0) (by omega) h8 (by omega) (by omega)
  simpa using this
end Go.Proofs.YtihcicijoeplkaaDoor.Pu
