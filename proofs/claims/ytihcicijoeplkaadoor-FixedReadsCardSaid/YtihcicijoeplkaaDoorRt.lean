/- Plain lists of bytes: what is printed is read as it was; what is read is what is printed. No program is named here. -/
import Derived.Test.YtihcicijoeplkaaDoorTp
namespace Go.Proofs.YtihcicijoeplkaaDoor.Pu

theorem dig_nat {k : Nat} (h : k < 10) : (UInt8.ofNat (48 + k)).toNat = 48 + k := by
  rw [UInt8.toNat_ofNat']; omega
theorem readL_digit (f : Bool) (sg wh : Int) (d : Nat) (l : List UInt8) (hd : d < 10) (h : 10 * wh + d ≤ 8388607) :
    readL f sg wh 0 0 (UInt8.ofNat (48 + d) :: l) = readL false sg (10 * wh + d) 0 0 l := by
  rw [readL, dig_nat hd, if_neg (by omega), if_neg (by omega), if_neg (by omega), if_pos rfl, if_neg (by omega)]
  congr 1; omega
theorem readL_dec (m : Nat) : m ≤ 8388607 → ∀ (f : Bool) (sg : Int) (l : List UInt8), readL f sg 0 0 0 (Lib.decDigits m ++ l) = readL false sg m 0 0 l := by
  induction m using Nat.strongRecOn with
  | _ m ih =>
    intro hm f sg l
    by_cases h : m < 10
    · rw [Lib.decDigits_one h]
      have := readL_digit f sg 0 m l h (by omega)
      simpa using this
    · rw [Lib.decDigits, dif_neg h, List.append_assoc, ih (m / 10) (by omega) (by omega)]
      show readL false sg _ 0 0 (UInt8.ofNat (48 + m % 10) :: l) = _
      rw [readL_digit _ _ _ _ _ (by omega) (by omega)]
      congr 1; omega
/-- the digits behind the point. -/
def fracL : Int → Int → List UInt8 → Option Int
  | pa, _, [] => some pa
  | pa, pl, b :: l => if b.toNat < 48 ∨ 57 < b.toNat ∨ pl = 1 then none else fracL (pa + pl / 10 * ((b.toNat : Int) - 48)) (pl / 10) l
theorem readL_frac : ∀ (l : List UInt8) (sg wh pa pl : Int), Tens pl → pl ≠ 0 → readL false sg wh pa pl l = (fracL pa pl l).map fun p => sg * (wh * 256 + p / 390625)
  | [], sg, wh, pa, pl, _, _ => rfl
  | b :: l, sg, wh, pa, pl, ht, h0 => by
    rw [readL, fracL, if_neg (by simp), if_neg (by omega)]
    by_cases hc : b.toNat < 48 ∨ 57 < b.toNat ∨ pl = 1
    · rw [if_pos hc, if_pos hc]; rfl
    · obtain ⟨t1, t2⟩ := ht.tenth h0 (by omega)
      rw [if_neg hc, if_neg hc, if_neg h0, readL_frac l _ _ _ _ t1 (by omega)]
theorem frac_all : ∀ r : Fin 256, fracL 0 100000000 (tail8 r.val) = some (r.val * 390625) := by decide +kernel
theorem tail_none : ∀ r : Fin 256, (tail8 r.val = []) = (r.val = 0) := by
  intro r
  have : ∀ r : Fin 256, (tail8 r.val).isEmpty = decide (r.val = 0) := by decide +kernel
  have h := this r
  rw [eq_iff_iff, ← List.isEmpty_iff, h, decide_eq_true_iff]
theorem readL_size (n : Nat) (hn : n ≤ 2147483647) (f : Bool) (sg : Int) : readL f sg 0 0 0 (sizeL n) = some (sg * n) := by
  unfold sizeL
  rw [readL_dec _ (by omega)]
  by_cases h : n % 256 = 0
  · rw [if_pos h, readL]
    congr 2; omega
  · have hf := frac_all ⟨n % 256, by omega⟩
    rw [if_neg h, readL, if_neg (by simp), if_pos ⟨by decide, rfl⟩, readL_frac _ _ _ _ _ (by unfold Tens; omega) (by omega), hf]
    show some (sg * (((n / 256 : Nat) : Int) * 256 + ((n % 256 * 390625 : Nat) : Int) / 390625)) = _
    congr 2; omega
theorem rt_read {n : Int} (h1 : -2147483647 ≤ n) (h2 : n ≤ 2147483647) : readS (printL n) = some n := by
  unfold readS printL
  by_cases h : n < 0
  · rw [if_pos h, readL, if_pos ⟨by decide, rfl⟩, readL_size _ (by omega)]
    congr 1; omega
  · rw [if_neg h, readL_size _ (by omega)]
    congr 1; omega
theorem rt_parse {n : Int} (h1 : -2147483647 ≤ n) (h2 : n ≤ 2147483647) : parseS (printL n) = some n := by
  unfold parseS
  rw [rt_read h1 h2]
  exact if_pos (by rw [bnd_id h1 h2])
/-- what is read lies within the bounds. -/
theorem readL_bd : ∀ (l : List UInt8) (f : Bool) (sg wh pa pl n : Int), -1 ≤ sg → sg ≤ 1 → 0 ≤ wh → wh ≤ 8388607 → Tens pl → 0 ≤ pa → pa + pl ≤ 100000000 → (pl = 0 → pa = 0) → readL f sg wh pa pl l = some n → -2147483647 ≤ n ∧ n ≤ 2147483647
  | [], f, sg, wh, pa, pl, n, s1, s2, w1, w2, t, p1, p2, p3, h => by
    rw [readL] at h
    have e := Option.some.inj h
    have hpl := t.bd
    have hp : pa ≤ 99999999 := by
      by_cases hz : pl = 0
      · have := p3 hz; omega
      · omega
    have hb : 0 ≤ wh * 256 + pa / 390625 ∧ wh * 256 + pa / 390625 ≤ 2147483647 := by omega
    have h3 : sg = -1 ∨ sg = 0 ∨ sg = 1 := by omega
    rcases h3 with k | k | k <;> subst k <;> omega
  | b :: l, f, sg, wh, pa, pl, n, s1, s2, w1, w2, t, p1, p2, p3, h => by
    have hpl := t.bd
    rw [readL] at h
    by_cases c1 : b.toNat = 45 ∧ f = true
    · rw [if_pos c1] at h
      exact readL_bd l false (-1) wh pa pl n (by omega) (by omega) w1 w2 t p1 p2 p3 h
    · rw [if_neg c1] at h
      by_cases c2 : b.toNat = 46 ∧ pl = 0
      · rw [if_pos c2] at h
        have := p3 c2.2
        exact readL_bd l false sg wh pa 100000000 n s1 s2 w1 w2 (by unfold Tens; omega) p1 (by omega) (by omega) h
      · rw [if_neg c2] at h
        by_cases c3 : b.toNat < 48 ∨ 57 < b.toNat ∨ pl = 1
        · rw [if_pos c3] at h; cases h
        · rw [if_neg c3] at h
          by_cases c4 : pl = 0
          · rw [if_pos c4] at h
            by_cases c5 : 8388607 < 10 * wh + ((b.toNat : Int) - 48)
            · rw [if_pos c5] at h; cases h
            · rw [if_neg c5] at h
              exact readL_bd l false sg _ pa pl n s1 s2 (by omega) (by omega) t p1 p2 p3 h
          · rw [if_neg c4] at h
            obtain ⟨t1, t2⟩ := t.tenth c4 (by omega)
            obtain ⟨m1, m2⟩ := mul_digit (p := pl / 10) (d := (b.toNat : Int) - 48) (by omega) (by omega) (by omega)
            exact readL_bd l false sg wh _ (pl / 10) n s1 s2 w1 w2 t1 (by omega) (by omega) (fun k => by omega) h
theorem parse_bd {l : List UInt8} {n : Int} (h : parseS l = some n) : -2147483647 ≤ n ∧ n ≤ 2147483647 ∧ printL n = l := by
  unfold parseS at h
  cases hr : readS l with
  | none => rw [hr] at h; cases h
  | some m =>
    rw [hr] at h
    have hb := readL_bd l true 1 0 0 0 m (by omega) (by omega) (by omega) (by omega) (Or.inl rfl) (by omega) (by omega) (fun _ => rfl) hr
    have h' : (if printL (bnd m) = l then some m else none) = some n := h
    by_cases hp : printL (bnd m) = l
    · rw [if_pos hp] at h'
      have e := Option.some.inj h'
      subst e
      rw [bnd_id hb.1 hb.2] at hp
      exact ⟨hb.1, hb.2, hp⟩
    · rw [if_neg hp] at h'; cases h'
/-- The document's digits: of n, so many at least. -/
def dlF : Nat → Nat → Nat → List UInt8
  | 0, _, _ => []
  | f + 1, n, k => if n = 0 ∧ k = 0 then [] else dlF f (n / 10) (k - 1) ++ [UInt8.ofNat (48 + n % 10)]
theorem dlF_none : ∀ f, dlF f 0 0 = []
  | 0 => rfl
  | f + 1 => by rw [dlF, if_pos ⟨rfl, rfl⟩]
theorem dlF_zero : ∀ (f n : Nat), n ≤ f → dlF f n 0 = if n = 0 then [] else Lib.decDigits n
  | 0, n, h => by rw [if_pos (by omega)]; rfl
  | f + 1, n, h => by
    by_cases h0 : n = 0
    · rw [if_pos h0, h0, dlF_none]
    · rw [if_neg h0, dlF, if_neg (by omega), dlF_zero f (n / 10) (by omega)]
      by_cases h1 : n < 10
      · rw [if_pos (by omega), Lib.decDigits_one h1]
        simp only [List.nil_append]
        congr 3; omega
      · rw [if_neg (by omega)]
        conv => rhs; rw [Lib.decDigits, dif_neg h1]
theorem dlF_one {f n : Nat} (h : n + 1 ≤ f) : dlF f n 1 = Lib.decDigits n := by
  cases f with
  | zero => omega
  | succ f =>
    rw [dlF, if_neg (by omega), dlF_zero f (n / 10) (by omega)]
    by_cases h1 : n < 10
    · rw [if_pos (by omega), Lib.decDigits_one h1]
      simp only [List.nil_append]
      congr 3; omega
    · rw [if_neg (by omega)]
      conv => rhs; rw [Lib.decDigits, dif_neg h1]
theorem dlF_pad : ∀ (k f n : Nat), n < 10 ^ k → n + k ≤ f → dlF f n k = pad k n
  | 0, f, n, h, _ => by
    have : n = 0 := by simpa using h
    rw [this, dlF_none]; rfl
  | k + 1, 0, n, _, hf => by omega
  | k + 1, f + 1, n, h, hf => by
    rw [dlF, if_neg (by omega), pad, Nat.add_sub_cancel, dlF_pad k f (n / 10) (by rw [Nat.pow_succ] at h; omega) (by omega)]
theorem dlF_len : ∀ (f n k : Nat), (dlF f n k).length ≤ f
  | 0, _, _ => Nat.le_refl _
  | f + 1, n, k => by
    rw [dlF]; split
    · exact Nat.zero_le _
    · rw [List.length_append]; have := dlF_len f (n / 10) (k - 1); simp; omega
theorem dlF_step {f n k : Nat} (h : ¬ (n = 0 ∧ k = 0)) : dlF (f + 1) n k = dlF f (n / 10) (k - 1) ++ [UInt8.ofNat (48 + n % 10)] := by rw [dlF, if_neg h]
end Go.Proofs.YtihcicijoeplkaaDoor.Pu
