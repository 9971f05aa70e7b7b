/- Plain facts on texts of maps: what was printed is read back, what was read prints as it was. No function of the program is named here. -/
import Derived.Test.YtnoaomocdmkigabPs
namespace Go.Proofs.Ytnoaomocdmkigab
open Go.RowKit
open Pu Gp Ap

theorem byt_of (s : ByteArray) (n : Nat) (h : n < s.size) : byt s n = ((s[n]'h).toNat : Int) := (byt_at s n h).symm
theorem byt_ext {a b : ByteArray} (h : a.size = b.size) (k : ∀ i, i < a.size → byt a i = byt b i) : a = b := by
  apply ByteArray.ext
  apply Array.ext
  · exact h
  · intro i h1 h2
    have := k i h1
    rw [byt_of a i h1, byt_of b i h2] at this
    exact UInt8.toNat_inj.1 (Int.ofNat_inj.1 this)
theorem byt_ex {s : ByteArray} {i j k : Nat} (h : i + k < min j s.size) : byt (s.extract i j) k = byt s (i + k) := by
  have h1 : k < (s.extract i j).size := by rw [ByteArray.size_extract]; omega
  rw [byt_of _ k h1, byt_of s (i + k) (by omega), ByteArray.getElem_extract]
theorem byt_l {a b : ByteArray} {k : Nat} (h : k < a.size) : byt (a ++ b) k = byt a k := by
  rw [byt_of _ k (by rw [ByteArray.size_append]; omega), byt_of a k h, ByteArray.getElem_append_left]
theorem byt_r {a b : ByteArray} {k : Nat} (h : a.size ≤ k) (h2 : k < a.size + b.size) : byt (a ++ b) k = byt b (k - a.size) := by
  rw [byt_of _ k (by rw [ByteArray.size_append]; omega), byt_of b (k - a.size) (by omega), ByteArray.getElem_append_right h]
/-- the text of k rows from the i-th on -/
def prtF (s : ByteArray) (c : Nat) : Nat → Nat → ByteArray
  | _, 0 => ByteArray.empty
  | i, k + 1 => s.extract (i * c) ((i + 1) * c) ++ ⟨#[10]⟩ ++ prtF s c (i + 1) k
theorem prtB_F (s : ByteArray) (c : Nat) : ∀ (k i : Nat), prtB s c i ++ prtF s c i k = prtB s c (i + k)
  | 0, i => by rw [prtF, ByteArray.append_empty, Nat.add_zero]
  | k + 1, i => by
    rw [prtF, show i + (k + 1) = (i + 1) + k by omega, ← prtB_F s c k (i + 1), prtB]
    simp only [ByteArray.append_assoc]
theorem prtF_all (s : ByteArray) (c r : Nat) : prtF s c 0 r = prtB s c r := by
  have := prtB_F s c r 0
  rw [prtB, ByteArray.empty_append, Nat.zero_add] at this
  exact this
theorem nl_size : (⟨#[10]⟩ : ByteArray).size = 1 := rfl
theorem nl_byt : byt (⟨#[10]⟩ : ByteArray) 0 = 10 := by decide
theorem cut_front {L rest : ByteArray} (h : ∀ i, i < L.size → byt L i ≠ 10) :
    fnd (L ++ ⟨#[10]⟩ ++ rest) 10 0 = (L.size : Int) ∧ linB (L ++ ⟨#[10]⟩ ++ rest) = L ∧ (L ++ ⟨#[10]⟩ ++ rest).extract (L.size + 1) (L ++ ⟨#[10]⟩ ++ rest).size = rest ∧ (L ++ ⟨#[10]⟩ ++ rest).size = L.size + 1 + rest.size := by
  have z : (L ++ ⟨#[10]⟩ ++ rest).size = L.size + 1 + rest.size := by rw [ByteArray.size_append, ByteArray.size_append, nl_size]
  have z1 : (L ++ ⟨#[10]⟩).size = L.size + 1 := by rw [ByteArray.size_append, nl_size]
  have b1 : ∀ i, i < L.size → byt (L ++ ⟨#[10]⟩ ++ rest) i = byt L i := fun i hi => by rw [byt_l (by omega), byt_l hi]
  have b2 : byt (L ++ ⟨#[10]⟩ ++ rest) L.size = 10 := by
    rw [byt_l (by omega), byt_r (Nat.le_refl _) (by rw [nl_size]; omega), Nat.sub_self, nl_byt]
  have f : fnd (L ++ ⟨#[10]⟩ ++ rest) 10 0 = (L.size : Int) := by
    rcases fnd_spec (L ++ ⟨#[10]⟩ ++ rest) 10 0 (by omega) with ⟨_, k⟩ | ⟨k, e, _, h2, h3, h4⟩
    · exact absurd b2 (k L.size (by omega) (by omega))
    · rw [e]
      rcases Nat.lt_trichotomy k L.size with g | g | g
      · exact absurd (b1 k g ▸ h3) (h k g)
      · rw [g]
      · exact absurd b2 (h4 L.size (by omega) g)
  refine ⟨f, ?_, ?_, z⟩
  · unfold linB
    rw [f, if_neg (by omega), Int.toNat_natCast]
    refine byt_ext (by rw [ByteArray.size_extract, z]; omega) fun i hi => ?_
    rw [ByteArray.size_extract, z] at hi
    rw [byt_ex (by omega), Nat.zero_add, b1 i (by omega)]
  · refine byt_ext (by rw [ByteArray.size_extract, z]; omega) fun i hi => ?_
    rw [ByteArray.size_extract, z] at hi
    rw [byt_ex (by omega), byt_r (by omega) (by omega)]
    congr 1
    omega
theorem okC_nl {c : Int} (h : okC c = true) : c ≠ 10 := fun e => by
  subst e
  exact absurd h (by decide)
theorem good_ok {C R : Int} {s : ByteArray} : ∀ {n : Nat}, goodN C R s n = true → ∀ i, i < n → okC (byt s i) = true
  | 0, _, i, h => by omega
  | n + 1, g, i, h => by
    rw [goodN, Bool.and_eq_true] at g
    by_cases e : i = n
    · subst e
      have k := g.2
      unfold goodC at k
      rw [Bool.or_eq_true] at k
      rcases k with k | k
      · rw [eq_of_beq k]; decide
      · rw [Bool.and_eq_true] at k; exact k.2
    · exact good_ok g.1 i (by omega)
theorem ex_all (s : ByteArray) : s.extract 0 s.size = s := by
  refine byt_ext (by rw [ByteArray.size_extract]; omega) fun i hi => ?_
  rw [ByteArray.size_extract] at hi
  rw [byt_ex (by omega), Nat.zero_add]
theorem ex_more (s : ByteArray) {i j : Nat} (h : i ≤ j) (hj : j ≤ s.size) : s.extract 0 i ++ s.extract i j = s.extract 0 j := by
  have z1 : (s.extract 0 i).size = i := by rw [ByteArray.size_extract]; omega
  have z2 : (s.extract i j).size = j - i := by rw [ByteArray.size_extract]; omega
  refine byt_ext (by rw [ByteArray.size_append, z1, z2, ByteArray.size_extract]; omega) fun k hk => ?_
  rw [ByteArray.size_append, z1, z2] at hk
  rw [byt_ex (s := s) (i := 0) (j := j) (by omega)]
  by_cases g : k < i
  · rw [byt_l (by omega), byt_ex (by omega)]
  · rw [byt_r (by omega) (by omega), byt_ex (by omega), z1]
    congr 1
    omega
/-- what was printed is read back -/
theorem prs_prtF {s : ByteArray} {c r : Nat} (hs : s.size = r * c) (hg : ∀ i, i < s.size → okC (byt s i) = true) (c3 : 3 ≤ c) (c32 : c ≤ 32) (r24 : r ≤ 24) :
    ∀ (k i f : Nat), i + k = r → k < f → (i = 0 → k ≠ 0) → prs f (if i = 0 then 0 else c) i (s.extract 0 (i * c)) (prtF s c i k) = .inr (c, r, s)
  | 0, i, 0, _, hf, _ => by omega
  | 0, i, f + 1, hr, _, h0 => by
    obtain rfl : i = r := by omega
    have hi : i ≠ 0 := fun e => h0 e rfl
    rw [prs, if_pos ⟨hi, by rw [prtF]; rfl⟩, if_neg hi, ← hs, ex_all]
  | k + 1, i, 0, _, hf, _ => by omega
  | k + 1, i, f + 1, hr, hf, _ => by
    have e1 : (i + 1) * c = i * c + c := Nat.succ_mul i c
    have hle : (i + 1) * c ≤ r * c := Nat.mul_le_mul_right c (by omega)
    have zL : (s.extract (i * c) ((i + 1) * c)).size = c := by rw [ByteArray.size_extract]; omega
    have bL : ∀ j, j < c → okC (byt (s.extract (i * c) ((i + 1) * c)) j) = true := fun j hj => by
      rw [byt_ex (by omega)]
      exact hg _ (by omega)
    have IH := prs_prtF hs hg c3 c32 r24 k (i + 1) f (by omega) (by omega) (by omega)
    rw [if_neg (by omega)] at IH
    obtain ⟨q1, q2, q3, q4⟩ := cut_front (L := s.extract (i * c) ((i + 1) * c)) (rest := prtF s c (i + 1) k) (fun j hj => okC_nl (bL j (by omega)))
    rw [prs, prtF]
    obtain ⟨t, et⟩ : ∃ t, s.extract (i * c) ((i + 1) * c) ++ ⟨#[10]⟩ ++ prtF s c (i + 1) k = t := ⟨_, rfl⟩
    rw [et] at q1 q2 q3 q4 ⊢
    have ok : linOk (if i = 0 then 0 else c) i t = true := by
      unfold linOk
      rw [q1, q2, zL]
      have s1 : sgnsB (s.extract (i * c) ((i + 1) * c)) c = true := sgns_iff.2 bL
      rw [s1]
      by_cases hi : i = 0
      · rw [if_pos hi]; simp; omega
      · rw [if_neg hi, if_neg hi]; simp; omega
    rw [if_neg (by omega), if_pos ok, q2, zL]
    rw [zL] at q3
    rw [q3, ex_more s (by omega) (by omega)]
    exact IH
theorem prs_back {C R : Int} {s : ByteArray} (h : ChkV C R s 0) : PrsV (prtB s C.toNat R.toNat) C R s 0 0 := by
  have hf := chkV_ok h
  obtain ⟨h1, h2, h3, h4, h5, h6⟩ := form_shape hf
  obtain ⟨c, rfl⟩ := Int.eq_ofNat_of_zero_le (show 0 ≤ C by omega)
  obtain ⟨r, rfl⟩ := Int.eq_ofNat_of_zero_le (show 0 ≤ R by omega)
  rw [Int.toNat_natCast, Int.toNat_natCast]
  have hs : s.size = r * c := by
    rw [← Int.natCast_mul, Nat.mul_comm] at h5
    omega
  have hg : goodN (c : Int) (r : Int) s s.size = true := by
    unfold forB at hf
    simp only [Bool.and_eq_true] at hf
    exact hf.2.1
  have z := prtB_size (s := s) (C := c) (i := r) (by omega)
  have z2 : r * (c + 1) ≤ 24 * 33 := Nat.mul_le_mul (by omega) (by omega)
  refine .inr ⟨by omega, .inr ⟨c, r, s, ?_, h, rfl, .inl ⟨rfl, rfl, rfl, rfl⟩⟩⟩
  have := prs_prtF hs (good_ok hg) (by omega) (by omega) (by omega) r 0 25 (by omega) (by omega) (by omega)
  rw [if_pos rfl, Nat.zero_mul, prtF_all] at this
  rw [show s.extract 0 0 = ByteArray.empty from byt_ext (by rw [ByteArray.size_extract]; simp) (fun i hi => by rw [ByteArray.size_extract] at hi; omega)] at this
  exact this
theorem nil_of {t : ByteArray} (h : t.size = 0) : t = ByteArray.empty := byt_ext (by rw [h]; rfl) fun i hi => by omega
/-- a text is its first line, the line's end, the rest -/
theorem split_line {t : ByteArray} (h : 0 ≤ fnd t 10 0) : t = linB t ++ ⟨#[10]⟩ ++ t.extract ((linB t).size + 1) t.size := by
  rcases fnd_spec t 10 0 (by omega) with ⟨e, _⟩ | ⟨k, e, _, h2, h3, _⟩
  · omega
  · have zl : (linB t).size = k := by
      unfold linB
      rw [e, if_neg (by omega), Int.toNat_natCast, ByteArray.size_extract]; omega
    have el : linB t = t.extract 0 k := by
      unfold linB
      rw [e, if_neg (by omega), Int.toNat_natCast]
    rw [zl]
    have z1 : (linB t ++ ⟨#[10]⟩).size = k + 1 := by rw [ByteArray.size_append, zl, nl_size]
    have z2 : (t.extract (k + 1) t.size).size = t.size - (k + 1) := by rw [ByteArray.size_extract]; omega
    refine byt_ext (by rw [ByteArray.size_append, z1, z2]; omega) fun i hi => ?_
    rcases Nat.lt_trichotomy i k with g | g | g
    · rw [byt_l (by omega), byt_l (by omega), el, byt_ex (by omega), Nat.zero_add]
    · subst g
      rw [byt_l (by omega), byt_r (by omega) (by rw [zl, nl_size]; omega), zl, Nat.sub_self, nl_byt, h3]
    · rw [byt_r (by omega) (by omega), z1, byt_ex (by omega)]
      congr 1
      omega
/-- what was read prints as it was -/
theorem prs_inv : ∀ (f C R : Nat) (S t : ByteArray) (c r : Nat) (s : ByteArray), prs f C R S t = .inr (c, r, s) → (R ≠ 0 → S.size = R * C) → (R = 0 → S.size = 0) →
    R ≤ r ∧ (R ≠ 0 → C = c) ∧ s.size = r * c ∧ s.extract 0 (R * c) = S ∧ t = prtF s c R (r - R)
  | 0, C, R, S, t, c, r, s, h, _, _ => by rw [prs] at h; cases h
  | f + 1, C, R, S, t, c, r, s, h, h1, h0 => by
    rw [prs] at h
    by_cases k : R ≠ 0 ∧ t.size = 0
    · rw [if_pos k] at h
      cases h
      have z := h1 k.1
      refine ⟨Nat.le_refl _, fun _ => rfl, z, by rw [← z, ex_all], ?_⟩
      rw [Nat.sub_self, prtF]
      exact nil_of k.2
    · rw [if_neg k] at h
      by_cases ok : linOk C R t = true
      · rw [if_pos ok] at h
        have ok' := ok
        unfold linOk at ok'
        simp only [Bool.and_eq_true, decide_eq_true_eq] at ok'
        obtain ⟨o1, o2, o3, o4⟩ := ok'
        have zS : S.size = R * (linB t).size := by
          by_cases hR : R = 0
          · rw [h0 hR, hR, Nat.zero_mul]
          · rw [if_neg hR] at o3
            rw [h1 hR, of_decide_eq_true o3]
        have e1 : (R + 1) * (linB t).size = R * (linB t).size + (linB t).size := Nat.succ_mul _ _
        obtain ⟨i1, i2, i3, i4, i5⟩ := prs_inv f _ _ _ _ c r s h (fun _ => by rw [ByteArray.size_append]; omega) (fun e => by omega)
        have i2 := i2 (by omega)
        have sp := split_line o1
        obtain ⟨L, eL⟩ : ∃ L, linB t = L := ⟨_, rfl⟩
        rw [eL] at i2 i4 i5 sp zS e1 o3
        subst i2
        have hle : (R + 1) * L.size ≤ r * L.size := Nat.mul_le_mul_right _ i1
        have eS : s.extract 0 (R * L.size) = S := by
          refine byt_ext (by rw [ByteArray.size_extract]; omega) fun i hi => ?_
          rw [ByteArray.size_extract] at hi
          rw [byt_ex (by omega), Nat.zero_add]
          have := congrArg (fun b => byt b i) i4
          rw [byt_ex (by omega), Nat.zero_add, byt_l (by omega)] at this
          exact this
        have eL2 : s.extract (R * L.size) ((R + 1) * L.size) = L := by
          refine byt_ext (by rw [ByteArray.size_extract]; omega) fun i hi => ?_
          rw [ByteArray.size_extract] at hi
          rw [byt_ex (by omega)]
          have := congrArg (fun b => byt b (R * L.size + i)) i4
          rw [byt_ex (by omega), Nat.zero_add, byt_r (by omega) (by omega), zS, Nat.add_sub_cancel_left] at this
          exact this
        refine ⟨by omega, fun hR => ?_, i3, eS, ?_⟩
        · rw [if_neg hR] at o3
          exact (of_decide_eq_true o3).symm
        · rw [show r - R = (r - (R + 1)) + 1 by omega, prtF, eL2, ← i5]
          exact sp
      · rw [if_neg ok] at h; cases h
theorem prt_back {t : ByteArray} {C R : Int} {S : ByteArray} {n : Int} (h : PrsV t C R S 0 n) : ChkV C R S 0 ∧ prtB S C.toNat R.toNat = t := by
  rcases h with ⟨_, _, _, _, e, _⟩ | ⟨_, h⟩
  · cases e
  rcases h with ⟨_, _, _, _, _, e, _⟩ | ⟨c, r, s, h1, h2, _, h3⟩
  · cases e
  rcases h3 with ⟨_, rfl, rfl, rfl⟩ | ⟨e, _⟩
  · refine ⟨h2, ?_⟩
    rw [Int.toNat_natCast, Int.toNat_natCast]
    have := (prs_inv 25 0 0 ByteArray.empty t c r S h1 (fun e => absurd rfl e) (fun _ => rfl)).2.2.2.2
    rw [Nat.sub_zero, prtF_all] at this
    exact this.symm
  · exact absurd rfl e
end Go.Proofs.Ytnoaomocdmkigab
