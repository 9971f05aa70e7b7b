/- The places of movers that are in play, pairs of them, the first of which something is so: in plain words. -/
import Derived.Test.YtpohikhiekmfgaaJa
namespace Go.Proofs.Ytpohikhiekmfgaa.Ygp
open Pu Gp Ap Vp Np Za Ka Ja

/-- the places in play, up to k -/
def ipl (L : List Mv) : Nat → List (Fin L.length)
  | 0 => []
  | k + 1 => ipl L k ++ (if h : k < L.length then (if (mm L k).ou == 0 then [⟨k, h⟩] else []) else [])
theorem ipl_in {L : List Mv} {k : Nat} (h : k < L.length) (ho : ((mm L k).ou == 0) = true) : ipl L (k + 1) = ipl L k ++ [⟨k, h⟩] := by
  rw [ipl, dif_pos h, if_pos ho]
theorem ipl_out {L : List Mv} {k : Nat} (h : k < L.length) (ho : ((mm L k).ou == 0) = false) : ipl L (k + 1) = ipl L k := by
  rw [ipl, dif_pos h, if_neg (by rw [ho]; simp), List.append_nil]
theorem ipl_up {L : List Mv} (k : Nat) : ∀ m, ipl L k <+: ipl L (k + m)
  | 0 => List.prefix_refl _
  | m + 1 => (ipl_up k m).trans (by rw [show k + (m + 1) = (k + m) + 1 from rfl, ipl]; exact List.prefix_append _ _)
theorem ipl_le {L : List Mv} {k m : Nat} (h : k ≤ m) : ipl L k <+: ipl L m := by
  obtain ⟨d, rfl⟩ : ∃ d, m = k + d := ⟨m - k, by omega⟩
  exact ipl_up k d
theorem ipl_lt {L : List Mv} {k : Nat} (h : k < L.length) (ho : ((mm L k).ou == 0) = true) : (ipl L k).length < (ipl L L.length).length := by
  have := (ipl_le (L := L) (show k + 1 ≤ L.length from h)).length_le
  rw [ipl_in h ho, List.length_append] at this
  simp at this
  omega
theorem ipl_mem {L : List Mv} {i : Fin L.length} : ∀ {k : Nat}, i ∈ ipl L k ↔ i.1 < k ∧ ((mm L i.1).ou == 0) = true
  | 0 => by simp [ipl]
  | k + 1 => by
    rw [ipl, List.mem_append, ipl_mem (k := k)]
    constructor
    · rintro (⟨h1, h2⟩ | h)
      · exact ⟨by omega, h2⟩
      · by_cases hk : k < L.length
        · rw [dif_pos hk] at h
          by_cases ho : ((mm L k).ou == 0) = true
          · rw [if_pos ho] at h
            simp at h
            subst h
            exact ⟨by simp, ho⟩
          · rw [if_neg ho] at h; simp at h
        · rw [dif_neg hk] at h; simp at h
    · rintro ⟨h1, h2⟩
      by_cases hk : i.1 < k
      · exact .inl ⟨hk, h2⟩
      · have e : i.1 = k := by omega
        right
        have hk : k < L.length := by have := i.2; omega
        rw [dif_pos hk, if_pos (by rw [← e]; exact h2)]
        simp [Fin.ext_iff, e]
theorem ipl_sorted {L : List Mv} : ∀ (k : Nat), (ipl L k).Pairwise (fun a b => a.1 < b.1)
  | 0 => by simp [ipl]
  | k + 1 => by
    rw [ipl, List.pairwise_append]
    refine ⟨ipl_sorted k, ?_, ?_⟩
    · split
      · split <;> simp
      · simp
    · intro a ha b hb
      have h1 := (ipl_mem.1 ha).1
      split at hb
      · split at hb
        · simp at hb; subst hb; exact h1
        · simp at hb
      · simp at hb
theorem ipl_len {L : List Mv} : ∀ (k : Nat), (ipl L k).length ≤ k
  | 0 => by simp [ipl]
  | k + 1 => by
    have := ipl_len (L := L) k
    rw [ipl, List.length_append]
    have : (if h : k < L.length then (if (mm L k).ou == 0 then [(⟨k, h⟩ : Fin L.length)] else []) else []).length ≤ 1 := by
      split
      · split <;> simp
      · simp
    omega
theorem lo_up (P : Nat → Bool) {x : Nat} (hx : P x = true) : ∀ (m k : Nat), k ≤ x → x < k + m → (∀ j, k ≤ j → j < x → P j = false) → lo P k m = (x : Int)
  | 0, k, h1, h2, _ => by omega
  | m + 1, k, h1, h2, h3 => by
    rw [Ja.lo]
    by_cases e : k = x
    · subst e; rw [hx]; rfl
    · rw [h3 k (Nat.le_refl _) (by omega)]
      exact lo_up P hx m (k + 1) (by omega) (by omega) (fun j h4 h5 => h3 j (by omega) h5)
theorem lo_none (P : Nat → Bool) : ∀ (m k : Nat), (∀ j, k ≤ j → j < k + m → P j = false) → lo P k m = -1
  | 0, _, _ => rfl
  | m + 1, k, h => by
    rw [Ja.lo, h k (Nat.le_refl _) (by omega)]
    exact lo_none P m (k + 1) (fun j h1 h2 => h j (by omega) (by omega))
/-- in play, and so -/
def inSo (L : List Mv) (so : Nat → Bool) (k : Nat) : Bool := ((mm L k).ou == 0) && so k
theorem lo_all {L : List Mv} {so : Nat → Bool} (h : ∀ y ∈ ipl L L.length, so y.1 = false) : lo (inSo L so) 0 L.length = -1 :=
  lo_none _ _ _ (fun j _ hj => by
    unfold inSo
    cases ho : (mm L j).ou == 0 with
    | false => rfl
    | true => rw [h ⟨j, by omega⟩ (ipl_mem.2 ⟨by simp; omega, ho⟩)]; rfl)
theorem lo_first {L : List Mv} {so : Nat → Bool} {pre : List (Fin L.length)} {x : Fin L.length} (hp : pre ++ [x] <+: ipl L L.length) (hn : ∀ y ∈ pre, so y.1 = false) (hx : so x.1 = true) : lo (inSo L so) 0 L.length = (x.1 : Int) := by
  have hm := ipl_mem.1 (hp.subset (show x ∈ pre ++ [x] by simp))
  refine lo_up _ (by unfold inSo; rw [hm.2, hx]; rfl) _ _ (Nat.zero_le _) (by omega) (fun j _ hj => ?_)
  unfold inSo
  cases ho : (mm L j).ou == 0 with
  | false => rfl
  | true =>
    have hjm : (⟨j, by omega⟩ : Fin L.length) ∈ ipl L L.length := ipl_mem.2 ⟨by simp; omega, ho⟩
    obtain ⟨t, ht⟩ := hp
    have hs := ipl_sorted (L := L) L.length
    rw [← ht] at hjm hs
    rw [List.append_assoc, List.pairwise_append] at hs
    rw [List.append_assoc, List.mem_append] at hjm
    rcases hjm with h | h
    · rw [hn _ h]; rfl
    · simp at h
      rcases h with h | h
      · have := Fin.ext_iff.1 h; simp at this; omega
      · have := (List.pairwise_append.1 hs.2.1).2.2 x (by simp) _ h; simp at this; omega

/-! pairs -/
def inr {n : Nat} (a : Fin n) (q : List (Fin n)) : List (Fin n × Fin n) := q.flatMap fun b => if a.1 < b.1 then [(a, b)] else []
def prs {n : Nat} (q : List (Fin n)) (pre : List (Fin n)) : List (Fin n × Fin n) := pre.flatMap fun a => inr a q
theorem inr_snoc {n : Nat} (a : Fin n) (q : List (Fin n)) (b : Fin n) : inr a (q ++ [b]) = inr a q ++ (if a.1 < b.1 then [(a, b)] else []) := by simp [inr]
theorem prs_snoc {n : Nat} (q pre : List (Fin n)) (a : Fin n) : prs q (pre ++ [a]) = prs q pre ++ inr a q := by simp [prs]
theorem inr_len {n : Nat} (a : Fin n) (q : List (Fin n)) : (inr a q).length ≤ q.length := by
  induction q with
  | nil => simp [inr]
  | cons b q ih =>
    have e : inr a (b :: q) = (if a.1 < b.1 then [(a, b)] else []) ++ inr a q := by simp [inr]
    rw [e, List.length_append, List.length_cons]
    split <;> simp <;> omega
theorem prs_len {n : Nat} (q pre : List (Fin n)) : (prs q pre).length ≤ pre.length * q.length := by
  induction pre with
  | nil => simp [prs]
  | cons a pre ih =>
    have e : prs q (a :: pre) = inr a q ++ prs q pre := by simp [prs]
    have := inr_len a q
    rw [e, List.length_append, List.length_cons, Nat.succ_mul]
    omega
/-- those that meet -/
def met (L : List Mv) (l : List (Fin L.length × Fin L.length)) : List (Int × Int) := l.flatMap fun p => if ov (mm L p.1.1) (mm L p.2.1).ax (mm L p.2.1).ay 1280 then [((p.1.1 : Int), (p.2.1 : Int))] else []
theorem met_snoc (L : List Mv) (l : List (Fin L.length × Fin L.length)) (a b : Fin L.length) : met L (l ++ [(a, b)]) = met L l ++ (if ov (mm L a.1) (mm L b.1).ax (mm L b.1).ay 1280 then [((a.1 : Int), (b.1 : Int))] else []) := by simp [met]
theorem met_app (L : List Mv) (l k : List (Fin L.length × Fin L.length)) : met L (l ++ k) = met L l ++ met L k := by simp [met]
theorem met_len (L : List Mv) (l : List (Fin L.length × Fin L.length)) : (met L l).length ≤ l.length := by
  induction l with
  | nil => simp [met]
  | cons p l ih =>
    have e : met L (p :: l) = (if ov (mm L p.1.1) (mm L p.2.1).ax (mm L p.2.1).ay 1280 then [((p.1.1 : Int), (p.2.1 : Int))] else []) ++ met L l := by simp [met]
    rw [e, List.length_append, List.length_cons]
    split <;> simp <;> omega
theorem met_inr (L : List Mv) (a : Fin L.length) (ha : ((mm L a.1).ou == 0) = true) : ∀ k, k ≤ L.length → met L (inr a (ipl L k)) = rowB L a.1 k
  | 0, _ => by simp [ipl, inr, met, rowB]
  | k + 1, h => by
    have ih := met_inr L a ha k (by omega)
    rw [rowB, ← ih]
    cases ho : (mm L k).ou == 0 with
    | false =>
      rw [ipl_out (by omega) ho]
      have e : two L a.1 k = false := by unfold two; rw [ha, ho]; rfl
      rw [e]
      simp
    | true =>
      rw [ipl_in (by omega) ho, inr_snoc, met_app]
      have e : two L a.1 k = ov (mm L a.1) (mm L k).ax (mm L k).ay 1280 := by unfold two; rw [ha, ho]; rfl
      rw [e]
      by_cases hk : a.1 < k
      · rw [if_pos hk]
        simp [met, hk]
      · rw [if_neg hk]
        simp [met, hk]
theorem row_out (L : List Mv) {i : Nat} (ho : ((mm L i).ou == 0) = false) : ∀ k, rowB L i k = []
  | 0 => rfl
  | k + 1 => by
    rw [rowB, row_out L ho k]
    have e : two L i k = false := by unfold two; rw [ho]; rfl
    rw [e]; simp
theorem met_all (L : List Mv) : ∀ i, i ≤ L.length → met L (prs (ipl L L.length) (ipl L i)) = allB L i
  | 0, _ => by simp [ipl, prs, met, allB]
  | i + 1, h => by
    have ih := met_all L i (by omega)
    rw [allB, ← ih]
    cases ho : (mm L i).ou == 0 with
    | false => rw [ipl_out (by omega) ho, row_out L ho, List.append_nil]
    | true =>
      rw [ipl_in (by omega) ho, prs_snoc, met_app, met_inr L ⟨i, by omega⟩ ho L.length (Nat.le_refl _)]
end Go.Proofs.Ytpohikhiekmfgaa.Ygp
