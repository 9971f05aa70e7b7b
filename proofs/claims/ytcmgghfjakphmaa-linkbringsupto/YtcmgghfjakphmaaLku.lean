/- An honest end and the other one, in plain words. -/
import Derived.Test.YtcmgghfjakphmaaLkq
namespace Go.Proofs.Ytcmgghfjakphmaa
open Go.RowKit
open Wp Vp Lp
set_option maxRecDepth 100000
set_option linter.unusedVariables false
set_option linter.unusedSimpArgs false

def hA (L : List Cc) : Ln := ⟨7, 0, 1, L, 0, [], 0, false⟩
def hB (L : List Cc) (g : Nat) (mq : Int) (mt : Bool) : Ln := ⟨7, 1, 0, [], 0, L.take g, mq, mt⟩
def hD (L : List Cc) (x : Int × Nat) : Dg := ⟨1, 7, 0, 1, x.1, 1, L.take x.2, 0⟩
/-- what holds of the two -/
structure HoI (L : List Cc) (m : Int) (S : List (Int × Nat)) (g : Nat) (mq : Int) : Prop where
  l1 : L.length ≤ 300
  lo : ∀ i, i < L.length → okL 0 i (cc L i) = true
  on : ∀ f, onN L f ≤ 3
  m0 : 0 ≤ m ∧ m ≤ 1000000000
  fr : ∀ i, i < L.length → (cc L i).fr ≤ m + 16
  s1 : ∀ x ∈ S, 0 ≤ x.1 ∧ x.1 ≤ m ∧ x.2 ≤ L.length ∧ (∀ i, i < x.2 → (cc L i).fr ≤ x.1 + 16) ∧ ∀ i, x.2 ≤ i → i < L.length → x.1 < (cc L i).fr
  g1 : g ≤ L.length
  q1 : 0 ≤ mq ∧ mq ≤ m ∧ ∀ i, g ≤ i → i < L.length → mq < (cc L i).fr
theorem HoI.start : HoI [] 0 [] 0 0 :=
  ⟨by simp, fun i hi => by simp at hi, fun f => by simp [onN], by omega, fun i hi => by simp at hi, (fun x hx => by cases hx), by simp, by omega, by omega, fun i _ hi => by simp at hi⟩
theorem HoI.up {L : List Cc} {m : Int} {S : List (Int × Nat)} {g : Nat} {mq : Int} (h : HoI L m S g mq) {k : Int} (h0 : 0 ≤ k) (h1 : m + k ≤ 1000000000) : HoI L (m + k) S g mq := by
  have := h.m0
  refine ⟨h.l1, h.lo, h.on, by omega, fun i hi => by have := h.fr i hi; omega, fun x hx => ?_, h.g1, by have := h.q1.1; omega, by have := h.q1.2.1; omega, h.q1.2.2⟩
  obtain ⟨a, b, c, d, e⟩ := h.s1 x hx
  exact ⟨a, by omega, c, d, e⟩
theorem cc_snoc {L : List Cc} {c : Cc} {i : Nat} (h : i < L.length + 1) : cc (L ++ [c]) i = if i < L.length then cc L i else c := by
  unfold cc
  rw [List.getD_eq_getElem?_getD]
  by_cases e : i < L.length
  · rw [if_pos e, List.getElem?_append_left e, ← List.getD_eq_getElem?_getD]
  · obtain rfl : i = L.length := by omega
    rw [if_neg e, List.getElem?_append_right (Nat.le_refl _)]
    simp
theorem HoI.lay {L : List Cc} {m : Int} {S : List (Int × Nat)} {g : Nat} {mq : Int} (h : HoI L m S g mq) {c : Cc} (hl : L.length < 300) (hok : okL 0 L.length c = true) (h1 : m < c.fr) (h2 : c.fr ≤ m + 16) (hon : onN L c.fr < 3) : HoI (L ++ [c]) m S g mq := by
  have hlen : (L ++ [c]).length = L.length + 1 := by simp
  refine ⟨by omega, fun i hi => ?_, fun f => ?_, h.m0, fun i hi => ?_, fun x hx => ?_, by have := h.g1; omega, h.q1.1, h.q1.2.1, fun i h3 hi => ?_⟩
  · rw [cc_snoc (by omega)]
    split
    · rename_i e; exact h.lo i e
    · rename_i e
      obtain rfl : i = L.length := by omega
      exact hok
  · rw [onN_snoc]
    have := h.on f
    split
    · rename_i e; rw [← e]; omega
    · omega
  · rw [cc_snoc (by omega)]
    split
    · rename_i e; exact h.fr i e
    · exact h2
  · obtain ⟨a, b, d, e, f⟩ := h.s1 x hx
    refine ⟨a, b, by omega, fun i hi => ?_, fun i h3 hi => ?_⟩
    · rw [cc_snoc (by omega), if_pos (by omega)]; exact e i hi
    · rw [cc_snoc (by omega)]
      split
      · rename_i e2; exact f i h3 e2
      · omega
  · rw [cc_snoc (by omega)]
    split
    · rename_i e2; exact h.q1.2.2 i h3 e2
    · have := h.q1.2.1; omega
theorem HoI.send {L : List Cc} {m : Int} {S : List (Int × Nat)} {g : Nat} {mq : Int} (h : HoI L m S g mq) : HoI L m (S ++ [(m, L.length)]) g mq := by
  refine ⟨h.l1, h.lo, h.on, h.m0, h.fr, fun x hx => ?_, h.g1, h.q1⟩
  rcases List.mem_append.1 hx with hx | hx
  · exact h.s1 x hx
  · rw [List.mem_singleton] at hx
    subst hx
    exact ⟨h.m0.1, Int.le_refl _, Nat.le_refl _, h.fr, fun i h1 h2 => by show m < _; have : L.length ≤ i := h1; omega⟩
theorem hD_len {L : List Cc} {x : Int × Nat} (h : x.2 ≤ L.length) : (hD L x).cs.length = x.2 := by
  show (L.take x.2).length = _
  rw [List.length_take]; omega
theorem hD_snoc {L : List Cc} {c : Cc} {x : Int × Nat} (h : x.2 ≤ L.length) : hD (L ++ [c]) x = hD L x := by
  unfold hD
  rw [List.take_append_of_le_length h]
theorem cc_take {L : List Cc} {n i : Nat} (h : i < n) : cc (L.take n) i = cc L i := by
  unfold cc
  rw [List.getD_eq_getElem?_getD, List.getElem?_take_of_lt h, ← List.getD_eq_getElem?_getD]
theorem onN_take (L : List Cc) (n : Nat) (f : Int) : onN (L.take n) f ≤ onN L f := by
  unfold onN
  exact List.Sublist.countP_le (List.take_sublist n L)
theorem mis_none {L : List Cc} {mq dm : Int} (h3 : ∀ f, onN L f ≤ 3) : ∀ (k g : Nat), g + k ≤ L.length → (∀ i, g ≤ i → i < g + k → mq < (cc L i).fr ∧ (cc L i).fr ≤ dm + 16) → misB mq dm (L.take g) ((L.drop g).take k) = false
  | 0, g, _, _ => by simp [misB]
  | k + 1, g, hl, hc => by
    have hg : g < L.length := by omega
    have e1 : (L.drop g).take (k + 1) = cc L g :: (L.drop (g + 1)).take k := by
      rw [(take_one hg).2]
      rfl
    rw [e1]
    unfold misB
    have e2 := (take_one hg).1
    rw [← e2, mis_none h3 k (g + 1) (by omega) (fun i h1 h2 => hc i (by omega) (by omega))]
    have h4 := hc g (Nat.le_refl _) (by omega)
    have h5 : onN (L.take (g + 1)) (cc L g).fr ≤ 3 := Nat.le_trans (onN_take L (g + 1) _) (h3 _)
    rw [e2, onN_snoc, if_pos rfl] at h5
    simp only [Bool.or_false, Bool.or_eq_false_iff, decide_eq_false_iff_not]
    omega
theorem frs_hB {L : List Cc} {g : Nat} {mq : Int} {mt : Bool} {x : Int × Nat} (hg : g ≤ L.length) : frs (hB L g mq mt) (hD L x) = (L.take x.2).drop g := by
  unfold frs
  show (L.take x.2).drop (((L.take g).length : Int) + 1 - 1).toNat = _
  rw [List.length_take, Nat.min_eq_left hg]
  congr 1
  omega
theorem take_drop_eq (L : List Cc) (n g : Nat) (h : g ≤ n) : (L.take n).drop g = (L.drop g).take (n - g) := by
  rw [List.drop_take]
theorem hB_fits {L : List Cc} {m : Int} {S : List (Int × Nat)} {g : Nat} {mq : Int} (h : HoI L m S g mq) (mt : Bool) : Fits (hB L g mq mt) := by
  have h1 := h.l1
  have h2 := h.q1
  have h3 := h.m0
  refine ⟨Nat.le_refl _, by simp [hB], ⟨h2.1, by show mq ≤ _; omega⟩, ⟨by simp [hB], by simp [hB]⟩, ⟨by simp [hB], by simp [hB]⟩, by simp [hB], ⟨by simp [hB], by simp [hB]⟩, fun i hi => by simp [hB] at hi, ?_, fun c hc => ?_, fun f => ?_⟩
  · show (L.take g).length ≤ _; rw [List.length_take]; omega
  · obtain ⟨i, hi, rfl⟩ := mem_cc (List.mem_of_mem_take hc)
    have := okL_iff.1 (h.lo i hi)
    omega
  · exact Nat.le_trans (onN_take L g f) (h.on f)
theorem hA_fits {L : List Cc} {m : Int} {S : List (Int × Nat)} {g : Nat} {mq : Int} (h : HoI L m S g mq) : Fits (hA L) := by
  have h1 := h.l1
  exact ⟨Nat.zero_le _, by show L.length - 0 ≤ _; omega, ⟨by simp [hA], by simp [hA]⟩, ⟨by simp [hA], by simp [hA]⟩, ⟨by simp [hA], by simp [hA]⟩, by simp [hA], ⟨by simp [hA], by simp [hA]⟩, h.lo, by simp [hA], fun c hc => by simp [hA] at hc, fun f => by simp [hA, onN]⟩
theorem hA_turn {L : List Cc} {m : Int} {S : List (Int × Nat)} {g : Nat} {mq : Int} (h : HoI L m S g mq) : turD (hA L) m = hD L (m, L.length) := by
  have h1 := h.m0
  unfold turD hD clp
  rw [if_neg (by omega), if_neg (by omega)]
  show (⟨1, 7, 0, 1, m, (0 : Int) + 1, L.drop 0, 0⟩ : Dg) = ⟨1, 7, 0, 1, m, 1, L.take L.length, 0⟩
  rw [List.drop_zero, List.take_length]
  rfl
/-- a Turn of the honest end is not refused -/
theorem HoI.ref {L : List Cc} {m : Int} {S : List (Int × Nat)} {g : Nat} {mq : Int} (h : HoI L m S g mq) (mt : Bool) {x : Int × Nat} (hx : x ∈ S) : refE (hB L g mq mt) (hD L x) m = 0 := by
  obtain ⟨a, b, c, d, e⟩ := h.s1 x hx
  have h1 := h.l1
  have hm := h.m0
  have hall : allC (hD L x).fr (hD L x).fi (hD L x).cs = true := allC_iff.2 (fun i hi => by
    rw [hD_len c] at hi
    have ho := okL_iff.1 (h.lo i (by omega))
    show okC 0 1 i (cc (L.take x.2) i) = true
    rw [cc_take hi]
    unfold okC
    simp only [Bool.and_eq_true, decide_eq_true_eq]
    refine ⟨ho.1, by omega, by omega, by omega, by omega, ho.2.2.2.2⟩)
  have ok : okD (hD L x) = true := by
    unfold okD seatB Wp.prtB trnB ackB
    rw [hall, hD_len c]
    unfold hD
    simp
    omega
  have hmis : misB mq x.1 (L.take g) ((L.take x.2).drop g) = false := by
    by_cases hgx : g ≤ x.2
    · rw [take_drop_eq L x.2 g hgx]
      refine mis_none h.on (x.2 - g) g (by omega) (fun i h3 h4 => ⟨h.q1.2.2 i h3 (by omega), d i (by omega)⟩)
    · rw [List.drop_of_length_le (by rw [List.length_take]; omega)]
      rfl
  have eb : brkB (hB L g mq mt) (hD L x) m = false := by
    unfold brkB
    rw [frs_hB h.g1]
    show (decide ((([] : List Cc).length : Int) < 0) || ((1 : Int) == 1 && (decide (m < x.1 - 48) || (latB (hB L g mq mt) (hD L x) || misB mq x.1 (L.take g) ((L.take x.2).drop g))))) = false
    rw [hmis]
    have : latB (hB L g mq mt) (hD L x) = false := by
      unfold latB
      show (([] : List Cc).drop _).any _ = false
      simp
    rw [this]
    simp
    omega
  unfold refE
  rw [if_pos ok, if_pos (show (hD L x).ss = (hB L g mq mt).ss from rfl), if_pos (show (hD L x).fr = (hB L g mq mt).ot ∧ (hD L x).to = (hB L g mq mt).se from ⟨rfl, rfl⟩), if_neg (fun e => by have : ((hB L g mq mt).G.length : Int) + 1 < 1 := e.2; omega), eb]
  rfl
theorem HoI.tak {L : List Cc} {m : Int} {S : List (Int × Nat)} {g : Nat} {mq : Int} (h : HoI L m S g mq) (mt : Bool) {x : Int × Nat} (hx : x ∈ S) : takS (hB L g mq mt) (hD L x) = hB L (max g x.2) (max mq x.1) true ∧ frs (hB L g mq mt) (hD L x) = (L.take x.2).drop g ∧ L.take g ++ (L.take x.2).drop g = L.take (max g x.2) ∧ HoI L m S (max g x.2) (max mq x.1) := by
  obtain ⟨a, b, c, d, e⟩ := h.s1 x hx
  have hg := h.g1
  have e1 : L.take g ++ (L.take x.2).drop g = L.take (max g x.2) := by
    by_cases hgx : g ≤ x.2
    · rw [Nat.max_eq_right hgx, show L.take g = (L.take x.2).take g by rw [List.take_take, Nat.min_eq_left hgx], List.take_append_drop]
    · rw [Nat.max_eq_left (by omega), List.drop_of_length_le (by rw [List.length_take]; omega), List.append_nil]
  refine ⟨?_, frs_hB hg, e1, h.l1, h.lo, h.on, h.m0, h.fr, h.s1, by omega, ?_, ?_, fun i h1 h2 => ?_⟩
  · unfold takS
    rw [frs_hB hg]
    show (⟨7, 1, 0, [], max 0 (0 : Int).toNat, L.take g ++ (L.take x.2).drop g, max mq x.1, true⟩ : Ln) = _
    rw [e1]
    rfl
  · have := h.q1.1; omega
  · have := h.q1.2.1; omega
  · have := h.q1.2.2 i (by omega) h2
    have := e i (by omega) h2
    omega
end Go.Proofs.Ytcmgghfjakphmaa
