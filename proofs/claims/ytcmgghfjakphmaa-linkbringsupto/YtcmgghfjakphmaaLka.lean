/- What a link does, in plain words. -/
import Derived.Test.YtcmgghfjakphmaaWpc
namespace Go.Proofs.Ytcmgghfjakphmaa
open Go.RowKit
open Wp Vp
set_option maxRecDepth 100000
set_option linter.unusedVariables false
namespace Lp

/-- a link, as the document has it -/
structure Ln where
  ss : Int
  se : Int
  ot : Int
  O : List Cc
  ak : Nat
  G : List Cc
  mq : Int
  mt : Bool
def zLn (ss se ot : Int) : Ln := ⟨ss, se, ot, [], 0, [], 0, false⟩
def onN (L : List Cc) (f : Int) : Nat := L.countP (fun c => c.fr == f)
theorem onN_snoc (L : List Cc) (c : Cc) (f : Int) : onN (L ++ [c]) f = onN L f + if c.fr = f then 1 else 0 := by
  unfold onN
  rw [List.countP_append, List.countP_singleton]
  by_cases h : c.fr = f <;> simp [h]
def chC (c : Cc) : Int := chkO c.v c.a c.b c.c
def okL (se : Int) (n : Nat) (c : Cc) : Bool := (c.pe == se) && ((c.sq == (n : Int) + 1) && (decide (1 ≤ c.fr) && (decide (c.fr ≤ 1099511627776) && (chC c == 0))))
def layE (s : Ln) (c : Cc) : Int := if okL s.se s.O.length c = true then (if 336 ≤ s.O.length - s.ak then 2 else 0) else 1
def layS (s : Ln) (c : Cc) : Ln := if layE s c = 0 then ⟨s.ss, s.se, s.ot, s.O ++ [c], s.ak, s.G, s.mq, s.mt⟩ else s
def clp (m : Int) : Int := if m < 0 then 0 else if 1099511627776 < m then 1099511627776 else m
theorem clp_in (m : Int) : 0 ≤ clp m ∧ clp m ≤ 1099511627776 := by
  unfold clp
  split
  · omega
  · split <;> omega
def turD (s : Ln) (m : Int) : Dg := ⟨1, s.ss, s.se, s.ot, clp m, (s.ak : Int) + 1, s.O.drop s.ak, (s.G.length : Int)⟩
def ackD (s : Ln) : Dg := ⟨2, s.ss, s.se, s.ot, 0, 0, [], (s.G.length : Int)⟩
/-- what is new of a datagram -/
def frs (s : Ln) (d : Dg) : List Cc := d.cs.drop ((s.G.length : Int) + 1 - d.fi).toNat
def latB (s : Ln) (d : Dg) : Bool := (s.O.drop (max s.ak d.ak.toNat)).any (fun c => decide (c.fr ≤ d.mrk - 48))
def misB (mk dm : Int) : List Cc → List Cc → Bool
  | _, [] => false
  | G, c :: F => (decide (c.fr ≤ mk) || (decide (dm + 16 < c.fr) || decide (3 ≤ onN G c.fr))) || misB mk dm (G ++ [c]) F
def brkB (s : Ln) (d : Dg) (lead : Int) : Bool := decide ((s.O.length : Int) < d.ak) || ((d.kd == 1) && (decide (lead < d.mrk - 48) || (latB s d || misB s.mq d.mrk s.G (frs s d))))
def refE (s : Ln) (d : Dg) (lead : Int) : Int :=
  if okD d = true then
    if d.ss = s.ss then
      if d.fr = s.ot ∧ d.to = s.se then
        if d.kd = 1 ∧ (s.G.length : Int) + 1 < d.fi then 182
        else if brkB s d lead = true then 183 else 0
      else 181
    else 180
  else 162
def broB (s : Ln) (d : Dg) : Bool := decide ((s.ak : Int) < d.ak) || (decide (0 < (frs s d).length) || decide (s.mq < d.mrk))
def takS (s : Ln) (d : Dg) : Ln := ⟨s.ss, s.se, s.ot, s.O, max s.ak d.ak.toNat, s.G ++ frs s d, max s.mq d.mrk, true⟩

/-- what holds of every link -/
structure Fits (s : Ln) : Prop where
  a1 : s.ak ≤ s.O.length
  a2 : s.O.length - s.ak ≤ 336
  m0 : 0 ≤ s.mq ∧ s.mq ≤ 1099511627776
  se : 0 ≤ s.se ∧ s.se ≤ 5
  ot : 0 ≤ s.ot ∧ s.ot ≤ 5
  ne : s.se ≠ s.ot
  ss : 0 ≤ s.ss ∧ s.ss < 18446744073709551616
  o : ∀ i, i < s.O.length → okL s.se i (cc s.O i) = true
  g : s.G.length ≤ 1099511627776
  gf : ∀ c ∈ s.G, 1 ≤ c.fr ∧ c.fr ≤ 1099511627776
  gn : ∀ f, onN s.G f ≤ 3
theorem Fits.new {ss se ot : Int} (h1 : 0 ≤ se ∧ se ≤ 5) (h2 : 0 ≤ ot ∧ ot ≤ 5) (h3 : se ≠ ot) (h4 : 0 ≤ ss ∧ ss < 18446744073709551616) : Fits (zLn ss se ot) :=
  ⟨Nat.le_refl _, by simp [zLn], ⟨by simp [zLn], by simp [zLn]⟩, h1, h2, h3, h4, fun i hi => by simp [zLn] at hi, by simp [zLn], fun c hc => by simp [zLn] at hc, fun f => by simp [zLn, onN]⟩
theorem okL_iff {se : Int} {n : Nat} {c : Cc} : okL se n c = true ↔ c.pe = se ∧ c.sq = (n : Int) + 1 ∧ 1 ≤ c.fr ∧ c.fr ≤ 1099511627776 ∧ chC c = 0 := by
  unfold okL
  simp only [Bool.and_eq_true, beq_iff_eq, decide_eq_true_eq]
theorem Fits.lay {s : Ln} (h : Fits s) (c : Cc) : Fits (layS s c) := by
  unfold layS
  by_cases he : layE s c = 0
  · rw [if_pos he]
    unfold layE at he
    by_cases hk : okL s.se s.O.length c = true
    · rw [if_pos hk] at he
      have hl : ¬ 336 ≤ s.O.length - s.ak := fun e => by rw [if_pos e] at he; cases he
      refine ⟨?_, ?_, h.m0, h.se, h.ot, h.ne, h.ss, ?_, h.g, h.gf, h.gn⟩
      · have := h.a1; simp only [List.length_append, List.length_singleton]; omega
      · simp only [List.length_append, List.length_singleton]; have := h.a1; omega
      · intro i hi
        simp only [List.length_append, List.length_singleton] at hi
        by_cases e : i < s.O.length
        · have := h.o i e
          unfold cc at this ⊢
          rw [List.getD_eq_getElem?_getD, List.getElem?_append_left e, ← List.getD_eq_getElem?_getD]
          exact this
        · have : i = s.O.length := by omega
          subst this
          unfold cc
          rw [List.getD_eq_getElem?_getD, List.getElem?_append_right (Nat.le_refl _)]
          simpa using hk
    · rw [if_neg hk] at he; cases he
  · rw [if_neg he]; exact h
theorem okD_cs {d : Dg} (h : okD d = true) : ∀ i, i < d.cs.length → (cc d.cs i).sq = d.fi + i ∧ (cc d.cs i).sq ≤ 1099511627776 ∧ 1 ≤ (cc d.cs i).fr ∧ (cc d.cs i).fr ≤ 1099511627776 := by
  intro i hi
  obtain ⟨_, _, h3⟩ := okD_parts h
  rcases h3 with ⟨_, _, _, _, ha⟩ | ⟨_, _, _, hc⟩
  · have h1 := allC_iff.1 ha i hi
    simp only [okC, Bool.and_eq_true, decide_eq_true_eq] at h1
    exact ⟨h1.2.1, h1.2.2.1, h1.2.2.2.1, h1.2.2.2.2.1⟩
  · rw [hc] at hi; simp at hi
theorem mem_cc {L : List Cc} {c : Cc} (h : c ∈ L) : ∃ i, i < L.length ∧ cc L i = c := by
  obtain ⟨i, hi, e⟩ := List.getElem_of_mem h
  exact ⟨i, hi, by rw [cc_at hi]; exact e⟩
theorem misB_no {mk dm : Int} : ∀ (F G : List Cc), (∀ f, onN G f ≤ 3) → misB mk dm G F = false → ∀ f, onN (G ++ F) f ≤ 3
  | [], G, h, _ => by simpa using h
  | c :: F, G, h, hm => by
    unfold misB at hm
    simp only [Bool.or_eq_false_iff, decide_eq_false_iff_not] at hm
    have := misB_no F (G ++ [c]) (fun f => by
      rw [onN_snoc]
      have := h f
      by_cases e : c.fr = f
      · rw [if_pos e]; rw [e] at hm; omega
      · rw [if_neg e]; omega) hm.2
    simpa using this
theorem refE_ok {s : Ln} {d : Dg} {lead : Int} (h : refE s d lead = 0) : okD d = true ∧ d.ss = s.ss ∧ d.fr = s.ot ∧ d.to = s.se ∧ (d.kd = 1 → d.fi ≤ (s.G.length : Int) + 1) ∧ brkB s d lead = false := by
  unfold refE at h
  by_cases h1 : okD d = true
  · rw [if_pos h1] at h
    by_cases h2 : d.ss = s.ss
    · rw [if_pos h2] at h
      by_cases h3 : d.fr = s.ot ∧ d.to = s.se
      · rw [if_pos h3] at h
        by_cases h4 : d.kd = 1 ∧ (s.G.length : Int) + 1 < d.fi
        · rw [if_pos h4] at h; cases h
        · rw [if_neg h4] at h
          refine ⟨h1, h2, h3.1, h3.2, fun e => by omega, ?_⟩
          cases hb : brkB s d lead with
          | false => rfl
          | true => rw [hb] at h; cases h
      · rw [if_neg h3] at h; cases h
    · rw [if_neg h2] at h; cases h
  · rw [if_neg h1] at h; cases h
theorem frs_len {s : Ln} {d : Dg} (hg : s.G.length ≤ 1099511627776) (h : okD d = true) (hf : d.kd = 1 → d.fi ≤ (s.G.length : Int) + 1) : s.G.length + (frs s d).length ≤ 1099511627776 := by
  obtain ⟨_, _, h3⟩ := okD_parts h
  by_cases h0 : (frs s d).length = 0
  · omega
  · unfold frs at h0 ⊢
    rw [List.length_drop] at h0 ⊢
    rcases h3 with ⟨k1, _, hfi, _, ha⟩ | ⟨_, _, _, hc⟩
    · have := okD_cs h (d.cs.length - 1) (by omega)
      have := hf k1
      omega
    · rw [hc] at h0; simp at h0
theorem Fits.take {s : Ln} (h : Fits s) {d : Dg} {lead : Int} (hr : refE s d lead = 0) : Fits (takS s d) := by
  obtain ⟨h1, h2, h3, h4, h5, h6⟩ := refE_ok hr
  obtain ⟨p1, p2, p3⟩ := okD_parts h1
  unfold brkB at h6
  simp only [Bool.or_eq_false_iff, decide_eq_false_iff_not] at h6
  have ha1 := h.a1
  have ha2 := h.a2
  have hm0 := h.m0
  have hmk : 0 ≤ d.mrk ∧ d.mrk ≤ 1099511627776 := by rcases p3 with ⟨_, q, _⟩ | ⟨_, q, _⟩ <;> omega
  refine ⟨?_, ?_, ?_, h.se, h.ot, h.ne, h.ss, h.o, ?_, ?_, ?_⟩
  · show max s.ak d.ak.toNat ≤ s.O.length
    omega
  · show s.O.length - max s.ak d.ak.toNat ≤ 336
    omega
  · show 0 ≤ max s.mq d.mrk ∧ max s.mq d.mrk ≤ 1099511627776
    omega
  · show (s.G ++ frs s d).length ≤ _
    rw [List.length_append]
    exact frs_len h.g h1 h5
  · intro c hc
    rcases List.mem_append.1 (show c ∈ s.G ++ frs s d from hc) with e | e
    · exact h.gf c e
    · obtain ⟨i, hi, rfl⟩ := mem_cc (List.mem_of_mem_drop e)
      have := okD_cs h1 i hi
      omega
  · show ∀ f, onN (s.G ++ frs s d) f ≤ 3
    rcases p3 with ⟨k1, _⟩ | ⟨_, _, _, hc⟩
    · refine misB_no (mk := s.mq) (dm := d.mrk) _ _ h.gn ?_
      have := h6.2
      rw [show (d.kd == 1) = true by simpa using k1] at this
      simp only [Bool.true_and, Bool.or_eq_false_iff] at this
      exact this.2.2
    · unfold frs
      rw [hc]
      simpa using h.gn
end Lp
end Go.Proofs.Ytcmgghfjakphmaa
