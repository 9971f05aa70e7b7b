/- A list of pairs. -/
import Derived.Test.YthgjhfooodcfbaaPv
import Derived.Test.YthgjhfooodcfbaaPe
namespace Go.Proofs.Ythgjhfooodcfbaa
open Go.RowKit

/-- The block is not a row of pairs. -/
def Typ (w : World) (k : Nat) : Prop := ∃ cur t fr, w.heap[k]? = some (.cells cur t fr) ∧ t ≠ 35
theorem Typ.kept {F : Nat → Prop} {w w' : World} {k : Nat} (h : Typ w k) (hf : Fr F w w') (hn : ¬ F k) : Typ w' k := by
  obtain ⟨cur, t, fr, hg, ht⟩ := h
  exact ⟨cur, t, fr, hf.kept hg hn, ht⟩
theorem Pw.typ {O : Nat → Prop} {w : World} {xp yp m : Nat} {room : Int} {bs : List UInt8} {e : Int} (h : Pw w O xp yp room bs e m) : Pw w (fun k => O k ∧ Typ w k) xp yp room bs e m := by
  obtain ⟨xo, xn, xc, yo, yn, yc, yb, hx, hy, h1, h2, h3, h4, h5, h6, h7, h8, h9, h10, h11⟩ := h
  refine ⟨xo, xn, xc, yo, yn, yc, yb, hx, hy, h1, h2, h3, h4, h5, h6, ⟨h7, _, _, _, hx.blk, by decide⟩, ⟨h8, _, _, _, hy.blk, by decide⟩, fun a ha => ⟨h9 a ha, ?_⟩, fun a ha => ⟨h10 a ha, ?_⟩, h11⟩
  · obtain ⟨_, _, cur, hg, _⟩ := hx.own.row a ha
    exact ⟨_, _, _, hg, by decide⟩
  · obtain ⟨_, _, cur, hg, _⟩ := hy.own.row a ha
    exact ⟨_, _, _, hg, by decide⟩

/-- All pairs, each in blocks of its own. -/
structure Iw (W wr : World) (cs : List (Nat × Nat)) (O : Nat → Nat → Prop) (m : Nat) : Prop where
  each : ∀ i (hi : i < cs.length), ∃ room bs e, Pw wr (O i) cs[i].1 cs[i].2 room bs e m
  lo : ∀ i k, i < cs.length → O i k → W.heap.size ≤ k ∧ k < wr.heap.size ∧ Typ wr k
  dis : ∀ i j k, i < cs.length → j < cs.length → i ≠ j → O i k → ¬ O j k
theorem Iw.nil (W wr : World) (m : Nat) : Iw W wr [] (fun _ _ => False) m := ⟨fun i hi => (by simp at hi), fun i k hi => (by simp at hi), fun i j k hi => (by simp at hi)⟩
theorem Iw.kept {F : Nat → Prop} {W wr w' : World} {cs : List (Nat × Nat)} {O : Nat → Nat → Prop} {m : Nat} (h : Iw W wr cs O m) (hf : Fr F wr w') (hF : ∀ k, k < wr.heap.size → Typ wr k → ¬ F k) : Iw W w' cs O m := by
  refine ⟨fun i hi => ?_, fun i k hi hk => ?_, h.dis⟩
  · obtain ⟨room, bs, e, hp⟩ := h.each i hi
    exact ⟨room, bs, e, hp.kept hf fun k hk => hF k (h.lo i k hi hk).2.1 (h.lo i k hi hk).2.2⟩
  · obtain ⟨h1, h2, h3⟩ := h.lo i k hi hk
    exact ⟨h1, Nat.lt_of_lt_of_le h2 hf.size, h3.kept hf (hF k h2 h3)⟩
theorem Iw.still {W wr w' : World} {cs : List (Nat × Nat)} {O : Nat → Nat → Prop} {m : Nat} (h : Iw W wr cs O m) (hs : Still wr w') : Iw W w' cs O m := h.kept hs fun _ _ _ e => e
theorem Iw.more {W wr : World} {cs : List (Nat × Nat)} {O : Nat → Nat → Prop} {m m' : Nat} (h : Iw W wr cs O m) (hm : m ≤ m') : Iw W wr cs O m' :=
  ⟨fun i hi => by obtain ⟨room, bs, e, hp⟩ := h.each i hi; exact ⟨room, bs, e, hp.more (fun _ h => h) hm⟩, h.lo, h.dis⟩
/-- one pair writes -/
theorem Iw.wrote {W wr w' : World} {cs : List (Nat × Nat)} {O : Nat → Nat → Prop} {m m' : Nat} {room : Int} (h : Iw W wr cs O m) {j : Nat} (hj : j < cs.length) (hm : m ≤ m') (hr : WroteS wr w' (O j) cs[j].1 cs[j].2 room m') (hW : W.heap.size ≤ wr.heap.size) : ∃ O', Iw W w' cs O' m' := by
  obtain ⟨bs', e', hp', hf⟩ := hr
  refine ⟨fun i k => if i = j then Oup (O j) wr w' k ∧ Typ w' k else O i k, fun i hi => ?_, fun i k hi hk => ?_, fun i i' k hi hi' hne hk => ?_⟩
  · by_cases hij : i = j
    · subst hij
      refine ⟨room, bs', e', ?_⟩
      simpa using hp'.typ
    · obtain ⟨room2, bs, e, hp⟩ := h.each i hi
      refine ⟨room2, bs, e, ?_⟩
      simpa [hij] using (hp.kept hf fun k hk => h.dis i j k hi hj hij hk).more (fun _ h => h) hm
  · by_cases hij : i = j
    · subst hij
      simp only [if_true] at hk
      refine ⟨?_, ?_, hk.2⟩
      · rcases hk.1 with h1 | h1
        · exact (h.lo i k hi h1).1
        · omega
      · rcases hk.1 with h1 | h1
        · exact Nat.lt_of_lt_of_le (h.lo i k hi h1).2.1 hf.size
        · exact h1.2
    · rw [if_neg hij] at hk
      obtain ⟨h1, h2, h3⟩ := h.lo i k hi hk
      exact ⟨h1, Nat.lt_of_lt_of_le h2 hf.size, h3.kept hf (h.dis i j k hi hj hij hk)⟩
  · by_cases hij : i = j
    · subst hij
      simp only [if_true] at hk
      rw [if_neg (fun e => hne e.symm)]
      intro hk2
      rcases hk.1 with h1 | h1
      · exact h.dis i i' k hi hi' hne h1 hk2
      · have := (h.lo i' k hi' hk2).2.1
        omega
    · rw [if_neg hij] at hk
      by_cases hij' : i' = j
      · subst hij'
        simp only [if_true]
        rintro ⟨h1 | h1, _⟩
        · exact h.dis i i' k hi hi' hne hk h1
        · have := (h.lo i k hi hk).2.1
          omega
      · rw [if_neg hij']
        exact h.dis i i' k hi hi' hne hk
/-- one pair more -/
theorem Iw.add {W wr w' : World} {cs : List (Nat × Nat)} {O : Nat → Nat → Prop} {a b m : Nat} {room : Int} (hi : Iw W w' cs O m) (hlow : ∀ i k, i < cs.length → O i k → k < wr.heap.size) (hx : Wr w' a none 0 0 room [] 0) (hy : Wy w' b none 0 0 room [] 0) (h0 : 0 ≤ room) (h1 : room ≤ 9223372036854775807) (ha : wr.heap.size ≤ a) (hb : wr.heap.size ≤ b) (hW : W.heap.size ≤ wr.heap.size) :
    ∃ O', Iw W w' (cs ++ [(a, b)]) O' m := by
  have hget : ∀ i (h : i < (cs ++ [(a, b)]).length), i ≠ cs.length → i < cs.length := fun i h hne => by simp at h; omega
  refine ⟨fun i k => if i = cs.length then k = a ∨ k = b else O i k, fun i hil => ?_, fun i k hil hk => ?_, fun i i' k hil hil' hne hk => ?_⟩
  · by_cases hic : i = cs.length
    · subst hic
      refine ⟨room, [], 0, none, 0, 0, none, 0, 0, [], ?_, ?_, fun _ => rfl, fun h => absurd rfl h, Nat.zero_le _, Nat.zero_le _, h0, h1, ?_, ?_, fun a h => (by cases h), fun a h => (by cases h), fun a b h => (by cases h)⟩
      · simpa using hx
      · simpa using hy
      · simp
      · simp
    · obtain ⟨room2, bs, e, hp⟩ := hi.each i (hget i hil hic)
      refine ⟨room2, bs, e, ?_⟩
      rw [List.getElem_append_left (hget i hil hic)]
      simpa [hic] using hp
  · by_cases hic : i = cs.length
    · subst hic
      simp only [if_true] at hk
      rcases hk with rfl | rfl
      · exact ⟨by omega, hx.lt, _, _, _, hx.blk, by decide⟩
      · exact ⟨by omega, hy.lt, _, _, _, hy.blk, by decide⟩
    · rw [if_neg hic] at hk
      exact hi.lo i k (hget i hil hic) hk
  · by_cases hic : i = cs.length
    · subst hic
      simp only [if_true] at hk
      rw [if_neg (fun e => hne e.symm)]
      intro hk2
      have := hlow i' k (hget i' hil' (fun e => hne e.symm)) hk2
      rcases hk with rfl | rfl <;> omega
    · rw [if_neg hic] at hk
      by_cases hic' : i' = cs.length
      · subst hic'
        simp only [if_true]
        have := hlow i k (hget i hil hic) hk
        rintro (rfl | rfl) <;> omega
      · rw [if_neg hic']
        exact hi.dis i i' k (hget i hil hic) (hget i' hil' hic') hne hk

/-- How many bytes the first k calls may have laid down. -/
def mk (ops : List Op) (k : Nat) : Nat := ((ops.take k).map fun o => o.len + 20).sum
theorem mk_succ (ops : List Op) (k : Nat) (h : k < ops.length) : mk ops (k + 1) = mk ops k + (ops[k].len + 20) := by
  unfold mk
  rw [List.take_succ_eq_append_getElem h, List.map_append, List.sum_append]
  simp
theorem mk_le (ops : List Op) (k : Nat) (h : k ≤ ops.length) : mk ops k ≤ mk ops ops.length ∧ 20 * k ≤ mk ops k := by
  have h1 : ∀ l : List Op, 20 * l.length ≤ (l.map fun o => o.len + 20).sum := by
    intro l
    induction l with
    | nil => simp
    | cons a r ih => simp only [List.map_cons, List.sum_cons, List.length_cons]; omega
  refine ⟨?_, ?_⟩
  · have e : mk ops ops.length = mk ops k + ((ops.drop k).map fun o => o.len + 20).sum := by
      unfold mk
      rw [List.take_length, ← List.sum_append, ← List.map_append, List.take_append_drop]
    omega
  · have := h1 (ops.take k)
    unfold mk
    rw [List.length_take] at this
    omega
end Go.Proofs.Ythgjhfooodcfbaa
