/- A list of couples. -/
import Derived.Test.YthgjhfooodcfbaaPd
import Derived.OwnWalk
namespace Go.Proofs.Ythgjhfooodcfbaa
open Go.RowKit

/-- The cells of a list of couples. -/
def ptrs (cs : List (Nat × Nat)) : List Value := cs.flatMap fun c => [.pointer (some ⟨c.1, 0, none⟩), .pointer (some ⟨c.2, 0, none⟩)]
theorem ptrs_len (cs : List (Nat × Nat)) : (ptrs cs).length = cs.length * 2 := by
  induction cs with
  | nil => rfl
  | cons c r ih => simp only [ptrs, List.flatMap_cons, List.length_append, List.length_cons, List.length_nil] at ih ⊢; omega
theorem ptrs_get : ∀ (cs : List (Nat × Nat)) (i : Nat) (h : i < cs.length), (ptrs cs)[i * 2]? = some (.pointer (some ⟨cs[i].1, 0, none⟩)) ∧ (ptrs cs)[i * 2 + 1]? = some (.pointer (some ⟨cs[i].2, 0, none⟩))
  | c :: r, 0, _ => ⟨rfl, rfl⟩
  | c :: r, i + 1, h => by
    have ih := ptrs_get r i (by simpa using h)
    have e : ptrs (c :: r) = .pointer (some ⟨c.1, 0, none⟩) :: .pointer (some ⟨c.2, 0, none⟩) :: ptrs r := rfl
    rw [e, show (i + 1) * 2 = i * 2 + 1 + 1 by omega]
    simp only [List.getElem?_cons_succ, List.getElem_cons_succ]
    exact ih
theorem ptrs_one (cs : List (Nat × Nat)) (c : Nat × Nat) : ptrs (cs ++ [c]) = ptrs cs ++ [.pointer (some ⟨c.1, 0, none⟩), .pointer (some ⟨c.2, 0, none⟩)] := by simp [ptrs]

/-- The slice lo of type t holds the couples cs; its row lies from base on. -/
def Row (t : TypeId) (base : Nat) (w : World) (lo : Option Addr) (cap : Nat) (cs : List (Nat × Nat)) : Prop := w.ownsRow base t 2 (.slice lo cs.length cap) cs.length (ptrs cs)
theorem Row.some {t : TypeId} {base : Nat} {w : World} {lo : Option Addr} {cap : Nat} {cs : List (Nat × Nat)} (h : Row t base w lo cap cs) (hn : 0 < cs.length) : ∃ g, lo = some ⟨g, 0, none⟩ ∧ base ≤ g ∧ cs.length ≤ cap ∧ (∃ cur, w.heap[g]? = some (.cells cur t (0, 0))) ∧
    ∀ i (hi : i < cs.length), w.cell? ⟨g, i * 2, none⟩ = Option.some (.pointer (Option.some ⟨cs[i].1, 0, Option.none⟩)) ∧ w.cell? ⟨g, i * 2 + 1, none⟩ = Option.some (.pointer (Option.some ⟨cs[i].2, 0, Option.none⟩)) := by
  rcases h.2 with ⟨h1, h2⟩ | ⟨g, cap', cur, hv, hb, hg, hle, _⟩
  · omega
  · have hv' := hv
    simp at hv
    obtain ⟨rfl, rfl⟩ := hv
    refine ⟨g, rfl, hb, hle, ⟨cur, hg⟩, fun i hi => ?_⟩
    have hc := World.ownsRow.cells h (g := g) rfl
    have h1 := hc (i * 2) _ (ptrs_get cs i hi).1
    have h2 := hc (i * 2 + 1) _ (ptrs_get cs i hi).2
    rw [add_plain, Nat.zero_add] at h1 h2
    exact ⟨h1, h2⟩
/-- The row beside blocks of other types. -/
theorem Row.kept {F : Nat → Prop} {t : TypeId} {base : Nat} {w w' : World} {lo : Option Addr} {cap : Nat} {cs : List (Nat × Nat)} (h : Row t base w lo cap cs) (hf : Fr F w w') (hn : ∀ g cur, w.heap[g]? = Option.some (.cells cur t (0, 0)) → ¬ F g) : Row t base w' lo cap cs := by
  refine ⟨h.1, ?_⟩
  rcases h.2 with h1 | ⟨g, cap', cur, hv, hb, hg, r⟩
  · exact .inl h1
  · exact .inr ⟨g, cap', cur, hv, hb, hf.kept hg (hn g cur hg), r⟩
theorem Row.still {t : TypeId} {base : Nat} {w w' : World} {lo : Option Addr} {cap : Nat} {cs : List (Nat × Nat)} (h : Row t base w lo cap cs) (hs : Still w w') : Row t base w' lo cap cs := h.kept hs fun _ _ _ e => e
theorem Row.shape {t : TypeId} {base : Nat} {w : World} {v : Value} {n : Nat} {cs : List (Nat × Nat)} (h : w.ownsRow base t 2 v n (ptrs cs)) (hn : cs.length = n) : ∃ lo cap, v = .slice lo cs.length cap ∧ Row t base w lo cap cs := by
  subst hn
  rcases h.2 with ⟨hv, h2⟩ | ⟨g, cap', cur, hv, r⟩
  · refine ⟨none, 0, by rw [hv, h2], ?_⟩
    unfold Row
    rw [← h2] at hv
    rw [hv, h2] at h
    rw [h2]
    exact h
  · refine ⟨Option.some ⟨g, 0, Option.none⟩, cap', hv, ?_⟩
    unfold Row
    rw [← hv]
    exact h

/-- All couples, each in its own blocks. -/
structure Inv (W wr : World) (cs : List (Nat × Nat)) : Prop where
  each : ∀ c ∈ cs, ∃ rest e, Pr wr wr.heap.size c.1 c.2 rest e
  lo : ∀ c ∈ cs, W.heap.size ≤ c.1 ∧ W.heap.size ≤ c.2
  nd1 : (cs.map (·.1)).Nodup
  nd2 : (cs.map (·.2)).Nodup
theorem Inv.nil (W wr : World) : Inv W wr [] := ⟨fun _ h => (by cases h), fun _ h => (by cases h), List.nodup_nil, List.nodup_nil⟩
theorem Pr.lts {w : World} {S a b : Nat} {rest : List UInt8} {e : Int} (h : Pr w S a b rest e) : a < S ∧ b < S := by
  obtain ⟨_, _, _, _, _, _, _, _, _, _, _, _, _, h3, h4, _⟩ := h
  exact ⟨h3, h4⟩
theorem Inv.still {W wr w' : World} {cs : List (Nat × Nat)} (h : Inv W wr cs) (hs : Still wr w') : Inv W w' cs :=
  ⟨fun c hc => by obtain ⟨r, e, hp⟩ := h.each c hc; exact ⟨r, e, (hp.still hs).more hs.size⟩, h.lo, h.nd1, h.nd2⟩
theorem Inv.beside {W wr w' : World} {cs : List (Nat × Nat)} {g : Nat} {cur : Array Value} {t : TypeId} {fr : Nat × Nat} (h : Inv W wr cs) (hg : wr.heap[g]? = some (.cells cur t fr)) (t1 : t ≠ 5) (t2 : t ≠ 70) (t3 : t ≠ 72) (hf : Fr (fun k => k = g) wr w') : Inv W w' cs :=
  ⟨fun c hc => by obtain ⟨r, e, hp⟩ := h.each c hc; exact ⟨r, e, (hp.beside hg t1 t2 t3 hf).more hf.size⟩, h.lo, h.nd1, h.nd2⟩
theorem nodup_ne {α β : Type} {l : List α} {f : α → β} (h : (l.map f).Nodup) {i j : Nat} (hi : i < l.length) (hj : j < l.length) (hij : i ≠ j) : f l[i] ≠ f l[j] := by
  have hp := List.pairwise_iff_getElem.1 h
  rcases Nat.lt_or_gt_of_ne hij with hl | hl
  · have := hp i j (by simpa using hi) (by simpa using hj) hl
    simpa using this
  · have := hp j i (by simpa using hj) (by simpa using hi) hl
    intro he
    exact this (by simpa using he.symm)
/-- one couple reads -/
theorem Inv.read {W wr w' : World} {cs : List (Nat × Nat)} (h : Inv W wr cs) {j : Nat} (hj : j < cs.length) (hr : ReadS wr w' wr.heap.size cs[j].1 cs[j].2) : Inv W w' cs := by
  obtain ⟨rest', e', hp', hf⟩ := hr
  obtain ⟨r0, e0, hp0⟩ := h.each cs[j] (List.getElem_mem hj)
  refine ⟨fun c hc => ?_, h.lo, h.nd1, h.nd2⟩
  obtain ⟨i, hi, rfl⟩ := List.getElem_of_mem hc
  by_cases hij : i = j
  · subst hij
    exact ⟨rest', e', hp'.more hf.size⟩
  · obtain ⟨r, e, hp⟩ := h.each cs[i] (List.getElem_mem hi)
    exact ⟨r, e, (hp.other hp0 hf (nodup_ne h.nd1 hi hj hij) (nodup_ne h.nd2 hi hj hij)).more hf.size⟩
/-- one couple more -/
theorem Inv.add {W wr w' : World} {cs : List (Nat × Nat)} {a b : Nat} {rest : List UInt8} {e : Int} (h : Inv W wr cs) (hi : Inv W w' cs) (hp : Pr w' w'.heap.size a b rest e) (ha : wr.heap.size ≤ a) (hb : wr.heap.size ≤ b) (hW : W.heap.size ≤ wr.heap.size) : Inv W w' (cs ++ [(a, b)]) := by
  refine ⟨fun c hc => ?_, fun c hc => ?_, ?_, ?_⟩
  · rcases List.mem_append.1 hc with h1 | h1
    · exact hi.each c h1
    · simp at h1
      subst h1
      exact ⟨rest, e, hp⟩
  · rcases List.mem_append.1 hc with h1 | h1
    · exact h.lo c h1
    · simp at h1
      subst h1
      exact ⟨by simp; omega, by simp; omega⟩
  · rw [List.map_append, List.nodup_append]
    refine ⟨h.nd1, by simp, fun x hx y hy => ?_⟩
    obtain ⟨c, hc, rfl⟩ := List.mem_map.1 hx
    obtain ⟨r, e, hpc⟩ := h.each c hc
    have := hpc.lts
    simp at hy
    subst hy
    omega
  · rw [List.map_append, List.nodup_append]
    refine ⟨h.nd2, by simp, fun x hx y hy => ?_⟩
    obtain ⟨c, hc, rfl⟩ := List.mem_map.1 hx
    obtain ⟨r, e, hpc⟩ := h.each c hc
    have := hpc.lts
    simp at hy
    subst hy
    omega
end Go.Proofs.Ythgjhfooodcfbaa
