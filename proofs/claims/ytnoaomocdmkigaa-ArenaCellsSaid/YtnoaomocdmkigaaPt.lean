/- Memory: a slice of points: its owner's row, what it reads, what is written, append. -/
import Derived.Test.YtnoaomocdmkigaaBg
namespace Go.Proofs.Ytnoaomocdmkigaa
open Go.RowKit
open Pu Gp Ap

/-- the cells of points -/
def ptsOf (ps : List (Int × Int)) : List Value := ps.flatMap fun p => [.int .i64 p.1, .int .i64 p.2]
theorem ptsOf_len (ps : List (Int × Int)) : (ptsOf ps).length = ps.length * 2 := by
  induction ps with
  | nil => rfl
  | cons p l ih => simp only [ptsOf, List.flatMap_cons, List.length_append, List.length_cons, List.length_nil] at ih ⊢; omega
theorem ptsOf_app (ps qs : List (Int × Int)) : ptsOf (ps ++ qs) = ptsOf ps ++ ptsOf qs := by simp [ptsOf]
theorem ptsOf_one (ps : List (Int × Int)) : ∀ u ∈ ptsOf ps, u.oneCell' = true := by
  intro u hu
  simp only [ptsOf, List.mem_flatMap] at hu
  obtain ⟨p, _, hp⟩ := hu
  simp at hp
  rcases hp with rfl | rfl <;> rfl
theorem ptsOf_get : ∀ (ps : List (Int × Int)) (j : Nat) (h : j < ps.length), (ptsOf ps)[j * 2]? = some (.int .i64 (ps[j]).1) ∧ (ptsOf ps)[j * 2 + 1]? = some (.int .i64 (ps[j]).2)
  | [], j, h => by simp at h
  | p :: l, 0, h => by simp [ptsOf]
  | p :: l, j + 1, h => by
    have ih := ptsOf_get l j (by simpa using h)
    have e : ptsOf (p :: l) = [.int .i64 p.1, .int .i64 p.2] ++ ptsOf l := by simp [ptsOf]
    rw [e]
    rw [List.getElem?_append_right (by simp; omega), List.getElem?_append_right (by simp; omega)]
    simp only [List.length_cons, List.length_nil, List.getElem_cons_succ]
    rw [show (j + 1) * 2 - (0 + 1 + 1) = j * 2 by omega, show (j + 1) * 2 + 1 - (0 + 1 + 1) = j * 2 + 1 by omega]
    exact ih
/-- v owns a row of these points (from block B on) -/
def OwP (w : World) (B : Nat) (v : Value) (ps : List (Int × Int)) : Prop := w.ownsRow B 36 2 v ps.length (ptsOf ps)
theorem OwP.nil (w : World) (B : Nat) : OwP w B (.slice none 0 0) [] := World.ownsRow_nil w B _ 2
theorem OwP.keep {F : Nat → Prop} {w w' : World} {B : Nat} {v : Value} {ps : List (Int × Int)} (h : OwP w B v ps) (hf : Fr F w w') (hF : ∀ k, F k → v.ownBlock ≠ some k) : OwP w' B v ps := by
  refine ⟨h.1, ?_⟩
  rcases h.2 with hn | ⟨g, cap, cur, rfl, hb, hg, rest⟩
  · exact .inl hn
  · exact .inr ⟨g, cap, cur, rfl, hb, hf.kept hg (fun h => hF g h rfl), rest⟩
theorem OwP.still {w w' : World} {B : Nat} {v : Value} {ps : List (Int × Int)} (h : OwP w B v ps) (hf : Still w w') : OwP w' B v ps := h.keep hf (fun _ e => e.elim)
theorem OwP.alloc {w : World} {B : Nat} {v : Value} {ps : List (Int × Int)} (h : OwP w B v ps) (o : Obj) : OwP (w.alloc o) B v ps := h.still (Still.alloc w o)
theorem OwP.less {w : World} {B B' : Nat} {v : Value} {ps : List (Int × Int)} (h : OwP w B v ps) (hb : B' ≤ B) : OwP w B' v ps := by
  refine ⟨h.1, ?_⟩
  rcases h.2 with hn | ⟨g, cap, cur, rfl, hg, rest⟩
  · exact .inl hn
  · exact .inr ⟨g, cap, cur, rfl, by omega, rest⟩
theorem OwP.slice {w : World} {B : Nat} {v : Value} {ps : List (Int × Int)} (h : OwP w B v ps) : ∃ ao cap, v = .slice ao ps.length cap ∧ (ao = none ∨ ∃ g, ao = some ⟨g, 0, none⟩ ∧ B ≤ g ∧ g < w.heap.size) := by
  rcases h.2 with ⟨rfl, hn⟩ | ⟨g, cap, cur, rfl, hb, hg, rest⟩
  · exact ⟨none, 0, by rw [hn], .inl rfl⟩
  · exact ⟨_, cap, rfl, .inr ⟨g, rfl, hb, block_lt hg⟩⟩
theorem OwP.block {w : World} {B k : Nat} {v : Value} {ps : List (Int × Int)} (h : OwP w B v ps) (hk : v.ownBlock = some k) : B ≤ k ∧ k < w.heap.size := h.lt k hk
theorem OwP.head {w : World} {B : Nat} {v : Value} {ps : List (Int × Int)} (h : OwP w B v ps) (hn : 0 < ps.length) : ∃ g cap, v = .slice (some ⟨g, 0, none⟩) ps.length cap ∧ B ≤ g ∧ g < w.heap.size := by
  rcases h.2 with ⟨rfl, h0⟩ | ⟨g, cap, cur, rfl, hb, hg, rest⟩
  · omega
  · exact ⟨g, cap, rfl, hb, block_lt hg⟩
theorem OwP.cell {w : World} {B g n cap : Nat} {ps : List (Int × Int)} (h : OwP w B (.slice (some ⟨g, 0, none⟩) n cap) ps) (j : Nat) (hj : j < ps.length) :
    w.cell? ⟨g, j * 2, none⟩ = some (.int .i64 (ps[j]).1) ∧ w.cell? ⟨g, j * 2 + 1, none⟩ = some (.int .i64 (ps[j]).2) ∧ ∀ o, w.frozen? ⟨g, o, none⟩ = false := by
  obtain ⟨h1, h2⟩ := ptsOf_get ps j hj
  have k1 := World.ownsRow.cells h (g := g) rfl _ _ h1
  have k2 := World.ownsRow.cells h (g := g) rfl _ _ h2
  rw [add_plain, Nat.zero_add] at k1 k2
  refine ⟨k1, k2, fun o => ?_⟩
  rcases h.2 with ⟨hv, _⟩ | ⟨g', cap', cur, hv, hb, hg, rest⟩
  · cases hv
  · cases hv; exact frozen_of_row w g o _ _ hg
theorem ptsOf_set : ∀ (ps : List (Int × Int)) (j : Nat) (_ : j < ps.length) (x y : Int), ((ptsOf ps).set (j * 2) (.int .i64 x)).set (j * 2 + 1) (.int .i64 y) = ptsOf (ps.set j (x, y))
  | [], j, h, x, y => by simp at h
  | p :: l, 0, h, x, y => by simp [ptsOf]
  | p :: l, j + 1, h, x, y => by
    have ih := ptsOf_set l j (by simpa using h) x y
    have e : ∀ (p : Int × Int) (l : List (Int × Int)), ptsOf (p :: l) = .int .i64 p.1 :: .int .i64 p.2 :: ptsOf l := fun p l => by simp [ptsOf]
    rw [List.set_cons_succ, e, e, ← ih, show (j + 1) * 2 = j * 2 + 1 + 1 by omega, show j * 2 + 1 + 1 + 1 = j * 2 + 1 + 1 + 1 from rfl]
    simp only [List.set_cons_succ]
theorem OwP.set {w : World} {B g n cap : Nat} {ps : List (Int × Int)} (h : OwP w B (.slice (some ⟨g, 0, none⟩) n cap) ps) (j : Nat) (hj : j < ps.length) (x y : Int) :
    OwP ((w.setCell ⟨g, j * 2, none⟩ (.int .i64 x)).setCell ⟨g, j * 2 + 1, none⟩ (.int .i64 y)) B (.slice (some ⟨g, 0, none⟩) n cap) (ps.set j (x, y)) := by
  have hl := h.1
  rcases h.2 with ⟨hv, _⟩ | ⟨g', cap', cur, hv, hb, hg, hn, hm, hs, ht⟩
  · cases hv
  · cases hv
    have h1 := heap_setCell_same w g (j * 2) _ _ (.int .i64 x) hg
    have h2 := heap_setCell_same _ g (j * 2 + 1) _ _ (.int .i64 y) h1
    refine ⟨by rw [ptsOf_len, List.length_set], .inr ⟨g, cap, _, by rw [List.length_set], hb, h2, by rw [List.length_set]; exact hn, hm, by rw [Array.size_setIfInBounds, Array.size_setIfInBounds]; exact hs, ?_⟩⟩
    rw [List.length_set, ← ptsOf_set ps j hj x y, ← ht]
    simp only [Array.toList_setIfInBounds]
    rw [List.take_set, List.take_set]
theorem info_pt : ∃ i, Try.prog.info? 36 = some i ∧ i.zero = some (pt 0 0) ∧ i.size = 2 ∧ i.bytes = 16 := ⟨_, rfl, rfl, rfl, rfl⟩
/-- 'append(s, p)' of points, s its owner's: as the walk takes it. -/
theorem wpList_appP (w : World) {ops : Array Oper} {rest : List Oper} {o : Oper} {a : Act} {Q : Exit → Act → World → Prop} (hgd : o.guard = none) (s x : Operand)
    (hop : o.op = .call { callee := .builtin .append, args := #[s, x], argTypes := #[32, 32] })
    (B g : Nat) (v : Value) (ps : List (Int × Int)) (p q : Int) (hs : a.eval s = v) (hx : a.eval x = .slice (some ⟨g, 0, none⟩) 1 1) (ho : OwP w B v ps) (hr : Pb w g p q) (h47 : ps.length ≤ 100000) (hB : B ≤ w.heap.size)
    (h : ∀ v' w', OwP w' B v' (ps ++ [(p, q)]) → Fr (fun k => v.ownBlock = some k) w w' → wpList Try.prog ops Q rest (a.put o.dst v') w') : wpList Try.prog ops Q (o :: rest) a w := by
  obtain ⟨i, hi, hz, h1, h2⟩ := info_pt
  refine wpList_append_own (P := Try.prog) w hgd s x 32 hop B 36 i (pt 0 0) 2 16 Try.underlying32 hi hz h1 h2 rfl (by omega) v ps.length (ptsOf ps) hs ho ⟨g, 0, none⟩ 1 1 (ptsOf [(p, q)]) hx rfl ?_ (ptsOf_one _) (by unfold maxLen; omega) (by omega) hB ?_
  · intro j u hu
    rw [add_plain, Nat.zero_add]
    have hj : j < 2 := by
      have := (List.getElem?_eq_some_iff.1 hu).1
      simpa [ptsOf] using this
    rcases (show j = 0 ∨ j = 1 by omega) with rfl | rfl
    · simp [ptsOf] at hu; subst hu; exact hr.cells.1
    · simp [ptsOf] at hu; subst hu; exact hr.cells.2.1
  · intro v' w' hown hgr _
    refine h v' w' ?_ ⟨hgr.os, hgr.tape, hgr.output, hgr.size, fun k hk hn => hgr.block k hk (fun e => hn e.symm)⟩
    unfold OwP
    rw [ptsOf_app, List.length_append]
    exact hown
/-- what is appended to new memory is new memory -/
theorem still_appP {w0 w w' : World} {B : Nat} {v : Value} {ps : List (Int × Int)} (hs : Still w0 w) (ho : OwP w B v ps) (hf : Fr (fun k => v.ownBlock = some k) w w') (hB : w0.heap.size ≤ B) : Still w0 w' :=
  Fr.trans hs hf (fun k hk e => by have := (ho.block e).1; omega)
end Go.Proofs.Ytnoaomocdmkigaa
