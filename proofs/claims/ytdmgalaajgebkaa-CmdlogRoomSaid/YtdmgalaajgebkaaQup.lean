/- What follows plainly of lists in order; a queue that the law made. -/
import Derived.Test.YtdmgalaajgebkaaQuo
namespace Go.Proofs.Ytdmgalaajgebkaa
open Go.RowKit
set_option maxRecDepth 100000

theorem kc_asym {x y : En} (h1 : kc x y < 0) (h2 : kc y x < 0) : False := by rw [kc_lt] at *; omega
theorem srt_eq : ∀ {O O' : List En}, Srt O → Srt O' → O.Perm O' → O = O'
  | [], _, _, _, hp => hp.nil_eq
  | x :: O, [], _, _, hp => by have := hp.length_eq; simp at this
  | x :: O, y :: O', h1, h2, hp => by
    have hx : x ∈ y :: O' := hp.mem_iff.1 (List.mem_cons_self ..)
    have hy : y ∈ x :: O := hp.mem_iff.2 (List.mem_cons_self ..)
    have e : x = y := by
      rcases List.mem_cons.1 hx with e | hx'
      · exact e
      · rcases List.mem_cons.1 hy with e | hy'
        · exact e.symm
        · exact (kc_asym ((List.pairwise_cons.1 h2).1 x hx') ((List.pairwise_cons.1 h1).1 y hy')).elim
    subst e
    rw [srt_eq (List.pairwise_cons.1 h1).2 (List.pairwise_cons.1 h2).2 hp.cons_inv]
theorem unl_eq : ∀ {L : List En}, Unl L → ∀ {x y}, x ∈ L → y ∈ L → kc x y = 0 → x = y
  | [], _, x, y, hx, _, _ => by cases hx
  | z :: L, h, x, y, hx, hy, e => by
    obtain ⟨h1, h2⟩ := List.pairwise_cons.1 h
    rcases List.mem_cons.1 hx with rfl | hx'
    · rcases List.mem_cons.1 hy with rfl | hy'
      · rfl
      · exact absurd e (h1 y hy')
    · rcases List.mem_cons.1 hy with rfl | hy'
      · exact absurd e (kc_symm (h1 x hx'))
      · exact unl_eq h2 hx' hy' e
theorem qu_mem0 {L : List En} (h0 : 0 < L.length) : att L 0 ∈ L := att_mem h0
theorem qu_is {L K : List En} (h : Qu L) (hp : L.Perm K) {x : En} (hx : x ∈ K) (hm : ∀ y ∈ K, le x y) : att L 0 = x := by
  have hxL : x ∈ L := hp.mem_iff.2 hx
  have h0 : 0 < L.length := List.length_pos_of_mem hxL
  have ha := qu_mem0 h0
  have h1 : le x (att L 0) := hm _ (hp.mem_iff.1 ha)
  obtain ⟨k, hk, e⟩ := List.getElem_of_mem hxL
  have h2 := h.hp.least k hk
  have e2 : att L k = x := by unfold att; rw [List.getD_eq_getElem?_getD, List.getElem?_eq_getElem hk, e]; rfl
  rw [e2] at h2
  refine unl_eq h.un ha hxL ?_
  unfold le at h1 h2
  rw [kc_lt] at h1 h2
  rw [kc_eq]
  omega
theorem hasK_perm {x : En} {L K : List En} (hp : L.Perm K) : hasK x L = hasK x K := by
  unfold hasK
  exact hp.any_eq
theorem Psh.new {x : En} {L L' K : List En} {c : Int} (h : Psh x L L' c) (hp : L.Perm K) (hk : hasK x K = false) (hl : K.length < 4096) : c = 0 ∧ Qu L' ∧ L'.Perm (K ++ [x]) := by
  rw [← hasK_perm hp] at hk
  have hle := hp.length_eq
  obtain ⟨hq, h | h | h⟩ := h
  · rw [hk] at h; cases h.1
  · omega
  · exact ⟨h.2.2.1, hq, h.2.2.2.trans (hp.append_right [x])⟩
theorem Psh.old {x : En} {L L' K : List En} {c : Int} (h : Psh x L L' c) (hp : L.Perm K) (hk : hasK x K = true) : c = 151 ∧ L' = L := by
  rw [← hasK_perm hp] at hk
  obtain ⟨_, h | h | h⟩ := h
  · exact h.2
  · rw [hk] at h; cases h.1
  · rw [hk] at h; cases h.1
theorem Psh.full {x : En} {L L' K : List En} {c : Int} (h : Psh x L L' c) (hp : L.Perm K) (hk : hasK x K = false) (hl : 4096 ≤ K.length) : c = 150 ∧ L' = L := by
  rw [← hasK_perm hp] at hk
  have hle := hp.length_eq
  obtain ⟨_, h | h | h⟩ := h
  · rw [hk] at h; cases h.1
  · exact h.2.2
  · omega
/-- what has come out, by a word of the frame -/
theorem Cm.parts {L O M K : List En} {f : Int} (h : Cm L O M) (hp : L.Perm K) (h1 : ∀ x ∈ O, x.fr ≤ f) (h2 : ∀ y ∈ M, f < y.fr) : O.Perm (K.filter fun x => decide (x.fr ≤ f)) ∧ M.Perm (K.filter fun x => !decide (x.fr ≤ f)) := by
  have hk := hp.symm.trans h.pm
  have a1 := (hk.filter fun x => decide (x.fr ≤ f))
  have a2 := (hk.filter fun x => !decide (x.fr ≤ f))
  rw [List.filter_append] at a1 a2
  have f1 : O.filter (fun x => decide (x.fr ≤ f)) = O := List.filter_eq_self.2 (fun x hx => decide_eq_true (h1 x hx))
  have f2 : M.filter (fun x => decide (x.fr ≤ f)) = [] := List.filter_eq_nil_iff.2 (fun x hx => by have := h2 x hx; simp; omega)
  have f3 : O.filter (fun x => !decide (x.fr ≤ f)) = [] := List.filter_eq_nil_iff.2 (fun x hx => by have := h1 x hx; simp; omega)
  have f4 : M.filter (fun x => !decide (x.fr ≤ f)) = M := List.filter_eq_self.2 (fun x hx => by have := h2 x hx; simp; omega)
  rw [f1, f2, List.append_nil] at a1
  rw [f3, f4, List.nil_append] at a2
  exact ⟨a1.symm, a2.symm⟩
theorem Qk.stl {w u u' : World} {B p : Nat} {v : Value} {L : List En} (h : Qk u B p v L) (hs : Still w u) (hB : w.heap.size ≤ B) (hf : Fr (fun k => k = p ∨ v.ownBlock = some k) u u') : Still w u' :=
  Fr.trans hs hf (fun k hk e => by
    rcases e with e | e
    · have := h.lo; omega
    · have := (h.ow.block e).1; omega)
theorem Eb.fr {u u' : World} {B p g : Nat} {v : Value} {L : List En} {x : En} (hx : Eb u g x) (_h : Qk u B p v L) (hp : g ≠ p) (hv : v.ownBlock ≠ some g) (hf : Fr (fun k => k = p ∨ v.ownBlock = some k) u u') : Eb u' g x :=
  hf.kept hx (fun e => by
    rcases e with e | e
    · exact hp e
    · exact hv e)
abbrev ecs2 (x y : En) : Array Value := #[.int .i64 x.fr, .int .i64 x.pe, .int .i64 x.se, .int .i64 x.vb, .int .i64 x.a, .int .i64 x.b, .int .i64 x.c, .int .i64 x.ms, .int .i64 y.fr, .int .i64 y.pe, .int .i64 y.se, .int .i64 y.vb, .int .i64 y.a, .int .i64 y.b, .int .i64 y.c, .int .i64 y.ms]
/-- a row of two -/
theorem rd_two (w : World) (x y : En) : RdG KE (w.alloc (.cells (ecs2 x y) 44)) (some ⟨w.heap.size, 0, none⟩) 2 [x, y] := by
  refine ⟨rfl, by omega, .inr ⟨_, 0, rfl, fun i hi j u hu => ?_⟩⟩
  have hb := heap_alloc_new w (.cells (ecs2 x y) 44)
  rw [cell_of_row _ _ _ _ _ _ hb]
  have hj : j < 8 := (List.getElem?_eq_some_iff.1 hu).1
  have hi' : i = 0 ∨ i = 1 := by omega
  have hj' : j = 0 ∨ j = 1 ∨ j = 2 ∨ j = 3 ∨ j = 4 ∨ j = 5 ∨ j = 6 ∨ j = 7 := by omega
  rcases hi' with rfl | rfl <;> rcases hj' with rfl | rfl | rfl | rfl | rfl | rfl | rfl | rfl <;> exact hu
end Go.Proofs.Ytdmgalaajgebkaa
