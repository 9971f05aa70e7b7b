/- A queue's block and its row; Push and Pop of entries. -/
import Derived.Test.YtdmgalaajgebkaaQuc
namespace Go.Proofs.Ytdmgalaajgebkaa
open Go.RowKit
set_option maxRecDepth 100000

/-- 'append' of one: the row is where it was, or new -/
theorem app_block {P : Program} {α : Type} {K : Kd α} {e : TypeId} {w : World} {B : Nat} {v : Value} {L : List α} (ho : OwG K e w B v L) {t ty : TypeId} (hu : P.underlying t = some (.slice e)) (bytes : Nat) (hinfo : ∃ i, P.info? e = some i ∧ i.zero = some (.agg (K.f K.d).toArray) ∧ i.size = K.k ∧ i.bytes = bytes) (p : α) {g : Nat} (hr : w.heap[g]? = some (.cells (K.f p).toArray e (0, 0))) (h47 : (L.length + 1) * bytes ≤ 140737488355328) (h63 : L.length ≤ 281474976710656) {v' : Value} {w' : World}
    (hrun : (Builtin.append_ #[t, t] ty #[v, .slice (some ⟨g, 0, none⟩) 1 1]).run P w = .ok v' w') : ∀ k, v'.ownBlock = some k → v.ownBlock = some k ∨ w.heap.size ≤ k := by
  obtain ⟨i, hi, hz, h1, h2⟩ := hinfo
  subst h2
  have hl : (K.f p).length = 1 * i.size := by rw [K.len, h1, Nat.one_mul]
  have hnews : ∀ j u, (K.f p)[j]? = some u → w.cell? ((⟨g, 0, none⟩ : Addr).add j) = some u := by
    intro j u hj
    rw [add_plain, Nat.zero_add, cell_of_row _ _ _ _ _ _ hr]
    simpa using hj
  rcases ho.2 with ⟨rfl, hn⟩ | ⟨g', cap, cur, rfl, hbg, hg, hnc, hcm, hcs, htake⟩
  · have := run_append_nil (P := P) w t ty e i _ hu hi hz ⟨g, 0, none⟩ 1 1 (K.f p) hl hnews (by omega) (by omega) (by rw [hn] at h47; simp only [Nat.zero_add] at h47; omega)
    rw [this] at hrun
    injection hrun with hv _
    intro k hk
    rw [← hv] at hk
    simp [Value.ownBlock] at hk
    right; omega
  · by_cases hroom : L.length + 1 ≤ cap
    · have := run_append_room (P := P) w t ty e i hu hi g' L.length cap cur hg ⟨g, 0, none⟩ 1 1 (K.f p) hl hnews (K.one p) hroom (by rw [hl, hcs, ← h1, ← Nat.add_mul]; exact Nat.mul_le_mul_right _ hroom)
      rw [this] at hrun
      injection hrun with hv _
      intro k hk
      rw [← hv] at hk
      left
      simpa [Value.ownBlock] using hk
    · have holds := World.ownsRow.cells ho (g := g') rfl
      have := run_append_grow (P := P) w t ty e i _ hu hi hz ⟨g', 0, none⟩ L.length cap (K.row L) (by rw [K.row_len, h1]) holds ⟨g, 0, none⟩ 1 1 (K.f p) hl hnews (by omega) (by omega) (growslice_fits (by omega) h47)
      rw [this] at hrun
      injection hrun with hv _
      intro k hk
      rw [← hv] at hk
      simp [Value.ownBlock] at hk
      right; omega
/-- 'append(s, x)', s its owner's: as the walk takes it; the row is where it was, or new -/
theorem wpList_appQ {P : Program} {α : Type} {e : TypeId} (K : Kd α) (w : World) {ops : Array Oper} {rest : List Oper} {o : Oper} {a : Act} {Q : Exit → Act → World → Prop} (hgd : o.guard = none) (s x : Operand) (t : TypeId)
    (hop : o.op = .call { callee := .builtin .append, args := #[s, x], argTypes := #[t, t] })
    (hu : P.underlying t = some (.slice e)) (bytes : Nat) (hinfo : ∃ i, P.info? e = some i ∧ i.zero = some (.agg (K.f K.d).toArray) ∧ i.size = K.k ∧ i.bytes = bytes)
    (B g : Nat) (v : Value) (L : List α) (p : α) (hs : a.eval s = v) (hx : a.eval x = .slice (some ⟨g, 0, none⟩) 1 1) (ho : OwG K e w B v L) (hr : w.heap[g]? = some (.cells (K.f p).toArray e (0, 0))) (h47 : (L.length + 1) * bytes ≤ 140737488355328) (h63 : L.length ≤ 281474976710656) (hB : B ≤ w.heap.size)
    (h : ∀ v' w', OwG K e w' B v' (L ++ [p]) → Fr (fun k => v.ownBlock = some k) w w' → (∀ k, v'.ownBlock = some k → v.ownBlock = some k ∨ w.heap.size ≤ k) → wpList P ops Q rest (a.put o.dst v') w') : wpList P ops Q (o :: rest) a w := by
  obtain ⟨i, hi, hz, h1, h2⟩ := hinfo
  have hnews : ∀ j u, (K.f p)[j]? = some u → w.cell? ((⟨g, 0, none⟩ : Addr).add j) = some u := by
    intro j u hj
    rw [add_plain, Nat.zero_add, cell_of_row _ _ _ _ _ _ hr]
    simpa using hj
  obtain ⟨v', w', hrun, h2', h3, _⟩ := run_append_own (P := P) w B t o.type e i (.agg (K.f K.d).toArray) K.k bytes hu hi hz h1 h2 (by simp [Value.cells, K.len]) K.pos v L.length (K.row L) ho ⟨g, 0, none⟩ 1 1 (K.f p) (by rw [K.len, Nat.one_mul]) hnews (K.one p) (by unfold maxLen; omega) h47 hB
  refine wpList_plain hgd fun Kc hK => ?_
  unfold Oper.wp execOp
  simp only [hop, resolve, invoke, builtin, Sem.run_bind, Sem.run_pure, Result.andThen_ok, List.map_toArray, List.map_cons, List.map_nil, hs, hx, hrun]
  refine hK _ _ (h v' w' ?_ ⟨h3.os, h3.tape, h3.output, h3.size, fun k hk hn => h3.block k hk (fun e => hn e.symm)⟩ (app_block ho hu bytes ⟨i, hi, hz, h1, h2⟩ p hr h47 h63 hrun))
  unfold OwG
  rw [K.row_app, List.length_append, show K.row [p] = K.f p by simp [Kd.row]]
  exact h2'
/-- block p holds a queue whose row is v, of L -/
structure Qk (w : World) (B p : Nat) (v : Value) (L : List En) : Prop where
  bk : w.heap[p]? = some (.cells #[v] 90 (0, 0))
  ow : OwG KE 44 w B v L
  lo : B ≤ p
theorem Qk.still {w w' : World} {B p : Nat} {v : Value} {L : List En} (h : Qk w B p v L) (hs : Still w w') : Qk w' B p v L := ⟨hs.kept_still h.bk, h.ow.still hs, h.lo⟩
theorem Qk.keep {F : Nat → Prop} {w w' : World} {B p : Nat} {v : Value} {L : List En} (h : Qk w B p v L) (hf : Fr F w w') (hp : ¬ F p) (hv : ∀ k, F k → v.ownBlock ≠ some k) : Qk w' B p v L := ⟨hf.kept h.bk hp, h.ow.keep hf hv, h.lo⟩
theorem Qk.cell {w : World} {B p : Nat} {v : Value} {L : List En} (h : Qk w B p v L) : w.cell? ⟨p, 0, none⟩ = some v ∧ ∀ o, w.frozen? ⟨p, o, none⟩ = false := by
  refine ⟨?_, fun o => frozen_of_row w p o _ _ h.bk⟩
  rw [cell_of_row _ _ _ _ _ _ h.bk]; rfl
theorem Qk.apart {w : World} {B p : Nat} {v : Value} {L : List En} (h : Qk w B p v L) : v.ownBlock ≠ some p := by
  intro e
  rcases h.ow.2 with ⟨rfl, _⟩ | ⟨g, cap, cur, rfl, _, hg, _⟩
  · cases e
  · simp [Value.ownBlock] at e
    subst e
    have := hg.symm.trans h.bk
    simp at this
theorem Qk.set {w : World} {B p : Nat} {v v' : Value} {L L' : List En} (h : Qk w B p v L) (ho : OwG KE 44 w B v' L') (hp : v'.ownBlock ≠ some p) : Qk (w.setCell ⟨p, 0, none⟩ v') B p v' L' := by
  refine ⟨(heap_setCell_same w p 0 _ _ v' h.bk).trans (by rfl), ho.keep (F := fun k => k = p) ((Fr.refl _ w).setCell _ _ (.inl rfl)) (fun k hk => by subst hk; exact hp), h.lo⟩
theorem Qk.put {w : World} {B p : Nat} {v v' : Value} {L' : List En} (hb : w.heap[p]? = some (.cells #[v] 90 (0, 0))) (lo : B ≤ p) (ho : OwG KE 44 w B v' L') (hp : v'.ownBlock ≠ some p) : Qk (w.setCell ⟨p, 0, none⟩ v') B p v' L' := by
  refine ⟨(heap_setCell_same w p 0 _ _ v' hb).trans (by rfl), ho.keep (F := fun k => k = p) ((Fr.refl _ w).setCell _ _ (.inl rfl)) (fun k hk => by subst hk; exact hp), lo⟩
end Go.Proofs.Ytdmgalaajgebkaa
