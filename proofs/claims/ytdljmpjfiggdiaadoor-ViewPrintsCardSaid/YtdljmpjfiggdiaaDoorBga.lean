/- Rows of any struct: cut, appended to one another; the law's pick. -/
import Derived.Test.YtdljmpjfiggdiaaDoorGa
import Derived.Test.YtdljmpjfiggdiaaDoorK5b
import Derived.Deep.DeepCutAuto
import Derived.Deep.RegionHeld3
import Derived.BigRegion
import Derived.Laws.AppendOwnNone
import Derived.Lib.SliceRun
namespace Go.Proofs.YtdljmpjfiggdiaaDoor
open Go.RowKit
set_option maxRecDepth 100000

/-- 'append' of one: the row is where it was, or new -/
theorem app_block {P : Program} {α : Type} {K : Kd α} {e : TypeId} {w : World} {B : Nat} {v : Value} {L : List α} (ho : OwG K e w B v L) {t ty : TypeId} (hu : P.underlying t = some (.slice e)) (bytes : Nat) (hinfo : ∃ i, P.info? e = some i ∧ i.zero = some (.agg (K.f K.d).toArray) ∧ i.size = K.k ∧ i.bytes = bytes) (p : α) {g : Nat} (hr : w.heap[g]? = some (.cells (K.f p).toArray e (0, 0))) (h47 : (L.length + 1) * bytes ≤ 140737488355328) (h63 : L.length ≤ 281474976710656) {v' : Value} {w' : World}
    (hrun : (Builtin.append_ #[t, t] ty #[v, .slice (some ⟨g, 0, none⟩) 1 1]).run P w = .ok v' w') : ∀ k, v'.ownBlock = some k → v.ownBlock = some k ∨ w.heap.size ≤ k := by
  obtain ⟨i, hi, hz, h1, h2⟩ := hinfo
  subst h2
  have hl : (K.f p).length = 1 * i.size := by rw [K.len, h1, Nat.one_mul]
  have hnews : ∀ j u, (K.f p)[j]? = some u → w.cell? ((⟨g, 0, none⟩ : Addr).add j) = some u := by
    intro j u hj
    rw [add_plain, Nat.zero_add, cell_of_row _ _ _ _ _ _ hr]
    simpa using hj
  rcases ho.2 with ⟨rfl, hn⟩ | ⟨g', cap, cur, rfl, hbg, hg, hnc, hcm, hcs, htake⟩
  · have := run_append_nil (P := P) w t ty e i _ hu hi hz ⟨g, 0, none⟩ 1 1 (K.f p) hl hnews (by omega) (by omega) (by rw [hn] at h47; simp only [Nat.zero_add] at h47; omega)
    rw [this] at hrun
    injection hrun with hv _
    intro k hk
    rw [← hv] at hk
    simp [Value.ownBlock] at hk
    right; omega
  · by_cases hroom : L.length + 1 ≤ cap
    · have := run_append_room (P := P) w t ty e i hu hi g' L.length cap cur hg ⟨g, 0, none⟩ 1 1 (K.f p) hl hnews (K.one p) hroom (by rw [hl, hcs, ← h1, ← Nat.add_mul]; exact Nat.mul_le_mul_right _ hroom)
      rw [this] at hrun
      injection hrun with hv _
      intro k hk
      rw [← hv] at hk
      left
      simpa [Value.ownBlock] using hk
    · have holds := World.ownsRow.cells ho (g := g') rfl
      have := run_append_grow (P := P) w t ty e i _ hu hi hz ⟨g', 0, none⟩ L.length cap (K.row L) (by rw [K.row_len, h1]) holds ⟨g, 0, none⟩ 1 1 (K.f p) hl hnews (by omega) (by omega) (growslice_fits (by omega) h47)
      rw [this] at hrun
      injection hrun with hv _
      intro k hk
      rw [← hv] at hk
      simp [Value.ownBlock] at hk
      right; omega
/-- 'append(s, x)', s its owner's: as the walk takes it; the row is where it was, or new -/
theorem wpList_appQ {P : Program} {α : Type} {e : TypeId} (K : Kd α) (w : World) {ops : Array Oper} {rest : List Oper} {o : Oper} {a : Act} {Q : Exit → Act → World → Prop} (hgd : o.guard = none) (s x : Operand) (t : TypeId)
    (hop : o.op = .call { callee := .builtin .append, args := #[s, x], argTypes := #[t, t] })
    (hu : P.underlying t = some (.slice e)) (bytes : Nat) (hinfo : ∃ i, P.info? e = some i ∧ i.zero = some (.agg (K.f K.d).toArray) ∧ i.size = K.k ∧ i.bytes = bytes)
    (B g : Nat) (v : Value) (L : List α) (p : α) (hs : a.eval s = v) (hx : a.eval x = .slice (some ⟨g, 0, none⟩) 1 1) (ho : OwG K e w B v L) (hr : w.heap[g]? = some (.cells (K.f p).toArray e (0, 0))) (h47 : (L.length + 1) * bytes ≤ 140737488355328) (h63 : L.length ≤ 281474976710656) (hB : B ≤ w.heap.size)
    (h : ∀ v' w', OwG K e w' B v' (L ++ [p]) → Fr (fun k => v.ownBlock = some k) w w' → (∀ k, v'.ownBlock = some k → v.ownBlock = some k ∨ w.heap.size ≤ k) → wpList P ops Q rest (a.put o.dst v') w') : wpList P ops Q (o :: rest) a w := by
  obtain ⟨i, hi, hz, h1, h2⟩ := hinfo
  have hnews : ∀ j u, (K.f p)[j]? = some u → w.cell? ((⟨g, 0, none⟩ : Addr).add j) = some u := by
    intro j u hj
    rw [add_plain, Nat.zero_add, cell_of_row _ _ _ _ _ _ hr]
    simpa using hj
  obtain ⟨v', w', hrun, h2', h3, _⟩ := run_append_own (P := P) w B t o.type e i (.agg (K.f K.d).toArray) K.k bytes hu hi hz h1 h2 (by simp [Value.cells, K.len]) K.pos v L.length (K.row L) ho ⟨g, 0, none⟩ 1 1 (K.f p) (by rw [K.len, Nat.one_mul]) hnews (K.one p) (by unfold maxLen; omega) h47 hB
  refine wpList_plain hgd fun Kc hK => ?_
  unfold Oper.wp execOp
  simp only [hop, resolve, invoke, builtin, Sem.run_bind, Sem.run_pure, Result.andThen_ok, List.map_toArray, List.map_cons, List.map_nil, hs, hx, hrun]
  refine hK _ _ (h v' w' ?_ ⟨h3.os, h3.tape, h3.output, h3.size, fun k hk hn => h3.block k hk (fun e => hn e.symm)⟩ (app_block ho hu bytes ⟨i, hi, hz, h1, h2⟩ p hr h47 h63 hrun))
  unfold OwG
  rw [K.row_app, List.length_append, show K.row [p] = K.f p by simp [Kd.row]]
  exact h2'
theorem ty_ne {w : World} {a b : Nat} {x y : Array Value} {s t : TypeId} (ha : w.heap[a]? = some (.cells x s (0, 0))) (hb : w.heap[b]? = some (.cells y t (0, 0))) (h : s ≠ t) : a ≠ b := by
  rintro rfl
  have := ha.symm.trans hb
  simp at this
  exact h this.2
theorem ow_ty {α : Type} {K : Kd α} {e : TypeId} {w : World} {B k : Nat} {u : Value} {L : List α} (ho : OwG K e w B u L) (hk : u.ownBlock = some k) : ∃ cur, w.heap[k]? = some (.cells cur e (0, 0)) := by
  rcases ho.2 with ⟨rfl, _⟩ | ⟨g, cap, cur, rfl, _, hg, _⟩
  · cases hk
  · simp [Value.ownBlock] at hk
    subst hk
    exact ⟨cur, hg⟩
section
variable {α : Type} {K : Kd α} {e : TypeId} {w w' : World}
/-- a slice that reads a list -/
structure SrG (K : Kd α) (w : World) (ao : Option Addr) (cap : Nat) (S : List α) : Prop where
  rd : RdG K w ao S.length S
  le : S.length ≤ cap
  nl : ao = none → cap = 0
theorem SrG.still {ao : Option Addr} {cap : Nat} {S : List α} (h : SrG K w ao cap S) (hs : Still w w') : SrG K w' ao cap S := ⟨h.rd.still hs, h.le, h.nl⟩
theorem SrG.nil (w : World) : SrG K w none 0 [] := ⟨RdG.nil w none, Nat.le_refl _, fun _ => rfl⟩
theorem SrG.own {B : Nat} {ao : Option Addr} {cap : Nat} {S : List α} (h : OwG K e w B (.slice ao S.length cap) S) (hm : S.length ≤ 281474976710656) : SrG K w ao cap S := by
  refine ⟨OwG.rd (M := []) (by simpa using h) hm, ?_, ?_⟩
  · rcases h.2 with ⟨hv, hn⟩ | ⟨g', cap', cur, hv, hb, hg, hn, _⟩
    · injection hv with _ _ h3; omega
    · cases hv; exact hn
  · rintro rfl
    rcases h.2 with ⟨hv, hn⟩ | ⟨g', cap', cur, hv, hb, hg, hn, _⟩
    · injection hv
    · cases hv
/-- where 's[i:]' begins -/
def cutG (k : Nat) (ao : Option Addr) (cap i : Nat) : Option Addr := if cap = i then ao else ao.map (·.add (i * k))
theorem run_fromG {P : Program} {t : TypeId} (hu : P.underlying t = some (.slice e)) {k : Nat} (hinfo : ∃ i, P.info? e = some i ∧ i.size = k) (w : World) (ao : Option Addr) (n cap i : Nat) (hi : i ≤ n) : (Instr.slice t (.slice ao n cap) (some (.int .i64 (i : Int))) none none).run P w = .ok (.slice (cutG k ao cap i) (n - i) (cap - i)) w := by
  have ht' : P.underlying t = some (.slice (P.elem t)) := by simp [Program.elem, hu]
  have he : P.elem t = e := by simp [Program.elem, hu]
  rw [run_slice_l w t ao n cap ht' .i64 (i : Int) (by omega) (by omega), he]
  obtain ⟨inf, h1, h2⟩ := hinfo
  simp [sizeOf, typeInfo, h1, h2, Result.andThen, sliced, cutG]
theorem SrG.drop {ao : Option Addr} {cap : Nat} {S : List α} (h : SrG K w ao cap S) {i : Nat} (hi : i ≤ S.length) : SrG K w (cutG K.k ao cap i) (cap - i) (S.drop i) := by
  have hl := h.le
  refine ⟨⟨rfl, by have := h.rd.2.1; simp; omega, ?_⟩, by simp; omega, fun e => ?_⟩
  · by_cases h0 : (S.drop i).length = 0
    · exact .inl h0
    · have hpos : 0 < S.length := by simp at h0; omega
      obtain ⟨B, o, e⟩ := h.rd.at hpos
      have hrd := h.rd
      rw [e] at hrd
      refine .inr ⟨B, o + i * K.k, ?_, fun k hk j u hu => ?_⟩
      · unfold cutG
        rw [if_neg (by simp at h0; omega), e]
        simp [add_plain]
      · have e2 : (S.drop i).getD k K.d = S.getD (i + k) K.d := by simp [List.getD_eq_getElem?_getD]
        rw [e2] at hu
        have := hrd.get (i := i + k) (by simp at hk; omega) j u hu
        rw [show o + (i + k) * K.k + j = o + i * K.k + k * K.k + j by rw [Nat.add_mul]; omega] at this
        exact this
  · unfold cutG at e
    split at e
    · rename_i hc; have := h.nl e; omega
    · cases ao with
      | none => have := h.nl rfl; omega
      | some a => cases e
theorem SrG.take {ao : Option Addr} {cap : Nat} {S : List α} (h : SrG K w ao cap S) {i : Nat} (hi : i ≤ S.length) : SrG K w ao cap (S.take i) := by
  have hl := h.le
  have e1 : (S.take i).length = i := by simp; omega
  refine ⟨⟨rfl, by have := h.rd.2.1; omega, ?_⟩, by omega, h.nl⟩
  by_cases h0 : (S.take i).length = 0
  · exact .inl h0
  · obtain ⟨B, o, e⟩ := h.rd.at (by omega)
    have hrd := h.rd
    rw [e] at hrd
    refine .inr ⟨B, o, e, fun k hk j u hu => ?_⟩
    have e2 : (S.take i).getD k K.d = S.getD k K.d := by rw [List.getD_eq_getElem?_getD, List.getD_eq_getElem?_getD, List.getElem?_take_of_lt (by omega)]
    rw [e2] at hu
    exact hrd.get (i := k) (by omega) j u hu
/-- 'append(s, x...)', s its owner's (the zero z: an aggregate, or one cell) -/
theorem wpList_appMG {P : Program} (K : Kd α) (w : World) {ops : Array Oper} {rest : List Oper} {o : Oper} {a : Act} {Q : Exit → Act → World → Prop} (hgd : o.guard = none) (s x : Operand) (t : TypeId)
    (hop : o.op = .call { callee := .builtin .append, args := #[s, x], argTypes := #[t, t] })
    (hu : P.underlying t = some (.slice e)) (bytes : Nat) (z : Value) (hz0 : z.cells.size = K.k) (hinfo : ∃ i, P.info? e = some i ∧ i.zero = some z ∧ i.size = K.k ∧ i.bytes = bytes)
    (B : Nat) (v : Value) (L S : List α) (ao : Option Addr) (n cap : Nat) (hs : a.eval s = v) (hx : a.eval x = .slice ao n cap) (hn : S.length = n) (ho : OwG K e w B v L) (hr : SrG K w ao cap S) (h47 : (L.length + S.length) * bytes ≤ 140737488355328) (h63 : L.length + S.length ≤ 281474976710656) (hB : B ≤ w.heap.size)
    (h : ∀ v' w', OwG K e w' B v' (L ++ S) → Fr (fun k => v.ownBlock = some k) w w' → wpList P ops Q rest (a.put o.dst v') w') : wpList P ops Q (o :: rest) a w := by
  obtain ⟨i, hi, hz, h1, h2⟩ := hinfo
  subst hn
  cases ao with
  | none =>
    have hc := hr.nl rfl
    have hS : S = [] := List.eq_nil_of_length_eq_zero (by have := hr.le; omega)
    subst hS hc
    refine wpList_append_own_none hgd s x _ hop B e i K.k hu hi v L.length (K.row L) hs ho hx ?_
    exact h v w (by rw [List.append_nil]; exact ho) (Fr.refl _ _)
  | some ad =>
    refine wpList_append_own (P := P) w hgd s x _ hop B e i z K.k bytes hu hi hz h1 h2 hz0 K.pos v L.length (K.row L) hs ho ad S.length cap (K.row S) hx (by rw [K.row_len]) hr.rd.cellsAt (K.row_one S) (by unfold maxLen; omega) h47 hB ?_
    intro v' w' hown hgr _
    refine h v' w' ?_ ⟨hgr.os, hgr.tape, hgr.output, hgr.size, fun k hk hn => hgr.block k hk (fun e => hn e.symm)⟩
    unfold OwG
    rw [K.row_app, List.length_append]
    exact hown
end
def pk (c n : Int) : Int := if c < 0 then (-(c + 1)).tmod n else c.tmod n
theorem pk_in (c n : Int) (hn : 0 < n) : 0 ≤ pk c n ∧ pk c n < n := by
  unfold pk
  split
  · rename_i h
    rw [Int.tmod_eq_emod_of_nonneg (by omega)]
    exact ⟨Int.emod_nonneg _ (by omega), Int.emod_lt_of_pos _ hn⟩
  · rw [Int.tmod_eq_emod_of_nonneg (by omega)]
    exact ⟨Int.emod_nonneg _ (by omega), Int.emod_lt_of_pos _ hn⟩
end Go.Proofs.YtdljmpjfiggdiaaDoor
