/- QueueFills: what is needed plainly, and in memory. -/
import Derived.Test.YtgpmjlibanoapaaQur
namespace Go.Proofs.Ytgpmjlibanoapaa
open Go.RowKit
set_option maxRecDepth 100000

/-- which of n a raw number speaks of -/
def pk (c n : Int) : Int := if c < 0 then (-(c + 1)).tmod n else c.tmod n
theorem pk_in (c n : Int) (hn : 0 < n) : 0 ≤ pk c n ∧ pk c n < n := by
  unfold pk
  split
  · rename_i h
    rw [Int.tmod_eq_emod_of_nonneg (by omega)]
    exact ⟨Int.emod_nonneg _ (by omega), Int.emod_lt_of_pos _ hn⟩
  · rw [Int.tmod_eq_emod_of_nonneg (by omega)]
    exact ⟨Int.emod_nonneg _ (by omega), Int.emod_lt_of_pos _ hn⟩
theorem pick_any (c n : Int) (hc : -9223372036854775808 ≤ c ∧ c ≤ 9223372036854775807) (hn : 0 < n) (hn2 : n ≤ 9223372036854775807) (w : World) : Calls Try.prog 9 #[.int .i64 c, .int .i64 n] w fun e w' => e = .returned (.int .i64 (pk c n)) ∧ w' = w := by
  have hin := pk_in c n hn
  have hn0 : (n == 0) = false := beq_eq_false_iff_ne.2 (by omega)
  by_cases h : c < 0
  · have HP : Hid (pk c n = (-(c + 1)).tmod n) := hid (by unfold pk; rw [if_pos h])
    have hw1 : IntKind.i64.wrap (c + 1) = c + 1 := by rw [IntKind.wrap_i64]; omega
    have hw2 : IntKind.i64.wrap (-(c + 1)) = -(c + 1) := by rw [IntKind.wrap_i64]; omega
    have hw3 : IntKind.i64.wrap ((-(c + 1)).tmod n) = (-(c + 1)).tmod n := by rw [IntKind.wrap_i64, ← HP.out]; omega
    go_enter Try.func9, Try.ntmps9
    go_wp2_with fail
    go_ret
    exact ⟨by show Ending.returned (.int .i64 (-(c + 1).tmod n)) = _; rw [HP.out, Int.neg_tmod], rfl⟩
  · have HP : Hid (pk c n = c.tmod n) := hid (by unfold pk; rw [if_neg h])
    have hw3 : IntKind.i64.wrap (c.tmod n) = c.tmod n := by rw [IntKind.wrap_i64, ← HP.out]; omega
    go_enter Try.func9, Try.ntmps9
    go_wp2_with fail
    go_ret
    exact ⟨by show Ending.returned (.int .i64 (c % n)) = _; rw [HP.out, Int.tmod_eq_emod_of_nonneg (by omega)], rfl⟩
/-- the j-th that goes in, and the first ones -/
def fe (r : Int) (j : Nat) : En := ken ((j % 7 : Nat) : Int) (r + (j : Int)) 5
def fk (r : Int) : Nat → List En
  | 0 => []
  | i + 1 => fk r i ++ [fe r i]
theorem fk_len (r : Int) : ∀ i, (fk r i).length = i
  | 0 => rfl
  | i + 1 => by simp [fk, fk_len r i]
theorem fk_mem (r : Int) : ∀ {i : Nat} {x : En}, x ∈ fk r i → ∃ j, j < i ∧ x = fe r j
  | 0, x, h => by cases h
  | i + 1, x, h => by
    rcases List.mem_append.1 h with h | h
    · obtain ⟨j, hj, e⟩ := fk_mem r h
      exact ⟨j, by omega, e⟩
    · rw [List.mem_singleton] at h
      exact ⟨i, by omega, h⟩
theorem fk_att (r : Int) : ∀ {i j : Nat}, j < i → att (fk r i) j = fe r j
  | 0, j, h => by omega
  | i + 1, j, h => by
    by_cases hj : j < i
    · have := fk_att r hj
      rw [fk, att_app (by rw [fk_len]; exact hj)]
      exact this
    · obtain rfl : j = i := by omega
      have := att_last (fk r j) (fe r j)
      rw [fk_len] at this
      exact this
theorem fk_new (r : Int) (i : Nat) : hasK (fe r i) (fk r i) = false := by
  cases hb : hasK (fe r i) (fk r i) with
  | false => rfl
  | true =>
    exfalso
    obtain ⟨y, hy, h⟩ := List.any_eq_true.1 hb
    obtain ⟨j, hj, rfl⟩ := fk_mem r hy
    have := of_decide_eq_true h
    rw [kc_eq] at this
    simp only [fe, ken] at this
    omega
theorem fk_least (r : Int) {i : Nat} : ∀ y ∈ fk r i, le (fe r 0) y := by
  intro y hy
  obtain ⟨j, hj, rfl⟩ := fk_mem r hy
  unfold le
  rw [kc_lt]
  simp only [fe, ken]
  omega
theorem hasK_mem {x : En} {L : List En} (h : x ∈ L) : hasK x L = true := List.any_eq_true.2 ⟨x, h, decide_eq_true (by rw [kc_eq]; exact ⟨rfl, rfl, rfl⟩)⟩
/-- has one of the first i this key? -/
def twc (x : En) (L : List En) (i : Nat) : Bool := (L.take i).any fun y => decide (kc y x = 0)
theorem twc_step (x : En) {L : List En} {i : Nat} (h : i < L.length) : twc x L (i + 1) = (twc x L i || decide (kc (att L i) x = 0)) := by
  unfold twc
  rw [List.take_succ_eq_append_getElem h, List.any_append]
  have : att L i = L[i] := by unfold att; rw [List.getD_eq_getElem?_getD, List.getElem?_eq_getElem h]; rfl
  rw [this]
  simp
theorem twc_all (x : En) (L : List En) : twc x L L.length = hasK x L := by
  unfold twc hasK
  rw [List.take_length]
  congr 1
  funext y
  exact decide_eq_decide.2 (by rw [kc_eq, kc_eq]; omega)
/-- blocks of unlike types are unlike -/
theorem ty_ne {w : World} {a b : Nat} {x y : Array Value} {s t : TypeId} (ha : w.heap[a]? = some (.cells x s (0, 0))) (hb : w.heap[b]? = some (.cells y t (0, 0))) (h : s ≠ t) : a ≠ b := by
  rintro rfl
  have := ha.symm.trans hb
  simp at this
  exact h this.2
theorem ow_ne_t {w : World} {B p : Nat} {u : Value} {I : List En} {y : Array Value} {t : TypeId} (ho : OwG KE 38 w B u I) (hb : w.heap[p]? = some (.cells y t (0, 0))) (h : 38 ≠ t) : u.ownBlock ≠ some p := by
  intro e
  rcases ho.2 with ⟨rfl, _⟩ | ⟨g, cap, cur, rfl, _, hg, _⟩
  · cases e
  · simp [Value.ownBlock] at e
    exact ty_ne hg hb h e
/-- .. and the document's queue, a block that holds the list -/
structure Fil (w wr : World) (p : Nat) (v : Value) (M : List En) (yb : Nat) (u : Value) (I : List En) : Prop where
  t : Two w wr p v M u I
  y : wr.heap[yb]? = some (.cells #[u] 29 (0, 0))
  l : w.heap.size ≤ yb
theorem Fil.still {w wr w' : World} {p yb : Nat} {v u : Value} {M I : List En} (h : Fil w wr p v M yb u I) (hs : Still wr w') : Fil w w' p v M yb u I := ⟨h.t.still hs, hs.kept_still h.y, h.l⟩
theorem Fil.cell {w wr : World} {p yb : Nat} {v u : Value} {M I : List En} (h : Fil w wr p v M yb u I) : wr.cell? ⟨yb, 0, none⟩ = some u ∧ ∀ o, wr.frozen? ⟨yb, o, none⟩ = false := by
  refine ⟨?_, fun o => frozen_of_row wr yb o _ _ h.y⟩
  rw [cell_of_row _ _ _ _ _ _ h.y]; rfl
theorem Fil.call {w wr w' : World} {p yb : Nat} {v v' u : Value} {M M' I : List En} (h : Fil w wr p v M yb u I) (hq : Qk w' w.heap.size p v' M') (hm : Qu M') (hf : Fr (fun k => k = p ∨ v.ownBlock = some k) wr w') (hb : ∀ k, v'.ownBlock = some k → v.ownBlock = some k ∨ wr.heap.size ≤ k) : Fil w w' p v' M' yb u I :=
  ⟨h.t.call hq hm hf hb, hf.kept h.y (fun e => by
    rcases e with e | e
    · exact ty_ne h.y h.t.q.bk (by decide) e
    · exact ow_ne_t h.t.q.ow h.y (by decide) e), h.l⟩
/-- one more behind the list, and the list stored -/
theorem Fil.app {w wr w' : World} {p yb : Nat} {v u u' : Value} {M I I' : List En} (h : Fil w wr p v M yb u I) (ho : OwG KE 38 w' w.heap.size u' I') (hf : Fr (fun k => u.ownBlock = some k) wr w') (hb : ∀ k, u'.ownBlock = some k → u.ownBlock = some k ∨ wr.heap.size ≤ k) : Fil w (w'.setCell ⟨yb, 0, none⟩ u') p v M yb u' I' := by
  have ht := h.t.app ho hf hb
  have hy : w'.heap[yb]? = some (.cells #[u] 29 (0, 0)) := hf.kept h.y (fun e => ow_ne_t h.t.o h.y (by decide) e)
  refine ⟨ht.set (g := yb) ((Fr.refl _ w').setCell _ _ (.inl rfl)) (fun e => ty_ne ht.q.bk hy (by decide) e) (ow_ne_t ht.q.ow hy (by decide)) (ow_ne_t ho hy (by decide)) h.l, ?_, h.l⟩
  exact (heap_setCell_same w' yb 0 _ _ u' hy).trans (by rfl)
end Go.Proofs.Ytgpmjlibanoapaa
