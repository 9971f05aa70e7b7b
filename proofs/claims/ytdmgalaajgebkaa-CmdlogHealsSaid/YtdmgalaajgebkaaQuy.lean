/- QueueFills: what is needed plainly, and in memory. -/
import Derived.Test.YtdmgalaajgebkaaQur
namespace Go.Proofs.Ytdmgalaajgebkaa
open Go.RowKit
set_option maxRecDepth 100000

/-- which of n a raw number speaks of -/
def pk (c n : Int) : Int := if c < 0 then (-(c + 1)).tmod n else c.tmod n
theorem pk_in (c n : Int) (hn : 0 < n) : 0 ≤ pk c n ∧ pk c n < n := by
  unfold pk
  split
  · rename_i h
    rw [Int.tmod_eq_emod_of_nonneg (by omega)]
    exact ⟨Int.emod_nonneg _ (by omega), Int.emod_lt_of_pos _ hn⟩
  · rw [Int.tmod_eq_emod_of_nonneg (by omega)]
    exact ⟨Int.emod_nonneg _ (by omega), Int.emod_lt_of_pos _ hn⟩
theorem pick_any (c n : Int) (hc : -9223372036854775808 ≤ c ∧ c ≤ 9223372036854775807) (hn : 0 < n) (hn2 : n ≤ 9223372036854775807) (w : World) : Calls Try.prog 8 #[.int .i64 c, .int .i64 n] w fun e w' => e = .returned (.int .i64 (pk c n)) ∧ w' = w := by
  have hin := pk_in c n hn
  have hn0 : (n == 0) = false := beq_eq_false_iff_ne.2 (by omega)
  by_cases h : c < 0
  · have HP : Hid (pk c n = (-(c + 1)).tmod n) := hid (by unfold pk; rw [if_pos h])
    have hw1 : IntKind.i64.wrap (c + 1) = c + 1 := by rw [IntKind.wrap_i64]; omega
    have hw2 : IntKind.i64.wrap (-(c + 1)) = -(c + 1) := by rw [IntKind.wrap_i64]; omega
    have hw3 : IntKind.i64.wrap ((-(c + 1)).tmod n) = (-(c + 1)).tmod n := by rw [IntKind.wrap_i64, ← HP.out]; omega
    go_enter Try.func8, Try.ntmps8
    go_wp2_with fail
    go_ret
    exact ⟨by show Ending.returned (.int .i64 (-(c + 1).tmod n)) = _; rw [HP.out, Int.neg_tmod], rfl⟩
  · have HP : Hid (pk c n = c.tmod n) := hid (by unfold pk; rw [if_neg h])
    have hw3 : IntKind.i64.wrap (c.tmod n) = c.tmod n := by rw [IntKind.wrap_i64, ← HP.out]; omega
    go_enter Try.func8, Try.ntmps8
    go_wp2_with fail
    go_ret
    exact ⟨by show Ending.returned (.int .i64 (c % n)) = _; rw [HP.out, Int.tmod_eq_emod_of_nonneg (by omega)], rfl⟩
/-- the j-th that goes in, and the first ones -/
def fe (r : Int) (j : Nat) : En := ken ((j % 7 : Nat) : Int) (r + (j : Int)) 5
def fk (r : Int) : Nat → List En
  | 0 => []
  | i + 1 => fk r i ++ [fe r i]
theorem fk_len (r : Int) : ∀ i, (fk r i).length = i
  | 0 => rfl
  | i + 1 => by simp [fk, fk_len r i]
theorem fk_mem (r : Int) : ∀ {i : Nat} {x : En}, x ∈ fk r i → ∃ j, j < i ∧ x = fe r j
  | 0, x, h => by cases h
  | i + 1, x, h => by
    rcases List.mem_append.1 h with h | h
    · obtain ⟨j, hj, e⟩ := fk_mem r h
      exact ⟨j, by omega, e⟩
    · rw [List.mem_singleton] at h
      exact ⟨i, by omega, h⟩
theorem fk_att (r : Int) : ∀ {i j : Nat}, j < i → att (fk r i) j = fe r j
  | 0, j, h => by omega
  | i + 1, j, h => by
    by_cases hj : j < i
    · have := fk_att r hj
      rw [fk, att_app (by rw [fk_len]; exact hj)]
      exact this
    · obtain rfl : j = i := by omega
      have := att_last (fk r j) (fe r j)
      rw [fk_len] at this
      exact this
theorem fk_new (r : Int) (i : Nat) : hasK (fe r i) (fk r i) = false := by
  cases hb : hasK (fe r i) (fk r i) with
  | false => rfl
  | true =>
    exfalso
    obtain ⟨y, hy, h⟩ := List.any_eq_true.1 hb
    obtain ⟨j, hj, rfl⟩ := fk_mem r hy
    have := of_decide_eq_true h
    rw [kc_eq] at this
    simp only [fe, ken] at this
    omega
theorem fk_least (r : Int) {i : Nat} : ∀ y ∈ fk r i, le (fe r 0) y := by
  intro y hy
  obtain ⟨j, hj, rfl⟩ := fk_mem r hy
  unfold le
  rw [kc_lt]
  simp only [fe, ken]
  omega
theorem hasK_mem {x : En} {L : List En} (h : x ∈ L) : hasK x L = true := List.any_eq_true.2 ⟨x, h, decide_eq_true (by rw [kc_eq]; exact ⟨rfl, rfl, rfl⟩)⟩
/-- has one of the first i this key? -/
def twc (x : En) (L : List En) (i : Nat) : Bool := (L.take i).any fun y => decide (kc y x = 0)
theorem twc_step (x : En) {L : List En} {i : Nat} (h : i < L.length) : twc x L (i + 1) = (twc x L i || decide (kc (att L i) x = 0)) := by
  unfold twc
  rw [List.take_succ_eq_append_getElem h, List.any_append]
  have : att L i = L[i] := by unfold att; rw [List.getD_eq_getElem?_getD, List.getElem?_eq_getElem h]; rfl
  rw [this]
  simp
theorem twc_all (x : En) (L : List En) : twc x L L.length = hasK x L := by
  unfold twc hasK
  rw [List.take_length]
  congr 1
  funext y
  exact decide_eq_decide.2 (by rw [kc_eq, kc_eq]; omega)
/-- blocks of unlike types are unlike -/
theorem ty_ne {w : World} {a b : Nat} {x y : Array Value} {s t : TypeId} (ha : w.heap[a]? = some (.cells x s (0, 0))) (hb : w.heap[b]? = some (.cells y t (0, 0))) (h : s ≠ t) : a ≠ b := by
  rintro rfl
  have := ha.symm.trans hb
  simp at this
  exact h this.2
theorem ow_ne_t {w : World} {B p : Nat} {u : Value} {I : List En} {y : Array Value} {t : TypeId} (ho : OwG KE 44 w B u I) (hb : w.heap[p]? = some (.cells y t (0, 0))) (h : 44 ≠ t) : u.ownBlock ≠ some p := by
  intro e
  rcases ho.2 with ⟨rfl, _⟩ | ⟨g, cap, cur, rfl, _, hg, _⟩
  · cases e
  · simp [Value.ownBlock] at e
    exact ty_ne hg hb h e
end Go.Proofs.Ytdmgalaajgebkaa
