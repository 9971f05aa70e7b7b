/- A log in memory: its block, the rows of its places; what the program's small functions answer. -/
import Derived.Test.YtdmgalaajgebkaaMga
import Derived.Test.YtdmgalaajgebkaaMgr
namespace Go.Proofs.Ytdmgalaajgebkaa
open Go.RowKit
set_option maxRecDepth 100000

/-- the cells of a log's block -/
def lcs (s : Lgs) (vs : Nat → Value) : Array Value := (Value.int .i64 s.np :: .int .i64 s.nr :: .int .i64 s.ba :: (List.range 112).map vs).toArray
theorem lcs_size (s : Lgs) (vs : Nat → Value) : (lcs s vs).size = 115 := by simp [lcs]
theorem lcs_0 (s : Lgs) (vs : Nat → Value) : (lcs s vs)[0]? = some (.int .i64 s.np) := by simp [lcs]
theorem lcs_1 (s : Lgs) (vs : Nat → Value) : (lcs s vs)[1]? = some (.int .i64 s.nr) := by simp [lcs]
theorem lcs_2 (s : Lgs) (vs : Nat → Value) : (lcs s vs)[2]? = some (.int .i64 s.ba) := by simp [lcs]
theorem lcs_at (s : Lgs) (vs : Nat → Value) {i : Nat} (h : i < 112) : (lcs s vs)[3 + i]? = some (vs i) := by
  simp only [lcs, List.getElem?_toArray]
  rw [show 3 + i = i + 1 + 1 + 1 by omega]
  simp only [List.getElem?_cons_succ]
  rw [List.getElem?_map, List.getElem?_range h]
  rfl
/-- another place -/
def upV (vs : Nat → Value) (i : Nat) (v : Value) : Nat → Value := fun j => if j = i then v else vs j
theorem lcs_set (s : Lgs) (vs : Nat → Value) {i : Nat} (h : i < 112) (v : Value) : (lcs s vs).setIfInBounds (3 + i) v = lcs s (upV vs i v) := by
  apply Array.ext_getElem?
  intro t
  rw [Array.getElem?_setIfInBounds, lcs_size]
  by_cases e : 3 + i = t
  · subst e
    rw [if_pos rfl, if_pos (by omega), lcs_at _ _ h]
    simp [upV]
  · rw [if_neg e]
    rcases Nat.lt_or_ge t 3 with h3 | h3
    · have : t = 0 ∨ t = 1 ∨ t = 2 := by omega
      rcases this with rfl | rfl | rfl
      · rw [lcs_0, lcs_0]
      · rw [lcs_1, lcs_1]
      · rw [lcs_2, lcs_2]
    · rcases Nat.lt_or_ge t 115 with h4 | h4
      · obtain ⟨j, rfl⟩ : ∃ j, t = 3 + j := ⟨t - 3, by omega⟩
        rw [lcs_at _ _ (by omega), lcs_at _ _ (by omega)]
        simp only [upV]
        rw [if_neg (by omega)]
      · rw [Array.getElem?_eq_none (by rw [lcs_size]; omega), Array.getElem?_eq_none (by rw [lcs_size]; omega)]
theorem lcs_setb (s : Lgs) (vs : Nat → Value) (b : Int) : (lcs s vs).setIfInBounds 2 (.int .i64 b) = lcs { s with ba := b } vs := by
  simp [lcs]
theorem lcs_S (s : Lgs) (vs : Nat → Value) (S : List En) : lcs { s with S := S } vs = lcs s vs := rfl
abbrev lgT : TypeId := 75
abbrev enT : TypeId := 44
/-- block p holds a log, whose places hold these values -/
structure Lm (w : World) (B p : Nat) (s : Lgs) (vs : Nat → Value) : Prop where
  bk : w.heap[p]? = some (.cells (lcs s vs) lgT (0, 0))
  lo : B ≤ p
  ow : ∀ i, i < 112 → OwG KE enT w B (vs i) (plc i s.S)
  sp : ∀ i j, i < 112 → j < 112 → i ≠ j → ∀ k, (vs i).ownBlock = some k → (vs j).ownBlock ≠ some k
  ok : Lo s
section
variable {w w' : World} {B p : Nat} {s : Lgs} {vs : Nat → Value}
/-- the blocks of its rows -/
def Rw (vs : Nat → Value) (k : Nat) : Prop := ∃ i, i < 112 ∧ (vs i).ownBlock = some k
theorem Lm.keep {F : Nat → Prop} (h : Lm w B p s vs) (hf : Fr F w w') (hp : ¬ F p) (hr : ∀ k, F k → ¬ Rw vs k) : Lm w' B p s vs :=
  ⟨hf.kept h.bk hp, h.lo, fun i hi => (h.ow i hi).keep hf (fun k hk e => hr k hk ⟨i, hi, e⟩), h.sp, h.ok⟩
theorem Lm.still (h : Lm w B p s vs) (hs : Still w w') : Lm w' B p s vs := h.keep hs (fun e => e) (fun _ e => e.elim)
theorem Lm.less {B' : Nat} (h : Lm w B p s vs) (hb : B' ≤ B) : Lm w B' p s vs := ⟨h.bk, by have := h.lo; omega, fun i hi => (h.ow i hi).less hb, h.sp, h.ok⟩
theorem Lm.lt (h : Lm w B p s vs) : p < w.heap.size := block_lt h.bk
theorem Lm.cell (h : Lm w B p s vs) : w.cell? ⟨p, 0, none⟩ = some (.int .i64 s.np) ∧ w.cell? ⟨p, 1, none⟩ = some (.int .i64 s.nr) ∧ w.cell? ⟨p, 2, none⟩ = some (.int .i64 s.ba) ∧ ∀ o, w.frozen? ⟨p, o, none⟩ = false := by
  refine ⟨?_, ?_, ?_, fun o => frozen_of_row w p o _ _ h.bk⟩
  · rw [cell_of_row _ _ _ _ _ _ h.bk, lcs_0]
  · rw [cell_of_row _ _ _ _ _ _ h.bk, lcs_1]
  · rw [cell_of_row _ _ _ _ _ _ h.bk, lcs_2]
theorem Lm.place (h : Lm w B p s vs) {i : Nat} (hi : i < 112) : w.cell? ⟨p, 3 + i, none⟩ = some (vs i) := by
  rw [cell_of_row _ _ _ _ _ _ h.bk, lcs_at _ _ hi]
theorem Lm.rlt (h : Lm w B p s vs) : ∀ k, Rw vs k → B ≤ k ∧ k < w.heap.size := by
  rintro k ⟨i, hi, e⟩
  exact (h.ow i hi).block e
theorem Lm.pne (h : Lm w B p s vs) : ¬ Rw vs p := by
  rintro ⟨i, hi, e⟩
  rcases (h.ow i hi).2 with ⟨hv, _⟩ | ⟨g, cap, cur, hv, _, hg, _⟩
  · rw [hv] at e; cases e
  · rw [hv] at e
    simp only [Value.ownBlock, Option.some.injEq] at e
    subst e
    have := h.bk
    rw [hg] at this
    injection this with this
    injection this with _ h2 _
    exact absurd h2 (by decide)
end
/-- 0 to n - 1 -/
def inR (n z : Int) : Bool := decide (0 ≤ n ∧ n < z)
theorem inR_t {n z : Int} (h1 : n ≥ 0) (h2 : n < z) : inR n z = true := decide_eq_true ⟨h1, h2⟩
theorem inR_f {n z : Int} (h : n < 0 ∨ z ≤ n) : inR n z = false := decide_eq_false (by omega)
theorem cm_isSeat (s : Lgs) (B p : Nat) (vs : Nat → Value) (n : Int) (w : World) (h : Lm w B p s vs) : Calls Try.prog 37 #[.pointer (some ⟨p, 0, none⟩), .int .i64 n] w fun e w' => e = .returned (.bool (inR n s.np)) ∧ w' = w := by
  obtain ⟨c0, _, _, _⟩ := h.cell
  obtain ⟨z, ez⟩ : ∃ z, s.np = z := ⟨_, rfl⟩
  rw [ez] at c0 ⊢
  clear h ez
  by_cases h1 : n ≥ 0
  · by_cases h2 : n < z
    · have HE : Hid (inR n z = true) := hid (inR_t h1 h2)
      go_enter Try.func37, Try.ntmps37
      go_wp2_with fail
      go_ret
      exact ⟨by rw [HE.out]; rfl, rfl⟩
    · have HE : Hid (inR n z = false) := hid (inR_f (by omega))
      go_enter Try.func37, Try.ntmps37
      go_wp2_with fail
      go_ret
      exact ⟨by rw [HE.out]; rfl, rfl⟩
  · have HE : Hid (inR n z = false) := hid (inR_f (by omega))
    go_enter Try.func37, Try.ntmps37
    go_wp2_with fail
    go_ret
    exact ⟨by rw [HE.out]; rfl, rfl⟩
theorem cm_isRung (s : Lgs) (B p : Nat) (vs : Nat → Value) (n : Int) (w : World) (h : Lm w B p s vs) : Calls Try.prog 35 #[.pointer (some ⟨p, 0, none⟩), .int .i64 n] w fun e w' => e = .returned (.bool (inR n s.nr)) ∧ w' = w := by
  obtain ⟨_, c0, _, _⟩ := h.cell
  obtain ⟨z, ez⟩ : ∃ z, s.nr = z := ⟨_, rfl⟩
  rw [ez] at c0 ⊢
  clear h ez
  by_cases h1 : n ≥ 0
  · by_cases h2 : n < z
    · have HE : Hid (inR n z = true) := hid (inR_t h1 h2)
      go_enter Try.func35, Try.ntmps35
      go_wp2_with fail
      go_ret
      exact ⟨by rw [HE.out]; rfl, rfl⟩
    · have HE : Hid (inR n z = false) := hid (inR_f (by omega))
      go_enter Try.func35, Try.ntmps35
      go_wp2_with fail
      go_ret
      exact ⟨by rw [HE.out]; rfl, rfl⟩
  · have HE : Hid (inR n z = false) := hid (inR_f (by omega))
    go_enter Try.func35, Try.ntmps35
    go_wp2_with fail
    go_ret
    exact ⟨by rw [HE.out]; rfl, rfl⟩
theorem cm_last (s : Lgs) (B p : Nat) (vs : Nat → Value) (w : World) (h : Lm w B p s vs) : Calls Try.prog 44 #[.pointer (some ⟨p, 0, none⟩)] w fun e w' => e = .returned (.int .i64 (s.ba + 112)) ∧ w' = w := by
  obtain ⟨_, _, c0, _⟩ := h.cell
  obtain ⟨hb1, hb2⟩ := h.ok.b
  obtain ⟨z, ez⟩ : ∃ z, s.ba = z := ⟨_, rfl⟩
  rw [ez] at c0 hb1 hb2 ⊢
  have hw : IntKind.i64.wrap (z + 112) = z + 112 := by rw [IntKind.wrap_i64]; omega
  clear h ez
  go_enter Try.func44, Try.ntmps44
  go_wp2_with fail
  go_ret
  exact ⟨rfl, rfl⟩
theorem cm_base (s : Lgs) (B p : Nat) (vs : Nat → Value) (w : World) (h : Lm w B p s vs) : Calls Try.prog 18 #[.pointer (some ⟨p, 0, none⟩)] w fun e w' => e = .returned (.int .i64 s.ba) ∧ w' = w := by
  obtain ⟨_, _, c0, _⟩ := h.cell
  obtain ⟨z, ez⟩ : ∃ z, s.ba = z := ⟨_, rfl⟩
  rw [ez] at c0 ⊢
  clear h ez
  go_enter Try.func18, Try.ntmps18
  go_wp2_with fail
  go_ret
  exact ⟨rfl, rfl⟩
theorem cm_place (f : Int) (hf : 0 ≤ f ∧ f ≤ 9223372036854775807) (w : World) : Calls Try.prog 50 #[.int .i64 f] w fun e w' => e = .returned (.int .i64 (f % 112)) ∧ w' = w := by
  have HE : Hid (f.tmod 112 = f % 112) := hid (Int.tmod_eq_emod_of_nonneg hf.1)
  have hw : IntKind.i64.wrap (f.tmod 112) = f.tmod 112 := by rw [IntKind.wrap_i64, Int.tmod_eq_emod_of_nonneg hf.1]; omega
  go_enter Try.func50, Try.ntmps50
  go_wp2_with fail
  go_ret
  exact ⟨by first | rfl | (rw [← HE.out]; rfl), rfl⟩
end Go.Proofs.Ytdmgalaajgebkaa
