/- Memory: a slice of numbers (int): a number set, a row copied. -/
import Derived.Test.YtbadpcdlhgbegaaDoorMi
import Derived.Test.YtbadpcdlhgbegaaDoorProg
import Derived.Laws.CopyRow
import Derived.KernelRfl
namespace Go.Proofs.YtbadpcdlhgbegaaDoor
open Go.RowKit

theorem info_int : (Tryd.prog.info? 3).map (fun i => (i.zero, i.size, i.bytes)) = some (some (.int .i64 0), 1, 8) := by kernel_rfl
theorem size_int : (Tryd.prog.info? 3).map (·.size) = some 1 := by kernel_rfl
theorem OwI.set {e : TypeId} {w : World} {g n cap k : Nat} {bs : List Int} {x : Int} (h : OwI e w (some ⟨g, 0, none⟩) n cap bs) (hk : k < n) :
    OwI e (w.setCell ⟨g, k, none⟩ (.int .i64 x)) (some ⟨g, 0, none⟩) n cap (bs.set k x) := by
  obtain ⟨_, _, cur, hg, hc⟩ := h.row _ rfl
  have hl := h.rd.len
  have hle := h.rd.le
  have hg' := heap_setCell_same w g k cur e (.int .i64 x) hg
  refine ⟨⟨by simp [hl], hle, h.rd.max, fun a ha _ => (by cases ha; rfl), fun h => (by cases h), fun a ha j hj => ?_⟩, fun a ha => ?_⟩
  · cases ha
    rw [cell_of_row _ _ _ _ _ _ hg']
    simp only [List.length_set] at hj
    by_cases hjk : k = j
    · subst hjk
      simp only [Nat.zero_add, List.getElem_set_self]
      rw [Array.getElem?_setIfInBounds_self_of_lt (by omega)]
    · simp only [Nat.zero_add]
      rw [Array.getElem?_setIfInBounds_ne hjk, List.getElem_set_ne hjk]
      have := h.rd.byte hj
      rw [cell_of_row _ _ _ _ _ _ hg, Nat.zero_add] at this
      exact this
  · cases ha
    exact ⟨rfl, rfl, _, hg', by simpa using hc⟩
/-- the cell at k: there, and not frozen -/
theorem OwI.cellAt {e : TypeId} {w : World} {g n cap k : Nat} {bs : List Int} (h : OwI e w (some ⟨g, 0, none⟩) n cap bs) (hk : k < n) : (∃ v, w.cell? ⟨g, k, none⟩ = some v) ∧ w.frozen? ⟨g, k, none⟩ = false := by
  obtain ⟨_, _, cur, hg, hc⟩ := h.row _ rfl
  have hlt : k < cur.size := by have := h.rd.le; omega
  exact ⟨⟨cur[k], by rw [cell_of_row _ _ _ _ _ _ hg, Array.getElem?_eq_getElem hlt]⟩, frozen_of_row w g k cur e hg⟩
/-- 'copy(all, b)', all its owner's. -/
theorem copy_owI {W : World} {g N : Nat} {so : Option Addr} {n c : Nat} {bs cs : List Int} (ho : OwI 3 W (some ⟨g, 0, none⟩) N N bs) (hr : RdI W so n c cs) (hn : n ≤ N) :
    ∃ W', (∀ ty, (Builtin.copy_ #[34, 34] ty #[.slice (some ⟨g, 0, none⟩) N N, .slice so n c]).run Tryd.prog W = .ok (goInt n) W') ∧ OwI 3 W' (some ⟨g, 0, none⟩) N N (cs ++ bs.drop n) ∧ Fr (fun k => k = g) W W' := by
  have hlc := hr.len
  have hlb := ho.rd.len
  cases so with
  | none =>
    have h1 := hr.nil rfl
    have h2 := hr.le
    obtain rfl : n = 0 := by omega
    obtain rfl : c = 0 := by omega
    obtain rfl : cs = [] := List.eq_nil_of_length_eq_zero hlc
    exact ⟨W, fun ty => run_copy_nil (P := Tryd.prog) W 34 34 ty 3 ⟨g, 0, none⟩ N N Tryd.underlying34 (by rw [size_int]; rfl), by simpa using ho, Fr.refl _ _⟩
  | some a =>
    obtain ⟨_, _, cur, hg, hc⟩ := ho.row _ rfl
    have hcl : (intsOf cs).length = n := by simp [intsOf, hlc]
    refine ⟨W.setRow g (cur.toList.take 0 ++ intsOf cs ++ cur.toList.drop (0 + (intsOf cs).length)).toArray, fun ty => ?_, ?_, (Fr.refl _ W).setRow g _ (.inl rfl)⟩
    · have := run_copy_row (P := Tryd.prog) W 34 34 ty 3 g 0 N N a n c cur 3 (intsOf cs) Tryd.underlying34 size_int hg (by rw [hcl]; exact (Nat.min_eq_left hn).symm) hr.cellsAt (by rw [hcl]; omega) (intsOf_one cs)
      rw [hcl] at this ⊢
      exact this
    · have hgn := setRow_heap W g cur (cur.toList.take 0 ++ intsOf cs ++ cur.toList.drop (0 + (intsOf cs).length)).toArray 3 _ hg
      refine ⟨⟨by simp [hlb, hlc]; omega, Nat.le_refl _, ho.rd.max, fun a ha _ => (by cases ha; rfl), fun h => (by cases h), fun a ha j hj => ?_⟩, fun a ha => ?_⟩
      · cases ha
        rw [cell_of_row _ _ _ _ _ _ hgn]
        simp only [Nat.zero_add, List.getElem?_toArray, List.take_zero, List.nil_append, hcl]
        simp at hj
        by_cases hjn : j < n
        · rw [List.getElem?_append_left (by omega), List.getElem_append_left (by omega)]
          simp only [intsOf, List.getElem?_map, List.getElem?_eq_getElem (show j < cs.length by omega), Option.map_some]
        · rw [List.getElem?_append_right (by omega), hcl, List.getElem?_drop, List.getElem_append_right (by omega)]
          have h1 := ho.rd.byte (k := j) (by omega)
          rw [cell_of_row _ _ _ _ _ _ hg, Nat.zero_add] at h1
          rw [show n + (j - n) = j by omega]
          simp only [List.getElem_drop, hlc, show n + (j - n) = j by omega]
          simpa using h1
      · cases ha
        refine ⟨rfl, rfl, _, hgn, ?_⟩
        simp only [List.size_toArray, List.length_append, List.length_take, List.length_drop, Array.length_toList, hcl]
        omega
end Go.Proofs.YtbadpcdlhgbegaaDoor
