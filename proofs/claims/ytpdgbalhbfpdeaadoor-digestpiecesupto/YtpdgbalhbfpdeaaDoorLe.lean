/- Contracts: bytes lent, and whether they are as they were lent. -/
import Derived.Test.YtpdgbalhbfpdeaaDoorSu
import Derived.Deep.OwnRows
import Derived.Laws.CopyRow
import Derived.KernelRfl
namespace Go.Proofs.YtpdgbalhbfpdeaaDoor
open Go.RowKit

theorem info_u8 : (Tryd.prog.info? 5).map (fun i => (i.zero, i.size, i.bytes)) = some (some (.int .u8 0), 1, 1) := by kernel_rfl
theorem size_u8 : (Tryd.prog.info? 5).map (·.size) = some 1 := by kernel_rfl
theorem Ow.set {e : TypeId} {w : World} {g n cap k : Nat} {bs : List UInt8} {b : UInt8} {x : Int} (h : Ow e w (some ⟨g, 0, none⟩) n cap bs) (hk : k < n) (hx : x = (b.toNat : Int)) :
    Ow e (w.setCell ⟨g, k, none⟩ (.int .u8 x)) (some ⟨g, 0, none⟩) n cap (bs.set k b) := by
  obtain ⟨_, _, cur, hg, hc⟩ := h.row _ rfl
  have hl := h.rd.len
  have hle := h.rd.le
  have hg' := heap_setCell_same w g k cur e (.int .u8 x) hg
  refine ⟨⟨by simp [hl], hle, h.rd.max, fun a ha _ => (by cases ha; rfl), fun h => (by cases h), fun a ha j hj => ?_⟩, fun a ha => ?_⟩
  · cases ha
    rw [cell_of_row _ _ _ _ _ _ hg']
    simp only [List.length_set] at hj
    by_cases hjk : k = j
    · subst hjk
      simp only [Nat.zero_add, List.getElem_set_self]
      rw [Array.getElem?_setIfInBounds_self_of_lt (by omega), hx]
    · simp only [Nat.zero_add]
      rw [Array.getElem?_setIfInBounds_ne hjk, List.getElem_set_ne hjk]
      have := h.rd.byte hj
      rw [cell_of_row _ _ _ _ _ _ hg, Nat.zero_add] at this
      exact this
  · cases ha
    exact ⟨rfl, rfl, _, hg', by simpa using hc⟩
/-- the cell at k: there, and not frozen -/
theorem Ow.cellAt {e : TypeId} {w : World} {g n cap k : Nat} {bs : List UInt8} (h : Ow e w (some ⟨g, 0, none⟩) n cap bs) (hk : k < n) : (∃ v, w.cell? ⟨g, k, none⟩ = some v) ∧ w.frozen? ⟨g, k, none⟩ = false := by
  obtain ⟨_, _, cur, hg, hc⟩ := h.row _ rfl
  have hlt : k < cur.size := by have := h.rd.le; omega
  exact ⟨⟨cur[k], by rw [cell_of_row _ _ _ _ _ _ hg, Array.getElem?_eq_getElem hlt]⟩, frozen_of_row w g k cur e hg⟩
theorem set_mid {xs zs : List UInt8} {y v : UInt8} {k : Nat} (h : xs.length = k) : (xs ++ y :: zs).set k v = xs ++ v :: zs := by
  subst h
  induction xs with
  | nil => rfl
  | cons a r ih => simp [ih]
theorem zeros_cons {m k : Nat} (h : k < m) (v : UInt8) : List.replicate (m - k) v = v :: List.replicate (m - (k + 1)) v := by
  obtain ⟨d, rfl⟩ : ∃ d, m = k + 1 + d := ⟨m - (k + 1), by omega⟩
  rw [show k + 1 + d - k = d + 1 by omega, show k + 1 + d - (k + 1) = d by omega]
  rfl
/-- 'copy(all, b)', all its owner's. -/
theorem copy_ow {W : World} {g N : Nat} {so : Option Addr} {n c : Nat} {bs cs : List UInt8} (ho : Ow 5 W (some ⟨g, 0, none⟩) N N bs) (hr : Rd W so n c cs) (hn : n ≤ N) :
    ∃ W', (∀ ty, (Builtin.copy_ #[32, 32] ty #[.slice (some ⟨g, 0, none⟩) N N, .slice so n c]).run Tryd.prog W = .ok (goInt n) W') ∧ Ow 5 W' (some ⟨g, 0, none⟩) N N (cs ++ bs.drop n) ∧ Fr (fun k => k = g) W W' := by
  have hlc := hr.len
  have hlb := ho.rd.len
  cases so with
  | none =>
    have h1 := hr.nil rfl
    have h2 := hr.le
    obtain rfl : n = 0 := by omega
    obtain rfl : c = 0 := by omega
    obtain rfl : cs = [] := List.eq_nil_of_length_eq_zero hlc
    exact ⟨W, fun ty => run_copy_nil (P := Tryd.prog) W 32 32 ty 5 ⟨g, 0, none⟩ N N Tryd.underlying32 (by rw [size_u8]; rfl), by simpa using ho, Fr.refl _ _⟩
  | some a =>
    obtain ⟨_, _, cur, hg, hc⟩ := ho.row _ rfl
    have hcl : (cellsOf cs).length = n := by simp [cellsOf, hlc]
    refine ⟨W.setRow g (cur.toList.take 0 ++ cellsOf cs ++ cur.toList.drop (0 + (cellsOf cs).length)).toArray, fun ty => ?_, ?_, (Fr.refl _ W).setRow g _ (.inl rfl)⟩
    · have := run_copy_row (P := Tryd.prog) W 32 32 ty 5 g 0 N N a n c cur 5 (cellsOf cs) Tryd.underlying32 size_u8 hg (by rw [hcl]; exact (Nat.min_eq_left hn).symm) hr.cellsAt (by rw [hcl]; omega) (cellsOf_one cs)
      rw [hcl] at this ⊢
      exact this
    · have hgn := setRow_heap W g cur (cur.toList.take 0 ++ cellsOf cs ++ cur.toList.drop (0 + (cellsOf cs).length)).toArray 5 _ hg
      refine ⟨⟨by simp [hlb, hlc]; omega, Nat.le_refl _, ho.rd.max, fun a ha _ => (by cases ha; rfl), fun h => (by cases h), fun a ha j hj => ?_⟩, fun a ha => ?_⟩
      · cases ha
        rw [cell_of_row _ _ _ _ _ _ hgn]
        simp only [Nat.zero_add, List.getElem?_toArray, List.take_zero, List.nil_append, hcl]
        simp at hj
        by_cases hjn : j < n
        · rw [List.getElem?_append_left (by omega), List.getElem_append_left (by omega)]
          simp only [cellsOf, List.getElem?_map, List.getElem?_eq_getElem (show j < cs.length by omega), Option.map_some]
        · rw [List.getElem?_append_right (by omega), hcl, List.getElem?_drop, List.getElem_append_right (by omega)]
          have h1 := ho.rd.byte (k := j) (by omega)
          rw [cell_of_row _ _ _ _ _ _ hg, Nat.zero_add] at h1
          rw [show n + (j - n) = j by omega]
          simp only [List.getElem_drop, hlc, show n + (j - n) = j by omega]
          simpa using h1
      · cases ha
        refine ⟨rfl, rfl, _, hgn, ?_⟩
        simp only [List.size_toArray, List.length_append, List.length_take, List.length_drop, Array.length_toList, hcl]
        omega
/-- what lies behind lent bytes -/
def pb (k : Nat) : UInt8 := UInt8.ofNat (200 + k)
def pads (n : Nat) : Nat → List UInt8
  | 0 => []
  | j + 1 => pads n j ++ [pb (n + j)]
theorem pads_length (n j : Nat) : (pads n j).length = j := by
  induction j with
  | zero => rfl
  | succ j ih => simp [pads, ih]
theorem pads_get (n : Nat) : ∀ (m j : Nat) (h : j < m), (pads n m)[j]'(by rw [pads_length]; exact h) = pb (n + j)
  | m + 1, j, h => by
    by_cases hj : j < m
    · simp only [pads]
      rw [List.getElem_append_left (by rw [pads_length]; exact hj)]
      exact pads_get n m j hj
    · obtain rfl : j = m := by omega
      simp only [pads]
      rw [List.getElem_append_right (by rw [pads_length]; exact Nat.le_refl _)]
      simp [pads_length]
theorem pb_is (k : Nat) : IntKind.u8.wrap (200 + (k : Int)) = ((pb k).toNat : Int) := by
  unfold pb
  rw [UInt8.toNat_ofNat']
  simp [IntKind.wrap, IntKind.bits, IntKind.signed]
end Go.Proofs.YtpdgbalhbfpdeaaDoor
