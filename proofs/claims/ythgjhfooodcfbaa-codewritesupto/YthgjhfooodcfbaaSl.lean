/- Contracts: bytes lent, and bytes spoilt. -/
import Derived.Test.YthgjhfooodcfbaaCf
import Derived.Deep.OwnRows
namespace Go.Proofs.Ythgjhfooodcfbaa
open Go.RowKit

theorem Ow.set {e : TypeId} {w : World} {g n cap k : Nat} {bs : List UInt8} {b : UInt8} {x : Int} (h : Ow e w (some ⟨g, 0, none⟩) n cap bs) (hk : k < n) (hx : x = (b.toNat : Int)) :
    Ow e (w.setCell ⟨g, k, none⟩ (.int .u8 x)) (some ⟨g, 0, none⟩) n cap (bs.set k b) := by
  obtain ⟨_, _, cur, hg, hc⟩ := h.row _ rfl
  have hl := h.rd.len
  have hle := h.rd.le
  have hg' := heap_setCell_same w g k cur e (.int .u8 x) hg
  refine ⟨⟨by simp [hl], hle, h.rd.max, fun a ha _ => (by cases ha; rfl), fun h => (by cases h), fun a ha j hj => ?_⟩, fun a ha => ?_⟩
  · cases ha
    rw [cell_of_row _ _ _ _ _ _ hg']
    simp only [List.length_set] at hj
    by_cases hjk : k = j
    · subst hjk
      simp only [Nat.zero_add, List.getElem_set_self]
      rw [Array.getElem?_setIfInBounds_self_of_lt (by omega), hx]
    · simp only [Nat.zero_add]
      rw [Array.getElem?_setIfInBounds_ne hjk, List.getElem_set_ne hjk]
      have := h.rd.byte hj
      rw [cell_of_row _ _ _ _ _ _ hg, Nat.zero_add] at this
      exact this
  · cases ha
    exact ⟨rfl, rfl, _, hg', by simpa using hc⟩
/-- the cell at k: there, and not frozen -/
theorem Ow.cellAt {e : TypeId} {w : World} {g n cap k : Nat} {bs : List UInt8} (h : Ow e w (some ⟨g, 0, none⟩) n cap bs) (hk : k < n) : (∃ v, w.cell? ⟨g, k, none⟩ = some v) ∧ w.frozen? ⟨g, k, none⟩ = false := by
  obtain ⟨_, _, cur, hg, hc⟩ := h.row _ rfl
  have hlt : k < cur.size := by have := h.rd.le; omega
  exact ⟨⟨cur[k], by rw [cell_of_row _ _ _ _ _ _ hg, Array.getElem?_eq_getElem hlt]⟩, frozen_of_row w g k cur e hg⟩
theorem Ow.head {e : TypeId} {w : World} {ao : Option Addr} {n cap : Nat} {bs : List UInt8} (h : Ow e w ao n cap bs) (hn : 0 < n) : ∃ g, ao = some ⟨g, 0, none⟩ := by
  obtain ⟨b, o, rfl⟩ := h.rd.addr hn
  obtain ⟨h0, _⟩ := h.row _ rfl
  simp at h0
  subst h0
  exact ⟨b, rfl⟩

set_option maxHeartbeats 1000000 in
set_option maxRecDepth 100000 in
theorem spoil_any (ao : Option Addr) (n cap : Nat) (bs : List UInt8) (c : UInt8) (x : Int) (hx : x = (c.toNat : Int)) (w : World) (ho : Ow 5 w ao n cap bs) (h47 : n + 1 ≤ 140737488355328) :
    Calls Try.prog 14 #[.slice ao n cap, .int .u8 x] w fun r w' => r = .returned (.tuple #[]) ∧ Fr (fun k => ∃ a, ao = some a ∧ a.block = k) w w' := by
  obtain ⟨i0, hi, hz, hs1, hb1⟩ := info_parts info_u8
  have HX := hid hx
  have hx0 : 0 ≤ x := by omega
  have hx1 : x ≤ 255 := by have := c.toNat_lt; omega
  clear hx
  go_enter Try.func14, Try.ntmps14
  go_wp2
  go_loopw [4] (fun i wr => ∃ k : Nat, k ≤ n ∧ i = .int .i64 (k : Int) ∧ (∃ bs', Ow 5 wr ao n cap bs') ∧ Fr (fun k => ∃ a, ao = some a ∧ a.block = k) w wr) (fun i _ => n - (intOf i).toNat)
  case atStart => exact ⟨0, Nat.zero_le _, rfl, ⟨bs, ho⟩, Fr.refl _ _⟩
  case round =>
    obtain ⟨k, hk, rfl, ⟨bs', ho'⟩, hf⟩ := hrel
    by_cases hlt : k < n
    · obtain ⟨g, rfl⟩ := ho'.head (by omega)
      obtain ⟨⟨v, hv⟩, hfz⟩ := ho'.cellAt hlt
      have R := ho'.set (b := c) (x := x) hlt HX.out
      have R2 := hf.setCell ⟨g, k, none⟩ (.int .u8 x) (.inl ⟨_, rfl, rfl⟩)
      go_wp2
      go_roundw
      case rel => exact ⟨k + 1, by omega, by go_num, ⟨_, R⟩, R2⟩
      case measure => simp [intOf]; omega
    · have hlen := ho'.rd.len
      go_wp2_with (at_builtin; refine wpList_app _ rfl _ _ 26 rfl 5 i0 Try.underlying26 hi hz hs1 hb1 ao (some ⟨wr.heap.size, 0, none⟩) n cap 1 1 bs' [c] rfl rfl (ho'.alloc _) (Rd.one wr c x HX.out) (by omega) ?_; intro ao2 cap2 w2 ho2 hf2 hn2 hnn2; obtain ⟨g2, hg2⟩ := ho2.head (by omega); subst hg2; obtain ⟨⟨v2, hv2⟩, hfz2⟩ := ho2.cellAt (k := n) (by omega))
      go_end0
      have hA : Fr (fun k => ∃ a, ao = some a ∧ a.block = k) w w2 := (hf.alloc _).trans hf2 fun _ _ h => h
      refine ⟨rfl, hA.setCell _ _ ?_⟩
      rcases hn2 _ rfl with h | h
      · exact .inl ⟨_, h, rfl⟩
      · right
        have := hf.size
        simp at h
        show w.heap.size ≤ g2
        omega

theorem set_mid {xs zs : List UInt8} {y v : UInt8} {k : Nat} (h : xs.length = k) : (xs ++ y :: zs).set k v = xs ++ v :: zs := by
  subst h
  induction xs with
  | nil => rfl
  | cons a r ih => simp [ih]
theorem zeros_cons {m k : Nat} (h : k < m) (v : UInt8) : List.replicate (m - k) v = v :: List.replicate (m - (k + 1)) v := by
  obtain ⟨d, rfl⟩ : ∃ d, m = k + 1 + d := ⟨m - (k + 1), by omega⟩
  rw [show k + 1 + d - k = d + 1 by omega, show k + 1 + d - (k + 1) = d by omega]
  rfl

set_option maxHeartbeats 1000000 in
set_option maxRecDepth 100000 in
theorem lent_any (so : Option Addr) (n c : Nat) (cs : List UInt8) (w : World) (hr : Rd w so n c cs) (h47 : n + 4 ≤ 140737488355328) :
    Calls Try.prog 12 #[.slice so n c] w fun r w' => ∃ g, r = .returned (.slice (some ⟨g, 0, none⟩) (n + 3) (n + 3)) ∧ Ow 5 w' (some ⟨g, 0, none⟩) (n + 3) (n + 3) (cs ++ [200, 200, 200]) ∧ Still w w' ∧ w.heap.size ≤ g := by
  have hlen := hr.len
  have hmk : ∀ W : World, (Instr.makeSlice 26 (.int .i64 ((n : Int) + 3)) (.int .i64 ((n : Int) + 3))).run Try.prog W = .ok (.slice (some ⟨W.heap.size, 0, none⟩) (n + 3) (n + 3)) (W.alloc (.cells (madeCells #[.int .u8 0] (n + 3)) 5)) := fun W =>
    run_make_row' (P := Try.prog) 26 5 (.int .u8 0) 1 Try.underlying26 info_u8 rfl .i64 .i64 (n + 3) (by omega) (by omega) W
  have hfresh : Ow 5 (w.alloc (.cells (madeCells #[.int .u8 0] (n + 3)) 5)) (some ⟨w.heap.size, 0, none⟩) (n + 3) (n + 3) (List.replicate (n + 3) 0) :=
    Ow.fresh w _ (n + 3) (n + 3) (List.replicate (n + 3) 0) (by simp) (Nat.le_refl _) (by unfold maxLen; omega) (by rw [size_madeCells]) (fun j hj => by
      simp at hj
      simp [madeCells, hj]
      rw [Nat.mod_one]; rfl)
  have HL := hid hlen
  clear hlen
  obtain ⟨CS, hCS⟩ : ∃ CS, CS = madeCells #[.int .u8 0] (n + 3) := ⟨_, rfl⟩
  rw [← hCS] at hfresh
  simp only [← hCS] at hmk
  clear hCS
  go_enter Try.func12, Try.ntmps12
  go_wp2
  go_loopw [4] (fun i wr => ∃ k : Nat, k ≤ n ∧ i = .int .i64 (k : Int) ∧ Ow 5 wr (some ⟨w.heap.size, 0, none⟩) (n + 3) (n + 3) (cs.take k ++ List.replicate (n + 3 - k) 0) ∧ Still w wr) (fun i _ => n - (intOf i).toNat)
  case atStart => exact ⟨0, Nat.zero_le _, rfl, by simpa using hfresh, Still.alloc w _⟩
  case round =>
    obtain ⟨k, hk, rfl, ho, hst⟩ := hrel
    by_cases hlt : k < n
    · have hkl : k < cs.length := by have := HL.out; omega
      obtain ⟨b, o, rfl⟩ := hr.addr (by omega)
      have hc := (hr.still hst).byte hkl
      obtain ⟨⟨v, hv⟩, hfz⟩ := ho.cellAt (k := k) (by omega)
      have R := ho.set (k := k) (b := cs[k]) (x := (cs[k].toNat : Int)) (by omega) rfl
      rw [zeros_cons (by omega), set_mid (by simp; omega)] at R
      have R2 := hst.setCell ⟨w.heap.size, k, none⟩ (.int .u8 (cs[k].toNat : Int)) (.inr (Nat.le_refl _))
      have HR : Hid (cs.take k ++ cs[k] :: List.replicate (n + 3 - (k + 1)) 0 = cs.take (k + 1) ++ List.replicate (n + 3 - (k + 1)) 0) := by
        show _ = _
        rw [List.take_succ_eq_append_getElem hkl, List.append_assoc]; rfl
      rw [HR.out] at R
      obtain ⟨x, hx⟩ : ∃ x, x = cs[k].toNat := ⟨_, rfl⟩
      rw [← hx] at hc R R2
      clear hx
      go_wp2
      go_roundw
      case rel => exact ⟨k + 1, by omega, by go_num, R, R2⟩
      case measure => simp [intOf]; omega
    · have hkn : k = n := by omega
      rw [hkn, List.take_of_length_le (by have := HL.out; omega), show n + 3 - n = 3 by omega] at ho
      clear hkn
      go_wp2
      go_loopw [5] (fun i wr => ∃ j : Nat, j ≤ 3 ∧ i = .int .i64 ((n : Int) + (j : Int)) ∧ Ow 5 wr (some ⟨w.heap.size, 0, none⟩) (n + 3) (n + 3) (cs ++ List.replicate j 200 ++ List.replicate (3 - j) 0) ∧ Still w wr) (fun i _ => n + 3 - (intOf i).toNat)
      case atStart => exact ⟨0, by omega, by simp, by simpa using ho, hst⟩
      case round =>
        obtain ⟨j, hj, rfl, ho2, hst2⟩ := hrel
        by_cases hlt2 : j < 3
        · obtain ⟨⟨v, hv⟩, hfz⟩ := ho2.cellAt (k := n + j) (by omega)
          have R := ho2.set (k := n + j) (b := 200) (x := 200) (by omega) rfl
          rw [zeros_cons hlt2, set_mid (by simp; exact HL.out)] at R
          have R2 := hst2.setCell ⟨w.heap.size, n + j, none⟩ (.int .u8 200) (.inr (Nat.le_refl _))
          have HR : Hid (cs ++ List.replicate j 200 ++ 200 :: List.replicate (3 - (j + 1)) 0 = cs ++ List.replicate (j + 1) 200 ++ List.replicate (3 - (j + 1)) 0) := by
            show _ = _
            rw [List.replicate_succ', List.append_assoc, List.append_assoc, List.append_assoc]; rfl
          rw [HR.out] at R
          go_wp2
          go_roundw
          case rel => exact ⟨j + 1, by omega, by go_num, R, R2⟩
          case measure => simp [intOf]; omega
        · have hj3 : j = 3 := by omega
          rw [hj3] at ho2
          clear hj3
          go_wp2
          go_ret
          exact ⟨w.heap.size, rfl, by simpa using ho2, hst2, Nat.le_refl _⟩
end Go.Proofs.Ythgjhfooodcfbaa
