/- Contracts: weights lent, and whether they are as they were lent. -/
import Derived.Test.YtbadpcdlhgbegaaDoorRq
import Derived.Laws.CopyRow
namespace Go.Proofs.YtbadpcdlhgbegaaDoor
open Go.RowKit

theorem set_end0 {cs : List Int} {n : Nat} {x y v : Int} (h : cs.length = n) : (cs ++ [x, y]).set n v = cs ++ [v, y] := set_midI h
theorem set_end1 {cs : List Int} {n : Nat} {x y v : Int} (h : cs.length = n) : (cs ++ [x, y]).set (n + 1) v = cs ++ [x, v] := by
  have := set_midI (xs := cs ++ [x]) (zs := []) (y := y) (v := v) (k := n + 1) (by simp [h])
  simpa using this
set_option maxHeartbeats 1000000 in
set_option maxRecDepth 100000 in
theorem lent_any (so : Option Addr) (n c : Nat) (cs : List Int) (w : World) (hr : RdI w so n c cs) (h44 : n + 2 ≤ 17592186044416) :
    Calls Tryd.prog 18 #[.slice so n c] w fun r w' => ∃ g, r = .returned (.slice (some ⟨g, 0, none⟩) n (n + 2)) ∧ OwI 3 w' (some ⟨g, 0, none⟩) (n + 2) (n + 2) (cs ++ [-77, -78]) ∧ Still w w' ∧ w.heap.size ≤ g := by
  have hlen := hr.len
  have hmk : ∀ W : World, (Instr.makeSlice 34 (.int .i64 ((n : Int) + 2)) (.int .i64 ((n : Int) + 2))).run Tryd.prog W = .ok (.slice (some ⟨W.heap.size, 0, none⟩) (n + 2) (n + 2)) (W.alloc (.cells (madeCells #[.int .i64 0] (n + 2)) 3)) := fun W => by
    have := run_make_row' (P := Tryd.prog) 34 3 (.int .i64 0) 8 Tryd.underlying34 info_int rfl .i64 .i64 (n + 2) (by omega) (by omega) W
    rw [Int.natCast_add] at this
    exact this
  have hfresh : OwI 3 (w.alloc (.cells (madeCells #[.int .i64 0] (n + 2)) 3)) (some ⟨w.heap.size, 0, none⟩) (n + 2) (n + 2) (List.replicate (n + 2) 0) :=
    OwI.fresh w _ (n + 2) (n + 2) (List.replicate (n + 2) 0) (by simp) (Nat.le_refl _) (by unfold maxLen; omega) (by rw [size_madeCells]) (fun j hj => by
      simp at hj
      simp [madeCells, hj]
      rw [Nat.mod_one]; rfl)
  obtain ⟨W1, hcp, ho1, hf1⟩ := copy_owI hfresh (hr.alloc _) (by omega)
  have hst1 : Still w W1 := Fr.trans (F := fun _ => False) (Still.alloc w _) hf1 fun k hk e => by omega
  rw [List.drop_replicate, show n + 2 - n = 2 by omega] at ho1
  have ho2 := ho1.set (k := n) (x := -77) (by omega)
  rw [show List.replicate 2 (0 : Int) = [0, 0] from rfl, set_end0 hlen] at ho2
  have ho3 := ho2.set (k := n + 1) (x := -78) (by omega)
  rw [set_end1 hlen] at ho3
  obtain ⟨⟨v1, hv1⟩, hz1⟩ := ho1.cellAt (k := n) (by omega)
  obtain ⟨⟨v2, hv2⟩, hz2⟩ := ho2.cellAt (k := n + 1) (by omega)
  have hst3 : Still w ((W1.setCell ⟨w.heap.size, n, none⟩ (.int .i64 (-77))).setCell ⟨w.heap.size, n + 1, none⟩ (.int .i64 (-78))) := (hst1.setCell _ _ (.inr (Nat.le_refl _))).setCell _ _ (.inr (Nat.le_refl _))
  have HR := hid (And.intro ho3 hst3)
  have hup := fun W => run_upto (P := Tryd.prog) W 34 3 (Classical.choose (info_parts info_int)) Tryd.underlying34 (Classical.choose_spec (info_parts info_int)).1 (Classical.choose_spec (info_parts info_int)).2.2.1 .i64 (some ⟨w.heap.size, 0, none⟩) (n + 2) (n + 2) (n : Int) (by omega) (by omega)
  obtain ⟨CS, hCS⟩ : ∃ CS, CS = madeCells #[.int .i64 0] (n + 2) := ⟨_, rfl⟩
  rw [← hCS] at hcp
  simp only [← hCS] at hmk
  clear hCS hlen hfresh hf1 hr ho1 ho2 ho3 hst1 hst3
  go_enter Tryd.func18, Tryd.ntmps18
  go_wp2
  go_ret
  exact ⟨w.heap.size, rfl, HR.out.1, HR.out.2, Nat.le_refl _⟩
set_option maxHeartbeats 1000000 in
set_option maxRecDepth 100000 in
theorem still_any (g : Nat) (so : Option Addr) (n c : Nat) (cs : List Int) (w : World) (hr : RdI w so n c cs) (hl : RdI w (some ⟨g, 0, none⟩) (n + 2) (n + 2) (cs ++ [-77, -78])) (h44 : n + 2 ≤ 17592186044416) :
    Calls Tryd.prog 21 #[.slice (some ⟨g, 0, none⟩) n (n + 2), .slice so n c] w fun r w' => r = .returned (.bool true) ∧ Still w w' := by
  have hlen := hr.len
  have hup := fun W => run_upto (P := Tryd.prog) W 34 3 (Classical.choose (info_parts info_int)) Tryd.underlying34 (Classical.choose_spec (info_parts info_int)).1 (Classical.choose_spec (info_parts info_int)).2.2.1 .i64 (some ⟨g, 0, none⟩) n (n + 2) ((n : Int) + 2) (by omega) (by omega)
  rw [show ((n : Int) + 2).toNat = n + 2 by omega] at hup
  have HUP := hid hup
  have HL := hid hlen
  clear hlen hup
  go_enter Tryd.func21, Tryd.ntmps21
  go_wp2
  go_loopw [5] (fun vi wr => ∃ i : Nat, i ≤ n ∧ vi = .int .i64 (i : Int) ∧ Still w wr) (fun vi _ => n - (intOf vi).toNat)
  case atStart => exact ⟨0, Nat.zero_le _, rfl, Fr.refl _ _⟩
  case round =>
    obtain ⟨i, hi, rfl, hs⟩ := hrel
    by_cases hlt : i < n
    · have hil : i < cs.length := by have := HL.out; omega
      obtain ⟨b, o, rfl⟩ := hr.addr (by omega)
      have c1 := (hr.still hs).byte hil
      have c2 := (hl.still hs).byte (k := i) (by simp; omega)
      rw [List.getElem_append_left hil, Nat.zero_add] at c2
      obtain ⟨x, ex⟩ : ∃ x, cs[i] = x := ⟨_, rfl⟩
      rw [ex] at c1 c2
      have HS := hid hs
      clear ex hil hs hr hl
      go_wp2_with fail
      go_quiet (fail)
      go_wp2_with fail
      go_roundw
      case rel => exact ⟨i + 1, by omega, by go_num, HS.out.drewN _⟩
      case measure => simp [intOf]; omega
    · have hl2 := hl.still hs
      have c1 := hl2.byte (k := n) (by simp; have := HL.out; omega)
      have c2 := hl2.byte (k := n + 1) (by simp; have := HL.out; omega)
      rw [List.getElem_append_right (by have := HL.out; omega), Nat.zero_add] at c1 c2
      have e1 : ([-77, -78] : List Int)[n - cs.length]'(by have := HL.out; simp; omega) = -77 := by
        have := HL.out
        simp [show n - cs.length = 0 by omega]
      have e2 : ([-77, -78] : List Int)[n + 1 - cs.length]'(by have := HL.out; simp; omega) = -78 := by
        have := HL.out
        simp [show n + 1 - cs.length = 1 by omega]
      rw [e1] at c1
      rw [e2] at c2
      have hup := HUP.out wr
      have HS := hid hs
      clear hs hr hl hl2 e1 e2
      go_wp2
      go_ret
      exact ⟨rfl, HS.out⟩
end Go.Proofs.YtbadpcdlhgbegaaDoor
