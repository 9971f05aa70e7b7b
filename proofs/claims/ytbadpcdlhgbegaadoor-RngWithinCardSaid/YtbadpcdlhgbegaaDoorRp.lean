/- Contract: the numbers below n, mixed. -/
import Derived.Test.YtbadpcdlhgbegaaDoorRo
namespace Go.Proofs.YtbadpcdlhgbegaaDoor
open Go.RowKit

set_option maxHeartbeats 2000000 in
set_option maxRecDepth 100000 in
theorem mixed_any (N : Int) (n nb : Nat) (h64 : n ≤ 64) (w : World) (hc : w.cell? ⟨nb, 0, none⟩ = some (.int .u64 N)) (ht : Tab w) :
    Calls Tryd.prog 32 #[.int .i64 (n : Int), .func (.func 33) #[] #[.pointer (some ⟨nb, 0, none⟩)]] w fun e w' => ∃ g, e = .returned (.slice (some ⟨g, 0, none⟩) n n) ∧ OwI 3 w' (some ⟨g, 0, none⟩) n n (ordL N n) ∧ Still w w' ∧ w.heap.size ≤ g := by
  have hmk : ∀ W : World, (Instr.makeSlice 34 (.int .i64 (n : Int)) (.int .i64 (n : Int))).run Tryd.prog W = .ok (.slice (some ⟨W.heap.size, 0, none⟩) n n) (W.alloc (.cells (madeCells #[.int .i64 0] n) 3)) := fun W =>
    run_make_row' (P := Tryd.prog) 34 3 (.int .i64 0) 8 Tryd.underlying34 info_int rfl .i64 .i64 n (by omega) (by omega) W
  have hfresh : OwI 3 (w.alloc (.cells (madeCells #[.int .i64 0] n) 3)) (some ⟨w.heap.size, 0, none⟩) n n (List.replicate n 0) :=
    OwI.fresh w _ n n (List.replicate n 0) (by simp) (Nat.le_refl _) (by unfold maxLen; omega) (by rw [size_madeCells]) (fun j hj => by
      simp at hj
      simp [madeCells, hj]
      rw [Nat.mod_one]; rfl)
  have hst0 : Still w (w.alloc (.cells (madeCells #[.int .i64 0] n) 3)) := Still.alloc w _
  obtain ⟨CS, hCS⟩ : ∃ CS, CS = madeCells #[.int .i64 0] n := ⟨_, rfl⟩
  rw [← hCS] at hfresh hst0
  simp only [← hCS] at hmk
  clear hCS
  go_enter Tryd.func32, Tryd.ntmps32
  go_wp2
  go_loopw [13] (fun vi wr => ∃ k : Nat, k ≤ n ∧ vi = .int .i64 (k : Int) ∧ OwI 3 wr (some ⟨w.heap.size, 0, none⟩) n n (Rg.upTo k ++ List.replicate (n - k) 0) ∧ Still w wr) (fun vi _ => n - (intOf vi).toNat)
  case atStart => exact ⟨0, Nat.zero_le _, rfl, by simpa [Rg.upTo] using hfresh, hst0⟩
  case round =>
    obtain ⟨k, hk, rfl, ho, hst⟩ := hrel
    by_cases hlt : k < n
    · obtain ⟨⟨v, hv⟩, hfz⟩ := ho.cellAt hlt
      have R := ho.set (x := (k : Int)) hlt
      rw [fill_step hlt] at R
      have R2 := hst.setCell ⟨w.heap.size, k, none⟩ (.int .i64 (k : Int)) (.inr (Nat.le_refl _))
      have HR := hid (And.intro R R2)
      clear hmk ho hst R R2 hfresh hst0 hc
      go_wp2
      go_roundw
      case rel => exact ⟨k + 1, by omega, by go_num, HR.out.1, HR.out.2⟩
      case measure => simp [intOf]; omega
    · have hkn : k = n := by omega
      subst hkn
      have ho1 : OwI 3 wr (some ⟨w.heap.size, 0, none⟩) k k (Rg.upTo k) := by simpa using ho
      clear ho hmk hfresh hst0
      have hs0 := hst.size
      go_wp2_with fail
      go_loopw [7] (fun vi wr => ∃ (x : Int) (l : List Int), vi = .int .i64 x ∧ -1 ≤ x ∧ x < k ∧ OwI 3 wr (some ⟨w.heap.size, 0, none⟩) k k l ∧ Hid (Rg.turns (ordF N) x.toNat l = ordL N k) ∧ Still w wr) (fun vi _ => (intOf vi).toNat)
      case atStart => exact ⟨_, _, rfl, by omega, by omega, ho1, hid (by unfold ordL; rw [show ((k : Int) - 1).toNat = k - 1 by omega]), hst⟩
      case round =>
        obtain ⟨x, l, rfl, hx0, hx1, ho, HT, hs⟩ := hrel
        clear ho1 hst hs0
        by_cases h1 : 1 ≤ x
        · obtain ⟨i, rfl⟩ : ∃ i : Nat, x = (i : Int) := ⟨x.toNat, by omega⟩
          rw [Int.toNat_natCast] at HT
          have hi1 : 1 ≤ i := by omega
          have HS := hid (turns_step hi1 HT.out)
          have hc1 := cell_on hs hc (fun e => e)
          have HA := hid (takeAt_any N (i : Int) nb _ hc1 (ht.still hs))
          have HW := hid fun v w1 h1 => within_ord N i (by omega) v w1 h1
          have hj := ordF_le N i
          obtain ⟨j, ej⟩ : ∃ j, ordF N i = j := ⟨_, rfl⟩
          rw [ej] at HW HS hj
          clear ej
          have hjk : j < k := by omega
          have HO := hid (And.intro ho (And.intro hs hc))
          clear ho hs hc hc1 HT
          go_wp2_with fail
          refine HA.out.mono ?_
          rintro e w1 ⟨v, rfl, hv, h1⟩
          go_wp2_with fail
          refine (HW.out v w1 hv).mono ?_
          rintro e w2 ⟨rfl, rfl⟩
          obtain ⟨ho, hs, hc⟩ := HO.out
          obtain ⟨a, b, c1, c2, f1, f2, ⟨v3, c3⟩, f3, R⟩ := (ho.still h1).two (i := i) (j := j) (by omega) (by omega)
          have R2 : Still w (((w2.setCell ⟨w.heap.size, i, none⟩ (.int .i64 b)).setCell ⟨w.heap.size, j, none⟩ (.int .i64 a)).drew) := (((hs.trans h1).setCell _ _ (.inr (Nat.le_refl _))).setCell _ _ (.inr (Nat.le_refl _))).drew
          have HR := hid (And.intro (R.still ((Fr.refl _ _).drew)) R2)
          clear R R2 ho hs hc HA HW HO hv h1 hj
          go_wp2_with fail
          go_region
          go_wp2_with fail
          go_roundw
          case rel => exact ⟨(i : Int) - 1, _, by go_num, by omega, by omega, HR.out.1, hid (by rw [show ((i : Int) - 1).toNat = i - 1 by omega]; exact HS.out), HR.out.2⟩
          case measure => simp [intOf]; omega
        · have e0 : x.toNat = 0 := by omega
          rw [e0] at HT
          have hL : l = ordL N k := HT.out
          rw [hL] at ho
          have HO := hid (And.intro ho hs)
          clear ho hs hL HT hc
          go_wp2
          go_ret
          exact ⟨_, rfl, HO.out.1, HO.out.2, Nat.le_refl _⟩
end Go.Proofs.YtbadpcdlhgbegaaDoor
