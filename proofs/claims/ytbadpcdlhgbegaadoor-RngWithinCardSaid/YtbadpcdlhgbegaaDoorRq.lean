/- Contract: an order, the document's answer. -/
import Derived.Test.YtbadpcdlhgbegaaDoorRo
import Derived.KernelRfl
namespace Go.Proofs.YtbadpcdlhgbegaaDoor
open Go.RowKit

theorem OwI.one (e : TypeId) (wr : World) (x : Int) : OwI e (wr.alloc (.cells #[.int .i64 x] e)) (some ⟨wr.heap.size, 0, none⟩) 1 1 [x] :=
  OwI.fresh wr _ 1 1 [x] rfl (Nat.le_refl _) (by unfold maxLen; omega) rfl (fun j hj => by
    simp at hj
    subst hj
    rfl)
/-- what is appended to new memory is new memory -/
theorem still_appI {w wr w1 : World} {o : Obj} {ao ao' : Option Addr} (hs : Still w wr) (ha : ∀ a, ao = some a → w.heap.size ≤ a.block) (hf : Fr (fun k => ∃ a, ao = some a ∧ a.block = k) (wr.alloc o) w1)
    (hn : ∀ a, ao' = some a → ao = some a ∨ (wr.alloc o).heap.size ≤ a.block) : Still w w1 ∧ ∀ a, ao' = some a → w.heap.size ≤ a.block := by
  refine ⟨Fr.trans (Fr.alloc hs o) hf ?_, fun a h => ?_⟩
  · rintro k hk ⟨a, h1, rfl⟩
    have := ha a h1
    omega
  · rcases hn a h with h1 | h1
    · exact ha a h1
    · have := hs.size
      simp at h1
      omega
theorem rest_ord (N : Int) (i : Nat) (h64 : i ≤ 64) : wrap64 ((chainI N (i : Int)).tmod ((i : Int) + 1)) = ((ordF N i : Nat) : Int) := by
  have h := mod_in (n := chainI N (i : Int)) (m := (i : Int) + 1) (chain_in _ _).1 (by omega)
  rw [Int.tmod_eq_emod_of_nonneg (chain_in _ _).1]
  unfold ordF
  rw [Int.toNat_of_nonneg h.1]
  unfold wrap64
  omega
/-- the one at i, and then the other one -/
theorem OwI.twoR {e : TypeId} {w : World} {g n cap i j : Nat} {l : List Int} (h : OwI e w (some ⟨g, 0, none⟩) n cap l) (hi : i < n) (hj : j < n) :
    ∃ a b : Int, w.cell? ⟨g, i, none⟩ = some (.int .i64 a) ∧ w.cell? ⟨g, j, none⟩ = some (.int .i64 b) ∧ w.frozen? ⟨g, i, none⟩ = false ∧
      (∃ v, (w.setCell ⟨g, i, none⟩ (.int .i64 b)).cell? ⟨g, j, none⟩ = some v) ∧ (w.setCell ⟨g, i, none⟩ (.int .i64 b)).frozen? ⟨g, j, none⟩ = false ∧
      OwI e ((w.setCell ⟨g, i, none⟩ (.int .i64 b)).setCell ⟨g, j, none⟩ (.int .i64 a)) (some ⟨g, 0, none⟩) n cap (Rg.swap l i j) := by
  have hl := h.rd.len
  have h1 := h.set (x := l[j]'(by omega)) hi
  have h2 := h1.set (x := l[i]'(by omega)) hj
  rw [swap_is (by omega) (by omega)] at h2
  have c1 := h.rd.byte (k := i) (by omega)
  have c2 := h.rd.byte (k := j) (by omega)
  rw [Nat.zero_add] at c1 c2
  exact ⟨_, _, c1, c2, (h.cellAt hi).2, (h1.cellAt hj).1, (h1.cellAt hj).2, h2⟩
set_option maxHeartbeats 2000000 in
set_option maxRecDepth 100000 in
theorem rorder_some (s f u : Int) (n : Nat) (h64 : n ≤ 64) (w : World) :
    Calls Tryd.prog 23 #[.int .u64 s, .int .i64 f, .int .i64 u, .int .i64 (n : Int)] w fun e w' => ∃ ao cap, e = .returned (.tuple #[.slice ao n cap, .int .i64 0]) ∧ OwI 3 w' ao n cap (ordL (atI s f u) n) ∧ Still w w' ∧ ∀ a, ao = some a → w.heap.size ≤ a.block := by
  obtain ⟨i0, hi, hz, hz1, hz2⟩ := info_parts info_int
  have HAT := hid fun w => rat_any s f u w
  generalize atI s f u = N at HAT ⊢
  go_enter Tryd.func23, Tryd.ntmps23
  go_wp2
  go_loopw [10, 11] (fun vl vi wr => ∃ (k : Nat) (ao : Option Addr) (cap : Nat), k ≤ n ∧ vl = .slice ao k cap ∧ vi = .int .i64 (k : Int) ∧ OwI 3 wr ao k cap (Rg.upTo k) ∧ Still w wr ∧ ∀ a, ao = some a → w.heap.size ≤ a.block) (fun _ vi _ => n - (intOf vi).toNat)
  case atStart => exact ⟨0, none, 0, Nat.zero_le _, rfl, rfl, OwI.empty _ _, Fr.refl _ _, fun _ h => by cases h⟩
  case round =>
    obtain ⟨k, ao, cap, hk, rfl, rfl, ho, hst, hao⟩ := hrel
    by_cases hlt : k < n
    · go_wp2_with (at_builtin; refine wpList_appI _ rfl _ _ 34 rfl 3 i0 Tryd.underlying34 hi hz hz1 hz2 ao (some ⟨wr.heap.size, 0, none⟩) k cap 1 1 (Rg.upTo k) [(k : Int)] rfl rfl (ho.alloc _) (OwI.one _ wr _).rd (by omega) ?_; intro ao' cap' w1 ho' hf' hn' _)
      obtain ⟨hst', hao'⟩ := still_appI hst hao hf' hn'
      go_roundw
      case rel => exact ⟨k + 1, ao', cap', by omega, by go_num, by go_num, ho', hst', hao'⟩
      case measure => simp [intOf]; omega
    · have hkn : k = n := by omega
      subst hkn
      clear hi hz hz1 hz2
      have HAO := hid hao
      clear hao
      go_wp2_with fail
      refine (HAT.out _).mono ?_
      rintro e w1 ⟨rfl, rfl⟩
      go_wp2_with fail
      go_loopw [13] (fun vi wr => ∃ (x : Int) (l : List Int), vi = .int .i64 x ∧ -1 ≤ x ∧ x < k ∧ OwI 3 wr ao k cap l ∧ Hid (Rg.turns (ordF N) x.toNat l = ordL N k) ∧ Still w wr) (fun vi _ => (intOf vi).toNat)
      case atStart => exact ⟨_, _, rfl, by omega, by omega, ho, hid (by unfold ordL; rw [show ((k : Int) - 1).toNat = k - 1 by omega]), hst⟩
      case round =>
        obtain ⟨x, l, rfl, hx0, hx1, ho2, HT, hs⟩ := hrel
        clear ho hst
        by_cases h1 : 1 ≤ x
        · obtain ⟨i, rfl⟩ : ∃ i : Nat, x = (i : Int) := ⟨x.toNat, by omega⟩
          rw [Int.toNat_natCast] at HT
          have hi1 : 1 ≤ i := by omega
          have HS := hid (turns_step hi1 HT.out)
          have hj := ordF_le N i
          have HRO := hid (rest_ord N i (by omega))
          obtain ⟨g, rfl⟩ := ho2.head (by omega)
          have hg : w.heap.size ≤ g := HAO.out _ rfl
          obtain ⟨j, ej⟩ : ∃ j, ordF N i = j := ⟨_, rfl⟩
          rw [ej] at HS hj HRO
          clear ej
          obtain ⟨a, b, c1, c2, f1, ⟨v3, c3⟩, f3, R⟩ := ho2.twoR (i := i) (j := j) (by omega) (by omega)
          have R2 : Still w ((wr.setCell ⟨g, i, none⟩ (.int .i64 b)).setCell ⟨g, j, none⟩ (.int .i64 a)) := ((hs.setCell _ _ (.inr hg)).setCell _ _ (.inr hg))
          have HR := hid (And.intro R R2)
          have hz : ¬ (i : Int) + 1 = 0 := by omega
          have hjk : j < k := by omega
          clear R R2 hs hg ho2 HT hj
          go_wp2_with fail
          refine (rchain_any _ _ (by omega) (by omega) _).mono ?_
          rintro e w2 ⟨rfl, rfl⟩
          obtain ⟨y, ey⟩ : ∃ y, chainI N (i : Int) = y := ⟨_, rfl⟩
          rw [ey] at HRO ⊢
          clear ey
          have hro : wrap64 (y.tmod ((i : Int) + 1)) = (j : Int) := HRO.out
          clear HRO
          go_wp2
          go_roundw
          case rel => exact ⟨(i : Int) - 1, _, by go_num, by omega, by omega, HR.out.1, hid (by rw [show ((i : Int) - 1).toNat = i - 1 by omega]; exact HS.out), HR.out.2⟩
          case measure => simp [intOf]; omega
        · have e0 : x.toNat = 0 := by omega
          rw [e0] at HT
          have hL : l = ordL N k := HT.out
          rw [hL] at ho2
          have HO := hid (And.intro ho2 hs)
          clear ho2 hs hL HT
          go_wp2
          go_ret2
          exact ⟨_, _, rfl, HO.out.1, HO.out.2, HAO.out⟩
end Go.Proofs.YtbadpcdlhgbegaaDoor
