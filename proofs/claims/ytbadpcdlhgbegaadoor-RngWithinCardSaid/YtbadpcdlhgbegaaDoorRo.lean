/- Contracts: an order. -/
import Derived.Test.YtbadpcdlhgbegaaDoorRl
import Derived.Deep.OwnRows
import Derived.BigRegion
namespace Go.Proofs.YtbadpcdlhgbegaaDoor
open Go.RowKit

/-- with which place the one at i changes -/
def ordF (N : Int) (i : Nat) : Nat := (chainI N (i : Int) % ((i : Int) + 1)).toNat
theorem ordF_le (N : Int) (i : Nat) : ordF N i ≤ i := by
  have := mod_in (n := chainI N (i : Int)) (m := (i : Int) + 1) (chain_in _ _).1 (by omega)
  unfold ordF
  omega
/-- the order -/
def ordL (N : Int) (n : Nat) : List Int := Rg.turns (ordF N) (n - 1) (Rg.upTo n)
theorem ordL_length (N : Int) (n : Nat) : (ordL N n).length = n := by unfold ordL; rw [Rg.turns_length, Rg.upTo_length]
theorem ordL_count (N : Int) (n m : Nat) : (ordL N n).count (m : Int) = if m < n then 1 else 0 := by
  unfold ordL
  cases n with
  | zero => simp [Rg.turns, Rg.upTo]
  | succ n =>
    rw [Rg.turns_count _ _ _ _ (by rw [Rg.upTo_length]; omega) (fun k _ => ordF_le N k), Rg.upTo_count]
theorem OwI.head {e : TypeId} {w : World} {ao : Option Addr} {n cap : Nat} {bs : List Int} (h : OwI e w ao n cap bs) (hn : 0 < n) : ∃ g, ao = some ⟨g, 0, none⟩ := by
  obtain ⟨b, o, rfl⟩ := h.rd.addr hn
  obtain ⟨h0, _⟩ := h.row _ rfl
  simp at h0
  subst h0
  exact ⟨b, rfl⟩
theorem set_midI {xs zs : List Int} {y v : Int} {k : Nat} (h : xs.length = k) : (xs ++ y :: zs).set k v = xs ++ v :: zs := by
  subst h
  induction xs with
  | nil => rfl
  | cons a r ih => simp [ih]
theorem zeros_consI {m k : Nat} (h : k < m) (v : Int) : List.replicate (m - k) v = v :: List.replicate (m - (k + 1)) v := by
  obtain ⟨d, rfl⟩ : ∃ d, m = k + 1 + d := ⟨m - (k + 1), by omega⟩
  rw [show k + 1 + d - k = d + 1 by omega, show k + 1 + d - (k + 1) = d by omega]
  rfl
theorem fill_step {n k : Nat} (h : k < n) : (Rg.upTo k ++ List.replicate (n - k) 0).set k (k : Int) = Rg.upTo (k + 1) ++ List.replicate (n - (k + 1)) 0 := by
  rw [zeros_consI h, set_midI (Rg.upTo_length k)]
  simp [Rg.upTo]
theorem swap_is {l : List Int} {i j : Nat} (hi : i < l.length) (hj : j < l.length) : (l.set i l[j]).set j l[i] = Rg.swap l i j := by
  simp [Rg.swap, List.getD, hi, hj]
theorem turns_step {f : Nat → Nat} {i : Nat} {l r : List Int} (hi : 1 ≤ i) (h : Rg.turns f i l = r) : Rg.turns f (i - 1) (Rg.swap l i (f i)) = r := by
  obtain ⟨m, rfl⟩ : ∃ m, i = m + 1 := ⟨i - 1, by omega⟩
  exact h
/-- the two cells that change places -/
theorem OwI.two {e : TypeId} {w : World} {g n i j : Nat} {l : List Int} (h : OwI e w (some ⟨g, 0, none⟩) n n l) (hi : i < n) (hj : j < n) :
    ∃ a b : Int, w.cell? ⟨g, i, none⟩ = some (.int .i64 a) ∧ w.cell? ⟨g, j, none⟩ = some (.int .i64 b) ∧ w.frozen? ⟨g, i, none⟩ = false ∧ w.frozen? ⟨g, j, none⟩ = false ∧
      (∃ v, (w.setCell ⟨g, i, none⟩ (.int .i64 b)).cell? ⟨g, j, none⟩ = some v) ∧ (w.setCell ⟨g, i, none⟩ (.int .i64 b)).frozen? ⟨g, j, none⟩ = false ∧
      OwI e ((w.setCell ⟨g, i, none⟩ (.int .i64 b)).setCell ⟨g, j, none⟩ (.int .i64 a)) (some ⟨g, 0, none⟩) n n (Rg.swap l i j) := by
  have hl := h.rd.len
  have h1 := h.set (x := l[j]'(by omega)) hi
  have h2 := h1.set (x := l[i]'(by omega)) hj
  rw [swap_is (by omega) (by omega)] at h2
  have c1 := h.rd.byte (k := i) (by omega)
  have c2 := h.rd.byte (k := j) (by omega)
  rw [Nat.zero_add] at c1 c2
  exact ⟨_, _, c1, c2, (h.cellAt hi).2, (h.cellAt hj).2, (h1.cellAt hj).1, (h1.cellAt hj).2, h2⟩
set_option maxRecDepth 100000 in
theorem takeAt_any (N i : Int) (nb : Nat) (w : World) (hc : w.cell? ⟨nb, 0, none⟩ = some (.int .u64 N)) (ht : Tab w) :
    Calls Tryd.prog 33 #[.int .i64 i, .pointer (some ⟨nb, 0, none⟩)] w fun e w' => ∃ v, e = .returned v ∧ Tk w' v (chainI N (IntKind.u64.wrap i)) ∧ Still w w' := by
  go_enter Tryd.func33, Tryd.ntmps33
  go_wp2_with fail
  refine (chain_still _ _ _ ht).mono ?_
  rintro e w1 ⟨rfl, h1⟩
  go_wp2_with fail
  refine (takes_any _ w1).mono ?_
  rintro e w2 ⟨v, rfl, hv, h2⟩
  go_wp2_with fail
  go_ret
  exact ⟨v, rfl, hv, h1.trans h2⟩
theorem within_ord (N : Int) (i : Nat) (h64 : i ≤ 64) (v : Value) (w : World) (ht : Tk w v (chainI N (IntKind.u64.wrap (i : Int)))) :
    Calls Tryd.prog 24 #[.int .i64 0, .int .i64 (i : Int), v] w fun e w' => e = .returned (.int .i64 ((ordF N i : Nat) : Int)) ∧ w' = w := by
  have hw : IntKind.u64.wrap (i : Int) = (i : Int) := by rw [IntKind.wrap_u64]; omega
  rw [hw] at ht
  refine (within_any 0 (i : Int) _ v (by omega) (by omega) (by omega) (by omega) (chain_in _ _).1 w ht).mono ?_
  rintro e w' ⟨rfl, rfl⟩
  refine ⟨?_, rfl⟩
  have := mod_in (n := chainI N (i : Int)) (m := (i : Int) + 1) (chain_in _ _).1 (by omega)
  unfold ordF
  rw [Int.toNat_of_nonneg this.1]
  simp
end Go.Proofs.YtbadpcdlhgbegaaDoor
