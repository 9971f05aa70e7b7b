/- A ray: the document's answer. -/
import Derived.Test.YtaalbkmdmocdeaaDoorSl
namespace Go.Proofs.YtaalbkmdmocdeaaDoor
open Go.RowKit
open Pu Gp Ap

/-- where a ray is at its j-th step of n -/
def rp (X p : Int) (n j : Nat) : Int := if j = 0 then X else addf X ((p * (j : Int)).tdiv (n : Int))
def rayN (p q : Int) : Nat := (max p.natAbs q.natAbs + 63) / 64
def rayT (sol : Int → Int → Bool) (X Y p q : Int) (n j : Nat) : Bool := sol (dn (rp X p n j)) (dn (rp Y q n j))
theorem tdiv_in {v : Int} {n : Nat} (h0 : -67584 ≤ v) (h1 : v ≤ 67584) : -67584 ≤ v.tdiv (n : Int) ∧ v.tdiv (n : Int) ≤ 67584 := by
  rcases Int.le_total 0 v with h | h
  · rw [Int.tdiv_eq_ediv_of_nonneg h]
    have a : 0 ≤ v / (n : Int) := Int.ediv_nonneg h (by omega)
    have b : v / (n : Int) ≤ v := Int.ediv_le_self _ h
    omega
  · have e : v.tdiv (n : Int) = -((-v) / (n : Int)) := by
      rw [← Int.tdiv_eq_ediv_of_nonneg (show 0 ≤ -v by omega), Int.neg_tdiv]; omega
    have a : 0 ≤ (-v) / (n : Int) := Int.ediv_nonneg (by omega) (by omega)
    have b : (-v) / (n : Int) ≤ -v := Int.ediv_le_self _ (by omega)
    omega
theorem wrap_t {v : Int} (h0 : -67584 ≤ v) (h1 : v ≤ 67584) : IntKind.i64.wrap v = v := by rw [IntKind.wrap_i64]; omega
theorem step_mul {p : Int} {k : Nat} (h0 : -2048 ≤ p) (h1 : p ≤ 2048) (hk : k ≤ 33) : -67584 ≤ p * (k : Int) ∧ p * (k : Int) ≤ 67584 := by
  have : (p * (k : Int)).natAbs ≤ 2048 * 33 := by rw [Int.natAbs_mul]; exact Nat.mul_le_mul (by omega) (by omega)
  omega
end Go.Proofs.YtaalbkmdmocdeaaDoor
