/- Parts of the proof, laid end to end. -/
import Derived.Test.YthcjckgmdokmdaaGreatDoorProg
import Derived.WalkKit
import Derived.WalkLawsBesides
import Derived.Lib.Hide
import Derived.Laws.BitsLemmas
set_option maxRecDepth 100000
namespace Go.Proofs.YthcjckgmdokmdaaGreatDoor.Pu
def bnd (n : Int) : Int := if n < -2147483647 then -2147483647 else if 2147483647 < n then 2147483647 else n
theorem bnd_id {n : Int} (h : -2147483647 <= n) (h2 : n <= 2147483647) : bnd n = n := by unfold bnd; rw [if_neg (by omega), if_neg (by omega)]
theorem bnd_above {n : Int} (h : 2147483647 <= n) : bnd n = 2147483647 := by
 unfold bnd; repeat' split
 all_goals omega
theorem bnd_below {n : Int} (h : n <= -2147483647) : bnd n = -2147483647 := by
 unfold bnd; repeat' split
 all_goals omega
def rnd (n d : Int) : Int := if n < 0 then -((-n + d / 2) / d) else (n + d / 2) / d
def addf (a b : Int) : Int := bnd (bnd a + bnd b)
def subf (a b : Int) : Int := bnd (bnd a - bnd b)
def mulf (a b : Int) : Int := bnd (rnd (bnd a * bnd b) 256)
def off (x : Int) : Int := bnd (bnd x * 256)
def clampf (x l m : Int) : Int := if bnd m < (if bnd x < bnd l then bnd l else bnd x) then bnd m else (if bnd x < bnd l then bnd l else bnd x)
def isqF : Nat -> Int -> Int -> Int
 | 0, r, _ => r
 | k + 1, r, N => if (r + 2 ^ k) * (r + 2 ^ k) <= N then isqF k (r + 2 ^ k) N else isqF k r N
/-! ### What the laws ask -/
end Go.Proofs.YthcjckgmdokmdaaGreatDoor.Pu
namespace Go.Proofs.YthcjckgmdokmdaaGreatDoor.Gp
open Pu
/-! ### Lengths -/
def sq2 (x y : Int) : Int := x * x + y * y
def isqL (n : Int) : Int := isqF 32 0 n
def far (x y : Int) : Int := isqL (sq2 x y)
/-! ### Caps -/
def part (x m k : Int) : Int := (x * m).tdiv k
/-! ### Directions -/
def unitX : List Int := [256, 237, 181, 98, 0, -98, -181, -237, -256, -237, -181, -98, 0, 98, 181, 237]
def unitY : List Int := [0, 98, 181, 237, 256, 237, 181, 98, 0, -98, -181, -237, -256, -237, -181, -98]
def ux (d : Nat) : Int := unitX.getD d 0
def uy (d : Nat) : Int := unitY.getD d 0
def dot (x y : Int) (d : Nat) : Int := x * ux d + y * uy d
/-! ### Boxes: the four numbers -/
end Go.Proofs.YthcjckgmdokmdaaGreatDoor.Gp
namespace Go.Proofs.YthcjckgmdokmdaaGreatDoor
open Go.RowKit
open Pu
theorem ret_int {k : IntKind} {a b : Int} (h : a = b) : Ending.returned (.int k a) = .returned (.int k b) := by rw [h]
theorem bound_any (n : Int) (w : World) : Calls Tryz.prog 206 #[.int .i64 n] w fun e w' => e = .returned (.int .i64 (bnd n)) /\ w' = w := by
 have h3 : n < -2147483647 \/ (-2147483647 <= n /\ n <= 2147483647) \/ 2147483647 < n := by omega
 rcases h3 with h | ⟨h, h'⟩ | h
 ·have e : bnd n = -2147483647 := bnd_below (by omega)
  rw [e]; clear e
  go_enter Tryz.func206, Tryz.ntmps206
  go_wp2
  go_ret
  exact ⟨rfl, rfl⟩
 ·have e : bnd n = n := bnd_id h h'
  rw [e]; clear e
  go_enter Tryz.func206, Tryz.ntmps206
  go_wp2
  go_ret
  exact ⟨rfl, rfl⟩
 ·have e : bnd n = 2147483647 := bnd_above (by omega)
  rw [e]; clear e
  go_enter Tryz.func206, Tryz.ntmps206
  go_wp2
  go_ret
  exact ⟨rfl, rfl⟩
theorem rbound_any (n : Int) (w : World) : Calls Tryz.prog 109 #[.int .i64 n] w fun e w' => e = .returned (.int .i64 (bnd n)) /\ w' = w := by
 have h3 : n < -2147483647 \/ (-2147483647 <= n /\ n <= 2147483647) \/ 2147483647 < n := by omega
 rcases h3 with h | ⟨h, h'⟩ | h
 ·have e : bnd n = -2147483647 := bnd_below (by omega)
  rw [e]; clear e
  have h2 : ¬ 2147483647 < n := by omega
  go_enter Tryz.func109, Tryz.ntmps109
  go_wp2
  go_ret
  exact ⟨rfl, rfl⟩
 ·have e : bnd n = n := bnd_id h h'
  rw [e]; clear e
  go_enter Tryz.func109, Tryz.ntmps109
  go_wp2
  go_ret
  exact ⟨rfl, rfl⟩
 ·have e : bnd n = 2147483647 := bnd_above (by omega)
  rw [e]; clear e
  go_enter Tryz.func109, Tryz.ntmps109
  go_wp2
  go_ret
  exact ⟨rfl, rfl⟩
end Go.Proofs.YthcjckgmdokmdaaGreatDoor
namespace Go.Proofs.YthcjckgmdokmdaaGreatDoor
open Go.RowKit
open Pu Gp
end Go.Proofs.YthcjckgmdokmdaaGreatDoor
