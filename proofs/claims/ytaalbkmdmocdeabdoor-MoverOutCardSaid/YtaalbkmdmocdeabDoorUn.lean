/- The table of units; a way of the length 1; the direction that is nearest to a way. -/
import Derived.Test.YtaalbkmdmocdeabDoorPn
namespace Go.Proofs.YtaalbkmdmocdeabDoor
open Go.RowKit
open Pu Gp

/-- What the package-level table of the program holds. -/
structure Tab (w : World) : Prop where
  u : ∀ d, d < 16 → w.cell? ⟨0, d * 2, none⟩ = some (.int .i64 (ux d)) ∧ w.cell? ⟨0, d * 2 + 1, none⟩ = some (.int .i64 (uy d))
theorem Tab.still {w w' : World} (h : Tab w) (hs : Still w w') : Tab w' :=
  ⟨fun d hd => ⟨(hs.cell (World.block_lt_of_cell? w _ (h.u d hd).1) (fun e => e)).trans (h.u d hd).1, (hs.cell (World.block_lt_of_cell? w _ (h.u d hd).2) (fun e => e)).trans (h.u d hd).2⟩⟩
/-- what a number counts as -/
def dir (n : Int) : Nat := (n % 16).toNat
theorem dir_lt (n : Int) : dir n < 16 := by unfold dir; omega
theorem dir_mod (n : Int) : n % 16 = (dir n : Int) := by unfold dir; omega
theorem counted_nat (n : Int) (w : World) : Calls Tryd.prog 41 #[.int .i64 n] w fun e w' => e = .returned (.int .i64 (dir n : Int)) ∧ w' = w := by
  have h := counted_any n w
  rw [dir_mod] at h
  exact h
theorem unit_any (n : Int) (w : World) (ht : Tab w) : Calls Tryd.prog 45 #[.int .i64 n] w fun e w' => e = .returned (pt (ux (dir n)) (uy (dir n))) ∧ Still w w' := by
  have hd := dir_lt n
  obtain ⟨k0, k1⟩ := (ht.still (Still.alloc w (.cells #[.int .i64 0, .int .i64 0] 23))).u (dir n) hd
  have hi : ((dir n : Nat) : Int) < 16 := by omega
  go_enter Tryd.func45, Tryd.ntmps45
  go_wp2_with (go_at_call 41; refine (counted_nat _ _).mono ?_; rintro e w' ⟨he, hw⟩; rw [he, hw]; clear he hw w')
  (try simp only [Exit.inBlock, Exit.then])
  exact bodyPost_ret ((newP_pb w _ _).res rfl _ rfl) rfl ⟨rfl, Still.alloc w _⟩
/-- the least of the best ones below k -/
def hdF (g : Nat → Int) : Nat → Nat
  | 0 => 0
  | k + 1 => if g (hdF g k) < g k then k else hdF g k
theorem hdF_le (g : Nat → Int) : ∀ k, hdF g k ≤ k - 1
  | 0 => by simp [hdF]
  | k + 1 => by
    have := hdF_le g k
    unfold hdF
    split <;> omega
theorem hdF_best (g : Nat → Int) : ∀ k, Best g (k + 1) (hdF g (k + 1))
  | 0 => by
    have : hdF g 1 = 0 := by simp [hdF]
    rw [this]; exact Best.start g
  | k + 1 => by
    have h := hdF_best g k
    rw [show hdF g (k + 1 + 1) = if g (hdF g (k + 1)) < g (k + 1) then k + 1 else hdF g (k + 1) from rfl]
    by_cases hc : g (hdF g (k + 1)) < g (k + 1)
    · rw [if_pos hc]; exact h.more hc
    · rw [if_neg hc]; exact h.less hc
/-- the direction that is nearest to a way -/
def hd (x y : Int) : Nat := hdF (dot x y) 16
end Go.Proofs.YtaalbkmdmocdeabDoor
