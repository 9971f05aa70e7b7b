/- The table of units; a way of the length 1; the direction that is nearest to a way. -/
import Derived.Test.YtaalbkmdmocdeaaDoorPn
namespace Go.Proofs.YtaalbkmdmocdeaaDoor
open Go.RowKit
open Pu Gp

/-- What the package-level table of the program holds. -/
structure Tab (w : World) : Prop where
  u : ∀ d, d < 16 → w.cell? ⟨5, d * 2, none⟩ = some (.int .i64 (ux d)) ∧ w.cell? ⟨5, d * 2 + 1, none⟩ = some (.int .i64 (uy d))
theorem Tab.still {w w' : World} (h : Tab w) (hs : Still w w') : Tab w' :=
  ⟨fun d hd => ⟨(hs.cell (World.block_lt_of_cell? w _ (h.u d hd).1) (fun e => e)).trans (h.u d hd).1, (hs.cell (World.block_lt_of_cell? w _ (h.u d hd).2) (fun e => e)).trans (h.u d hd).2⟩⟩
/-- .. and those of the document's answer. -/
structure RTab (w : World) : Prop where
  x : ∀ d, d < 16 → w.cell? ⟨0, d, none⟩ = some (.int .i64 (ux d))
  y : ∀ d, d < 16 → w.cell? ⟨1, d, none⟩ = some (.int .i64 (uy d))
theorem RTab.still {w w' : World} /- 36 -/ (h : RTab w) (hs : Still w w') : RTab w' :=
  ⟨fun d hd => (hs.cell (World.block_lt_of_cell? w _ (h.x d hd)) (fun e => e)).trans (h.x d hd), fun d hd => (hs.cell (World.block_lt_of_cell? w _ (h.y d hd)) (fun e => e)).trans (h.y d hd)⟩
/-- what a number counts as -/
def dir (n : Int) : Nat := (n % 16).toNat
theorem dir_lt (n : Int) : dir n < 16 := by unfold dir; omega
theorem dir_mod (n : Int) : n % 16 = (dir n : Int) := by unfold dir; omega
theorem counted_nat (n : Int) (w : World) : Calls Tryd.prog 51 #[.int .i64 n] w fun e w' => e = .returned (.int .i64 (dir n : Int)) ∧ w' = w := by
  have h := counted_any n w
  rw [dir_mod] at h
  exact h
theorem unit_any (n : Int) (w : World) (ht : Tab w) : Calls Tryd.prog 86 #[.int .i64 n] w fun e w' => e = .returned (pt (ux (dir n)) (uy (dir n))) ∧ Still w w' := by
  have hd := dir_lt n
  obtain ⟨k0, k1⟩ := (ht.still (Still.alloc w (.cells #[.int .i64 0, .int .i64 0] 23))).u (dir n) hd
  have hi : ((dir n : Nat) : Int) < 16 := by omega
  go_enter Tryd.func86, Tryd.ntmps86
  go_wp2_with (go_at_call 51; refine (counted_nat _ _).mono ?_; rintro e w' ⟨he, hw⟩; rw [he, hw]; clear he hw w')
  (try simp only [Exit.inBlock, Exit.then])
  exact bodyPost_ret ((newP_pb w _ _).res rfl _ rfl) rfl ⟨rfl, Still.alloc w _⟩
theorem direction_nat (n : Int) (w : World) : Calls Tryd.prog 27 #[.int .i64 n] w fun e w' => e = .returned (.int .i64 (dir n : Int)) ∧ w' = w := by
  have h := direction_any n w
  rw [dir_mod] at h
  exact h
theorem runit_any (n : Int) (w : World) (ht : RTab w) : Calls Tryd.prog 36 #[.int .i64 n] w fun e w' => e = .returned (pt (ux (dir n)) (uy (dir n))) ∧ Still w w' := by
  have hd := dir_lt n
  obtain ⟨W, eW⟩ : ∃ W, W = newP w 0 0 := ⟨_, rfl⟩
  have r : Pb W w.heap.size 0 0 := by rw [eW]; exact newP_pb w 0 0
  have hs0 : Still w W := by rw [eW]; exact Still.alloc w _
  have c0 := Cl.cell ((ht.still hs0).x (dir n) hd)
  have c1 := Cl.cell ((ht.still hs0).y (dir n) hd)
  have hi : ((dir n : Nat) : Int) < 16 := by omega
  have hne := Aft.here W
  have HW := hid eW
  have HF := hid hs0
  clear eW hs0
  go_enter Tryd.func36, Tryd.ntmps36
  go_wp2_with (go_at_call 27; refine (direction_nat _ _).mono ?_; rintro e w' ⟨he, hw⟩; rw [he, hw]; clear he hw w')
  have e := HW.out
  simp only [newP] at e
  rw [← e]
  clear e HW
  refine region_rest 6 (by kernel_rfl) (by kernel_rfl) ?_
  simp only [List.take_succ_cons, List.take_zero, List.drop_succ_cons, List.drop_zero]
  repeat (go_big_quiet_step (fail))
  refine wpQuiet_nil ?_
  intro w1 hs
  clear hne c0 c1
  have q := r.still hs
  obtain ⟨d0, d1, df⟩ := q.cells
  go_wp2_with fail
  (try simp only [Exit.inBlock, Exit.then])
  exact bodyPost_ret ((q.set _ _).res rfl _ rfl) rfl ⟨rfl, setP_fr (HF.out.trans hs) _ _ _ (.inr (Nat.le_refl _))⟩

/-- the least of the best ones below k -/
def hdF (g : Nat → Int) : Nat → Nat
  | 0 => 0
  | k + 1 => if g (hdF g k) < g k then k else hdF g k
theorem hdF_le (g : Nat → Int) : ∀ k, hdF g k ≤ k - 1
  | 0 => by simp [hdF]
  | k + 1 => by
    have := hdF_le g k
    unfold hdF
    split <;> omega
theorem hdF_best (g : Nat → Int) : ∀ k, Best g (k + 1) (hdF g (k + 1))
  | 0 => by
    have : hdF g 1 = 0 := by simp [hdF]
    rw [this]; exact Best.start g
  | k + 1 => by
    have h := hdF_best g k
    rw [show hdF g (k + 1 + 1) = if g (hdF g (k + 1)) < g (k + 1) then k + 1 else hdF g (k + 1) from rfl]
    by_cases hc : g (hdF g (k + 1)) < g (k + 1)
    · rw [if_pos hc]; exact h.more hc
    · rw [if_neg hc]; exact h.less hc
/-- the direction that is nearest to a way -/
def hd (x y : Int) : Nat := hdF (dot x y) 16
end Go.Proofs.YtaalbkmdmocdeaaDoor
