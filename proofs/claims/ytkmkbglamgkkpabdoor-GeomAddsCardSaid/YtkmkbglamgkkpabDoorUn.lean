/- The table of units; a way of the length 1; the direction that is nearest to a way. -/
import Derived.Test.YtkmkbglamgkkpabDoorPn
namespace Go.Proofs.YtkmkbglamgkkpabDoor
open Go.RowKit
open Pu Gp

/-- What the package-level table of the program holds. -/
structure Tab (w : World) : Prop where
  u : ∀ d, d < 16 → w.cell? ⟨0, d * 2, none⟩ = some (.int .i64 (ux d)) ∧ w.cell? ⟨0, d * 2 + 1, none⟩ = some (.int .i64 (uy d))
theorem Tab.still {w w' : World} (h : Tab w) (hs : Still w w') : Tab w' :=
  ⟨fun d hd => ⟨(hs.cell (World.block_lt_of_cell? w _ (h.u d hd).1) (fun e => e)).trans (h.u d hd).1, (hs.cell (World.block_lt_of_cell? w _ (h.u d hd).2) (fun e => e)).trans (h.u d hd).2⟩⟩
/-- what a number counts as -/
def dir (n : Int) : Nat := (n % 16).toNat
theorem dir_lt (n : Int) : dir n < 16 := by unfold dir; omega
theorem dir_mod (n : Int) : n % 16 = (dir n : Int) := by unfold dir; omega
theorem counted_nat (n : Int) (w : World) : Calls Tryd.prog 29 #[.int .i64 n] w fun e w' => e = .returned (.int .i64 (dir n : Int)) ∧ w' = w := by
  have h := counted_any n w
  rw [dir_mod] at h
  exact h
theorem unit_any (n : Int) (w : World) (ht : Tab w) : Calls Tryd.prog 17 #[.int .i64 n] w fun e w' => e = .returned (pt (ux (dir n)) (uy (dir n))) ∧ Still w w' := by
  have hd := dir_lt n
  obtain ⟨k0, k1⟩ := (ht.still (Still.alloc w (.cells #[.int .i64 0, .int .i64 0] 23))).u (dir n) hd
  have hi : ((dir n : Nat) : Int) < 16 := by omega
  go_enter Tryd.func17, Tryd.ntmps17
  go_wp2_with (go_at_call 29; refine (counted_nat _ _).mono ?_; rintro e w' ⟨he, hw⟩; rw [he, hw]; clear he hw w')
  (try simp only [Exit.inBlock, Exit.then])
  exact bodyPost_ret ((newP_pb w _ _).res rfl _ rfl) rfl ⟨rfl, Still.alloc w _⟩
/-- the least of the best ones below k -/
def hdF (g : Nat → Int) : Nat → Nat
  | 0 => 0
  | k + 1 => if g (hdF g k) < g k then k else hdF g k
theorem hdF_le (g : Nat → Int) : ∀ k, hdF g k ≤ k - 1
  | 0 => by simp [hdF]
  | k + 1 => by
    have := hdF_le g k
    unfold hdF
    split <;> omega
theorem hdF_best (g : Nat → Int) : ∀ k, Best g (k + 1) (hdF g (k + 1))
  | 0 => by
    have : hdF g 1 = 0 := by simp [hdF]
    rw [this]; exact Best.start g
  | k + 1 => by
    have h := hdF_best g k
    rw [show hdF g (k + 1 + 1) = if g (hdF g (k + 1)) < g (k + 1) then k + 1 else hdF g (k + 1) from rfl]
    by_cases hc : g (hdF g (k + 1)) < g (k + 1)
    · rw [if_pos hc]; exact h.more hc
    · rw [if_neg hc]; exact h.less hc
/-- the direction that is nearest to a way -/
def hd (x y : Int) : Nat := hdF (dot x y) 16
theorem along_dot (x y : Int) (k : Nat) (h0 : -2147483647 ≤ x) (h1 : x ≤ 2147483647) (h2 : -2147483647 ≤ y) (h3 : y ≤ 2147483647) (hk : k < 16) (w : World) :
    Calls Tryd.prog 30 #[pt x y, pt (ux k) (uy k)] w fun e w' => e = .returned (.int .i64 (dot x y k)) ∧ Still w w' :=
  along_any x y (ux k) (uy k) h0 h1 h2 h3 (ux_in k hk).1 (ux_in k hk).2 (uy_in k hk).1 (uy_in k hk).2 w
set_option maxHeartbeats 1000000 in
theorem heading_any (x y : Int) (w : World) (ht : Tab w) : Calls Tryd.prog 19 #[pt x y] w fun e w' => e = .returned (.int .i64 (hd (bnd x) (bnd y) : Nat)) ∧ Still w w' := by
  have r := newP_pb w x y
  have ht0 := ht.still (Still.alloc w (.cells #[.int .i64 x, .int .i64 y] 23))
  have x0 := bnd_lo x
  have x1 := bnd_hi x
  have y0 := bnd_lo y
  have y1 := bnd_hi y
  go_enter Tryd.func19, Tryd.ntmps19
  go_wp2_with fail
  refine (gbound_any x y _).mono ?_
  rintro e w1 ⟨rfl, hs1⟩
  have r1 := r.still hs1
  have r2 := r1.set (bnd x) (bnd y)
  obtain ⟨c0, c1, cf⟩ := r1.cells
  have HF := hid (setP_fr ((Still.alloc w (.cells #[.int .i64 x, .int .i64 y] 23)).trans hs1) w.heap.size (bnd x) (bnd y) (.inr (Nat.le_refl _)))
  have HT := hid (ht.still HF.out)
  obtain ⟨X, eX⟩ : ∃ X, bnd x = X := ⟨_, rfl⟩
  obtain ⟨Y, eY⟩ : ∃ Y, bnd y = Y := ⟨_, rfl⟩
  have HE := hid (show hdF (dot X Y) 16 = hd (bnd x) (bnd y) by rw [eX, eY]; rfl)
  rw [eX] at x0 x1 r2 HF HT ⊢
  rw [eY] at y0 y1 r2 HF HT ⊢
  clear r hs1 ht0 r1 eX eY
  go_wp2_with fail
  go_loopw [3, 7] (fun vb vk wr => ∃ k : Nat, k ≤ 16 ∧ vk = .int .i64 (k : Int) ∧ vb = .int .i64 ((hdF (dot X Y) k : Nat) : Int) ∧ Still (setP w1 w.heap.size X Y) wr) (fun _ vk _ => 16 - (intOf vk).toNat)
  case atStart => exact ⟨0, by omega, rfl, rfl, Fr.refl _ _⟩
  case round =>
    obtain ⟨k, hk, rfl, rfl, hs⟩ := hrel
    have q := r2.still hs
    have qt := HT.out.still hs
    have hb := hdF_le (dot X Y) k
    by_cases hlt : k < 16
    · obtain ⟨B, eB⟩ : ∃ B, hdF (dot X Y) k = B := ⟨_, rfl⟩
      have HB := hid eB
      rw [eB] at hb ⊢
      clear eB
      have hB : B < 16 := by omega
      have e0 := Cl.cell q.cells.1
      have e1 := Cl.cell q.cells.2.1
      have t0 := Cl.cell (qt.u k hlt).1
      have t1 := Cl.cell (qt.u k hlt).2
      have t2 := Cl.cell (qt.u B hB).1
      have t3 := Cl.cell (qt.u B hB).2
      have hne := Aft.here wr
      have i1 : (k : Int) < 16 := by omega
      have i2 : (B : Int) < 16 := by omega
      have HS := hid hs
      clear q qt hs
      go_wp2_with fail
      refine region_all (by kernel_rfl) (by kernel_rfl) ?_
      repeat (go_big_quiet_step ((go_at_call 30; refine Calls.cl (along_dot X Y _ x0 x1 y0 y1 ?_ _); assumption)))
      refine wpQuiet_nil ?_
      intro w3 hs3
      have HS3 := hid (HS.out.trans hs3)
      clear HS hs3 hne e0 e1 t0 t1 t2 t3
      by_cases hc : dot X Y B < dot X Y k
      · have HN := hid (show hdF (dot X Y) (k + 1) = k by
          rw [show hdF (dot X Y) (k + 1) = if dot X Y (hdF (dot X Y) k) < dot X Y k then k else hdF (dot X Y) k from rfl, HB.out, if_pos hc])
        go_wp2_with fail
        go_roundw
        case rel => exact ⟨k + 1, by omega, by go_num, by rw [HN.out], HS3.out⟩
        case measure => simp [intOf]; omega
      · have HN := hid (show hdF (dot X Y) (k + 1) = B by
          rw [show hdF (dot X Y) (k + 1) = if dot X Y (hdF (dot X Y) k) < dot X Y k then k else hdF (dot X Y) k from rfl, HB.out, if_neg hc])
        go_wp2_with fail
        go_roundw
        case rel => exact ⟨k + 1, by omega, by go_num, by rw [HN.out], HS3.out⟩
        case measure => simp [intOf]; omega
    · obtain rfl : k = 16 := by omega
      have HS := hid hs
      clear q qt hs hb
      go_wp2_with fail
      go_ret
      exact ⟨ret_int (congrArg (fun n : Nat => (n : Int)) HE.out), Still.trans HF.out HS.out⟩
end Go.Proofs.YtkmkbglamgkkpabDoor
