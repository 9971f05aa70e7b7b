/- Shots in plain words: what may be, what is fired, how one flies. No function of the program is named here. -/
import Derived.Test.YtdljmpjfiggdiaaDoorK8
import Derived.Test.YtdljmpjfiggdiaaDoorK6a
import Derived.Test.YtdljmpjfiggdiaaDoorK6b
namespace Go.Proofs.YtdljmpjfiggdiaaDoor.Za
open Pu Gp Ap Vp Np

/-- a shot -/
structure Sh where
  no : Int
  ow : Int
  pw : Int
  ax : Int
  ay : Int
  sx : Int
  sy : Int
  lf : Int
/-- it may be -/
def MayS (s : Sh) : Prop :=
  (1 ≤ s.no ∧ s.no ≤ 1099511627776) ∧ (0 ≤ s.ow ∧ s.ow ≤ 5) ∧ (1 ≤ s.pw ∧ s.pw ≤ 3) ∧ (-2147483647 ≤ s.ax ∧ s.ax ≤ 2147483647 ∧ -2147483647 ≤ s.ay ∧ s.ay ≤ 2147483647) ∧
  (-1536 ≤ s.sx ∧ s.sx ≤ 1536 ∧ -1536 ≤ s.sy ∧ s.sy ≤ 1536) ∧ (1 ≤ s.lf ∧ s.lf ≤ 40)
def decMayS (s : Sh) : Decidable (MayS s) := by unfold MayS; infer_instance
def maySB (s : Sh) : Bool := @decide (MayS s) (decMayS s)
theorem maySB_iff {s : Sh} : maySB s = true ↔ MayS s := @decide_eq_true_iff (MayS s) (decMayS s)
def zS : Sh := ⟨0, 0, 0, 0, 0, 0, 0, 0⟩
def chkS (s : Sh) : Int := if maySB s then 0 else 90
def dmg (p : Int) : Int := if p < 1 ∨ 3 < p then 0 else 15 * p
/-- what is asked of Fire's numbers -/
def argB (ow pw no : Int) : Bool := decide (0 ≤ ow) && decide (ow ≤ 5) && decide (1 ≤ pw) && decide (pw ≤ 3) && decide (1 ≤ no) && decide (no ≤ 1099511627776)
theorem argB_iff {ow pw no : Int} : argB ow pw no = true ↔ (0 ≤ ow ∧ ow ≤ 5) ∧ (1 ≤ pw ∧ pw ≤ 3) ∧ 1 ≤ no ∧ no ≤ 1099511627776 := by
  unfold argB
  simp only [Bool.and_eq_true, decide_eq_true_eq]
  omega
def errF (m : Mv) (ow pw no : Int) : Int := if mayB m then (if argB ow pw no then 0 else 1) else 80
def fired (m : Mv) (ow pw no : Int) : Sh := ⟨no, ow, pw, addf m.ax (mulf (ux (m.fc % 16).toNat) 1792), addf m.ay (mulf (uy (m.fc % 16).toNat) 1792), mulf (ux (m.fc % 16).toNat) (256 * (7 - pw)), mulf (uy (m.fc % 16).toNat) (256 * (7 - pw)), 40⟩
def firS (m : Mv) (ow pw no : Int) : Sh := if errF m ow pw no = 0 then fired m ow pw no else zS
/-- the parts of a frame's way; how far a shot comes -/
def rn (s : Sh) : Nat := rayN (stp s.sx) (stp s.sy)
def rk (sol : Int → Int → Bool) (s : Sh) : Nat := go (rayT sol (bnd s.ax) (bnd s.ay) (stp s.sx) (stp s.sy) (rn s)) (rn s)
def goes (sol : Int → Int → Bool) (s : Sh) : Bool := maySB s && !(decide (rk sol s < rn s)) && !(s.lf == 1)
def flown (sol : Int → Int → Bool) (s : Sh) : Sh := { s with ax := rp (bnd s.ax) (stp s.sx) (rn s) (rk sol s), ay := rp (bnd s.ay) (stp s.sy) (rn s) (rk sol s), lf := s.lf - 1 }
def flyS (sol : Int → Int → Bool) (s : Sh) : Sh := if goes sol s then flown sol s else zS

theorem units4 : ∀ d, d < 16 → (-1536 ≤ mulf (ux d) 1024 ∧ mulf (ux d) 1024 ≤ 1536) ∧ -1536 ≤ mulf (uy d) 1024 ∧ mulf (uy d) 1024 ≤ 1536 := by decide
theorem units5 : ∀ d, d < 16 → (-1536 ≤ mulf (ux d) 1280 ∧ mulf (ux d) 1280 ≤ 1536) ∧ -1536 ≤ mulf (uy d) 1280 ∧ mulf (uy d) 1280 ≤ 1536 := by decide
theorem units6 : ∀ d, d < 16 → (-1536 ≤ mulf (ux d) 1536 ∧ mulf (ux d) 1536 ≤ 1536) ∧ -1536 ≤ mulf (uy d) 1536 ∧ mulf (uy d) 1536 ≤ 1536 := by decide
theorem units_in (d : Nat) (hd : d < 16) (p : Int) (h1 : 1 ≤ p) (h2 : p ≤ 3) : (-1536 ≤ mulf (ux d) (256 * (7 - p)) ∧ mulf (ux d) (256 * (7 - p)) ≤ 1536) ∧ -1536 ≤ mulf (uy d) (256 * (7 - p)) ∧ mulf (uy d) (256 * (7 - p)) ≤ 1536 := by
  have e : p = 1 ∨ p = 2 ∨ p = 3 := by omega
  rcases e with rfl | rfl | rfl
  · exact units6 d hd
  · exact units5 d hd
  · exact units4 d hd
/-- what is fired may be -/
theorem may_fired {m : Mv} {ow pw no : Int} (h : argB ow pw no = true) : MayS (fired m ow pw no) := by
  obtain ⟨h1, h2, h3⟩ := argB_iff.1 h
  have hd : (m.fc % 16).toNat < 16 := by omega
  have hk := units_in (m.fc % 16).toNat hd pw h2.1 h2.2
  exact ⟨h3, h1, h2, ⟨bnd_lo _, bnd_hi _, bnd_lo _, bnd_hi _⟩, ⟨hk.1.1, hk.1.2, hk.2.1, hk.2.2⟩, by show (1 : Int) ≤ 40; omega, by show (40 : Int) ≤ 40; omega⟩
theorem stp_id {n : Int} (h0 : -1536 ≤ n) (h1 : n ≤ 1536) : stp n = n := by
  unfold stp clampf
  rw [Pu.bnd_id (show -2147483647 ≤ n by omega) (by omega), Pu.bnd_id (show -2147483647 ≤ (-2048 : Int) by omega) (by omega), Pu.bnd_id (show -2147483647 ≤ (2048 : Int) by omega) (by omega)]
  repeat' split
  all_goals omega
theorem goes_may {sol : Int → Int → Bool} {s : Sh} (h : goes sol s = true) : MayS s ∧ rk sol s = rn s ∧ s.lf ≠ 1 := by
  unfold goes at h
  simp only [Bool.and_eq_true, Bool.not_eq_true', decide_eq_false_iff_not, beq_eq_false_iff_ne] at h
  have := go_le (rayT sol (bnd s.ax) (bnd s.ay) (stp s.sx) (stp s.sy) (rn s)) (rn s)
  exact ⟨maySB_iff.1 h.1.1, by have h2 := h.1.2; unfold rk at h2 ⊢; omega, h.2⟩
theorem rp_in {X p : Int} {n j : Nat} (hX : inB2 X) : inB2 (rp X p n j) := by
  unfold rp
  split
  · exact hX
  · exact addf_in _ _
/-- what flies on may be -/
theorem may_flown {sol : Int → Int → Bool} {s : Sh} (h : goes sol s = true) : MayS (flown sol s) := by
  obtain ⟨⟨h1, h2, h3, h4, h5, h6⟩, _, h7⟩ := goes_may h
  have a := rp_in (X := bnd s.ax) (p := stp s.sx) (n := rn s) (j := rk sol s) ⟨bnd_lo _, bnd_hi _⟩
  have b := rp_in (X := bnd s.ay) (p := stp s.sy) (n := rn s) (j := rk sol s) ⟨bnd_lo _, bnd_hi _⟩
  exact ⟨h1, h2, h3, ⟨a.1, a.2, b.1, b.2⟩, h5, by show 1 ≤ s.lf - 1; omega, by show s.lf - 1 ≤ 40; omega⟩
/-- a point's box touches just if its cell is solid -/
theorem tou_pt {C R : Int} {s : ByteArray} {x y : Int} (hx : inB2 x) (hy : inB2 y) : touB C R s x y x y = solB C R s (dn x) (dn y) := by
  have ok : okb x y x y = true := okb_of ⟨hx.1, hx.2, hy.1, hy.2, hx.1, hx.2, hy.1, hy.2, Int.le_refl _, Int.le_refl _⟩
  unfold touB
  rw [ok, Bool.true_and, Bool.eq_iff_iff]
  unfold tch
  rw [anyC_iff]
  constructor
  · rintro ⟨i, j, h1, h2, h3, h4, h⟩
    rw [show dn x = i by omega, show dn y = j by omega]
    exact h
  · intro h
    exact ⟨dn x, dn y, Int.le_refl _, Int.le_refl _, Int.le_refl _, Int.le_refl _, h⟩
/-- no shot comes into a solid cell from one that is not -/
theorem free_flown {sol : Int → Int → Bool} {s : Sh} (h : goes sol s = true) (hf : sol (dn s.ax) (dn s.ay) = false) : sol (dn (flown sol s).ax) (dn (flown sol s).ay) = false := by
  obtain ⟨⟨h1, h2, h3, h4, h5, h6⟩, hk, h7⟩ := goes_may h
  have ex : bnd s.ax = s.ax := Pu.bnd_id h4.1 h4.2.1
  have ey : bnd s.ay = s.ay := Pu.bnd_id h4.2.2.1 h4.2.2.2
  show sol (dn (rp (bnd s.ax) (stp s.sx) (rn s) (rk sol s))) (dn (rp (bnd s.ay) (stp s.sy) (rn s) (rk sol s))) = false
  by_cases h0 : rk sol s = 0
  · unfold rp
    rw [if_pos h0, if_pos h0, ex, ey]
    exact hf
  · exact go_free (rayT sol (bnd s.ax) (bnd s.ay) (stp s.sx) (stp s.sy) (rn s)) (rn s) (rk sol s) (by omega) (Nat.le_refl _)
/-- a map of 32 by 24 cells that are free -/
theorem map_free {s : ByteArray} (hz : s.size = 768) (hb : ∀ k, k < 768 → byt s k = 46) (i j : Int) (i0 : 0 ≤ i) (i1 : i < 32) (j0 : 0 ≤ j) (j1 : j < 24) : solB 32 24 s i j = false := by
  unfold solB
  rw [if_neg (by omega), if_neg (by omega), hb _ (by omega)]
  rfl
theorem rp_mid {X p : Int} {n j : Nat} (hX : inB2 X) (p0 : -2048 ≤ p) (p1 : p ≤ 2048) (hj : j ≤ n) (hn : n ≤ 32) (lo hi : Int) (h0 : lo ≤ X) (h1 : X < hi) (h2 : lo ≤ X + p) (h3 : X + p < hi) : lo ≤ rp X p n j ∧ rp X p n j < hi := by
  have h := rp_way hX p0 p1 hj hn
  unfold wayP at h
  omega
/-- where no wall is, a shot comes as far as its speed says -/
theorem straight {sol : Int → Int → Bool} {s : Sh} (h : MayS s) (hl : s.lf ≠ 1) (hx0 : 0 ≤ s.ax) (hx1 : s.ax < 131072) (hy0 : 0 ≤ s.ay) (hy1 : s.ay < 98304) (gx0 : 0 ≤ s.ax + s.sx) (gx1 : s.ax + s.sx < 131072) (gy0 : 0 ≤ s.ay + s.sy) (gy1 : s.ay + s.sy < 98304)
    (hs : ∀ i j, 0 ≤ i → i < 32 → 0 ≤ j → j < 24 → sol i j = false) : goes sol s = true ∧ flown sol s = { s with ax := s.ax + s.sx, ay := s.ay + s.sy, lf := s.lf - 1 } := by
  have hm := maySB_iff.2 h
  obtain ⟨h1, h2, h3, h4, h5, h6⟩ := h
  have ex : bnd s.ax = s.ax := Pu.bnd_id h4.1 h4.2.1
  have ey : bnd s.ay = s.ay := Pu.bnd_id h4.2.2.1 h4.2.2.2
  have tx := stp_id h5.1 h5.2.1
  have ty := stp_id h5.2.2.1 h5.2.2.2
  have hX : inB2 s.ax := ⟨h4.1, h4.2.1⟩
  have hY : inB2 s.ay := ⟨h4.2.2.1, h4.2.2.2⟩
  have hn : rn s ≤ 32 := rayN_le (stp_in _).1 (stp_in _).2 (stp_in _).1 (stp_in _).2
  have hk : rk sol s = rn s := by
    unfold rk
    refine go_one (Nat.le_refl _) (fun j j1 j2 => ?_) (fun e => absurd e (Nat.lt_irrefl _))
    unfold rayT
    rw [ex, ey, tx, ty]
    have a := rp_mid (p := s.sx) hX (by omega) (by omega) j2 hn 0 131072 hx0 hx1 gx0 gx1
    have b := rp_mid (p := s.sy) hY (by omega) (by omega) j2 hn 0 98304 hy0 hy1 gy0 gy1
    exact hs _ _ (by unfold dn; omega) (by unfold dn; omega) (by unfold dn; omega) (by unfold dn; omega)
  refine ⟨by unfold goes; rw [hm, hk]; simp [hl], ?_⟩
  have z0 : rn s = 0 → s.sx = 0 ∧ s.sy = 0 := fun e => by
    have := rayN_zero (p := stp s.sx) (q := stp s.sy) e
    rw [tx, ty] at this
    exact this
  have a : rp (bnd s.ax) (stp s.sx) (rn s) (rk sol s) = s.ax + s.sx := by
    rw [hk, ex, tx, rp_end hX (fun e => (z0 e).1)]
    unfold addf
    rw [Pu.bnd_id h4.1 h4.2.1, Pu.bnd_id (n := s.sx) (by omega) (by omega)]
    exact Pu.bnd_id (by omega) (by omega)
  have b : rp (bnd s.ay) (stp s.sy) (rn s) (rk sol s) = s.ay + s.sy := by
    rw [hk, ey, ty, rp_end hY (fun e => (z0 e).2)]
    unfold addf
    rw [Pu.bnd_id h4.2.2.1 h4.2.2.2, Pu.bnd_id (n := s.sy) (by omega) (by omega)]
    exact Pu.bnd_id (by omega) (by omega)
  unfold flown
  rw [a, b]
end Go.Proofs.YtdljmpjfiggdiaaDoor.Za
