/- Parts of the proof, laid end to end. -/
import Derived.Test.YthcjckgmdokmdaaGreatDoorXS10
import Derived.Test.YthcjckgmdokmdaaGreatDoorXS06
import Derived.Test.YthcjckgmdokmdaaGreatDoorXS01
import Derived.Test.YthcjckgmdokmdaaGreatDoorXS22
import Derived.Test.YthcjckgmdokmdaaGreatDoorXS14
import Derived.Test.YthcjckgmdokmdaaGreatDoorXS11
import Derived.Deep.DeepCutAuto
import Derived.Deep.RegionHeld3
import Derived.BigRegion
import Derived.Test.YthcjckgmdokmdaaGreatDoorXS12
namespace Go.Proofs.YthcjckgmdokmdaaGreatDoor
open Go.RowKit
open Pu Gp Ap Vp Np Za Ka Ja
set_option maxRecDepth 100000
end Go.Proofs.YthcjckgmdokmdaaGreatDoor
namespace Go.Proofs.YthcjckgmdokmdaaGreatDoor
open Go.RowKit
open Pu Gp Ap Vp Np Za Ka Ja
set_option maxRecDepth 100000
end Go.Proofs.YthcjckgmdokmdaaGreatDoor
namespace Go.Proofs.YthcjckgmdokmdaaGreatDoor
open Go.RowKit
open Ea
set_option maxRecDepth 100000
end Go.Proofs.YthcjckgmdokmdaaGreatDoor
namespace Go.Proofs.YthcjckgmdokmdaaGreatDoor
open Go.RowKit
open Ea
set_option maxRecDepth 100000
end Go.Proofs.YthcjckgmdokmdaaGreatDoor
namespace Go.Proofs.YthcjckgmdokmdaaGreatDoor
open Go.RowKit
open Ea
set_option maxRecDepth 100000
theorem rchk12_any (x : Scr) (w : World) : Calls Tryz.prog 104 #[cv x] w fun e w' => e = .returned (.int .i64 (chkC x)) /\ Still w w' := by
 have p := newC_cb w x
 have HS := hid (Still.alloc w (.cells (ccs x) 61))
 obtain ⟨c0, c1, c2, c3, cf⟩ := p.cells
 clear p
 by_cases z0 : x.p < -2147483647
 ·have HE : Hid (chkC x = 120) := hid (chkC_no (fun h => by have := h.1; have := h.2.1; have := h.2.2.1; have := h.2.2.2; omega))
  go_enter Tryz.func104, Tryz.ntmps104
  go_wp2_with fail
  go_ret
  exact ⟨by rw [HE.out]; rfl, HS.out⟩
 by_cases z1 : x.p > 2147483647
 ·have HE : Hid (chkC x = 120) := hid (chkC_no (fun h => by have := h.1; have := h.2.1; have := h.2.2.1; have := h.2.2.2; omega))
  go_enter Tryz.func104, Tryz.ntmps104
  go_wp2_with fail
  go_ret
  exact ⟨by rw [HE.out]; rfl, HS.out⟩
 have y1 : decide (2147483647 < x.p) = false := by simpa using z1
 by_cases z2 : x.h < 0
 ·have HE : Hid (chkC x = 120) := hid (chkC_no (fun h => by have := h.1; have := h.2.1; have := h.2.2.1; have := h.2.2.2; omega))
  go_enter Tryz.func104, Tryz.ntmps104
  go_wp2_with fail
  go_ret
  exact ⟨by rw [HE.out]; rfl, HS.out⟩
 by_cases z3 : x.h > 2147483647
 ·have HE : Hid (chkC x = 120) := hid (chkC_no (fun h => by have := h.1; have := h.2.1; have := h.2.2.1; have := h.2.2.2; omega))
  go_enter Tryz.func104, Tryz.ntmps104
  go_wp2_with fail
  go_ret
  exact ⟨by rw [HE.out]; rfl, HS.out⟩
 have y3 : decide (2147483647 < x.h) = false := by simpa using z3
 by_cases z4 : x.o < 0
 ·have HE : Hid (chkC x = 120) := hid (chkC_no (fun h => by have := h.1; have := h.2.1; have := h.2.2.1; have := h.2.2.2; omega))
  go_enter Tryz.func104, Tryz.ntmps104
  go_wp2_with fail
  go_ret
  exact ⟨by rw [HE.out]; rfl, HS.out⟩
 by_cases z5 : x.o > 2147483647
 ·have HE : Hid (chkC x = 120) := hid (chkC_no (fun h => by have := h.1; have := h.2.1; have := h.2.2.1; have := h.2.2.2; omega))
  go_enter Tryz.func104, Tryz.ntmps104
  go_wp2_with fail
  go_ret
  exact ⟨by rw [HE.out]; rfl, HS.out⟩
 have y5 : decide (2147483647 < x.o) = false := by simpa using z5
 by_cases z6 : x.k < 0
 ·have HE : Hid (chkC x = 120) := hid (chkC_no (fun h => by have := h.1; have := h.2.1; have := h.2.2.1; have := h.2.2.2; omega))
  go_enter Tryz.func104, Tryz.ntmps104
  go_wp2_with fail
  go_ret
  exact ⟨by rw [HE.out]; rfl, HS.out⟩
 by_cases z7 : x.k > 2147483647
 ·have HE : Hid (chkC x = 120) := hid (chkC_no (fun h => by have := h.1; have := h.2.1; have := h.2.2.1; have := h.2.2.2; omega))
  go_enter Tryz.func104, Tryz.ntmps104
  go_wp2_with fail
  go_ret
  exact ⟨by rw [HE.out]; rfl, HS.out⟩
 have y7 : decide (2147483647 < x.k) = false := by simpa using z7
 have HE : Hid (chkC x = 0) := hid (chkC_yes (by unfold MayC; omega))
 clear z1 z3 z5 z7
 go_enter Tryz.func104, Tryz.ntmps104
 go_wp2_with fail
 go_ret
 exact ⟨by rw [HE.out]; rfl, HS.out⟩
end Go.Proofs.YthcjckgmdokmdaaGreatDoor
namespace Go.Proofs.YthcjckgmdokmdaaGreatDoor
open Go.RowKit
open Pu Gp Ap Vp Np Za Ka Ja Ea Ha Hi
set_option maxRecDepth 100000
def SeatA (W : Wd) (i : Nat) : Prop := mayB (mm W.ms i) = true /\ chkC (sc W.cs i) = 0
theorem chkC_zero {s : Scr} : chkC s = 0 ↔ MayC s := ⟨fun h => Classical.byContradiction fun hc => (by rw [chkC_no hc] at h; cases h), chkC_yes⟩
theorem seats_iff {P : Nat} {W : Wd} : Seats P W ↔ (W.ms.length = P /\ W.cs.length = P) /\ ∀ i, i < P -> SeatA W i := by
 unfold Seats SeatA
 constructor
 ·rintro ⟨h1, h2, h3, h4⟩
  exact ⟨⟨h1, h3⟩, fun i hi => ⟨mayB_iff.2 (h2 i hi), chkC_zero.2 (h4 i hi)⟩⟩
 ·rintro ⟨⟨h1, h3⟩, h⟩
  exact ⟨h1, fun i hi => mayB_iff.1 (h i hi).1, h3, fun i hi => chkC_zero.1 (h i hi).2⟩
def SeatQ (P : Nat) (W : Wd) (v : Value) : Prop := ∃ b : Bool, v = .bool b /\ (b = true ↔ Seats P W)
set_option maxHeartbeats 4000000 in
theorem rmovers_any (F : Cf) (P : Nat) (hp : F.p = (P : Int)) (hP6 : P <= 6) (W : Wd) (v : Value) (w : World) (hv : RdW w v W) :
  Calls Tryz.prog 48 #[cfv F, v] w fun e w' => ∃ r, e = .returned r /\ SeatQ P W r /\ Still w w' := by
 obtain ⟨a, b, c, d, rfl, ⟨ma, mc, rfl, hmc, _, hm⟩, ⟨ca, cc, rfl, hcc, _, hc⟩, ⟨sa, sc', rfl, _, _, _⟩, ⟨ka, kc, rfl, _, _, _⟩⟩ := hv
 have A0 := Still.alloc w (.cells (cfc F) 27)
 have A1 := Still.alloc (newCf w F) (.cells (wdcs W.fr W.nx (.slice ma W.ms.length mc) (.slice ca W.cs.length cc) (.slice sa W.hs.length sc') (.slice ka W.ks.length kc)) 33)
 have HP0 := hid ((newCf_cb w F).still A1)
 have q0 := newWd_wb (newCf w F) W.fr W.nx (.slice ma W.ms.length mc) (.slice ca W.cs.length cc) (.slice sa W.hs.length sc') (.slice ka W.ks.length kc)
 simp only [size_alloc] at q0
 have HQ0 := hid q0
 have HA := hid (A0.trans A1)
 have HM := hid (hm.still (A0.trans A1))
 have HC := hid (hc.still (A0.trans A1))
 have hm47 := hm.2.1
 have hc47 := hc.2.1
 have HIf := hid (seats_iff (P := P) (W := W))
 obtain ⟨N, eN⟩ : ∃ N, W.ms.length = N := ⟨_, rfl⟩
 obtain ⟨M, eM⟩ : ∃ N, W.cs.length = N := ⟨_, rfl⟩
 have HEN := hid eN
 have HEM := hid eM
 rw [eN] at HP0 HQ0 HA HM HC HIf hm47 ⊢
 rw [eM] at HP0 HQ0 HA HM HC HIf hc47 ⊢
 have HP1 := HP0
 have HM1 := HM
 have HC1 := HC
 have HA1 := HA
 obtain ⟨c0, c1, c2, c3, c4, c5, cf⟩ := HP0.out.cells
 obtain ⟨d0, d1, d2, d3, d4, d5, df⟩ := HQ0.out.cells
 rw [hp] at c0
 clear A0 A1 hm hc q0 eN eM hmc hcc
 have HNP : Hid (N ≠ P -> ¬ Seats P W) := hid (fun h hs => h (HIf.out.1 hs).1.1)
 have HMP : Hid (M ≠ P -> ¬ Seats P W) := hid (fun h hs => h (HIf.out.1 hs).1.2)
 by_cases hN : N = P
 ·subst hN
  by_cases hMe : M = N
  ·subst hMe
   have b0 : ((M : Int) != (M : Int)) = false := by simp
   go_enter Tryz.func48, Tryz.ntmps48
   go_wp2_with fail
   clear c0 c1 c2 c3 c4 c5 cf d0 d1 d2 d3 d4 d5 df b0
   go_loopw [5] (fun u wr => ∃ i : Nat, i <= M /\ u = .int .i64 (i : Int) /\ Hid (∀ j, j < i -> SeatA W j) /\ Still ((newCf w F).alloc (.cells (wdcs W.fr W.nx (.slice ma M mc) (.slice ca M cc) (.slice sa W.hs.length sc') (.slice ka W.ks.length kc)) 33)) wr) (fun u _ => M - (intOf u).toNat)
   case atStart => exact ⟨0, by omega, rfl, hid (fun j hj => by omega), Fr.refl _ _⟩
   case round =>
    obtain ⟨i, hi, rfl, HJ, hs⟩ := hrel
    have HS := hid hs
    obtain ⟨c0, c1, c2, c3, c4, c5, cf⟩ := (HP1.out.still hs).cells
    obtain ⟨d0, d1, d2, d3, d4, d5, df⟩ := (HQ0.out.still hs).cells
    rw [hp] at c0
    by_cases hin : i < M
    ·have hlt : (i : Int) < (M : Int) := by omega
     have hlN : (i : Int) < (M : Int) := by omega
     have hlM : (i : Int) < (M : Int) := by omega
     have hm1 := HM1.out.still hs
     have hc1 := HC1.out.still hs
     obtain ⟨B1, o1, rfl⟩ := hm1.at (by omega)
     obtain ⟨B2, o2, rfl⟩ := hc1.at (by omega)
     obtain ⟨m0, m1, m2, m3, m4, m5, m6, m7, m8, m9, m10, m11, m12⟩ := rdM hm1 (i := i) (by omega)
     have HC2 := hid (fun u (hu : Still wr u) => rdC (hc1.still hu) (i := i) (by omega))
     have HQ2 := hid (fun u (hu : Still wr u) => ((HQ0.out.still HS.out).still hu).cells)
     have HNo := hid (show ¬ SeatA W i -> ¬ Seats M W from fun h hc => h ((HIf.out.1 hc).2 i hin))
     have HYes := hid (show SeatA W i -> ∀ j, j < i + 1 -> SeatA W j from fun h j hj => by
      by_cases e : j = i
      ·subst e; exact h
      ·exact HJ.out j (by omega))
     have HDf : Hid (SeatA W i ↔ mayB (mm W.ms i) = true /\ chkC (sc W.cs i) = 0) := hid Iff.rfl
     have HMy := hid (fun u => rmay_any (mm W.ms i) u)
     have HCy := hid (fun u => rchk12_any (sc W.cs i) u)
     obtain ⟨x, ex⟩ : ∃ x, mm W.ms i = x := ⟨_, rfl⟩
     obtain ⟨y, ey⟩ : ∃ x, sc W.cs i = x := ⟨_, rfl⟩
     rw [ex] at m0 m1 m2 m3 m4 m5 m6 m7 m8 m9 m10 m11 m12 HMy HDf
     rw [ey] at HC2 HCy HDf
     obtain ⟨b1, eb1⟩ : ∃ b, mayB x = b := ⟨_, rfl⟩
     obtain ⟨E, eE⟩ : ∃ b, chkC y = b := ⟨_, rfl⟩
     rw [eb1] at HMy HDf
     rw [eE] at HCy HDf
     clear ex ey eb1 eE hm1 hc1 hs
     go_wp2_with fail
     refine (HMy.out _).mono ?_
     rintro e w2 ⟨rfl, h2⟩
     clear c0 c1 c2 c3 c4 c5 cf d0 d1 d2 d3 d4 d5 df m0 m1 m2 m3 m4 m5 m6 m7 m8 m9 m10 m11 m12
     obtain ⟨d0, d1, d2, d3, d4, d5, df⟩ := HQ2.out w2 h2
     obtain ⟨y0, y1, y2, y3⟩ := HC2.out w2 h2
     have HS2 := hid (HS.out.trans h2)
     clear h2 HMy
     go_wp2_with fail
     refine (HCy.out _).mono ?_
     rintro e w3 ⟨rfl, h3⟩
     have HS3 := hid (HS2.out.trans h3)
     have HSw3 := hid (HA1.out.trans HS3.out)
     clear h3 HS2 HCy d0 d1 d2 d3 d4 d5 df y0 y1 y2 y3 HC2 HQ2 HS
     cases b1 with
     | false =>
      have HN := hid (HNo.out (fun h => by have := (HDf.out.1 h).1; cases this))
      clear HNo HYes HDf
      go_wp2_with fail
      (first | rw [Exit.noGoto_ret] | skip)
      go_ret
      exact ⟨_, rfl, ⟨false, rfl, ⟨fun h => (by cases h), fun h => absurd h HN.out⟩⟩, HSw3.out⟩
     | true =>
      cases b2 : E != 0 with
      | true =>
       have HN := hid (HNo.out (fun h => by have := (HDf.out.1 h).2; simp [this] at b2))
       clear HNo HYes HDf
       go_wp2_with fail
       (first | rw [Exit.noGoto_ret] | skip)
       go_ret
       exact ⟨_, rfl, ⟨false, rfl, ⟨fun h => (by cases h), fun h => absurd h HN.out⟩⟩, HSw3.out⟩
      | false =>
       have HY1 := hid (HYes.out (HDf.out.2 ⟨rfl, by simpa using b2⟩))
       clear HNo HYes HDf
       go_wp2_with fail
       go_roundw
       case rel => exact ⟨i + 1, by omega, by go_num, HY1, HS3.out⟩
       case measure => first | (simp [intOf]; done) | (simp [intOf]; omega)
    ·have hge : ¬ (i : Int) < (M : Int) := by omega
     have HE : Hid (Seats M W) := hid (HIf.out.2 ⟨by first | exact ⟨rfl, rfl⟩ | simp, fun j hj => HJ.out j (by omega)⟩)
     have HSw := hid (HA1.out.trans HS.out)
     clear hin hs
     go_wp2_with fail
     go_ret
     exact ⟨_, rfl, ⟨true, rfl, ⟨fun _ => HE.out, fun _ => rfl⟩⟩, HSw.out⟩
  ·have b1 : ((M : Int) != (N : Int)) = true := by simp; omega
   have HNn := hid (HMP.out hMe)
   go_enter Tryz.func48, Tryz.ntmps48
   go_wp2_with fail
   go_ret
   exact ⟨_, rfl, ⟨false, rfl, ⟨fun h => (by cases h), fun h => absurd h HNn.out⟩⟩, HA1.out⟩
 ·have b0 : ((N : Int) != (P : Int)) = true := by simp; omega
  have HNn := hid (HNP.out hN)
  go_enter Tryz.func48, Tryz.ntmps48
  go_wp2_with fail
  go_ret
  exact ⟨_, rfl, ⟨false, rfl, ⟨fun h => (by cases h), fun h => absurd h HNn.out⟩⟩, HA1.out⟩
end Go.Proofs.YthcjckgmdokmdaaGreatDoor
namespace Go.Proofs.YthcjckgmdokmdaaGreatDoor
open Go.RowKit
open Pu Gp Ap Vp Np Za Ka Ja
set_option maxRecDepth 100000
end Go.Proofs.YthcjckgmdokmdaaGreatDoor
namespace Go.Proofs.YthcjckgmdokmdaaGreatDoor
open Go.RowKit
open Pu Gp Ap Vp Np Za Ka Ja
set_option maxRecDepth 100000
set_option maxHeartbeats 2000000 in
theorem rflo_any (S : List Sh) (ao : Option Addr) (n cap : Nat) (w : World) (hr : RdG KS w ao n S) : Calls Tryz.prog 49 #[.slice ao n cap] w fun e w' => e = .returned (.bool (flo S)) /\ Still w w' := by
 have HL := hid hr.1
 have HR := hid hr
 by_cases h6 : 48 < n
 ·have HE : Hid (flo S = false) := hid (flo_no (fun h => by have := h.1; rw [HL.out] at this; omega))
  have h6' : (n : Int) > 48 := by omega
  clear hr
  go_enter Tryz.func49, Tryz.ntmps49
  go_wp2_with fail
  go_ret
  exact ⟨by rw [HE.out]; rfl, Fr.refl _ _⟩
 ·have h6' : decide ((48 : Int) < (n : Int)) = false := by simp; omega
  have hn6 : n <= 48 := by omega
  clear hr h6
  go_enter Tryz.func49, Tryz.ntmps49
  go_wp2_with fail
  clear h6'
  go_loopw [3] (fun u wr => ∃ k : Nat, k <= n /\ u = .int .i64 (k : Int) /\ Hid (∀ i, i < k -> maySB (ss S i) = true /\ (0 < i -> (ss S (i - 1)).no < (ss S i).no)) /\ Still w wr) (fun u _ => n - (intOf u).toNat)
  case atStart => exact ⟨0, by omega, rfl, hid (fun i hi => by omega), Fr.refl _ _⟩
  case round =>
   obtain ⟨k, hk, rfl, HF, hs⟩ := hrel
   have HS := hid hs
   clear hs
   by_cases hkn : k < n
   ·have hlt : (k : Int) < (n : Int) := by omega
    obtain ⟨B, o, rfl⟩ := (HR.out.still HS.out).at (by omega)
    obtain ⟨s0, s1, s2, s3, s4, s5, s6, s7⟩ := rdS (HR.out.still HS.out) hkn
    have HM := hid (fun w => rchks_any (ss S k) w)
    have HC1 := hid (fun u (hu : Still wr u) => (rdS ((HR.out.still HS.out).still hu) hkn).1)
    have HC2 := hid (fun u (hu : Still wr u) (h0 : 0 < k) => (rdS ((HR.out.still HS.out).still hu) (i := k - 1) (by omega)).1)
    have HNo := hid (show ¬ (maySB (ss S k) = true /\ (0 < k -> (ss S (k - 1)).no < (ss S k).no)) -> flo S = false from fun h => flo_no (fun hf => h (hf.2 k (by rw [HL.out]; exact hkn))))
    have HYes := hid (show (maySB (ss S k) = true /\ (0 < k -> (ss S (k - 1)).no < (ss S k).no)) -> ∀ i, i < k + 1 -> maySB (ss S i) = true /\ (0 < i -> (ss S (i - 1)).no < (ss S i).no) from fun h i hi => by
     by_cases e : i = k
     ·subst e; exact h
     ·exact HF.out i (by omega))
    obtain ⟨x, ex⟩ : ∃ x, ss S k = x := ⟨_, rfl⟩
    obtain ⟨y, ey⟩ : ∃ y, (ss S (k - 1)).no = y := ⟨_, rfl⟩
    rw [ex] at s0 s1 s2 s3 s4 s5 s6 s7 HM HC1 HNo HYes
    rw [ey] at HC2 HNo HYes
    obtain ⟨b, eb⟩ : ∃ b, maySB x = b := ⟨_, rfl⟩
    have HCk : Hid (chkS x = if b then 0 else 90) := hid (by unfold chkS; rw [eb])
    rw [eb] at HNo HYes
    rw [HCk.out] at HM
    clear ex eb ey HCk
    go_wp2_with fail
    refine (HM.out _).mono ?_
    rintro e w2 ⟨rfl, h2⟩
    have c1 := HC1.out _ h2
    have HC := hid (HC2.out _ h2)
    have HS2 := hid (HS.out.trans h2)
    clear h2 HS s0 s1 s2 s3 s4 s5 s6 s7 HM HC1 HC2
    obtain ⟨z, ez⟩ : ∃ z, x.no = z := ⟨_, rfl⟩
    rw [ez] at c1 HNo HYes
    clear ez
    have k1 := Cl.cell c1
    have hne := Aft.here w2
    have hk48 : k < 48 := by omega
    clear c1
    cases b with
    | false =>
     have HN := hid (HNo.out (fun h => by cases h.1))
     clear HYes HNo HC
     go_wp2_with fail
     refine region_all (by kernel_rfl) (by kernel_rfl) ?_
     repeat (go_big_quiet_step (fail))
     refine wpQuiet_nil ?_
     intro w3 h3
     have HS3 := hid (HS2.out.trans h3)
     clear h3 HS2 hne k1
     go_wp2_with fail
     (first | rw [Exit.noGoto_ret] | skip)
     go_ret
     exact ⟨by rw [HN.out]; rfl, HS3.out⟩
    | true =>
     by_cases hg : 0 < k
     ·have hg' : (0 : Int) < (k : Int) := by omega
      have hg1 : decide ((0 : Int) < (k : Int)) = true := by simpa using hg'
      have hg2 : decide (0 < k) = true := by simpa using hg
      have k2 := Cl.cell (HC.out hg)
      by_cases hzy : z <= y
      ·have hz2 : decide (z <= y) = true := by simpa using hzy
       have HN := hid (HNo.out (fun h => by have := h.2 hg; omega))
       clear HYes HNo HC
       go_wp2_with fail
       refine region_all (by kernel_rfl) (by kernel_rfl) ?_
       repeat (go_big_quiet_step (fail))
       refine wpQuiet_nil ?_
       intro w3 h3
       have HS3 := hid (HS2.out.trans h3)
       clear h3 HS2 hne k1 k2
       go_wp2_with fail
       (first | rw [Exit.noGoto_ret] | skip)
       go_ret
       exact ⟨by rw [HN.out]; rfl, HS3.out⟩
      ·have hz2 : decide (z <= y) = false := by simpa using hzy
       have HY := hid (HYes.out ⟨rfl, fun _ => by omega⟩)
       clear HYes HNo HC
       go_wp2_with fail
       refine region_all (by kernel_rfl) (by kernel_rfl) ?_
       repeat (go_big_quiet_step (fail))
       refine wpQuiet_nil ?_
       intro w3 h3
       have HS3 := hid (HS2.out.trans h3)
       clear h3 HS2 hne k1 k2
       go_wp2_with fail
       go_roundw
       case rel => exact ⟨k + 1, by omega, by go_num, HY, HS3.out⟩
       case measure => first | (simp [intOf]; done) | (simp [intOf]; omega)
     ·have hg' : ¬ (0 : Int) < (k : Int) := by omega
      have hg1 : decide ((0 : Int) < (k : Int)) = false := by simpa using hg'
      have hg2 : decide (0 < k) = false := by simpa using hg
      have HY := hid (HYes.out ⟨rfl, fun h => absurd h hg⟩)
      clear HYes HNo HC
      go_wp2_with fail
      refine region_all (by kernel_rfl) (by kernel_rfl) ?_
      repeat (go_big_quiet_step (fail))
      refine wpQuiet_nil ?_
      intro w3 h3
      have HS3 := hid (HS2.out.trans h3)
      clear h3 HS2 hne k1
      go_wp2_with fail
      go_roundw
      case rel => exact ⟨k + 1, by omega, by go_num, HY, HS3.out⟩
      case measure => first | (simp [intOf]; done) | (simp [intOf]; omega)
   ·have hge : ¬ (k : Int) < (n : Int) := by omega
    have HE : Hid (flo S = true) := hid (flo_iff.2 ⟨by rw [HL.out]; exact hn6, fun i hi => HF.out i (by have := HL.out; omega)⟩)
    clear hkn hk
    go_wp2_with fail
    go_ret
    exact ⟨by rw [HE.out]; rfl, HS.out⟩
end Go.Proofs.YthcjckgmdokmdaaGreatDoor
