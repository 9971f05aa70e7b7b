/- Parts of the proof, laid end to end. -/
import Derived.Test.YthcjckgmdokmdaaGreatDoorXS12
import Derived.Test.YthcjckgmdokmdaaGreatDoorXS14
import Derived.Test.YthcjckgmdokmdaaGreatDoorXS22
import Derived.Test.YthcjckgmdokmdaaGreatDoorXS16
import Derived.Test.YthcjckgmdokmdaaGreatDoorXS17
namespace Go.Proofs.YthcjckgmdokmdaaGreatDoor
open Go.RowKit
open Pu Gp Ap Vp Np Za Ka Ja Ea Ha Hg
set_option maxRecDepth 100000
set_option maxHeartbeats 1000000 in
theorem allKM_any (L : List Mv) (ao : Option Addr) (n cap : Nat) (w : World) (hr : RdG KM w ao n L) : Calls Tryz.prog 133 #[.slice ao n cap, .func (.func 134) #[] #[]] w fun e w' => IsB e (∀ i, i < L.length -> chkM (mm L i) = 0) /\ Still w w' := by
 have HR := hid hr
 have h47 : n <= 281474976710656 := hr.2.1
 have HL : Hid (n = L.length) := hid (by have := hr.1; omega)
 clear hr
 go_enter Tryz.func133, Tryz.ntmps133
 go_wp2_with fail
 go_loopw [9] (fun u wr => ∃ k : Nat, k <= n /\ u = .int .i64 (k : Int) /\ Hid (∀ i, i < k -> chkM (mm L i) = 0) /\ Still w wr) (fun u _ => n - (intOf u).toNat)
 case atStart => exact ⟨0, by omega, rfl, hid (fun i hi => by omega), Fr.refl _ _⟩
 case round =>
  obtain ⟨k, hk, rfl, HK, hs⟩ := hrel
  by_cases hkn : k < n
  ·have hlt : (k : Int) < (n : Int) := by omega
   have hr1 := HR.out.still hs
   obtain ⟨B, o, rfl⟩ := hr1.at (by omega)
   obtain ⟨c0, c1, c2, c3, c4, c5, c6, c7, c8, c9, c10, c11, c12⟩ := rdM hr1 hkn
   have HM := hid (fun u => check8_any (mm L k) u)
   have HE := hid (show chkM (mm L k) = 0 -> ∀ i, i < k + 1 -> chkM (mm L i) = 0 from fun h i hi => by
    by_cases e : i = k
    ·subst e; exact h
    ·exact HK.out i (by omega))
   have HN := hid (show chkM (mm L k) ≠ 0 -> ¬ ∀ i, i < L.length -> chkM (mm L i) = 0 from fun h h2 => h (h2 k (by have := HL.out; omega)))
   obtain ⟨x, ex⟩ : ∃ x, mm L k = x := ⟨_, rfl⟩
   rw [ex] at c0 c1 c2 c3 c4 c5 c6 c7 c8 c9 c10 c11 c12 HM HE HN
   obtain ⟨e0, e1, e2, e3, e4, e5, e6, e7, e8, e9, e10, e11, e12, ef⟩ := (newM_mb wr x).cells
   have HS1 := hid (hs.trans (Still.alloc wr (.cells (mcs x) 56)))
   obtain ⟨r, er⟩ : ∃ r, chkM x = r := ⟨_, rfl⟩
   rw [er] at HM HE HN
   clear hs hr1 HK ex er
   go_wp2_with fail
   refine (HM.out _).mono ?_
   rintro e w1 ⟨rfl, h1⟩
   have HS2 := hid (HS1.out.trans h1)
   clear h1 HS1 c0 c1 c2 c3 c4 c5 c6 c7 c8 c9 c10 c11 c12 e0 e1 e2 e3 e4 e5 e6 e7 e8 e9 e10 e11 e12 ef
   by_cases hz : r = 0
   ·have hz' : (r != 0) = false := by simpa using hz
    have HE2 := hid (HE.out hz)
    clear hz HE HN
    go_wp2_with fail
    go_roundw
    case rel => exact ⟨k + 1, by omega, by go_num, HE2, HS2.out⟩
    case measure => simp [intOf]; omega
   ·have hz' : (r != 0) = true := by simpa using hz
    have HE2 := hid (HN.out hz)
    clear hz HE HN
    go_wp2_with fail
    (first | rw [Exit.noGoto_ret] | skip)
    go_ret
    exact ⟨IsB.no HE2.out, HS2.out⟩
  ·have hge : ¬ (k : Int) < (n : Int) := by omega
   have HE := hid (show ∀ i, i < L.length -> chkM (mm L i) = 0 from fun i hi => HK.out i (by have := HL.out; omega))
   have HS1 := hid hs
   clear hs HK
   go_wp2_with fail
   go_ret
   exact ⟨IsB.yes HE.out, HS1.out⟩
set_option maxHeartbeats 1000000 in
theorem allKC_any (L : List Scr) (ao : Option Addr) (n cap : Nat) (w : World) (hr : RdG KC w ao n L) : Calls Tryz.prog 135 #[.slice ao n cap, .func (.func 136) #[] #[]] w fun e w' => IsB e (∀ i, i < L.length -> chkC (sc L i) = 0) /\ Still w w' := by
 have HR := hid hr
 have h47 : n <= 281474976710656 := hr.2.1
 have HL : Hid (n = L.length) := hid (by have := hr.1; omega)
 clear hr
 go_enter Tryz.func135, Tryz.ntmps135
 go_wp2_with fail
 go_loopw [9] (fun u wr => ∃ k : Nat, k <= n /\ u = .int .i64 (k : Int) /\ Hid (∀ i, i < k -> chkC (sc L i) = 0) /\ Still w wr) (fun u _ => n - (intOf u).toNat)
 case atStart => exact ⟨0, by omega, rfl, hid (fun i hi => by omega), Fr.refl _ _⟩
 case round =>
  obtain ⟨k, hk, rfl, HK, hs⟩ := hrel
  by_cases hkn : k < n
  ·have hlt : (k : Int) < (n : Int) := by omega
   have hr1 := HR.out.still hs
   obtain ⟨B, o, rfl⟩ := hr1.at (by omega)
   obtain ⟨c0, c1, c2, c3⟩ := rdC hr1 hkn
   have HM := hid (fun u => schk_any (sc L k) u)
   have HE := hid (show chkC (sc L k) = 0 -> ∀ i, i < k + 1 -> chkC (sc L i) = 0 from fun h i hi => by
    by_cases e : i = k
    ·subst e; exact h
    ·exact HK.out i (by omega))
   have HN := hid (show chkC (sc L k) ≠ 0 -> ¬ ∀ i, i < L.length -> chkC (sc L i) = 0 from fun h h2 => h (h2 k (by have := HL.out; omega)))
   obtain ⟨x, ex⟩ : ∃ x, sc L k = x := ⟨_, rfl⟩
   rw [ex] at c0 c1 c2 c3 HM HE HN
   obtain ⟨e0, e1, e2, e3, ef⟩ := (newC_cb wr x).cells
   have HS1 := hid (hs.trans (Still.alloc wr (.cells (ccs x) 61)))
   obtain ⟨r, er⟩ : ∃ r, chkC x = r := ⟨_, rfl⟩
   rw [er] at HM HE HN
   clear hs hr1 HK ex er
   go_wp2_with fail
   refine (HM.out _).mono ?_
   rintro e w1 ⟨rfl, h1⟩
   have HS2 := hid (HS1.out.trans h1)
   clear h1 HS1 c0 c1 c2 c3 e0 e1 e2 e3 ef
   by_cases hz : r = 0
   ·have hz' : (r != 0) = false := by simpa using hz
    have HE2 := hid (HE.out hz)
    clear hz HE HN
    go_wp2_with fail
    go_roundw
    case rel => exact ⟨k + 1, by omega, by go_num, HE2, HS2.out⟩
    case measure => simp [intOf]; omega
   ·have hz' : (r != 0) = true := by simpa using hz
    have HE2 := hid (HN.out hz)
    clear hz HE HN
    go_wp2_with fail
    (first | rw [Exit.noGoto_ret] | skip)
    go_ret
    exact ⟨IsB.no HE2.out, HS2.out⟩
  ·have hge : ¬ (k : Int) < (n : Int) := by omega
   have HE := hid (show ∀ i, i < L.length -> chkC (sc L i) = 0 from fun i hi => HK.out i (by have := HL.out; omega))
   have HS1 := hid hs
   clear hs HK
   go_wp2_with fail
   go_ret
   exact ⟨IsB.yes HE.out, HS1.out⟩
set_option maxHeartbeats 1000000 in
theorem allKS_any (L : List Sh) (ao : Option Addr) (n cap : Nat) (w : World) (hr : RdG KS w ao n L) : Calls Tryz.prog 137 #[.slice ao n cap, .func (.func 138) #[] #[]] w fun e w' => IsB e (∀ i, i < L.length -> chkS (ss L i) = 0) /\ Still w w' := by
 have HR := hid hr
 have h47 : n <= 281474976710656 := hr.2.1
 have HL : Hid (n = L.length) := hid (by have := hr.1; omega)
 clear hr
 go_enter Tryz.func137, Tryz.ntmps137
 go_wp2_with fail
 go_loopw [9] (fun u wr => ∃ k : Nat, k <= n /\ u = .int .i64 (k : Int) /\ Hid (∀ i, i < k -> chkS (ss L i) = 0) /\ Still w wr) (fun u _ => n - (intOf u).toNat)
 case atStart => exact ⟨0, by omega, rfl, hid (fun i hi => by omega), Fr.refl _ _⟩
 case round =>
  obtain ⟨k, hk, rfl, HK, hs⟩ := hrel
  by_cases hkn : k < n
  ·have hlt : (k : Int) < (n : Int) := by omega
   have hr1 := HR.out.still hs
   obtain ⟨B, o, rfl⟩ := hr1.at (by omega)
   obtain ⟨c0, c1, c2, c3, c4, c5, c6, c7⟩ := rdS hr1 hkn
   have HM := hid (fun u => chks_any (ss L k) u)
   have HE := hid (show chkS (ss L k) = 0 -> ∀ i, i < k + 1 -> chkS (ss L i) = 0 from fun h i hi => by
    by_cases e : i = k
    ·subst e; exact h
    ·exact HK.out i (by omega))
   have HN := hid (show chkS (ss L k) ≠ 0 -> ¬ ∀ i, i < L.length -> chkS (ss L i) = 0 from fun h h2 => h (h2 k (by have := HL.out; omega)))
   obtain ⟨x, ex⟩ : ∃ x, ss L k = x := ⟨_, rfl⟩
   rw [ex] at c0 c1 c2 c3 c4 c5 c6 c7 HM HE HN
   obtain ⟨e0, e1, e2, e3, e4, e5, e6, e7, ef⟩ := (newS_sb wr x).cells
   have HS1 := hid (hs.trans (Still.alloc wr (.cells (scs x) 122)))
   obtain ⟨r, er⟩ : ∃ r, chkS x = r := ⟨_, rfl⟩
   rw [er] at HM HE HN
   clear hs hr1 HK ex er
   go_wp2_with fail
   refine (HM.out _).mono ?_
   rintro e w1 ⟨rfl, h1⟩
   have HS2 := hid (HS1.out.trans h1)
   clear h1 HS1 c0 c1 c2 c3 c4 c5 c6 c7 e0 e1 e2 e3 e4 e5 e6 e7 ef
   by_cases hz : r = 0
   ·have hz' : (r != 0) = false := by simpa using hz
    have HE2 := hid (HE.out hz)
    clear hz HE HN
    go_wp2_with fail
    go_roundw
    case rel => exact ⟨k + 1, by omega, by go_num, HE2, HS2.out⟩
    case measure => simp [intOf]; omega
   ·have hz' : (r != 0) = true := by simpa using hz
    have HE2 := hid (HN.out hz)
    clear hz HE HN
    go_wp2_with fail
    (first | rw [Exit.noGoto_ret] | skip)
    go_ret
    exact ⟨IsB.no HE2.out, HS2.out⟩
  ·have hge : ¬ (k : Int) < (n : Int) := by omega
   have HE := hid (show ∀ i, i < L.length -> chkS (ss L i) = 0 from fun i hi => HK.out i (by have := HL.out; omega))
   have HS1 := hid hs
   clear hs HK
   go_wp2_with fail
   go_ret
   exact ⟨IsB.yes HE.out, HS1.out⟩
end Go.Proofs.YthcjckgmdokmdaaGreatDoor
namespace Go.Proofs.YthcjckgmdokmdaaGreatDoor
open Go.RowKit
open Pu Gp Ap Vp Np Za Ka Ja Ea Ha Hg Hi
set_option maxRecDepth 100000
end Go.Proofs.YthcjckgmdokmdaaGreatDoor
