/- Parts of the proof, laid end to end. -/
import Derived.Test.YtkgbmefaphhcnaaGreatDoorZU32
import Derived.Test.YtkgbmefaphhcnaaGreatDoorZU35
import Derived.Test.YtkgbmefaphhcnaaGreatDoorZU22
import Derived.Test.YtkgbmefaphhcnaaGreatDoorZU30
import Derived.Test.YtkgbmefaphhcnaaGreatDoorZU14
import Derived.Test.YtkgbmefaphhcnaaGreatDoorZU36
import Derived.Test.YtkgbmefaphhcnaaGreatDoorZU38
import Derived.Test.YtkgbmefaphhcnaaGreatDoorZU02
namespace Go.Proofs.YtkgbmefaphhcnaaGreatDoor
open Go.RowKit
open Pu Gp Ap Vp Np Za Ka Ja Ea Ha Hg Hi
set_option maxRecDepth 100000
theorem chkV_ex (C R : Int) (s : ByteArray) (w : World) : ∃ v, ChkV C R s v := by
 obtain ⟨e, w', fr, ⟨v, _, hv, _⟩, _⟩ := mapcheck_any C R s w []
 exact ⟨v, hv⟩
theorem q13_of (F : Cf) (v : Int) (hv : ChkV F.C F.R F.s v) (x : World) : Q13 x F v (stV F.C F.s v) (spV F.C F.s v) where
 chk u _ := (mapcheck_any F.C F.R F.s u).mono fun e w' ⟨v', he, hv', hs⟩ => by
  rw [chkV_one hv' hv] at he
  exact ⟨he, hs⟩
 sts u _ := (starts_any F.C F.R F.s u).mono fun e w' ⟨a, v', he, hv', ho, hs⟩ => by
  rw [chkV_one hv' hv] at ho
  exact ⟨a, he, ho, hs⟩
 sps u _ := (spots_any F.C F.R F.s u).mono fun e w' ⟨a, v', he, hv', ho, hs⟩ => by
  rw [chkV_one hv' hv] at ho
  exact ⟨a, he, ho, hs⟩
end Go.Proofs.YtkgbmefaphhcnaaGreatDoor
namespace Go.Proofs.YtkgbmefaphhcnaaGreatDoor
open Go.RowKit
open Pu Gp Ap Vp Np Za Ka Ja Ea Ha Hg Hi
set_option maxRecDepth 100000
abbrev E0 : Env := ⟨solB 8 6 std3, [(6144, 6144), (26624, 6144), (6144, 18432), (26624, 18432)], [(14336, 10240), (18432, 10240)], 7⟩
abbrev y0 : Cm := ⟨1, 1, 1, 7, 9, 0, 0⟩
theorem w0_st : stV 8 std3 0 = [(6144, 6144), (26624, 6144), (6144, 18432), (26624, 18432)] := by kernel_rfl
theorem w0_sp : spV 8 std3 0 = [(14336, 10240), (18432, 10240)] := by kernel_rfl
theorem w0_cfg : CfgP 2 0 4 [0, 2] := by
 refine ⟨by decide, by decide, rfl, by decide, by decide, by decide, rfl, fun i h1 h2 => ?_⟩
 obtain rfl : i = 1 := by simp at h2; omega
 exact ⟨by decide, by decide⟩
theorem w0_good : Ha.Good 2 E0 (nw0 E0 2) := good_nw0 (by decide)
theorem w0_fits : Fits 2 E0 (nw0 E0 2) := ⟨w0_good, by decide, by decide⟩
end Go.Proofs.YtkgbmefaphhcnaaGreatDoor
