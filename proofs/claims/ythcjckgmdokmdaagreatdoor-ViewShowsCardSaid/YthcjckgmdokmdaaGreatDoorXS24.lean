/- Parts of the proof, laid end to end. -/
import Derived.Test.YthcjckgmdokmdaaGreatDoorXS17
import Derived.Test.YthcjckgmdokmdaaGreatDoorXS18
import Derived.Test.YthcjckgmdokmdaaGreatDoorXS23
import Derived.Test.YthcjckgmdokmdaaGreatDoorXS12
import Derived.Test.YthcjckgmdokmdaaGreatDoorXS19
import Derived.Test.YthcjckgmdokmdaaGreatDoorXS21
namespace Go.Proofs.YthcjckgmdokmdaaGreatDoor
open Go.RowKit
open Pu Gp Ap Vp Np Za Ka Ja Ea Ha Hg Hi
set_option maxRecDepth 100000
set_option maxHeartbeats 4000000 in
theorem mayplay_any (S : Se) (N : Nat) (hp : S.F.p = (N : Int)) (W : Wd) (v : Value) (w : World) (hv : RdW w v W) :
  Calls Tryz.prog 92 #[.agg (sec S), v] w fun e w' => IsB e (PlayP (N : Int) W) /\ Still w w' := by
 obtain ⟨a, b, c, d, rfl, ⟨ao, ac, rfl, l1, ha, hra⟩, ⟨bo, bc, rfl, l2, hb, hrb⟩, ⟨co, cc, rfl, l3, hc, hrc⟩, ⟨so, dc, rfl, l4, hd, hrd⟩⟩ := hv
 have HLd := hid l4
 obtain ⟨n1, e1⟩ : ∃ n, W.ms.length = n := ⟨_, rfl⟩
 obtain ⟨n2, e2⟩ : ∃ n, W.cs.length = n := ⟨_, rfl⟩
 obtain ⟨n3, e3⟩ : ∃ n, W.hs.length = n := ⟨_, rfl⟩
 obtain ⟨n4, e4⟩ : ∃ n, W.ks.length = n := ⟨_, rfl⟩
 rw [e1] at hra ⊢
 rw [e2] at hrb ⊢
 rw [e3] at hrc ⊢
 rw [e4] at hrd HLd ⊢
 obtain ⟨fr, efr⟩ : ∃ n, W.fr = n := ⟨_, rfl⟩
 obtain ⟨nx, enx⟩ : ∃ n, W.nx = n := ⟨_, rfl⟩
 have EN := hid (And.intro efr enx)
 have EL := hid (And.intro e1 (And.intro e2 (And.intro e3 e4)))
 have hs1 : n1 <= 281474976710656 := hra.2.1
 have hs2 : n2 <= 281474976710656 := hrb.2.1
 have hs3 : n3 <= 281474976710656 := hrc.2.1
 have hs4 : n4 <= 281474976710656 := hrd.2.1
 rw [efr, enx]
 have A0 := Still.alloc w (.cells (sec S) 101)
 have A1 := Still.alloc (w.alloc (.cells (sec S) 101)) (.cells (wdcs fr nx (.slice ao n1 ac) (.slice bo n2 bc) (.slice co n3 cc) (.slice so n4 dc)) 33)
 have p0 := (newSe_sb w S).still A1
 have q0 := newWd_wb (w.alloc (.cells (sec S) 101)) fr nx (.slice ao n1 ac) (.slice bo n2 bc) (.slice co n3 cc) (.slice so n4 dc)
 rw [size_alloc] at q0
 have HS0 : Hid (Still w ((w.alloc (.cells (sec S) 101)).alloc (.cells (wdcs fr nx (.slice ao n1 ac) (.slice bo n2 bc) (.slice co n3 cc) (.slice so n4 dc)) 33))) := hid (A0.trans A1)
 have HP0 : Hid (Seb ((w.alloc (.cells (sec S) 101)).alloc (.cells (wdcs fr nx (.slice ao n1 ac) (.slice bo n2 bc) (.slice co n3 cc) (.slice so n4 dc)) 33)) w.heap.size S) := hid p0
 have HQ0 : Hid (Wdb ((w.alloc (.cells (sec S) 101)).alloc (.cells (wdcs fr nx (.slice ao n1 ac) (.slice bo n2 bc) (.slice co n3 cc) (.slice so n4 dc)) 33)) (w.heap.size + 1) fr nx (.slice ao n1 ac) (.slice bo n2 bc) (.slice co n3 cc) (.slice so n4 dc)) := hid q0
 obtain ⟨W0, eW0⟩ : ∃ X, ((w.alloc (.cells (sec S) 101)).alloc (.cells (wdcs fr nx (.slice ao n1 ac) (.slice bo n2 bc) (.slice co n3 cc) (.slice so n4 dc)) 33)) = X := ⟨_, rfl⟩
 rw [eW0] at HS0 HP0 HQ0
 have HRa := hid hra
 have HRb := hid hrb
 have HRc := hid hrc
 have HRd := hid hrd
 obtain ⟨c0, c1, c2, c3, c4, c5, c6, c7, cf⟩ := HP0.out.cells
 have HPp := hid hp
 rw [hp] at c0
 obtain ⟨d0, d1, d2, d3, d4, d5, df⟩ := HQ0.out.cells
 clear A0 A1 p0 q0 hra hrb hrc hrd ha hb hc hd l1 l2 l3 l4 efr enx e1 e2 e3 e4 hp
 have HD : Hid (PlayP (N : Int) W ↔ ((n1 : Int) = (N : Int)) /\ (∀ i, i < W.ms.length -> chkM (mm W.ms i) = 0) /\ ((n2 : Int) = (N : Int)) /\ ∀ i, i < W.cs.length -> chkC (sc W.cs i) = 0) := hid (by unfold PlayP; rw [EL.out.1, EL.out.2.1])
 have HAm := hid (fun u (hu : Still w u) => allKM_any W.ms ao n1 ac u (HRa.out.still hu))
 have HAc := hid (fun u (hu : Still w u) => allKC_any W.cs bo n2 bc u (HRb.out.still hu))
 by_cases t0 : (n1 : Int) = (N : Int)
 rotate_left
 ·have b0 : ((n1 : Int) == (N : Int)) = false := by simpa using t0
  have HX := hid (fun h => t0 (HD.out.1 h).1)
  clear t0
  go_enter Tryz.func92, Tryz.ntmps92
  go_wp2_with fail
  go_ret
  exact ⟨IsB.no HX.out, HS0.out⟩
 have b0 : ((n1 : Int) == (N : Int)) = true := by simpa using t0
 have T0 := hid t0
 clear t0
 go_enter Tryz.func92, Tryz.ntmps92
 go_wp2_with fail
 refine (HAm.out _ HS0.out).mono ?_
 rintro e w1 ⟨⟨b1, rfl, hb1⟩, h1⟩
 have HS1 := hid (HS0.out.trans h1)
 have HP1 := hid (HP0.out.still h1)
 have HQ1 := hid (HQ0.out.still h1)
 have HB1 := hid hb1
 clear c0 c1 c2 c3 c4 c5 c6 c7 cf d0 d1 d2 d3 d4 d5 df h1 hb1 HP0 HQ0 eW0
 cases b1 with
 | false =>
  have HX : Hid (¬ PlayP (N : Int) W) := hid (fun h => by have := HB1.out.2 (HD.out.1 h).2.1; cases this)
  go_wp2_with fail
  go_ret
  exact ⟨IsB.no HX.out, HS1.out⟩
 | true =>
  have HB2 := hid (HB1.out.1 rfl)
  clear HB1
  obtain ⟨c0, c1, c2, c3, c4, c5, c6, c7, cf⟩ := HP1.out.cells
  obtain ⟨d0, d1, d2, d3, d4, d5, df⟩ := HQ1.out.cells
  rw [HPp.out] at c0
  by_cases t2 : (n2 : Int) = (N : Int)
  rotate_left
  ·have b2 : ((n2 : Int) == (N : Int)) = false := by simpa using t2
   have HX := hid (fun h => t2 (HD.out.1 h).2.2.1)
   clear t2
   go_wp2_with fail
   go_ret
   exact ⟨IsB.no HX.out, HS1.out⟩
  have b2 : ((n2 : Int) == (N : Int)) = true := by simpa using t2
  have T2 := hid t2
  clear t2
  go_wp2_with fail
  refine (HAc.out _ HS1.out).mono ?_
  rintro e w2 ⟨⟨b3, rfl, hb3⟩, h2⟩
  have HS2 := hid (HS1.out.trans h2)
  have HB3 := hid hb3
  clear c0 c1 c2 c3 c4 c5 c6 c7 cf d0 d1 d2 d3 d4 d5 df h2 hb3 HP1 HQ1
  cases b3 with
  | false =>
   have HX : Hid (¬ PlayP (N : Int) W) := hid (fun h => by have := HB3.out.2 (HD.out.1 h).2.2.2; cases this)
   go_wp2_with fail
   go_ret
   exact ⟨IsB.no HX.out, HS2.out⟩
  | true =>
   have HX := hid (HD.out.2 ⟨T0.out, HB2.out, T2.out, HB3.out.1 rfl⟩)
   go_wp2_with fail
   go_ret
   exact ⟨IsB.yes HX.out, HS2.out⟩
set_option maxHeartbeats 4000000 in
theorem mayfly_any (S : Se) (N : Nat) (hp : S.F.p = (N : Int)) (W : Wd) (v : Value) (w : World) (hv : RdW w v W) :
  Calls Tryz.prog 93 #[.agg (sec S), v] w fun e w' => IsB e (FlyP (N : Int) W.nx W.hs) /\ Still w w' := by
 obtain ⟨a, b, c, d, rfl, ⟨ao, ac, rfl, l1, ha, hra⟩, ⟨bo, bc, rfl, l2, hb, hrb⟩, ⟨co, cc, rfl, l3, hc, hrc⟩, ⟨so, dc, rfl, l4, hd, hrd⟩⟩ := hv
 have HLd := hid l4
 obtain ⟨n1, e1⟩ : ∃ n, W.ms.length = n := ⟨_, rfl⟩
 obtain ⟨n2, e2⟩ : ∃ n, W.cs.length = n := ⟨_, rfl⟩
 obtain ⟨n3, e3⟩ : ∃ n, W.hs.length = n := ⟨_, rfl⟩
 obtain ⟨n4, e4⟩ : ∃ n, W.ks.length = n := ⟨_, rfl⟩
 rw [e1] at hra ⊢
 rw [e2] at hrb ⊢
 rw [e3] at hrc ⊢
 rw [e4] at hrd HLd ⊢
 obtain ⟨fr, efr⟩ : ∃ n, W.fr = n := ⟨_, rfl⟩
 obtain ⟨nx, enx⟩ : ∃ n, W.nx = n := ⟨_, rfl⟩
 have EN := hid (And.intro efr enx)
 have EL := hid (And.intro e1 (And.intro e2 (And.intro e3 e4)))
 have hs1 : n1 <= 281474976710656 := hra.2.1
 have hs2 : n2 <= 281474976710656 := hrb.2.1
 have hs3 : n3 <= 281474976710656 := hrc.2.1
 have hs4 : n4 <= 281474976710656 := hrd.2.1
 rw [efr, enx]
 have A0 := Still.alloc w (.cells (sec S) 101)
 have A1 := Still.alloc (w.alloc (.cells (sec S) 101)) (.cells (wdcs fr nx (.slice ao n1 ac) (.slice bo n2 bc) (.slice co n3 cc) (.slice so n4 dc)) 33)
 have p0 := (newSe_sb w S).still A1
 have q0 := newWd_wb (w.alloc (.cells (sec S) 101)) fr nx (.slice ao n1 ac) (.slice bo n2 bc) (.slice co n3 cc) (.slice so n4 dc)
 rw [size_alloc] at q0
 have HS0 : Hid (Still w ((w.alloc (.cells (sec S) 101)).alloc (.cells (wdcs fr nx (.slice ao n1 ac) (.slice bo n2 bc) (.slice co n3 cc) (.slice so n4 dc)) 33))) := hid (A0.trans A1)
 have HP0 : Hid (Seb ((w.alloc (.cells (sec S) 101)).alloc (.cells (wdcs fr nx (.slice ao n1 ac) (.slice bo n2 bc) (.slice co n3 cc) (.slice so n4 dc)) 33)) w.heap.size S) := hid p0
 have HQ0 : Hid (Wdb ((w.alloc (.cells (sec S) 101)).alloc (.cells (wdcs fr nx (.slice ao n1 ac) (.slice bo n2 bc) (.slice co n3 cc) (.slice so n4 dc)) 33)) (w.heap.size + 1) fr nx (.slice ao n1 ac) (.slice bo n2 bc) (.slice co n3 cc) (.slice so n4 dc)) := hid q0
 obtain ⟨W0, eW0⟩ : ∃ X, ((w.alloc (.cells (sec S) 101)).alloc (.cells (wdcs fr nx (.slice ao n1 ac) (.slice bo n2 bc) (.slice co n3 cc) (.slice so n4 dc)) 33)) = X := ⟨_, rfl⟩
 rw [eW0] at HS0 HP0 HQ0
 have HRa := hid hra
 have HRb := hid hrb
 have HRc := hid hrc
 have HRd := hid hrd
 obtain ⟨c0, c1, c2, c3, c4, c5, c6, c7, cf⟩ := HP0.out.cells
 have HPp := hid hp
 rw [hp] at c0
 obtain ⟨d0, d1, d2, d3, d4, d5, df⟩ := HQ0.out.cells
 clear A0 A1 p0 q0 hra hrb hrc hrd ha hb hc hd l1 l2 l3 l4 efr enx e1 e2 e3 e4 hp
 have HD : Hid (FlyP (N : Int) nx W.hs ↔ n3 <= 48 /\ (∀ i, i < W.hs.length -> chkS (ss W.hs i) = 0) /\ ∀ i, i < W.hs.length -> FlyA (N : Int) nx W.hs i) := hid (by unfold FlyP; rw [EL.out.2.2.1])
 have HAs := hid (fun u (hu : Still w u) => allKS_any W.hs co n3 cc u (HRc.out.still hu))
 by_cases t0 : (n3 : Int) > 48
 ·have b0 : decide ((n3 : Int) > 48) = true := decide_eq_true t0
  have b0' : decide ((48 : Int) < (n3 : Int)) = true := decide_eq_true t0
  have HX : Hid (¬ FlyP (N : Int) nx W.hs) := hid (fun h => by have := (HD.out.1 h).1; omega)
  clear t0
  go_enter Tryz.func93, Tryz.ntmps93
  go_wp2_with fail
  go_ret
  exact ⟨IsB.no HX.out, HS0.out⟩
 have b0 : decide ((n3 : Int) > 48) = false := decide_eq_false t0
 have b0' : decide ((48 : Int) < (n3 : Int)) = false := decide_eq_false t0
 have T0 := hid t0
 clear t0
 go_enter Tryz.func93, Tryz.ntmps93
 go_wp2_with fail
 refine (HAs.out _ HS0.out).mono ?_
 rintro e w1 ⟨⟨b1, rfl, hb1⟩, h1⟩
 have HS1 := hid (HS0.out.trans h1)
 have HP1 := hid (HP0.out.still h1)
 have HQ1 := hid (HQ0.out.still h1)
 have HB1 := hid hb1
 clear c0 c1 c2 c3 c4 c5 c6 c7 cf d0 d1 d2 d3 d4 d5 df h1 hb1 HP0 HQ0 eW0
 cases b1 with
 | false =>
  have HX : Hid (¬ FlyP (N : Int) nx W.hs) := hid (fun h => by have := HB1.out.2 (HD.out.1 h).2.1; cases this)
  go_wp2_with fail
  go_ret
  exact ⟨IsB.no HX.out, HS1.out⟩
 | true =>
  have HB2 := hid (HB1.out.1 rfl)
  clear HB1
  obtain ⟨c0, c1, c2, c3, c4, c5, c6, c7, cf⟩ := HP1.out.cells
  obtain ⟨d0, d1, d2, d3, d4, d5, df⟩ := HQ1.out.cells
  rw [HPp.out] at c0
  go_wp2_with fail
  clear c0 c1 c2 c3 c4 c5 c6 c7 cf d0 d1 d2 d3 d4 d5 df
  have hn48 : n3 <= 48 := by have := T0.out; omega
  have HL3 : Hid (W.hs.length = n3) := hid EL.out.2.2.1
  go_loopw [5, 21] (fun a u wr => ∃ k : Nat, k <= n3 /\ u = .int .i64 (k : Int) /\ a = .int .i64 (if k = 0 then 0 else (ss W.hs (k - 1)).no) /\ Hid (∀ j, j < k -> FlyA (N : Int) nx W.hs j) /\ Still w1 wr) (fun _ u _ => n3 - (intOf u).toNat)
  case atStart => exact ⟨0, by omega, rfl, rfl, hid (fun j h => by omega), Fr.refl _ _⟩
  case round =>
   obtain ⟨k, hk, rfl, rfl, HJ, hs⟩ := hrel
   by_cases hkn : k < n3
   ·have hlt : (k : Int) < (n3 : Int) := by omega
    have hr1 := (HRc.out.still HS1.out).still hs
    obtain ⟨C, o, rfl⟩ := hr1.at (by omega)
    obtain ⟨q0, q1, q2, q3, q4, q5, q6, q7⟩ := rdS hr1 hkn
    have HA : Hid (FlyA (N : Int) nx W.hs k ↔ (ss W.hs k).ow < (N : Int) /\ (if k = 0 then 0 else (ss W.hs (k - 1)).no) < (ss W.hs k).no /\ (ss W.hs k).no < nx) := hid Iff.rfl
    have HNo : Hid (¬ FlyA (N : Int) nx W.hs k -> ¬ FlyP (N : Int) nx W.hs) := hid (fun h h2 => h ((HD.out.1 h2).2.2 k (by have := HL3.out; omega)))
    have HYs : Hid (FlyA (N : Int) nx W.hs k -> ∀ j, j < k + 1 -> FlyA (N : Int) nx W.hs j) := hid (fun h j hj => by
     by_cases e : j = k
     ·subst e; exact h
     ·exact HJ.out j (by omega))
    have HNx : Hid ((if k + 1 = 0 then 0 else (ss W.hs (k + 1 - 1)).no) = (ss W.hs k).no) := hid (by rw [if_neg (by omega), show k + 1 - 1 = k by omega])
    obtain ⟨x, ex⟩ : ∃ x, ss W.hs k = x := ⟨_, rfl⟩
    simp only [ex] at q0 q1 q2 q3 q4 q5 q6 q7
    rw [ex] at HA HNx
    obtain ⟨ab, eab⟩ : ∃ a, (if k = 0 then 0 else (ss W.hs (k - 1)).no) = a := ⟨_, rfl⟩
    rw [eab] at HA ⊢
    have A1 := Still.alloc wr (.cells (scs x) 122)
    have HS2 : Hid (Still w1 (newS wr x)) := hid (hs.trans A1)
    obtain ⟨c0, c1, c2, c3, c4, c5, c6, c7, cf⟩ := ((HP1.out.still hs).still A1).cells
    rw [HPp.out] at c0
    obtain ⟨d0, d1, d2, d3, d4, d5, df⟩ := ((HQ1.out.still hs).still A1).cells
    obtain ⟨e0, e1, e2, e3, e4, e5, e6, e7, ef⟩ := (newS_sb wr x).cells
    clear ex eab hs hr1 HJ A1
    by_cases g1 : x.ow ≥ (N : Int)
    ·have f1 : decide (x.ow ≥ (N : Int)) = true := decide_eq_true g1
     have f1' : decide ((N : Int) <= x.ow) = true := decide_eq_true g1
     have HX := hid (HNo.out (fun h => by have := (HA.out.1 h).1; omega))
     clear g1
     go_wp2_with fail
     (first | rw [Exit.noGoto_ret] | skip)
     go_ret
     exact ⟨IsB.no HX.out, HS1.out.trans HS2.out⟩
    have f1 : decide (x.ow ≥ (N : Int)) = false := decide_eq_false g1
    have f1' : decide ((N : Int) <= x.ow) = false := decide_eq_false g1
    by_cases g2 : x.no <= ab
    ·have f2 : decide (x.no <= ab) = true := decide_eq_true g2
     have HX := hid (HNo.out (fun h => by have := (HA.out.1 h).2.1; omega))
     clear g1 g2
     go_wp2_with fail
     (first | rw [Exit.noGoto_ret] | skip)
     go_ret
     exact ⟨IsB.no HX.out, HS1.out.trans HS2.out⟩
    have f2 : decide (x.no <= ab) = false := decide_eq_false g2
    by_cases g3 : x.no ≥ nx
    ·have f3 : decide (x.no ≥ nx) = true := decide_eq_true g3
     have f3' : decide (nx <= x.no) = true := decide_eq_true g3
     have HX := hid (HNo.out (fun h => by have := (HA.out.1 h).2.2; omega))
     clear g1 g2 g3
     go_wp2_with fail
     (first | rw [Exit.noGoto_ret] | skip)
     go_ret
     exact ⟨IsB.no HX.out, HS1.out.trans HS2.out⟩
    have f3 : decide (x.no ≥ nx) = false := decide_eq_false g3
    have f3' : decide (nx <= x.no) = false := decide_eq_false g3
    have HX := hid (HYs.out (HA.out.2 ⟨by omega, by omega, by omega⟩))
    clear g1 g2 g3
    go_wp2_with fail
    go_roundw
    case rel => exact ⟨k + 1, by omega, by go_num, by rw [HNx.out], HX, HS2.out⟩
    case measure => first | (simp [intOf]; done) | (simp [intOf]; omega)
   ·have hge : ¬ (k : Int) < (n3 : Int) := by omega
    have HX := hid (HD.out.2 ⟨by omega, HB2.out, fun j hj => HJ.out j (by have := HL3.out; omega)⟩)
    have HS3 := hid (HS1.out.trans hs)
    obtain ⟨ab, eab⟩ : ∃ a, (if k = 0 then 0 else (ss W.hs (k - 1)).no) = a := ⟨_, rfl⟩
    rw [eab]
    clear hs HJ eab
    go_wp2_with fail
    go_ret
    exact ⟨IsB.yes HX.out, HS3.out⟩
set_option maxHeartbeats 4000000 in
theorem maylie_any (S : Se) (N : Nat) (hp : S.F.p = (N : Int)) (K : Nat) (po : Option Addr) (pcp : Nat) (hsp : S.sp = .slice po K pcp) (W : Wd) (v : Value) (w : World) (hv : RdW w v W) :
  Calls Tryz.prog 94 #[.agg (sec S), v] w fun e w' => IsB e (LieP K W.nx W.ks) /\ Still w w' := by
 obtain ⟨a, b, c, d, rfl, ⟨ao, ac, rfl, l1, ha, hra⟩, ⟨bo, bc, rfl, l2, hb, hrb⟩, ⟨co, cc, rfl, l3, hc, hrc⟩, ⟨so, dc, rfl, l4, hd, hrd⟩⟩ := hv
 have HLd := hid l4
 obtain ⟨n1, e1⟩ : ∃ n, W.ms.length = n := ⟨_, rfl⟩
 obtain ⟨n2, e2⟩ : ∃ n, W.cs.length = n := ⟨_, rfl⟩
 obtain ⟨n3, e3⟩ : ∃ n, W.hs.length = n := ⟨_, rfl⟩
 obtain ⟨n4, e4⟩ : ∃ n, W.ks.length = n := ⟨_, rfl⟩
 rw [e1] at hra ⊢
 rw [e2] at hrb ⊢
 rw [e3] at hrc ⊢
 rw [e4] at hrd HLd ⊢
 obtain ⟨fr, efr⟩ : ∃ n, W.fr = n := ⟨_, rfl⟩
 obtain ⟨nx, enx⟩ : ∃ n, W.nx = n := ⟨_, rfl⟩
 have EN := hid (And.intro efr enx)
 have EL := hid (And.intro e1 (And.intro e2 (And.intro e3 e4)))
 have hs1 : n1 <= 281474976710656 := hra.2.1
 have hs2 : n2 <= 281474976710656 := hrb.2.1
 have hs3 : n3 <= 281474976710656 := hrc.2.1
 have hs4 : n4 <= 281474976710656 := hrd.2.1
 rw [efr, enx]
 have A0 := Still.alloc w (.cells (sec S) 101)
 have A1 := Still.alloc (w.alloc (.cells (sec S) 101)) (.cells (wdcs fr nx (.slice ao n1 ac) (.slice bo n2 bc) (.slice co n3 cc) (.slice so n4 dc)) 33)
 have p0 := (newSe_sb w S).still A1
 have q0 := newWd_wb (w.alloc (.cells (sec S) 101)) fr nx (.slice ao n1 ac) (.slice bo n2 bc) (.slice co n3 cc) (.slice so n4 dc)
 rw [size_alloc] at q0
 have HS0 : Hid (Still w ((w.alloc (.cells (sec S) 101)).alloc (.cells (wdcs fr nx (.slice ao n1 ac) (.slice bo n2 bc) (.slice co n3 cc) (.slice so n4 dc)) 33))) := hid (A0.trans A1)
 have HP0 : Hid (Seb ((w.alloc (.cells (sec S) 101)).alloc (.cells (wdcs fr nx (.slice ao n1 ac) (.slice bo n2 bc) (.slice co n3 cc) (.slice so n4 dc)) 33)) w.heap.size S) := hid p0
 have HQ0 : Hid (Wdb ((w.alloc (.cells (sec S) 101)).alloc (.cells (wdcs fr nx (.slice ao n1 ac) (.slice bo n2 bc) (.slice co n3 cc) (.slice so n4 dc)) 33)) (w.heap.size + 1) fr nx (.slice ao n1 ac) (.slice bo n2 bc) (.slice co n3 cc) (.slice so n4 dc)) := hid q0
 obtain ⟨W0, eW0⟩ : ∃ X, ((w.alloc (.cells (sec S) 101)).alloc (.cells (wdcs fr nx (.slice ao n1 ac) (.slice bo n2 bc) (.slice co n3 cc) (.slice so n4 dc)) 33)) = X := ⟨_, rfl⟩
 rw [eW0] at HS0 HP0 HQ0
 have HRa := hid hra
 have HRb := hid hrb
 have HRc := hid hrc
 have HRd := hid hrd
 obtain ⟨c0, c1, c2, c3, c4, c5, c6, c7, cf⟩ := HP0.out.cells
 have HPp := hid hp
 rw [hp] at c0
 obtain ⟨d0, d1, d2, d3, d4, d5, df⟩ := HQ0.out.cells
 clear A0 A1 p0 q0 hra hrb hrc hrd ha hb hc hd l1 l2 l3 l4 efr enx e1 e2 e3 e4 hp
 rw [hsp] at c7
 have HSp := hid hsp
 have HD : Hid (LieP K nx W.ks ↔ (∀ i, i < W.ks.length -> (pk W.ks i).no < nx) /\ chkK W.ks (K : Int) = 0) := hid Iff.rfl
 have HCk := hid (fun u (hu : Still w u) => pchk_any W.ks (K : Int) so n4 dc u (rdK_ofQ (HRd.out.still hu)) HLd.out)
 have HL4 : Hid (W.ks.length = n4) := hid EL.out.2.2.2
 clear hsp
 go_enter Tryz.func94, Tryz.ntmps94
 go_wp2_with fail
 clear c0 c1 c2 c3 c4 c5 c6 c7 cf d0 d1 d2 d3 d4 d5 df eW0
 go_loopw [10] (fun u wr => ∃ k : Nat, k <= n4 /\ u = .int .i64 (k : Int) /\ Hid (∀ j, j < k -> (pk W.ks j).no < nx) /\ Still W0 wr) (fun u _ => n4 - (intOf u).toNat)
 case atStart => exact ⟨0, by omega, rfl, hid (fun j h => by omega), Fr.refl _ _⟩
 case round =>
  obtain ⟨k, hk, rfl, HJ, hs⟩ := hrel
  by_cases hkn : k < n4
  ·have hlt : (k : Int) < (n4 : Int) := by omega
   have hr1 := (HRd.out.still HS0.out).still hs
   obtain ⟨C, o, rfl⟩ := hr1.at (by omega)
   obtain ⟨q0, q1, q2⟩ := rdQ hr1 hkn
   have HNo : Hid (¬ (pk W.ks k).no < nx -> ¬ LieP K nx W.ks) := hid (fun h h2 => h ((HD.out.1 h2).1 k (by have := HL4.out; omega)))
   have HYs : Hid ((pk W.ks k).no < nx -> ∀ j, j < k + 1 -> (pk W.ks j).no < nx) := hid (fun h j hj => by
    by_cases e : j = k
    ·subst e; exact h
    ·exact HJ.out j (by omega))
   obtain ⟨x, ex⟩ : ∃ x, pk W.ks k = x := ⟨_, rfl⟩
   simp only [ex] at q0 q1 q2
   rw [ex] at HNo HYs
   have A1 := Still.alloc wr (.cells (kcs x) 124)
   have HS2 : Hid (Still W0 (newK wr x)) := hid (hs.trans A1)
   obtain ⟨d0, d1, d2, d3, d4, d5, df⟩ := ((HQ0.out.still hs).still A1).cells
   obtain ⟨e0, e1, e2, ef⟩ := (newK_kb wr x).cells
   clear ex hs hr1 HJ A1
   by_cases g1 : x.no ≥ nx
   ·have f1 : decide (x.no ≥ nx) = true := decide_eq_true g1
    have f1' : decide (nx <= x.no) = true := decide_eq_true g1
    have HX := hid (HNo.out (by omega))
    clear g1
    go_wp2_with fail
    (first | rw [Exit.noGoto_ret] | skip)
    go_ret
    exact ⟨IsB.no HX.out, HS0.out.trans HS2.out⟩
   ·have f1 : decide (x.no ≥ nx) = false := decide_eq_false g1
    have f1' : decide (nx <= x.no) = false := decide_eq_false g1
    have HX := hid (HYs.out (by omega))
    clear g1
    go_wp2_with fail
    go_roundw
    case rel => exact ⟨k + 1, by omega, by go_num, HX, HS2.out⟩
    case measure => first | (simp [intOf]; done) | (simp [intOf]; omega)
  ·have hge : ¬ (k : Int) < (n4 : Int) := by omega
   have HB := hid (show ∀ j, j < W.ks.length -> (pk W.ks j).no < nx from fun j hj => HJ.out j (by have := HL4.out; omega))
   have HS3 := hid (HS0.out.trans hs)
   obtain ⟨r, er⟩ : ∃ r, chkK W.ks (K : Int) = r := ⟨_, rfl⟩
   rw [er] at HCk HD
   obtain ⟨c0, c1, c2, c3, c4, c5, c6, c7, cf⟩ := (HP0.out.still hs).cells
   rw [HSp.out] at c7
   obtain ⟨d0, d1, d2, d3, d4, d5, df⟩ := (HQ0.out.still hs).cells
   clear hs HJ er
   go_wp2_with fail
   refine (HCk.out _ HS3.out).mono ?_
   rintro e w4 ⟨rfl, h4⟩
   have HS4 := hid (HS3.out.trans h4)
   clear h4 c0 c1 c2 c3 c4 c5 c6 c7 cf d0 d1 d2 d3 d4 d5 df
   by_cases g1 : r = 0
   ·have f1 : (r == 0) = true := by simpa using g1
    have HX := hid (HD.out.2 ⟨HB.out, g1⟩)
    clear g1
    go_wp2_with fail
    go_ret
    exact ⟨IsB.yes HX.out, HS4.out⟩
   ·have f1 : (r == 0) = false := by simpa using g1
    have HX := hid (fun h => g1 (HD.out.1 h).2)
    clear g1
    go_wp2_with fail
    go_ret
    exact ⟨IsB.no HX.out, HS4.out⟩
end Go.Proofs.YthcjckgmdokmdaaGreatDoor
namespace Go.Proofs.YthcjckgmdokmdaaGreatDoor
open Go.RowKit
open Pu Gp Ap Vp Np Za Ka Ja Ea Ha Hg Hi
set_option maxRecDepth 100000
set_option maxHeartbeats 4000000 in
theorem check13_any (S : Se) (E : Env) (N : Nat) (hp : S.F.p = (N : Int)) (po : Option Addr) (pcp : Nat) (hsp : S.sp = .slice po E.sp.length pcp) (W : Wd) (v : Value) (w : World) (hv : RdW w v W) :
  Calls Tryz.prog 41 #[.agg (sec S), v] w fun e w' => (e = .returned (.int .i64 (chkW (N : Int) E W))) /\ Still w w' := by
 have HV := hid hv
 have HPq := hid hp
 have HSq := hid hsp
 obtain ⟨a, b, c, d, rfl, ⟨ao, ac, rfl, l1, ha, hra⟩, ⟨bo, bc, rfl, l2, hb, hrb⟩, ⟨co, cc, rfl, l3, hc, hrc⟩, ⟨so, dc, rfl, l4, hd, hrd⟩⟩ := hv
 have HLd := hid l4
 obtain ⟨n1, e1⟩ : ∃ n, W.ms.length = n := ⟨_, rfl⟩
 obtain ⟨n2, e2⟩ : ∃ n, W.cs.length = n := ⟨_, rfl⟩
 obtain ⟨n3, e3⟩ : ∃ n, W.hs.length = n := ⟨_, rfl⟩
 obtain ⟨n4, e4⟩ : ∃ n, W.ks.length = n := ⟨_, rfl⟩
 rw [e1] at hra ⊢
 rw [e2] at hrb ⊢
 rw [e3] at hrc ⊢
 rw [e4] at hrd HLd ⊢
 obtain ⟨fr, efr⟩ : ∃ n, W.fr = n := ⟨_, rfl⟩
 obtain ⟨nx, enx⟩ : ∃ n, W.nx = n := ⟨_, rfl⟩
 have EN := hid (And.intro efr enx)
 have EL := hid (And.intro e1 (And.intro e2 (And.intro e3 e4)))
 have hs1 : n1 <= 281474976710656 := hra.2.1
 have hs2 : n2 <= 281474976710656 := hrb.2.1
 have hs3 : n3 <= 281474976710656 := hrc.2.1
 have hs4 : n4 <= 281474976710656 := hrd.2.1
 rw [efr, enx]
 have A0 := Still.alloc w (.cells (sec S) 101)
 have A1 := Still.alloc (w.alloc (.cells (sec S) 101)) (.cells (wdcs fr nx (.slice ao n1 ac) (.slice bo n2 bc) (.slice co n3 cc) (.slice so n4 dc)) 33)
 have p0 := (newSe_sb w S).still A1
 have q0 := newWd_wb (w.alloc (.cells (sec S) 101)) fr nx (.slice ao n1 ac) (.slice bo n2 bc) (.slice co n3 cc) (.slice so n4 dc)
 rw [size_alloc] at q0
 have HS0 : Hid (Still w ((w.alloc (.cells (sec S) 101)).alloc (.cells (wdcs fr nx (.slice ao n1 ac) (.slice bo n2 bc) (.slice co n3 cc) (.slice so n4 dc)) 33))) := hid (A0.trans A1)
 have HP0 : Hid (Seb ((w.alloc (.cells (sec S) 101)).alloc (.cells (wdcs fr nx (.slice ao n1 ac) (.slice bo n2 bc) (.slice co n3 cc) (.slice so n4 dc)) 33)) w.heap.size S) := hid p0
 have HQ0 : Hid (Wdb ((w.alloc (.cells (sec S) 101)).alloc (.cells (wdcs fr nx (.slice ao n1 ac) (.slice bo n2 bc) (.slice co n3 cc) (.slice so n4 dc)) 33)) (w.heap.size + 1) fr nx (.slice ao n1 ac) (.slice bo n2 bc) (.slice co n3 cc) (.slice so n4 dc)) := hid q0
 obtain ⟨W0, eW0⟩ : ∃ X, ((w.alloc (.cells (sec S) 101)).alloc (.cells (wdcs fr nx (.slice ao n1 ac) (.slice bo n2 bc) (.slice co n3 cc) (.slice so n4 dc)) 33)) = X := ⟨_, rfl⟩
 rw [eW0] at HS0 HP0 HQ0
 have HRa := hid hra
 have HRb := hid hrb
 have HRc := hid hrc
 have HRd := hid hrd
 obtain ⟨c0, c1, c2, c3, c4, c5, c6, c7, cf⟩ := HP0.out.cells
 have HPp := hid hp
 obtain ⟨d0, d1, d2, d3, d4, d5, df⟩ := HQ0.out.cells
 clear A0 A1 p0 q0 hra hrb hrc hrd ha hb hc hd l1 l2 l3 l4 efr enx e1 e2 e3 e4 hp
 have HD : Hid (Fits (N : Int) E W ↔ (0 <= fr /\ fr <= 1099511627776) /\ (1 <= nx /\ nx <= 1099511627777) /\ PlayP (N : Int) W /\ FlyP (N : Int) nx W.hs /\ LieP E.sp.length nx W.ks) := hid (by rw [fits_iff (by omega), EN.out.1, EN.out.2])
 have HW1 := hid (fun u => wwithin64_any fr 0 1099511627776 u)
 have HW2 := hid (fun u => wwithin_any nx 1 1099511627777 u)
 have HPl := hid (fun u (hu : Still w u) => mayplay_any S N HPq.out W _ u (HV.out.still hu))
 have HFl := hid (fun u (hu : Still w u) => mayfly_any S N HPq.out W _ u (HV.out.still hu))
 have HLi := hid (fun u (hu : Still w u) => maylie_any S N HPq.out E.sp.length po pcp HSq.out W _ u (HV.out.still hu))
 rw [EL.out.1, EL.out.2.1, EL.out.2.2.1, EL.out.2.2.2, EN.out.1, EN.out.2] at HPl HFl HLi
 obtain ⟨r, er⟩ : ∃ r, chkW (N : Int) E W = r := ⟨_, rfl⟩
 rw [er]
 have HYes : Hid (Fits (N : Int) E W -> r = 0) := hid (fun h => by rw [<- er]; exact chkW_yes h)
 have HNo : Hid (¬ Fits (N : Int) E W -> r = 131) := hid (fun h => by rw [<- er]; exact chkW_no h)
 clear er HV hsp
 by_cases t0 : 0 <= fr /\ fr <= 1099511627776
 rotate_left
 ·rw [decide_eq_false t0] at HW1
  have HX := hid (HNo.out (fun h => t0 (HD.out.1 h).1))
  clear t0
  go_enter Tryz.func41, Tryz.ntmps41
  go_wp2_with fail
  refine (HW1.out _).mono ?_
  rintro e w1 ⟨he, hw⟩
  rw [he, hw]
  clear he hw w1
  go_wp2_with fail
  go_ret
  exact ⟨by rw [HX.out]; rfl, HS0.out⟩
 rw [decide_eq_true t0] at HW1
 have T0 := hid t0
 clear t0
 by_cases t1 : 1 <= nx /\ nx <= 1099511627777
 rotate_left
 ·rw [decide_eq_false t1] at HW2
  have HX := hid (HNo.out (fun h => t1 (HD.out.1 h).2.1))
  clear t1
  go_enter Tryz.func41, Tryz.ntmps41
  go_wp2_with fail
  refine (HW1.out _).mono ?_
  rintro e w1 ⟨he, hw⟩
  rw [he, hw]
  clear he hw w1
  go_wp2_with fail
  refine (HW2.out _).mono ?_
  rintro e w1 ⟨he, hw⟩
  rw [he, hw]
  clear he hw w1
  go_wp2_with fail
  go_ret
  exact ⟨by rw [HX.out]; rfl, HS0.out⟩
 rw [decide_eq_true t1] at HW2
 have T1 := hid t1
 clear t1
 go_enter Tryz.func41, Tryz.ntmps41
 go_wp2_with fail
 refine (HW1.out _).mono ?_
 rintro e w1 ⟨he, hw⟩
 rw [he, hw]
 clear he hw w1
 go_wp2_with fail
 refine (HW2.out _).mono ?_
 rintro e w1 ⟨he, hw⟩
 rw [he, hw]
 clear he hw w1
 go_wp2_with fail
 refine (HPl.out _ HS0.out).mono ?_
 rintro e w1 ⟨⟨b1, rfl, hb1⟩, h1⟩
 have HS1 := hid (HS0.out.trans h1)
 have HP1 := hid (HP0.out.still h1)
 have HQ1 := hid (HQ0.out.still h1)
 have HB1 := hid hb1
 clear c0 c1 c2 c3 c4 c5 c6 c7 cf d0 d1 d2 d3 d4 d5 df h1 hb1 HP0 HQ0 eW0
 cases b1 with
 | false =>
  have HX := hid (HNo.out (fun h => by have := HB1.out.2 (HD.out.1 h).2.2.1; cases this))
  go_wp2_with fail
  go_ret
  exact ⟨by rw [HX.out]; rfl, HS1.out⟩
 | true =>
  obtain ⟨c0, c1, c2, c3, c4, c5, c6, c7, cf⟩ := HP1.out.cells
  obtain ⟨d0, d1, d2, d3, d4, d5, df⟩ := HQ1.out.cells
  go_wp2_with fail
  refine (HFl.out _ HS1.out).mono ?_
  rintro e w2 ⟨⟨b2, rfl, hb2⟩, h2⟩
  have HS2 := hid (HS1.out.trans h2)
  have HP2 := hid (HP1.out.still h2)
  have HQ2 := hid (HQ1.out.still h2)
  have HB2 := hid hb2
  clear c0 c1 c2 c3 c4 c5 c6 c7 cf d0 d1 d2 d3 d4 d5 df h2 hb2 HP1 HQ1
  cases b2 with
  | false =>
   have HX := hid (HNo.out (fun h => by have := HB2.out.2 (HD.out.1 h).2.2.2.1; cases this))
   go_wp2_with fail
   go_ret
   exact ⟨by rw [HX.out]; rfl, HS2.out⟩
  | true =>
   obtain ⟨c0, c1, c2, c3, c4, c5, c6, c7, cf⟩ := HP2.out.cells
   obtain ⟨d0, d1, d2, d3, d4, d5, df⟩ := HQ2.out.cells
   go_wp2_with fail
   refine (HLi.out _ HS2.out).mono ?_
   rintro e w3 ⟨⟨b3, rfl, hb3⟩, h3⟩
   have HS3 := hid (HS2.out.trans h3)
   have HP3 := hid (HP2.out.still h3)
   have HQ3 := hid (HQ2.out.still h3)
   have HB3 := hid hb3
   clear c0 c1 c2 c3 c4 c5 c6 c7 cf d0 d1 d2 d3 d4 d5 df h3 hb3 HP2 HQ2
   cases b3 with
   | false =>
    have HX := hid (HNo.out (fun h => by have := HB3.out.2 (HD.out.1 h).2.2.2.2; cases this))
    go_wp2_with fail
    go_ret
    exact ⟨by rw [HX.out]; rfl, HS3.out⟩
   | true =>
    have HX := hid (HYes.out (HD.out.2 ⟨T0.out, T1.out, HB1.out.1 (by first | rfl | trivial), HB2.out.1 (by first | rfl | trivial), HB3.out.1 (by first | rfl | trivial)⟩))
    go_wp2_with fail
    go_ret
    exact ⟨by rw [HX.out]; rfl, HS3.out⟩
end Go.Proofs.YthcjckgmdokmdaaGreatDoor
namespace Go.Proofs.YthcjckgmdokmdaaGreatDoor
open Go.RowKit
open Pu Gp Ap Vp Np Za Ka Ja Ea Ha Hg Hi
set_option maxRecDepth 100000
theorem Q13.still {x y : World} {F : Cf} {v : Int} {st sp : List (Int × Int)} (h : Q13 x F v st sp) (hs : Still x y) : Q13 y F v st sp := ⟨fun u hu => h.chk u (hs.trans hu), fun u hu => h.sts u (hs.trans hu), fun u hu => h.sps u (hs.trans hu)⟩
theorem open_yes (N : Nat) (q C R : Int) (s : ByteArray) (lo : Option Addr) (ln lc : Nat) (E : Env) (l : List Int) (w : World) (v : Int) (Q : Q13 w ⟨(N : Int), q, C, R, s, .slice lo ln lc⟩ v E.st E.sp) (hr : RdI w lo ln lc l) (hc : CfgP (N : Int) v E.st.length l) (n1 n2 : Nat) (e1 : E.st.length = n1) (e2 : E.sp.length = n2) :
  Calls Tryz.prog 40 #[.agg #[.int .i64 (N : Int), .int .u64 q, .int .i64 C, .int .i64 R, .string s, .slice lo ln lc]] w fun e w' => ∃ ao ac bo bc, e = .returned (.tuple #[.agg #[.int .i64 (N : Int), .int .u64 q, .int .i64 C, .int .i64 R, .string s, .slice lo ln lc, .slice ao n1 ac, .slice bo n2 bc], .int .i64 0]) /\ OwG KT 54 w' w.heap.size (.slice ao n1 ac) E.st /\ OwG KT 54 w' w.heap.size (.slice bo n2 bc) E.sp /\ Still w w' := by
 obtain ⟨h1, h2, rfl, h4, h5⟩ := hc
 refine (open_in _ q C R s E.st E.sp l lo ln lc w Q hr ⟨h1, h2⟩ h5).mono ?_
 rintro e w' ⟨hs, hy, _⟩
 obtain ⟨ao, ac, bo, bc, o1, o2, rfl⟩ := hy h4
 subst e1 e2
 exact ⟨ao, ac, bo, bc, rfl, o1, o2, hs⟩
theorem open_no (p q C R : Int) (s : ByteArray) (lo : Option Addr) (ln lc : Nat) (E : Env) (l : List Int) (w : World) (v : Int) (Q : Q13 w ⟨p, q, C, R, s, .slice lo ln lc⟩ v E.st E.sp) (hr : RdI w lo ln lc l) (hc : ¬ CfgP p v E.st.length l) :
  Calls Tryz.prog 40 #[.agg #[.int .i64 p, .int .u64 q, .int .i64 C, .int .i64 R, .string s, .slice lo ln lc]] w fun e w' => e = .returned (.tuple #[.agg #[.int .i64 0, .int .u64 0, .int .i64 0, .int .i64 0, .string ByteArray.empty, .slice none 0 0, .slice none 0 0, .slice none 0 0], .int .i64 130]) /\ Still w w' := by
 by_cases h : (2 <= p /\ p <= 6) /\ Lags l /\ v = 0
 ·obtain ⟨⟨h1, h2⟩, h5, rfl⟩ := h
  refine (open_in _ q C R s E.st E.sp l lo ln lc w Q hr ⟨h1, h2⟩ h5).mono ?_
  rintro e w' ⟨hs, _, hn⟩
  exact ⟨hn (fun h4 => hc ⟨h1, h2, rfl, h4, h5⟩), hs⟩
 ·exact open_no1 ⟨p, q, C, R, s, .slice lo ln lc⟩ v E.st E.sp l lo ln lc rfl w Q hr h
end Go.Proofs.YthcjckgmdokmdaaGreatDoor
namespace Go.Proofs.YthcjckgmdokmdaaGreatDoor
open Go.RowKit
open Pu Gp Ap Vp Np Za Ka Ja Ea Ha Hg Hi
set_option maxRecDepth 100000
set_option maxHeartbeats 4000000 in
theorem wchk_yes (N : Nat) (q C R : Int) (s : ByteArray) (lo : Option Addr) (ln lc : Nat) (E : Env) (l : List Int) (w : World) (v0 : Int) (Q : Q13 w ⟨(N : Int), q, C, R, s, .slice lo ln lc⟩ v0 E.st E.sp) (hr : RdI w lo ln lc l) (hc : CfgP (N : Int) v0 E.st.length l) (W : Wd) (v : Value) (hv : RdW w v W) :
  Calls Tryz.prog 14 #[.agg #[.int .i64 (N : Int), .int .u64 q, .int .i64 C, .int .i64 R, .string s, .slice lo ln lc], v] w fun e w' => e = .returned (.int .i64 (chkW (N : Int) E W)) /\ Still w w' := by
 have HV := hid hv
 obtain ⟨a, b, c, d, rfl, ⟨xa, ya, rfl, l1, ha, hra⟩, ⟨xb, yb, rfl, l2, hb, hrb⟩, ⟨xc, yc, rfl, l3, hc0, hrc⟩, ⟨xd, yd, rfl, l4, hd, hrd⟩⟩ := hv
 clear l1 l2 l3 l4 ha hb hc0 hd hra hrb hrc hrd
 obtain ⟨k1, e1⟩ : ∃ n, W.ms.length = n := ⟨_, rfl⟩
 obtain ⟨k2, e2⟩ : ∃ n, W.cs.length = n := ⟨_, rfl⟩
 obtain ⟨k3, e3⟩ : ∃ n, W.hs.length = n := ⟨_, rfl⟩
 obtain ⟨k4, e4⟩ : ∃ n, W.ks.length = n := ⟨_, rfl⟩
 obtain ⟨fr, efr⟩ : ∃ n, W.fr = n := ⟨_, rfl⟩
 obtain ⟨nx, enx⟩ : ∃ n, W.nx = n := ⟨_, rfl⟩
 rw [e1, e2, e3, e4, efr, enx] at HV ⊢
 have EF := hid efr
 clear e1 e2 e3 e4 efr enx
 have A0 := Still.alloc w (.cells #[.int .i64 (N : Int), .int .u64 q, .int .i64 C, .int .i64 R, .string s, .slice lo ln lc] 27)
 have A1 := Still.alloc (w.alloc (.cells #[.int .i64 (N : Int), .int .u64 q, .int .i64 C, .int .i64 R, .string s, .slice lo ln lc] 27)) (.cells (wdcs fr nx (.slice xa k1 ya) (.slice xb k2 yb) (.slice xc k3 yc) (.slice xd k4 yd)) 33)
 have p0 := (newCf_cb w ⟨(N : Int), q, C, R, s, .slice lo ln lc⟩).still A1
 have w0 := newWd_wb (w.alloc (.cells #[.int .i64 (N : Int), .int .u64 q, .int .i64 C, .int .i64 R, .string s, .slice lo ln lc] 27)) fr nx (.slice xa k1 ya) (.slice xb k2 yb) (.slice xc k3 yc) (.slice xd k4 yd)
 rw [size_alloc] at w0
 have HS0 : Hid (Still w ((w.alloc (.cells #[.int .i64 (N : Int), .int .u64 q, .int .i64 C, .int .i64 R, .string s, .slice lo ln lc] 27)).alloc (.cells (wdcs fr nx (.slice xa k1 ya) (.slice xb k2 yb) (.slice xc k3 yc) (.slice xd k4 yd)) 33))) := hid (A0.trans A1)
 have HP0 : Hid (Cfb ((w.alloc (.cells #[.int .i64 (N : Int), .int .u64 q, .int .i64 C, .int .i64 R, .string s, .slice lo ln lc] 27)).alloc (.cells (wdcs fr nx (.slice xa k1 ya) (.slice xb k2 yb) (.slice xc k3 yc) (.slice xd k4 yd)) 33)) w.heap.size ⟨(N : Int), q, C, R, s, .slice lo ln lc⟩) := hid p0
 have HW0 : Hid (Wdb ((w.alloc (.cells #[.int .i64 (N : Int), .int .u64 q, .int .i64 C, .int .i64 R, .string s, .slice lo ln lc] 27)).alloc (.cells (wdcs fr nx (.slice xa k1 ya) (.slice xb k2 yb) (.slice xc k3 yc) (.slice xd k4 yd)) 33)) (w.heap.size + 1) fr nx (.slice xa k1 ya) (.slice xb k2 yb) (.slice xc k3 yc) (.slice xd k4 yd)) := hid w0
 have HOp := hid (open_yes N q C R s lo ln lc E l ((w.alloc (.cells #[.int .i64 (N : Int), .int .u64 q, .int .i64 C, .int .i64 R, .string s, .slice lo ln lc] 27)).alloc (.cells (wdcs fr nx (.slice xa k1 ya) (.slice xb k2 yb) (.slice xc k3 yc) (.slice xd k4 yd)) 33)) v0 (Q.still (A0.trans A1)) (hr.still (A0.trans A1)) hc _ _ rfl rfl)
 obtain ⟨n1, e1⟩ : ∃ k, E.st.length = k := ⟨_, rfl⟩
 obtain ⟨n2, e2⟩ : ∃ k, E.sp.length = k := ⟨_, rfl⟩
 rw [e1, e2] at HOp
 have E2 := hid e2
 clear Q hr hc A0 A1 p0 w0 e1 e2
 obtain ⟨W0, eW0⟩ : ∃ X, ((w.alloc (.cells #[.int .i64 (N : Int), .int .u64 q, .int .i64 C, .int .i64 R, .string s, .slice lo ln lc] 27)).alloc (.cells (wdcs fr nx (.slice xa k1 ya) (.slice xb k2 yb) (.slice xc k3 yc) (.slice xd k4 yd)) 33)) = X := ⟨_, rfl⟩
 rw [eW0] at HS0 HP0 HW0 HOp
 obtain ⟨c0, c1, c2, c3, c4, c5, cf⟩ := HP0.out.cells
 go_enter Tryz.func14, Tryz.ntmps14
 go_wp2_with fail
 refine HOp.out.mono ?_
 rintro e w1 ⟨ao, ac, bo, bc, rfl, o1, o2, h1⟩
 have A2 := Still.alloc w1 (.cells #[.int .i64 (N : Int), .int .u64 q, .int .i64 C, .int .i64 R, .string s, .slice lo ln lc, .slice ao n1 ac, .slice bo n2 bc] 101)
 have HS1 : Hid (Still w (w1.alloc (.cells #[.int .i64 (N : Int), .int .u64 q, .int .i64 C, .int .i64 R, .string s, .slice lo ln lc, .slice ao n1 ac, .slice bo n2 bc] 101))) := hid ((HS0.out.trans h1).trans A2)
 have HQ1 : Hid (Seb (w1.alloc (.cells #[.int .i64 (N : Int), .int .u64 q, .int .i64 C, .int .i64 R, .string s, .slice lo ln lc, .slice ao n1 ac, .slice bo n2 bc] 101)) w1.heap.size ⟨⟨(N : Int), q, C, R, s, .slice lo ln lc⟩, .slice ao n1 ac, .slice bo n2 bc, .slice none 0 0⟩) := hid (heap_alloc_new w1 _)
 have HW1 : Hid (Wdb (w1.alloc (.cells #[.int .i64 (N : Int), .int .u64 q, .int .i64 C, .int .i64 R, .string s, .slice lo ln lc, .slice ao n1 ac, .slice bo n2 bc] 101)) (w.heap.size + 1) fr nx (.slice xa k1 ya) (.slice xb k2 yb) (.slice xc k3 yc) (.slice xd k4 yd)) := hid ((HW0.out.still h1).still A2)
 clear eW0 HOp c0 c1 c2 c3 c4 c5 cf o1 o2 h1 A2 HS0 HP0 HW0
 obtain ⟨W1, eW1⟩ : ∃ X, w1.alloc (.cells #[.int .i64 (N : Int), .int .u64 q, .int .i64 C, .int .i64 R, .string s, .slice lo ln lc, .slice ao n1 ac, .slice bo n2 bc] 101) = X := ⟨_, rfl⟩
 rw [eW1] at HS1 HQ1 HW1
 obtain ⟨c0, c1, c2, c3, c4, c5, c6, c7, cf⟩ := HQ1.out.cells
 obtain ⟨d0, d1, d2, d3, d4, d5, df⟩ := HW1.out.cells
 go_wp2_with fail
 refine (check13_any ⟨⟨(N : Int), q, C, R, s, .slice lo ln lc⟩, .slice ao n1 ac, .slice bo n2 bc, .slice none 0 0⟩ E N rfl bo bc (by rw [E2.out]) W _ W1 (HV.out.still HS1.out)).mono ?_
 rintro e w2 ⟨rfl, h2⟩
 have HS2 := hid (HS1.out.trans h2)
 clear h2 c0 c1 c2 c3 c4 c5 c6 c7 cf d0 d1 d2 d3 d4 d5 df eW1
 go_wp2_with fail
 go_ret
 exact ⟨rfl, HS2.out⟩
set_option maxHeartbeats 4000000 in
theorem wchk_no (p q C R : Int) (s : ByteArray) (lo : Option Addr) (ln lc : Nat) (E : Env) (l : List Int) (w : World) (v0 : Int) (Q : Q13 w ⟨p, q, C, R, s, .slice lo ln lc⟩ v0 E.st E.sp) (hr : RdI w lo ln lc l) (hc : ¬ CfgP p v0 E.st.length l) (W : Wd) (v : Value) (hv : RdW w v W) :
  Calls Tryz.prog 14 #[.agg #[.int .i64 p, .int .u64 q, .int .i64 C, .int .i64 R, .string s, .slice lo ln lc], v] w fun e w' => e = .returned (.int .i64 130) /\ Still w w' := by
 have HV := hid hv
 obtain ⟨a, b, c, d, rfl, ⟨xa, ya, rfl, l1, ha, hra⟩, ⟨xb, yb, rfl, l2, hb, hrb⟩, ⟨xc, yc, rfl, l3, hc0, hrc⟩, ⟨xd, yd, rfl, l4, hd, hrd⟩⟩ := hv
 clear l1 l2 l3 l4 ha hb hc0 hd hra hrb hrc hrd
 obtain ⟨k1, e1⟩ : ∃ n, W.ms.length = n := ⟨_, rfl⟩
 obtain ⟨k2, e2⟩ : ∃ n, W.cs.length = n := ⟨_, rfl⟩
 obtain ⟨k3, e3⟩ : ∃ n, W.hs.length = n := ⟨_, rfl⟩
 obtain ⟨k4, e4⟩ : ∃ n, W.ks.length = n := ⟨_, rfl⟩
 obtain ⟨fr, efr⟩ : ∃ n, W.fr = n := ⟨_, rfl⟩
 obtain ⟨nx, enx⟩ : ∃ n, W.nx = n := ⟨_, rfl⟩
 rw [e1, e2, e3, e4, efr, enx] at HV ⊢
 have EF := hid efr
 clear e1 e2 e3 e4 efr enx
 have A0 := Still.alloc w (.cells #[.int .i64 p, .int .u64 q, .int .i64 C, .int .i64 R, .string s, .slice lo ln lc] 27)
 have A1 := Still.alloc (w.alloc (.cells #[.int .i64 p, .int .u64 q, .int .i64 C, .int .i64 R, .string s, .slice lo ln lc] 27)) (.cells (wdcs fr nx (.slice xa k1 ya) (.slice xb k2 yb) (.slice xc k3 yc) (.slice xd k4 yd)) 33)
 have p0 := (newCf_cb w ⟨p, q, C, R, s, .slice lo ln lc⟩).still A1
 have HS0 : Hid (Still w ((w.alloc (.cells #[.int .i64 p, .int .u64 q, .int .i64 C, .int .i64 R, .string s, .slice lo ln lc] 27)).alloc (.cells (wdcs fr nx (.slice xa k1 ya) (.slice xb k2 yb) (.slice xc k3 yc) (.slice xd k4 yd)) 33))) := hid (A0.trans A1)
 have HP0 : Hid (Cfb ((w.alloc (.cells #[.int .i64 p, .int .u64 q, .int .i64 C, .int .i64 R, .string s, .slice lo ln lc] 27)).alloc (.cells (wdcs fr nx (.slice xa k1 ya) (.slice xb k2 yb) (.slice xc k3 yc) (.slice xd k4 yd)) 33)) w.heap.size ⟨p, q, C, R, s, .slice lo ln lc⟩) := hid p0
 have HOp := hid (open_no p q C R s lo ln lc E l ((w.alloc (.cells #[.int .i64 p, .int .u64 q, .int .i64 C, .int .i64 R, .string s, .slice lo ln lc] 27)).alloc (.cells (wdcs fr nx (.slice xa k1 ya) (.slice xb k2 yb) (.slice xc k3 yc) (.slice xd k4 yd)) 33)) v0 (Q.still (A0.trans A1)) (hr.still (A0.trans A1)) hc)
 clear Q hr hc A0 A1 p0
 obtain ⟨W0, eW0⟩ : ∃ X, ((w.alloc (.cells #[.int .i64 p, .int .u64 q, .int .i64 C, .int .i64 R, .string s, .slice lo ln lc] 27)).alloc (.cells (wdcs fr nx (.slice xa k1 ya) (.slice xb k2 yb) (.slice xc k3 yc) (.slice xd k4 yd)) 33)) = X := ⟨_, rfl⟩
 rw [eW0] at HS0 HP0 HOp
 obtain ⟨c0, c1, c2, c3, c4, c5, cf⟩ := HP0.out.cells
 go_enter Tryz.func14, Tryz.ntmps14
 go_wp2_with fail
 refine HOp.out.mono ?_
 rintro e w1 ⟨rfl, h1⟩
 have HS1 := hid (HS0.out.trans h1)
 clear eW0 HOp c0 c1 c2 c3 c4 c5 cf h1 HS0 HP0
 go_wp2_with fail
 go_ret
 exact ⟨rfl, HS1.out.trans (Still.alloc _ _)⟩
end Go.Proofs.YthcjckgmdokmdaaGreatDoor
namespace Go.Proofs.YthcjckgmdokmdaaGreatDoor
open Go.RowKit
open Pu Gp Ap Vp Np Za Ka Ja Ea Ha Hg Hi
set_option maxRecDepth 100000
end Go.Proofs.YthcjckgmdokmdaaGreatDoor
namespace Go.Proofs.YthcjckgmdokmdaaGreatDoor
open Go.RowKit
open Pu Gp Ap Vp Np Za Ka Ja Ea Ha Hg Hi
set_option maxRecDepth 100000
end Go.Proofs.YthcjckgmdokmdaaGreatDoor
