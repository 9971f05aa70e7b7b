/- Parts of the proof, laid end to end. -/
import Derived.Test.YthcjckgmdokmdaaGreatDoorXS12
import Derived.Test.YthcjckgmdokmdaaGreatDoorXS31
import Derived.Test.YthcjckgmdokmdaaGreatDoorXS01
import Derived.Test.YthcjckgmdokmdaaGreatDoorXS06
namespace Go.Proofs.YthcjckgmdokmdaaGreatDoor
open Go.RowKit
open Pu Gp Ap Vp Np Za Ka Ja Ea Ha
set_option maxRecDepth 100000
end Go.Proofs.YthcjckgmdokmdaaGreatDoor
namespace Go.Proofs.YthcjckgmdokmdaaGreatDoor
open Go.RowKit
open Pu Gp Ap Vp Np Za Ka Ja Ea Ha Hi
set_option maxRecDepth 100000
structure A13 (x : World) (F : Cf) (v : Int) (st : List (Int × Int)) : Prop where
 chk : ∀ u : World, Still x u -> Calls Tryz.prog 51 #[ar F.C F.R F.s] u fun e w' => e = .returned (.int .i64 v) /\ Still u w'
 sts : ∀ u : World, Still x u -> Calls Tryz.prog 25 #[ar F.C F.R F.s] u fun e w' => ∃ v, e = .returned v /\ OwG KT 54 w' u.heap.size v st /\ Still u w'
theorem A13.still {x y : World} {F : Cf} {v : Int} {st : List (Int × Int)} (h : A13 x F v st) (hs : Still x y) : A13 y F v st := ⟨fun u hu => h.chk u (hs.trans hu), fun u hu => h.sts u (hs.trans hu)⟩
def LagA (l : List Int) (i : Nat) : Prop := lgs l (i - 1) < lgs l i /\ lgs l i < 48
theorem lgs_at {l : List Int} {i : Nat} (h : i < l.length) : l[i] = lgs l i := by simp [lgs, List.getD, h]
theorem cfg_of {p v : Int} {k : Nat} {l : List Int} (h1 : ¬ p < 2) (h2 : ¬ p > 6) (h3 : v = 0) (h4 : ¬ (k : Int) < p) (h5 : 2 <= l.length) (h6 : l.length <= 5) (h7 : lgs l 0 = 0) (h8 : ∀ i, 1 <= i -> i < l.length -> LagA l i) : cfgE p v k l = 0 :=
 cfgE_yes ⟨by omega, by omega, h3, by omega, h5, h6, h7, h8⟩
set_option maxHeartbeats 4000000 in
theorem rcfg_any (F : Cf) (v : Int) (st : List (Int × Int)) (l : List Int) (lo : Option Addr) (n cap : Nat) (hlg : F.lg = .slice lo n cap) (w : World) (A : A13 w F v st) (hr : RdI w lo n cap l) :
  Calls Tryz.prog 24 #[cfv F] w fun e w' => e = .returned (.int .i64 (cfgE F.p v st.length l)) /\ Still w w' := by
 have A0 := Still.alloc w (.cells (cfc F) 27)
 have p0 := newCf_cb w F
 have hln := hr.len
 have hn := hr.small
 have HLg := hid hlg
 have HP0 := hid p0
 have HA0 := hid A0
 have HR := hid hr
 have HA := hid A
 have HL := hid hln
 have HCk := hid (A.chk _ A0)
 obtain ⟨c0, c1, c2, c3, c4, c5, cf⟩ := p0.cells
 obtain ⟨r, er⟩ : ∃ r, cfgE F.p v st.length l = r := ⟨_, rfl⟩
 rw [er]
 have HE := hid er
 clear hr A A0 p0 hln hlg er
 go_enter Tryz.func24, Tryz.ntmps24
 go_wp2_with fail
 refine HCk.out.mono ?_
 rintro e w1 ⟨rfl, h1⟩
 have HS1 := hid (HA0.out.trans h1)
 have HP1 := hid (HP0.out.still h1)
 have HSt := hid (HA.out.sts w1 HS1.out)
 clear c0 c1 c2 c3 c4 c5 cf h1 HCk HP0
 obtain ⟨c0, c1, c2, c3, c4, c5, cf⟩ := HP1.out.cells
 go_wp2_with fail
 refine HSt.out.mono ?_
 rintro e w2 ⟨sv, rfl, ho2, h2⟩
 obtain ⟨so, scap, rfl, _⟩ := ho2.slice
 have HS2 := hid (HS1.out.trans h2)
 have HP2 := hid (HP1.out.still h2)
 have HR2 := hid (HR.out.still HS2.out)
 clear c0 c1 c2 c3 c4 c5 cf h2 ho2 HSt HP1 HS1 HA HA0
 obtain ⟨c0, c1, c2, c3, c4, c5, cf⟩ := HP2.out.cells
 rw [HLg.out] at c5
 obtain ⟨k, ek⟩ : ∃ k, st.length = k := ⟨_, rfl⟩
 rw [ek] at HE
 (try rw [ek])
 clear ek
 by_cases t0 : F.p < 2
 ·have b0 : decide (F.p < 2) = true := decide_eq_true t0
  have HN : Hid (r = 130) := hid (by rw [<- HE.out]; exact cfgE_no (fun h => by have := h.1; have := h.2.1; have := h.2.2.1; have := h.2.2.2.1; have := h.2.2.2.2.1; have := h.2.2.2.2.2.1; have := HL.out; omega))
  clear t0
  go_wp2_with fail
  go_ret
  exact ⟨by rw [HN.out]; rfl, HS2.out⟩
 have b0 : decide (F.p < 2) = false := decide_eq_false t0
 have T0 := hid t0
 clear t0
 by_cases t1 : F.p > 6
 ·have b1 : decide (F.p > 6) = true := decide_eq_true t1
  have b1' : decide (6 < F.p) = true := decide_eq_true t1
  have HN : Hid (r = 130) := hid (by rw [<- HE.out]; exact cfgE_no (fun h => by have := h.1; have := h.2.1; have := h.2.2.1; have := h.2.2.2.1; have := h.2.2.2.2.1; have := h.2.2.2.2.2.1; have := HL.out; omega))
  clear t1
  go_wp2_with fail
  go_ret
  exact ⟨by rw [HN.out]; rfl, HS2.out⟩
 have b1 : decide (F.p > 6) = false := decide_eq_false t1
 have b1' : decide (6 < F.p) = false := decide_eq_false t1
 have T1 := hid t1
 clear t1
 by_cases t2 : v = 0
 rotate_left
 ·have b2 : (v != 0) = true := by simpa using t2
  have HN : Hid (r = 130) := hid (by rw [<- HE.out]; exact cfgE_no (fun h => by have := h.1; have := h.2.1; have := h.2.2.1; have := h.2.2.2.1; omega))
  clear t2
  go_wp2_with fail
  go_ret
  exact ⟨by rw [HN.out]; rfl, HS2.out⟩
 have b2 : (v != 0) = false := by simpa using t2
 have T2 := hid t2
 clear t2
 by_cases t3 : (k : Int) < F.p
 ·have b3 : decide ((k : Int) < F.p) = true := decide_eq_true t3
  have HN : Hid (r = 130) := hid (by rw [<- HE.out]; exact cfgE_no (fun h => by have := h.1; have := h.2.1; have := h.2.2.1; have := h.2.2.2.1; have := h.2.2.2.2.1; have := h.2.2.2.2.2.1; have := HL.out; omega))
  clear t3
  go_wp2_with fail
  go_ret
  exact ⟨by rw [HN.out]; rfl, HS2.out⟩
 have b3 : decide ((k : Int) < F.p) = false := decide_eq_false t3
 have T3 := hid t3
 clear t3
 by_cases t4 : (n : Int) < 2
 ·have b4 : decide ((n : Int) < 2) = true := decide_eq_true t4
  have HN : Hid (r = 130) := hid (by rw [<- HE.out]; exact cfgE_no (fun h => by have := h.1; have := h.2.1; have := h.2.2.1; have := h.2.2.2.1; have := h.2.2.2.2.1; have := h.2.2.2.2.2.1; have := HL.out; omega))
  clear t4
  go_wp2_with fail
  go_ret
  exact ⟨by rw [HN.out]; rfl, HS2.out⟩
 have b4 : decide ((n : Int) < 2) = false := decide_eq_false t4
 have T4 := hid t4
 clear t4
 by_cases t5 : (n : Int) > 5
 ·have b5 : decide ((n : Int) > 5) = true := decide_eq_true t5
  have b5' : decide (5 < (n : Int)) = true := decide_eq_true t5
  have HN : Hid (r = 130) := hid (by rw [<- HE.out]; exact cfgE_no (fun h => by have := h.1; have := h.2.1; have := h.2.2.1; have := h.2.2.2.1; have := h.2.2.2.2.1; have := h.2.2.2.2.2.1; have := HL.out; omega))
  clear t5
  go_wp2_with fail
  go_ret
  exact ⟨by rw [HN.out]; rfl, HS2.out⟩
 have b5 : decide ((n : Int) > 5) = false := decide_eq_false t5
 have b5' : decide (5 < (n : Int)) = false := decide_eq_false t5
 have T5 := hid t5
 clear t5
 have hn2 : 2 <= n := by have := T4.out; omega
 have hn5 : n <= 5 := by have := T5.out; omega
 obtain ⟨B, o, rfl⟩ := HR2.out.addr (by omega)
 have l0 := HR2.out.byte (k := 0) (by have := HL.out; omega)
 rw [Nat.add_zero, lgs_at (by have := HL.out; omega)] at l0
 obtain ⟨x0, ex0⟩ : ∃ x, lgs l 0 = x := ⟨_, rfl⟩
 rw [ex0] at l0
 have EX := hid ex0
 clear ex0
 by_cases t6 : x0 = 0
 rotate_left
 ·have b6 : (x0 != 0) = true := by simpa using t6
  have HN : Hid (r = 130) := hid (by rw [<- HE.out]; exact cfgE_no (fun h => t6 (by rw [<- EX.out]; exact h.2.2.2.2.2.2.1)))
  clear t6
  go_wp2_with fail
  go_ret
  exact ⟨by rw [HN.out]; rfl, HS2.out⟩
 subst t6
 have HK : Hid ((∀ i, 1 <= i -> i < l.length -> LagA l i) -> r = 0) := hid (fun h8 => by
  rw [<- HE.out]
  exact cfg_of T0.out T1.out T2.out T3.out (by have := HL.out; omega) (by have := HL.out; omega) EX.out h8)
 have HN : Hid (∀ i, 1 <= i -> i < l.length -> ¬ LagA l i -> r = 130) := hid (fun i hi1 hi2 h => by
  rw [<- HE.out]
  exact cfgE_no (fun hc => h (hc.2.2.2.2.2.2.2 i hi1 hi2)))
 clear HE EX T0 T1 T2 T3 T4 T5
 go_wp2_with fail
 clear c0 c1 c2 c3 c4 c5 cf l0 b0 b1 b1' b2 b3 b4 b5 b5'
 go_loopw [5] (fun u wr => ∃ i : Nat, 1 <= i /\ i <= n /\ u = .int .i64 (i : Int) /\ Hid (∀ j, 1 <= j -> j < i -> LagA l j) /\ Still w2 wr) (fun u _ => n - (intOf u).toNat)
 case atStart => exact ⟨1, by omega, by omega, rfl, hid (fun j h1 h2 => by omega), Fr.refl _ _⟩
 case round =>
  obtain ⟨i, hi1, hi2, rfl, HJ, hs⟩ := hrel
  obtain ⟨c0, c1, c2, c3, c4, c5, cf⟩ := (HP2.out.still hs).cells
  rw [HLg.out] at c5
  by_cases hin : i < n
  ·have hlt : (i : Int) < (n : Int) := by omega
   obtain ⟨m, rfl⟩ : ∃ m, i = m + 1 := ⟨i - 1, by omega⟩
   have la := (HR2.out.still hs).byte (k := m + 1) (by have := HL.out; omega)
   have lb := (HR2.out.still hs).byte (k := m) (by have := HL.out; omega)
   rw [lgs_at (by have := HL.out; omega)] at la lb
   have HD : Hid (LagA l (m + 1) ↔ lgs l m < lgs l (m + 1) /\ lgs l (m + 1) < 48) := hid Iff.rfl
   obtain ⟨x, ex⟩ : ∃ x, lgs l (m + 1) = x := ⟨_, rfl⟩
   obtain ⟨y, ey⟩ : ∃ x, lgs l m = x := ⟨_, rfl⟩
   rw [ex] at la HD
   rw [ey] at lb HD
   clear ex ey
   have q5 := Cl.cell c5
   have qa := Cl.cell la
   have qb := Cl.cell lb
   have hne := Aft.here wr
   have z1 : ((m : Int) + 1).toNat = m + 1 := by omega
   have z3 : (m : Int) + 1 < (n : Int) := by omega
   have z4 : (m : Int) < (n : Int) := by omega
   have z5 : (0 : Int) <= (m : Int) + 1 := by omega
   have HS := hid hs
   have HY : Hid (LagA l (m + 1) -> ∀ j, 1 <= j -> j < m + 1 + 1 -> LagA l j) := hid (fun h j h1 h2 => by
    by_cases e : j = m + 1
    ·subst e; exact h
    ·exact HJ.out j h1 (by omega))
   clear HJ hs
   by_cases g1 : x <= y
   ·have e1 : decide (x <= y) = true := decide_eq_true g1
    have HX := hid (HN.out (m + 1) hi1 (by have := HL.out; omega) (fun h => by have := (HD.out.1 h).1; omega))
    clear g1
    go_upto_region 8 with fail
    refine region_all (by kernel_rfl) (by kernel_rfl) ?_
    repeat (go_big_quiet_step (fail))
    refine wpQuiet_nil ?_
    intro w3 h3
    have HS3 := hid (HS2.out.trans (HS.out.trans h3))
    clear h3 q5 qa qb hne c0 c1 c2 c3 c4 c5 cf la lb
    go_wp2_with fail
    (first | rw [Exit.noGoto_ret] | skip)
    go_ret
    exact ⟨by rw [HX.out]; rfl, HS3.out⟩
   ·have e1 : decide (x <= y) = false := decide_eq_false g1
    by_cases g2 : x ≥ 48
    ·have e2 : decide (x ≥ 48) = true := decide_eq_true g2
     have HX := hid (HN.out (m + 1) hi1 (by have := HL.out; omega) (fun h => by have := (HD.out.1 h).2; omega))
     clear g1 g2
     go_upto_region 8 with fail
     refine region_all (by kernel_rfl) (by kernel_rfl) ?_
     repeat (go_big_quiet_step (fail))
     refine wpQuiet_nil ?_
     intro w3 h3
     have HS3 := hid (HS2.out.trans (HS.out.trans h3))
     clear h3 q5 qa qb hne c0 c1 c2 c3 c4 c5 cf la lb
     go_wp2_with fail
     (first | rw [Exit.noGoto_ret] | skip)
     go_ret
     exact ⟨by rw [HX.out]; rfl, HS3.out⟩
    ·have e2 : decide (x ≥ 48) = false := decide_eq_false g2
     have HX := hid (HY.out (HD.out.2 ⟨by omega, by omega⟩))
     clear g1 g2
     go_upto_region 8 with fail
     refine region_all (by kernel_rfl) (by kernel_rfl) ?_
     repeat (go_big_quiet_step (fail))
     refine wpQuiet_nil ?_
     intro w3 h3
     have HS3 := hid (HS.out.trans h3)
     clear h3 q5 qa qb hne c0 c1 c2 c3 c4 c5 cf la lb
     go_wp2_with fail
     go_roundw
     case rel => exact ⟨m + 1 + 1, by omega, by omega, by go_num, HX, HS3.out⟩
     case measure => simp [intOf]; omega
  ·have hge : ¬ (i : Int) < (n : Int) := by omega
   have HX := hid (HK.out (fun j h1 h2 => HJ.out j h1 (by have := HL.out; omega)))
   have HS := hid (HS2.out.trans hs)
   clear HJ hs
   go_wp2_with fail
   go_ret
   exact ⟨by rw [HX.out]; rfl, HS.out⟩
end Go.Proofs.YthcjckgmdokmdaaGreatDoor
