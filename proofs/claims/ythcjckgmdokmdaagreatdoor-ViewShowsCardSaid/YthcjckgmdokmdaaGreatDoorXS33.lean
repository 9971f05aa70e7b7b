/- Parts of the proof, laid end to end. -/
import Derived.Test.YthcjckgmdokmdaaGreatDoorXS30
import Derived.Test.YthcjckgmdokmdaaGreatDoorXS32
import Derived.Test.YthcjckgmdokmdaaGreatDoorXS01
import Derived.Test.YthcjckgmdokmdaaGreatDoorXS24
import Derived.Test.YthcjckgmdokmdaaGreatDoorXS26
import Derived.Test.YthcjckgmdokmdaaGreatDoorXS12
import Derived.Test.YthcjckgmdokmdaaGreatDoorXS27
namespace Go.Proofs.YthcjckgmdokmdaaGreatDoor
open Go.RowKit
open Pu Gp Ap Vp Np Za Ka Ja Ea Ha Hg Hi
set_option maxRecDepth 100000
theorem a13_of (F : Cf) (hz : F.s.size <= 281474976710656) (v : Int) (hv : ChkV F.C F.R F.s v) (x : World) : A13 x F v (stV F.C F.s v) where
 chk u _ := (rmapcheck_any F.C F.R F.s hz u).mono fun e w' ⟨v', he, hv', hs⟩ => by
  rw [chkV_one hv' hv] at he
  exact ⟨he, hs⟩
 sts u _ := (rstarts_any F.C F.R F.s hz u).mono fun e w' ⟨a, v', he, hv', ho, hs⟩ => by
  rw [chkV_one hv' hv] at ho
  exact ⟨a, he, ho, hs⟩
end Go.Proofs.YthcjckgmdokmdaaGreatDoor
namespace Go.Proofs.YthcjckgmdokmdaaGreatDoor
open Go.RowKit
open Pu Gp Ap Vp Np Za Ka Ja Ea Ha Hg Hi
set_option maxRecDepth 100000
abbrev y0 : Cm := ⟨1, 1, 1, 7, 9, 0, 0⟩
end Go.Proofs.YthcjckgmdokmdaaGreatDoor
namespace Go.Proofs.YthcjckgmdokmdaaGreatDoor
open Go.RowKit
open Pu Gp Ap Vp Np Za Ka Ja Ea Ha Hg Hi
set_option maxRecDepth 100000
end Go.Proofs.YthcjckgmdokmdaaGreatDoor
namespace Go.Proofs.YthcjckgmdokmdaaGreatDoor
open Go.RowKit
open Pu Gp Ap Vp Np Za Ka Ja Ea Ha Hg Hi
set_option maxRecDepth 100000
end Go.Proofs.YthcjckgmdokmdaaGreatDoor
namespace Go.Proofs.YthcjckgmdokmdaaGreatDoor
open Go.RowKit
open Pu Gp Ap Vp Np Za Ka Ja Ea Ha Hg Hi
set_option maxRecDepth 100000
theorem all_getD {α : Type} {L : List α} {d : α} {Q : α -> Prop} (h : ∀ j, j < L.length -> Q (L.getD j d)) : ∀ s ∈ L, Q s := fun s hs => by
 obtain ⟨i, hi, rfl⟩ := List.mem_iff_getElem.1 hs
 have := h i hi
 rw [List.getD_eq_getElem?_getD, List.getElem?_eq_getElem hi] at this
 exact this
theorem getD_in {α : Type} {L : List α} {d : α} {j : Nat} (hj : j < L.length) : L.getD j d ∈ L := by
 rw [List.getD_eq_getElem?_getD, List.getElem?_eq_getElem hj]
 exact List.getElem_mem hj
theorem spots_of (C R : Int) (s : ByteArray) (hz : s.size <= 281474976710656) (v : Int) (hv : ChkV C R s v) (u : World) : Calls Tryz.prog 20 #[ar C R s] u fun e w' => ∃ a, e = .returned a /\ OwG KT 54 w' u.heap.size a (spV C s v) /\ Still u w' :=
 (rspots_any C R s hz u).mono fun e w' ⟨a, v', he, hv', ho, hs⟩ => by
  rw [chkV_one hv' hv] at ho
  exact ⟨a, he, ho, hs⟩
set_option maxHeartbeats 4000000 in
theorem rchk13_no (p q C R : Int) (s : ByteArray) (lo : Option Addr) (ln lc : Nat) (st : List (Int × Int)) (l : List Int) (w : World) (v0 : Int) (A : A13 w ⟨p, q, C, R, s, .slice lo ln lc⟩ v0 st) (hr : RdI w lo ln lc l) (hc : ¬ CfgP p v0 st.length l) (W : Wd) (v : Value) (hv : RdW w v W) :
  Calls Tryz.prog 19 #[.agg #[.int .i64 p, .int .u64 q, .int .i64 C, .int .i64 R, .string s, .slice lo ln lc], v] w fun e w' => e = .returned (.int .i64 130) /\ Still w w' := by
 have HV := hid hv
 obtain ⟨a, b, c, d, rfl, ⟨xa, ya, rfl, l1, ha, hra⟩, ⟨xb, yb, rfl, l2, hb, hrb⟩, ⟨xc, yc, rfl, l3, hc0, hrc⟩, ⟨xd, yd, rfl, l4, hd0, hrd⟩⟩ := hv
 have HRc := hid hrc
 have HRd := hid hrd
 clear l1 l2 l3 l4 ha hb hc0 hd0 hra hrb hrc hrd
 obtain ⟨k1, e1⟩ : ∃ n, W.ms.length = n := ⟨_, rfl⟩
 obtain ⟨k2, e2⟩ : ∃ n, W.cs.length = n := ⟨_, rfl⟩
 obtain ⟨k3, e3⟩ : ∃ n, W.hs.length = n := ⟨_, rfl⟩
 obtain ⟨k4, e4⟩ : ∃ n, W.ks.length = n := ⟨_, rfl⟩
 obtain ⟨fr, e5⟩ : ∃ n, W.fr = n := ⟨_, rfl⟩
 obtain ⟨nx, e6⟩ : ∃ n, W.nx = n := ⟨_, rfl⟩
 rw [e1, e2, e3, e4, e5, e6] at HV ⊢
 rw [e3] at HRc
 rw [e4] at HRd
 have EL := hid (And.intro e3 (And.intro e4 (And.intro e5 e6)))
 clear e1 e2 e3 e4 e5 e6
 have A0 := Still.alloc w (.cells #[.int .i64 p, .int .u64 q, .int .i64 C, .int .i64 R, .string s, .slice lo ln lc] 27)
 have A1 := Still.alloc (w.alloc (.cells #[.int .i64 p, .int .u64 q, .int .i64 C, .int .i64 R, .string s, .slice lo ln lc] 27)) (.cells (wdcs fr nx (.slice xa k1 ya) (.slice xb k2 yb) (.slice xc k3 yc) (.slice xd k4 yd)) 33)
 have w0 := newWd_wb (w.alloc (.cells #[.int .i64 p, .int .u64 q, .int .i64 C, .int .i64 R, .string s, .slice lo ln lc] 27)) fr nx (.slice xa k1 ya) (.slice xb k2 yb) (.slice xc k3 yc) (.slice xd k4 yd)
 rw [size_alloc] at w0
 have HS0 : Hid (Still w ((w.alloc (.cells #[.int .i64 p, .int .u64 q, .int .i64 C, .int .i64 R, .string s, .slice lo ln lc] 27)).alloc (.cells (wdcs fr nx (.slice xa k1 ya) (.slice xb k2 yb) (.slice xc k3 yc) (.slice xd k4 yd)) 33))) := hid (A0.trans A1)
 have HP0 : Hid (Cfb ((w.alloc (.cells #[.int .i64 p, .int .u64 q, .int .i64 C, .int .i64 R, .string s, .slice lo ln lc] 27)).alloc (.cells (wdcs fr nx (.slice xa k1 ya) (.slice xb k2 yb) (.slice xc k3 yc) (.slice xd k4 yd)) 33)) w.heap.size ⟨p, q, C, R, s, .slice lo ln lc⟩) := hid ((newCf_cb w ⟨p, q, C, R, s, .slice lo ln lc⟩).still A1)
 have HW0 : Hid (Wdb ((w.alloc (.cells #[.int .i64 p, .int .u64 q, .int .i64 C, .int .i64 R, .string s, .slice lo ln lc] 27)).alloc (.cells (wdcs fr nx (.slice xa k1 ya) (.slice xb k2 yb) (.slice xc k3 yc) (.slice xd k4 yd)) 33)) (w.heap.size + 1) fr nx (.slice xa k1 ya) (.slice xb k2 yb) (.slice xc k3 yc) (.slice xd k4 yd)) := hid w0
 have HOp := hid (rcfg_any ⟨p, q, C, R, s, .slice lo ln lc⟩ v0 st l lo ln lc rfl ((w.alloc (.cells #[.int .i64 p, .int .u64 q, .int .i64 C, .int .i64 R, .string s, .slice lo ln lc] 27)).alloc (.cells (wdcs fr nx (.slice xa k1 ya) (.slice xb k2 yb) (.slice xc k3 yc) (.slice xd k4 yd)) 33)) (A.still (A0.trans A1)) (hr.still (A0.trans A1)))
 rw [cfgE_no (by exact hc)] at HOp
 clear A hr hc
 clear A0 A1 w0
 obtain ⟨W0, eW0⟩ : ∃ X, ((w.alloc (.cells #[.int .i64 p, .int .u64 q, .int .i64 C, .int .i64 R, .string s, .slice lo ln lc] 27)).alloc (.cells (wdcs fr nx (.slice xa k1 ya) (.slice xb k2 yb) (.slice xc k3 yc) (.slice xd k4 yd)) 33)) = X := ⟨_, rfl⟩
 rw [eW0] at HS0 HP0 HW0 HOp
 obtain ⟨c0, c1, c2, c3, c4, c5, cf⟩ := HP0.out.cells
 dsimp only at c0 c1 c2 c3 c4 c5
 go_enter Tryz.func19, Tryz.ntmps19
 go_wp2_with fail
 refine HOp.out.mono ?_
 rintro e w1 ⟨rfl, h1⟩
 have HS1 := hid (HS0.out.trans h1)
 clear h1 c0 c1 c2 c3 c4 c5 cf eW0
 go_wp2_with fail
 go_ret
 exact ⟨rfl, HS1.out⟩
set_option maxHeartbeats 16000000 in
theorem rchk13_yes (N : Nat) (q C R : Int) (s : ByteArray) (lo : Option Addr) (ln lc : Nat) (E : Env) (l : List Int) (w : World) (v0 : Int) (A : A13 w ⟨(N : Int), q, C, R, s, .slice lo ln lc⟩ v0 E.st) (hsp : ∀ u, Calls Tryz.prog 20 #[ar C R s] u fun e w' => ∃ a, e = .returned a /\ OwG KT 54 w' u.heap.size a E.sp /\ Still u w') (hr : RdI w lo ln lc l) (hc : CfgP (N : Int) v0 E.st.length l) (W : Wd) (v : Value) (hv : RdW w v W) :
  Calls Tryz.prog 19 #[.agg #[.int .i64 (N : Int), .int .u64 q, .int .i64 C, .int .i64 R, .string s, .slice lo ln lc], v] w fun e w' => e = .returned (.int .i64 (chkW (N : Int) E W)) /\ Still w w' := by
 have hN6 : N <= 6 := by have := hc.2.1; omega
 have HYs : Hid (Fits (N : Int) E W -> (0 : Int) = chkW (N : Int) E W) := hid (fun h => (chkW_yes h).symm)
 have HNo : Hid (¬ Fits (N : Int) E W -> (131 : Int) = chkW (N : Int) E W) := hid (fun h => (chkW_no h).symm)
 have HFi : Hid (Fits (N : Int) E W ↔ (Seats N W /\ Flo W.hs /\ (∀ s ∈ W.hs, s.ow < (N : Int) /\ s.no < W.nx) /\ MayK W.ks (E.sp.length : Int) /\ (∀ x ∈ W.ks, x.no < W.nx) /\ 1 <= W.nx /\ W.nx <= 1099511627777) /\ 0 <= W.fr /\ W.fr <= 1099511627776) := hid (by
  unfold Fits Ha.Good Ha.Rest
  rw [Int.toNat_natCast])
 obtain ⟨res, eres⟩ : ∃ k, chkW (N : Int) E W = k := ⟨_, rfl⟩
 rw [eres] at HYs HNo ⊢
 clear eres
 have HV := hid hv
 obtain ⟨a, b, c, d, rfl, ⟨xa, ya, rfl, l1, ha, hra⟩, ⟨xb, yb, rfl, l2, hb, hrb⟩, ⟨xc, yc, rfl, l3, hc0, hrc⟩, ⟨xd, yd, rfl, l4, hd0, hrd⟩⟩ := hv
 have HRc := hid hrc
 have HRd := hid hrd
 clear l1 l2 l3 l4 ha hb hc0 hd0 hra hrb hrc hrd
 obtain ⟨k1, e1⟩ : ∃ n, W.ms.length = n := ⟨_, rfl⟩
 obtain ⟨k2, e2⟩ : ∃ n, W.cs.length = n := ⟨_, rfl⟩
 obtain ⟨k3, e3⟩ : ∃ n, W.hs.length = n := ⟨_, rfl⟩
 obtain ⟨k4, e4⟩ : ∃ n, W.ks.length = n := ⟨_, rfl⟩
 obtain ⟨fr, e5⟩ : ∃ n, W.fr = n := ⟨_, rfl⟩
 obtain ⟨nx, e6⟩ : ∃ n, W.nx = n := ⟨_, rfl⟩
 rw [e1, e2, e3, e4, e5, e6] at HV ⊢
 rw [e3] at HRc
 rw [e4] at HRd
 have EL := hid (And.intro e3 (And.intro e4 (And.intro e5 e6)))
 clear e1 e2 e3 e4 e5 e6
 have A0 := Still.alloc w (.cells #[.int .i64 (N : Int), .int .u64 q, .int .i64 C, .int .i64 R, .string s, .slice lo ln lc] 27)
 have A1 := Still.alloc (w.alloc (.cells #[.int .i64 (N : Int), .int .u64 q, .int .i64 C, .int .i64 R, .string s, .slice lo ln lc] 27)) (.cells (wdcs fr nx (.slice xa k1 ya) (.slice xb k2 yb) (.slice xc k3 yc) (.slice xd k4 yd)) 33)
 have w0 := newWd_wb (w.alloc (.cells #[.int .i64 (N : Int), .int .u64 q, .int .i64 C, .int .i64 R, .string s, .slice lo ln lc] 27)) fr nx (.slice xa k1 ya) (.slice xb k2 yb) (.slice xc k3 yc) (.slice xd k4 yd)
 rw [size_alloc] at w0
 have HS0 : Hid (Still w ((w.alloc (.cells #[.int .i64 (N : Int), .int .u64 q, .int .i64 C, .int .i64 R, .string s, .slice lo ln lc] 27)).alloc (.cells (wdcs fr nx (.slice xa k1 ya) (.slice xb k2 yb) (.slice xc k3 yc) (.slice xd k4 yd)) 33))) := hid (A0.trans A1)
 have HP0 : Hid (Cfb ((w.alloc (.cells #[.int .i64 (N : Int), .int .u64 q, .int .i64 C, .int .i64 R, .string s, .slice lo ln lc] 27)).alloc (.cells (wdcs fr nx (.slice xa k1 ya) (.slice xb k2 yb) (.slice xc k3 yc) (.slice xd k4 yd)) 33)) w.heap.size ⟨(N : Int), q, C, R, s, .slice lo ln lc⟩) := hid ((newCf_cb w ⟨(N : Int), q, C, R, s, .slice lo ln lc⟩).still A1)
 have HW0 : Hid (Wdb ((w.alloc (.cells #[.int .i64 (N : Int), .int .u64 q, .int .i64 C, .int .i64 R, .string s, .slice lo ln lc] 27)).alloc (.cells (wdcs fr nx (.slice xa k1 ya) (.slice xb k2 yb) (.slice xc k3 yc) (.slice xd k4 yd)) 33)) (w.heap.size + 1) fr nx (.slice xa k1 ya) (.slice xb k2 yb) (.slice xc k3 yc) (.slice xd k4 yd)) := hid w0
 have HOp := hid (rcfg_any ⟨(N : Int), q, C, R, s, .slice lo ln lc⟩ v0 E.st l lo ln lc rfl ((w.alloc (.cells #[.int .i64 (N : Int), .int .u64 q, .int .i64 C, .int .i64 R, .string s, .slice lo ln lc] 27)).alloc (.cells (wdcs fr nx (.slice xa k1 ya) (.slice xb k2 yb) (.slice xc k3 yc) (.slice xd k4 yd)) 33)) (A.still (A0.trans A1)) (hr.still (A0.trans A1)))
 rw [cfgE_yes (by exact hc)] at HOp
 have HSp := hid hsp
 clear A hr hc hsp
 clear A0 A1 w0
 obtain ⟨W0, eW0⟩ : ∃ X, ((w.alloc (.cells #[.int .i64 (N : Int), .int .u64 q, .int .i64 C, .int .i64 R, .string s, .slice lo ln lc] 27)).alloc (.cells (wdcs fr nx (.slice xa k1 ya) (.slice xb k2 yb) (.slice xc k3 yc) (.slice xd k4 yd)) 33)) = X := ⟨_, rfl⟩
 rw [eW0] at HS0 HP0 HW0 HOp
 obtain ⟨c0, c1, c2, c3, c4, c5, cf⟩ := HP0.out.cells
 dsimp only at c0 c1 c2 c3 c4 c5
 go_enter Tryz.func19, Tryz.ntmps19
 go_wp2_with fail
 refine HOp.out.mono ?_
 rintro e w1 ⟨rfl, h1⟩
 have HS1 := hid (HS0.out.trans h1)
 have HP1 := hid (HP0.out.still h1)
 have HW1 := hid (HW0.out.still h1)
 clear h1 c0 c1 c2 c3 c4 c5 cf eW0 HS0 HP0 HW0 HOp
 obtain ⟨c0, c1, c2, c3, c4, c5, cf⟩ := HP1.out.cells
 dsimp only at c0 c1 c2 c3 c4 c5
 go_wp2_with fail
 refine (HSp.out w1).mono ?_
 rintro e w2 ⟨vs, rfl, ho2, h2⟩
 obtain ⟨so, sc', rfl, _⟩ := ho2.slice
 have HS2 := hid (HS1.out.trans h2)
 have HP2 := hid (HP1.out.still h2)
 have HW2 := hid (HW1.out.still h2)
 obtain ⟨sn, esn⟩ : ∃ k, E.sp.length = k := ⟨_, rfl⟩
 rw [esn] at HFi ⊢
 clear ho2 h2 c0 c1 c2 c3 c4 c5 cf HS1 HP1 HW1 HSp esn
 obtain ⟨c0, c1, c2, c3, c4, c5, cf⟩ := HP2.out.cells
 dsimp only at c0 c1 c2 c3 c4 c5
 obtain ⟨d0, d1, d2, d3, d4, d5, df⟩ := HW2.out.cells
 go_wp2_with fail
 refine (rmovers_any ⟨(N : Int), q, C, R, s, .slice lo ln lc⟩ N rfl hN6 W _ w2 (HV.out.still HS2.out)).mono ?_
 rintro e w3 ⟨r, rfl, ⟨b, rfl, hsq⟩, h3⟩
 have HSq := hid hsq
 have HS3 := hid (HS2.out.trans h3)
 have HP3 := hid (HP2.out.still h3)
 have HW3 := hid (HW2.out.still h3)
 clear hsq h3 c0 c1 c2 c3 c4 c5 cf d0 d1 d2 d3 d4 d5 df HS2 HP2 HW2 HV
 obtain ⟨d0, d1, d2, d3, d4, d5, df⟩ := HW3.out.cells
 go_wp2_with fail
 refine (rflo_any W.hs xc k3 yc w3 (HRc.out.still HS3.out)).mono ?_
 rintro e w4 ⟨rfl, h4⟩
 have HS4 := hid (HS3.out.trans h4)
 have HP4 := hid (HP3.out.still h4)
 have HW4 := hid (HW3.out.still h4)
 obtain ⟨fl, efl⟩ : ∃ b, flo W.hs = b := ⟨_, rfl⟩
 have HFl := hid efl
 rw [efl]
 clear efl h4 d0 d1 d2 d3 d4 d5 df HS3 HP3 HW3
 obtain ⟨d0, d1, d2, d3, d4, d5, df⟩ := HW4.out.cells
 go_wp2_with fail
 refine (rchk10_any W.ks (sn : Int) xd k4 yd w4 (rdK_ofQ (HRd.out.still HS4.out))).mono ?_
 rintro e w5 ⟨rfl, h5⟩
 have HS5 := hid (HS4.out.trans h5)
 have HP5 := hid (HP4.out.still h5)
 have HW5 := hid (HW4.out.still h5)
 obtain ⟨ck, eck⟩ : ∃ b, chkK W.ks (sn : Int) = b := ⟨_, rfl⟩
 have HCk := hid eck
 rw [eck]
 clear eck h5 d0 d1 d2 d3 d4 d5 df HS4 HP4 HW4
 obtain ⟨d0, d1, d2, d3, d4, d5, df⟩ := HW5.out.cells
 have HLs := hid trivial
 cases b with
 | false =>
  have HE := hid (HNo.out (fun h => by have := HSq.out.2 (HFi.out.1 h).1.1; cases this))
  clear HLs
  go_wp2_with fail
  go_ret
  exact ⟨ret_int HE.out, HS5.out⟩
 | true =>
 cases fl with
 | false =>
  have HE := hid (HNo.out (fun h => by have := flo_iff.2 (HFi.out.1 h).1.2.1; rw [HFl.out] at this; cases this))
  clear HLs
  go_wp2_with fail
  go_ret
  exact ⟨ret_int HE.out, HS5.out⟩
 | true =>
 by_cases g1 : ck = 0
 rotate_left
 ·have g1' : (ck != 0) = true := by simpa using g1
  have HE := hid (HNo.out (fun h => g1 (by rw [<- HCk.out]; exact chkK_yes (HFi.out.1 h).1.2.2.2.1)))
  clear HLs
  go_wp2_with fail
  go_ret
  exact ⟨ret_int HE.out, HS5.out⟩
 subst g1
 by_cases g2 : fr < 0
 ·skip
  have HE := hid (HNo.out (fun h => by have h1 := (HFi.out.1 h).2.1; rw [EL.out.2.2.1] at h1; omega))
  clear HLs
  go_wp2_with fail
  go_ret
  exact ⟨ret_int HE.out, HS5.out⟩
 by_cases g3 : fr > 1099511627776
 ·skip
  have HE := hid (HNo.out (fun h => by have h1 := (HFi.out.1 h).2.2; rw [EL.out.2.2.1] at h1; omega))
  clear HLs
  go_wp2_with fail
  go_ret
  exact ⟨ret_int HE.out, HS5.out⟩
 by_cases g4 : nx < 1
 ·skip
  have HE := hid (HNo.out (fun h => by have h1 := (HFi.out.1 h).1.2.2.2.2.2.1; rw [EL.out.2.2.2] at h1; omega))
  clear HLs
  go_wp2_with fail
  go_ret
  exact ⟨ret_int HE.out, HS5.out⟩
 by_cases g5 : nx > 1099511627777
 ·skip
  have HE := hid (HNo.out (fun h => by have h1 := (HFi.out.1 h).1.2.2.2.2.2.2; rw [EL.out.2.2.2] at h1; omega))
  clear HLs
  go_wp2_with fail
  go_ret
  exact ⟨ret_int HE.out, HS5.out⟩
 have HK0 : Hid (Seats N W /\ Flo W.hs /\ MayK W.ks (sn : Int) /\ (1 <= W.nx /\ W.nx <= 1099511627777) /\ 0 <= W.fr /\ W.fr <= 1099511627776) := hid (by
  rw [EL.out.2.2.1, EL.out.2.2.2]
  exact ⟨HSq.out.1 rfl, flo_iff.1 HFl.out, chkK0.1 HCk.out, ⟨by omega, by omega⟩, by omega, by omega⟩)
 go_wp2_with fail
 clear d0 d1 d2 d3 d4 d5 df HLs
 have hk3 : k3 <= 48 := by have h := HK0.out.2.1.1; rw [EL.out.1] at h; exact h
 have hk4 : k4 <= 281474976710656 := by have h := (mayK_pw.1 HK0.out.2.2.1).2.1; rw [EL.out.2.1] at h; omega
 go_loopw [10] (fun u wr => ∃ i : Nat, i <= k3 /\ u = .int .i64 (i : Int) /\ Hid (∀ j, j < i -> (ss W.hs j).ow < (N : Int) /\ (ss W.hs j).no < nx) /\ Still w5 wr) (fun u _ => k3 - (intOf u).toNat)
 case atStart => exact ⟨0, by omega, rfl, hid (fun j h => absurd h (Nat.not_lt_zero j)), Fr.refl _ _⟩
 case round =>
  obtain ⟨i, hi, rfl, HJ, hs⟩ := hrel
  have HS := hid hs
  obtain ⟨c0, c1, c2, c3, c4, c5, cf⟩ := (HP5.out.still hs).cells
  dsimp only at c0 c1 c2 c3 c4 c5
  obtain ⟨d0, d1, d2, d3, d4, d5, df⟩ := (HW5.out.still hs).cells
  by_cases hin : i < k3
  ·have hlt : (i : Int) < (k3 : Int) := by omega
   have hr := HRc.out.still (HS5.out.trans hs)
   obtain ⟨Bk, ok, rfl⟩ := hr.at (by omega)
   obtain ⟨r0, r1, r2, r3, r4, r5, r6, r7⟩ := rdS hr hin
   have HM : Hid (ss W.hs i ∈ W.hs) := hid (getD_in (by rw [EL.out.1]; exact hin))
   have HD : Hid (¬ ((ss W.hs i).ow < (N : Int) /\ (ss W.hs i).no < nx) -> (131 : Int) = res) := hid (fun h => HNo.out (fun hf => h (by
    have := (HFi.out.1 hf).1.2.2.1 _ HM.out
    rw [EL.out.2.2.2] at this
    exact this)))
   have HY : Hid ((ss W.hs i).ow < (N : Int) /\ (ss W.hs i).no < nx -> ∀ j, j < i + 1 -> (ss W.hs j).ow < (N : Int) /\ (ss W.hs j).no < nx) := hid (fun h j hj => by
    by_cases e : j = i
    ·subst e; exact h
    ·exact HJ.out j (by omega))
   obtain ⟨x, ex⟩ : ∃ x, (ss W.hs i).ow = x := ⟨_, rfl⟩
   obtain ⟨y, ey⟩ : ∃ x, (ss W.hs i).no = x := ⟨_, rfl⟩
   rw [ex] at r1 HD HY
   rw [ey] at r0 HD HY
   clear ex ey hr hs
   have q0 := Cl.cell c0
   have q3 := Cl.cell d3
   have q5 := Cl.cell d5
   have qa := Cl.cell r1
   have qb := Cl.cell r0
   have hne := Aft.here wr
   by_cases g6 : x ≥ (N : Int)
   ·have f1 : decide (x ≥ (N : Int)) = true := decide_eq_true g6
    have HX := hid (HD.out (fun h => by have := h.1; omega))
    clear g6
    go_upto_region 13 with fail
    refine region_all (by kernel_rfl) (by kernel_rfl) ?_
    repeat (go_big_quiet_step (fail))
    refine wpQuiet_nil ?_
    intro w6 h6
    have HS6 := hid ((HS5.out.trans HS.out).trans h6)
    clear h6 hne q0 q3 q5 qa qb c0 c1 c2 c3 c4 c5 cf d0 d1 d2 d3 d4 d5 df r0 r1 r2 r3 r4 r5 r6 r7
    go_wp2_with fail
    (first | rw [Exit.noGoto_ret] | skip)
    go_ret
    exact ⟨ret_int HX.out, HS6.out⟩
   have f1 : decide (x ≥ (N : Int)) = false := decide_eq_false g6
   by_cases g7 : y ≥ nx
   ·have f2 : decide (y ≥ nx) = true := decide_eq_true g7
    have HX := hid (HD.out (fun h => by have := h.2; omega))
    clear g6 g7
    go_upto_region 13 with fail
    refine region_all (by kernel_rfl) (by kernel_rfl) ?_
    repeat (go_big_quiet_step (fail))
    refine wpQuiet_nil ?_
    intro w6 h6
    have HS6 := hid ((HS5.out.trans HS.out).trans h6)
    clear h6 hne q0 q3 q5 qa qb c0 c1 c2 c3 c4 c5 cf d0 d1 d2 d3 d4 d5 df r0 r1 r2 r3 r4 r5 r6 r7
    go_wp2_with fail
    (first | rw [Exit.noGoto_ret] | skip)
    go_ret
    exact ⟨ret_int HX.out, HS6.out⟩
   have f2 : decide (y ≥ nx) = false := decide_eq_false g7
   have HX := hid (HY.out ⟨by omega, by omega⟩)
   clear g6 g7
   go_upto_region 13 with fail
   refine region_all (by kernel_rfl) (by kernel_rfl) ?_
   repeat (go_big_quiet_step (fail))
   refine wpQuiet_nil ?_
   intro w6 h6
   have HS6 := hid (HS.out.trans h6)
   clear h6 hne q0 q3 q5 qa qb c0 c1 c2 c3 c4 c5 cf d0 d1 d2 d3 d4 d5 df r0 r1 r2 r3 r4 r5 r6 r7
   go_wp2_with fail
   go_roundw
   case rel => exact ⟨i + 1, by omega, by go_num, HX, HS6.out⟩
   case measure => first | (simp [intOf]; done) | (simp [intOf]; omega)
  have hge : ¬ (i : Int) < (k3 : Int) := by omega
  have HAl : Hid (∀ s ∈ W.hs, s.ow < (N : Int) /\ s.no < nx) := hid (all_getD (fun j hj => HJ.out j (by rw [EL.out.1] at hj; omega)))
  have HS7 := hid (HS5.out.trans hs)
  have HW7 := hid (HW5.out.still hs)
  clear HJ hs hi hin c0 c1 c2 c3 c4 c5 cf
  go_wp2_with fail
  clear d0 d1 d2 d3 d4 d5 df hge
  go_loopw [11] (fun u wx => ∃ i : Nat, i <= k4 /\ u = .int .i64 (i : Int) /\ Hid (∀ j, j < i -> (pk W.ks j).no < nx) /\ Still wr wx) (fun u _ => k4 - (intOf u).toNat)
  case atStart => exact ⟨0, by omega, rfl, hid (fun j h => absurd h (Nat.not_lt_zero j)), Fr.refl _ _⟩
  case round =>
   obtain ⟨i, hi, rfl, HJ, hs⟩ := hrel
   have HS := hid hs
   obtain ⟨d0, d1, d2, d3, d4, d5, df⟩ := (HW7.out.still hs).cells
   by_cases hin : i < k4
   ·have hlt : (i : Int) < (k4 : Int) := by omega
    have hr := HRd.out.still (HS7.out.trans hs)
    obtain ⟨Bk, ok, rfl⟩ := hr.at (by omega)
    obtain ⟨r0, r1, r2⟩ := rdQ hr hin
    have HM : Hid (pk W.ks i ∈ W.ks) := hid (getD_in (by rw [EL.out.2.1]; exact hin))
    have HD : Hid (¬ (pk W.ks i).no < nx -> (131 : Int) = res) := hid (fun h => HNo.out (fun hf => h (by
     have := (HFi.out.1 hf).1.2.2.2.2.1 _ HM.out
     rw [EL.out.2.2.2] at this
     exact this)))
    have HY : Hid ((pk W.ks i).no < nx -> ∀ j, j < i + 1 -> (pk W.ks j).no < nx) := hid (fun h j hj => by
     by_cases e : j = i
     ·subst e; exact h
     ·exact HJ.out j (by omega))
    obtain ⟨y, ey⟩ : ∃ x, (pk W.ks i).no = x := ⟨_, rfl⟩
    rw [ey] at r0 HD HY
    clear ey hr hs
    have q4 := Cl.cell d4
    have q5 := Cl.cell d5
    have qa := Cl.cell r0
    have hne := Aft.here wr
    by_cases g7 : y ≥ nx
    ·have f2 : decide (y ≥ nx) = true := decide_eq_true g7
     have HX := hid (HD.out (fun h => by omega))
     clear g7
     go_upto_region 18 with fail
     refine region_all (by kernel_rfl) (by kernel_rfl) ?_
     repeat (go_big_quiet_step (fail))
     refine wpQuiet_nil ?_
     intro w6 h6
     have HS6 := hid ((HS7.out.trans HS.out).trans h6)
     clear h6 hne q4 q5 qa d0 d1 d2 d3 d4 d5 df r0 r1 r2
     go_wp2_with fail
     (first | rw [Exit.noGoto_ret] | skip)
     go_ret
     exact ⟨ret_int HX.out, HS6.out⟩
    have f2 : decide (y ≥ nx) = false := decide_eq_false g7
    have HX := hid (HY.out (by omega))
    clear g7
    go_upto_region 18 with fail
    refine region_all (by kernel_rfl) (by kernel_rfl) ?_
    repeat (go_big_quiet_step (fail))
    refine wpQuiet_nil ?_
    intro w6 h6
    have HS6 := hid (HS.out.trans h6)
    clear h6 hne q4 q5 qa d0 d1 d2 d3 d4 d5 df r0 r1 r2
    go_wp2_with fail
    go_roundw
    case rel => exact ⟨i + 1, by omega, by go_num, HX, HS6.out⟩
    case measure => first | (simp [intOf]; done) | (simp [intOf]; omega)
   have hge : ¬ (i : Int) < (k4 : Int) := by omega
   have HAk : Hid (∀ s ∈ W.ks, s.no < nx) := hid (all_getD (fun j hj => HJ.out j (by rw [EL.out.2.1] at hj; omega)))
   have HX : Hid ((0 : Int) = res) := hid (HYs.out (HFi.out.2 (by
    have k := HK0.out
    have e := EL.out.2.2.2
    refine ⟨⟨k.1, k.2.1, ?_, k.2.2.1, ?_, k.2.2.2.1.1, k.2.2.2.1.2⟩, k.2.2.2.2⟩
    ·rw [e]; exact HAl.out
    ·rw [e]; exact HAk.out)))
   have HS6 := hid (HS7.out.trans hs)
   clear HJ hs hi hin
   go_wp2_with fail
   go_ret
   exact ⟨ret_int HX.out, HS6.out⟩
end Go.Proofs.YthcjckgmdokmdaaGreatDoor
