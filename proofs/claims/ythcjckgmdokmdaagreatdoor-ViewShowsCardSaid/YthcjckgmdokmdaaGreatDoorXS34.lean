/- Parts of the proof, laid end to end. -/
import Derived.Test.YthcjckgmdokmdaaGreatDoorXS33
import Derived.Test.YthcjckgmdokmdaaGreatDoorXS26
import Derived.Test.YthcjckgmdokmdaaGreatDoorXS13
namespace Go.Proofs.YthcjckgmdokmdaaGreatDoor
open Go.RowKit
open Pu Gp Ap Vp Np Za Ka Ja Ea Ha Hg Hi
set_option maxRecDepth 100000
set_option maxHeartbeats 4000000 in
theorem rshow_no (p q C R : Int) (s : ByteArray) (fr nx : Int) (lo ao bo co xo : Option Addr) (ln lc ac bc cc xc n1 n2 m k : Nat) (er : Int) (her : er = 130 \/ er = 131) (w : World) (hck : ∀ u, Still w u -> Calls Tryz.prog 19 #[.agg #[.int .i64 p, .int .u64 q, .int .i64 C, .int .i64 R, .string s, .slice lo ln lc], .agg (wdcs fr nx (.slice ao n1 ac) (.slice bo n2 bc) (.slice co m cc) (.slice xo k xc))] u fun e w' => e = .returned (.int .i64 er) /\ Still u w') :
  Calls Tryz.prog 7 #[.agg #[.int .i64 p, .int .u64 q, .int .i64 C, .int .i64 R, .string s, .slice lo ln lc], .agg (wdcs fr nx (.slice ao n1 ac) (.slice bo n2 bc) (.slice co m cc) (.slice xo k xc))] w fun e w' => e = .returned (.tuple #[.string ByteArray.empty, .int .i64 230]) /\ Still w w' := by
 have A0 := Still.alloc w (.cells #[.int .i64 p, .int .u64 q, .int .i64 C, .int .i64 R, .string s, .slice lo ln lc] 27)
 have A1 := Still.alloc (w.alloc (.cells #[.int .i64 p, .int .u64 q, .int .i64 C, .int .i64 R, .string s, .slice lo ln lc] 27)) (.cells (wdcs fr nx (.slice ao n1 ac) (.slice bo n2 bc) (.slice co m cc) (.slice xo k xc)) 33)
 have b0 := newWd_wb (w.alloc (.cells #[.int .i64 p, .int .u64 q, .int .i64 C, .int .i64 R, .string s, .slice lo ln lc] 27)) fr nx (.slice ao n1 ac) (.slice bo n2 bc) (.slice co m cc) (.slice xo k xc)
 rw [size_alloc] at b0
 have a0 := newCf_cb w ⟨p, q, C, R, s, .slice lo ln lc⟩
 have HS0 : Hid (Still w ((w.alloc (.cells #[.int .i64 p, .int .u64 q, .int .i64 C, .int .i64 R, .string s, .slice lo ln lc] 27)).alloc (.cells (wdcs fr nx (.slice ao n1 ac) (.slice bo n2 bc) (.slice co m cc) (.slice xo k xc)) 33))) := hid (A0.trans A1)
 have HP0 : Hid (Cfb ((w.alloc (.cells #[.int .i64 p, .int .u64 q, .int .i64 C, .int .i64 R, .string s, .slice lo ln lc] 27)).alloc (.cells (wdcs fr nx (.slice ao n1 ac) (.slice bo n2 bc) (.slice co m cc) (.slice xo k xc)) 33)) w.heap.size ⟨p, q, C, R, s, .slice lo ln lc⟩) := hid (a0.still A1)
 have HQ0 : Hid (Wdb ((w.alloc (.cells #[.int .i64 p, .int .u64 q, .int .i64 C, .int .i64 R, .string s, .slice lo ln lc] 27)).alloc (.cells (wdcs fr nx (.slice ao n1 ac) (.slice bo n2 bc) (.slice co m cc) (.slice xo k xc)) 33)) (w.heap.size + 1) fr nx (.slice ao n1 ac) (.slice bo n2 bc) (.slice co m cc) (.slice xo k xc)) := hid b0
 obtain ⟨W0, eW0⟩ : ∃ X, ((w.alloc (.cells #[.int .i64 p, .int .u64 q, .int .i64 C, .int .i64 R, .string s, .slice lo ln lc] 27)).alloc (.cells (wdcs fr nx (.slice ao n1 ac) (.slice bo n2 bc) (.slice co m cc) (.slice xo k xc)) 33)) = X := ⟨_, rfl⟩
 rw [eW0] at HS0 HP0 HQ0
 obtain ⟨c0, c1, c2, c3, c4, c5, cf⟩ := HP0.out.cells
 dsimp only at c0 c1 c2 c3 c4 c5
 obtain ⟨d0, d1, d2, d3, d4, d5, df⟩ := HQ0.out.cells
 have HCk := hid (hck W0 HS0.out)
 clear A0 A1 b0 a0 hck HP0 HQ0
 rcases her with rfl | rfl <;> (
  go_enter Tryz.func7, Tryz.ntmps7
  go_wp2_with fail
  (try rw [eW0])
  clear eW0
  refine HCk.out.mono ?_
  rintro e w1 ⟨rfl, h1⟩
  have HS1 := hid (HS0.out.trans h1)
  clear h1 c0 c1 c2 c3 c4 c5 cf d0 d1 d2 d3 d4 d5 df
  go_wp2_with fail
  go_ret2
  exact ⟨rfl, HS1.out⟩)
def sgW (C R : Int) (s : ByteArray) (sp : List (Int × Int)) (W : Wd) (c r : Nat) : ByteArray := sgS (solB C R s (c : Int) (r : Int)) (mvP W.ms c r) (shP W.hs c r) (pkP W.ks sp c r) (fun i => (pk W.ks i).kd) W.ms.length W.hs.length W.ks.length
structure ShQ (C R : Int) (s : ByteArray) (E : Env) (W : Wd) (ok : Prop) (t : ByteArray) (e : Int) : Prop where
 yes : ok -> t = shwS (sgW C R s E.sp W) W.fr C.toNat R.toNat W.ms W.cs W.ms.length /\ e = 0
 no : ¬ ok -> t = ByteArray.empty /\ e = 230
theorem ShQ.one {C R : Int} {s : ByteArray} {E : Env} {W : Wd} {ok : Prop} {t t' : ByteArray} {e e' : Int} (h : ShQ C R s E W ok t e) (k : ShQ C R s E W ok t' e') : t = t' /\ e = e' := by
 by_cases o : ok
 ·rw [(h.yes o).1, (h.yes o).2, (k.yes o).1, (k.yes o).2]
  exact ⟨rfl, rfl⟩
 ·rw [(h.no o).1, (h.no o).2, (k.no o).1, (k.no o).2]
  exact ⟨rfl, rfl⟩
theorem num6_of {m : Mv} {x : Scr} (h : May m) (k : MayC x) : Num6 m x := by
 obtain ⟨a, _, _, _, b, c, _, d, _⟩ := h
 obtain ⟨e, _⟩ := k
 unfold Num6 I64
 omega
theorem rshow_any (p q C R : Int) (s : ByteArray) (lo : Option Addr) (ln lc : Nat) (E : Env) (l : List Int) (w : World) (v0 : Int) (hv0 : ChkV C R s v0) (A : A13 w ⟨p, q, C, R, s, .slice lo ln lc⟩ v0 E.st) (hsp : ∀ u, Calls Tryz.prog 20 #[ar C R s] u fun e w' => ∃ a, e = .returned a /\ OwG KT 54 w' u.heap.size a E.sp /\ Still u w') (hr : RdI w lo ln lc l) (W : Wd) (v : Value) (hv : RdW w v W) (ht : PTabV w) :
  Calls Tryz.prog 7 #[.agg #[.int .i64 p, .int .u64 q, .int .i64 C, .int .i64 R, .string s, .slice lo ln lc], v] w fun e w' => ∃ t er, e = .returned (.tuple #[.string t, .int .i64 er]) /\ ShQ C R s E W (CfgP p v0 E.st.length l /\ Fits p E W) t er /\ Still w w' := by
 have hW := hv
 obtain ⟨a, b, c, d, rfl, ⟨xa, ya, rfl, l1, ha, hra⟩, ⟨xb, yb, rfl, l2, hb, hrb⟩, ⟨xc, yc, rfl, l3, hc0, hrc⟩, ⟨xd, yd, rfl, l4, hd0, hrd⟩⟩ := hv
 by_cases hc : CfgP p v0 E.st.length l
 ·obtain ⟨N, rfl⟩ : ∃ N : Nat, p = (N : Int) := ⟨p.toNat, by have := hc.1; omega⟩
  by_cases hF : Fits (N : Int) E W
  ·have hvz : v0 = 0 := hc.2.2.1
   subst hvz
   obtain ⟨q1, q2, q3, q4, q5, q6⟩ := form_shape (chkV_ok hv0)
   obtain ⟨Cn, rfl⟩ : ∃ k : Nat, C = (k : Int) := ⟨C.toNat, by omega⟩
   obtain ⟨Rn, rfl⟩ : ∃ k : Nat, R = (k : Int) := ⟨R.toNat, by omega⟩
   have hG := hF.1
   rw [Int.toNat_natCast] at hG
   obtain ⟨⟨g1, g2, g3, g4⟩, g5, g6, g7, g8⟩ := hG
   have hN6 : N <= 6 := by have := hc.2.1; omega
   have e2 : W.cs.length = W.ms.length := by omega
   rw [e2] at hrb
   have key := rshow_yes (N : Int) q Cn Rn s W.fr W.nx lo xa xb xc xd ln lc ya yb yc yd W.ms W.cs W.hs W.ks E.sp W.ms.length W.hs.length W.ks.length (by omega) (by omega) (by omega) w hra hrb (by omega) hrc hrd (by have := g7.1; omega) (fun i hi => by have := g7.2.2 i hi; exact ⟨this.2.2.1.1, this.2.2.1.2, this.2.2.2.1.1, this.2.2.2.1.2⟩) (by have := hF.2; unfold I64; omega) (fun i hi => num6_of (g2 i (by omega)) (g4 i (by omega))) ht (fun u hu => by
    have h := rchk13_yes N q (Cn : Int) (Rn : Int) s lo ln lc E l u 0 (A.still hu) hsp (hr.still hu) hc W _ (hW.still hu)
    rw [chkW_yes hF, e2] at h
    exact h) hsp (sgW (Cn : Int) (Rn : Int) s E.sp W) (fun _ _ => rfl)
   rw [e2]
   refine key.mono ?_
   rintro e w' ⟨rfl, h⟩
   exact ⟨_, _, rfl, ⟨fun _ => ⟨by rw [Int.toNat_natCast, Int.toNat_natCast], rfl⟩, fun o => absurd ⟨hc, hF⟩ o⟩, h⟩
  ·refine (rshow_no (N : Int) q C R s W.fr W.nx lo xa xb xc xd ln lc ya yb yc yd W.ms.length W.cs.length W.hs.length W.ks.length 131 (.inr rfl) w (fun u hu => ?_)).mono ?_
   ·have h := rchk13_yes N q C R s lo ln lc E l u v0 (A.still hu) hsp (hr.still hu) hc W _ (hW.still hu)
    rw [chkW_no hF] at h
    exact h
   ·rintro e w' ⟨rfl, h⟩
    exact ⟨_, _, rfl, ⟨fun o => absurd o.2 hF, fun _ => ⟨rfl, rfl⟩⟩, h⟩
 ·refine (rshow_no p q C R s W.fr W.nx lo xa xb xc xd ln lc ya yb yc yd W.ms.length W.cs.length W.hs.length W.ks.length 130 (.inl rfl) w (fun u hu => rchk13_no p q C R s lo ln lc E.st l u v0 (A.still hu) (hr.still hu) hc W _ (hW.still hu))).mono ?_
  rintro e w' ⟨rfl, h⟩
  exact ⟨_, _, rfl, ⟨fun o => absurd o.1 hc, fun _ => ⟨rfl, rfl⟩⟩, h⟩
end Go.Proofs.YthcjckgmdokmdaaGreatDoor
namespace Go.Proofs.YthcjckgmdokmdaaGreatDoor
open Go.RowKit
open Pu Gp Ap Vp Np Za Ka Ja Ea Ha Hg Hi
set_option maxRecDepth 100000
set_option maxHeartbeats 4000000 in
theorem shows_law (p q C R : Int) (s : ByteArray) (lo : Option Addr) (ln lc : Nat) (E : Env) (ok : Prop) (w : World) (D : Cts23 w) (W : Wd) (v : Value) (hv : RdW w v W)
  (hP : ∀ u, Still w u -> Calls Tryz.prog 6 #[.agg #[.int .i64 p, .int .u64 q, .int .i64 C, .int .i64 R, .string s, .slice lo ln lc], v] u fun e w' => ∃ t er, e = .returned (.tuple #[.string t, .int .i64 er]) /\ ShQ C R s E W ok t er /\ Still u w')
  (hD : ∀ u, Still w u -> Calls Tryz.prog 7 #[.agg #[.int .i64 p, .int .u64 q, .int .i64 C, .int .i64 R, .string s, .slice lo ln lc], v] u fun e w' => ∃ t er, e = .returned (.tuple #[.string t, .int .i64 er]) /\ ShQ C R s E W ok t er /\ Still u w') :
  Calls Tryz.prog 3 #[.agg #[.int .i64 p, .int .u64 q, .int .i64 C, .int .i64 R, .string s, .slice lo ln lc], v] w fun e w' => e = .returned (.bool true) /\ Still w w' := by
 obtain ⟨a, b, c, d, rfl, ⟨xa, ya, rfl, _⟩, ⟨xb, yb, rfl, _⟩, ⟨xc, yc, rfl, _⟩, ⟨xd, yd, rfl, _⟩⟩ := hv
 have A0 := Still.alloc w (.cells #[.int .i64 p, .int .u64 q, .int .i64 C, .int .i64 R, .string s, .slice lo ln lc] 27)
 have A1 := Still.alloc (w.alloc (.cells #[.int .i64 p, .int .u64 q, .int .i64 C, .int .i64 R, .string s, .slice lo ln lc] 27)) (.cells (wdcs W.fr W.nx (.slice xa W.ms.length ya) (.slice xb W.cs.length yb) (.slice xc W.hs.length yc) (.slice xd W.ks.length yd)) 33)
 have b0 := newWd_wb (w.alloc (.cells #[.int .i64 p, .int .u64 q, .int .i64 C, .int .i64 R, .string s, .slice lo ln lc] 27)) W.fr W.nx (.slice xa W.ms.length ya) (.slice xb W.cs.length yb) (.slice xc W.hs.length yc) (.slice xd W.ks.length yd)
 rw [size_alloc] at b0
 have a0 := newCf_cb w ⟨p, q, C, R, s, .slice lo ln lc⟩
 have HS0 : Hid (Still w ((w.alloc (.cells #[.int .i64 p, .int .u64 q, .int .i64 C, .int .i64 R, .string s, .slice lo ln lc] 27)).alloc (.cells (wdcs W.fr W.nx (.slice xa W.ms.length ya) (.slice xb W.cs.length yb) (.slice xc W.hs.length yc) (.slice xd W.ks.length yd)) 33))) := hid (A0.trans A1)
 have HP0 : Hid (Cfb ((w.alloc (.cells #[.int .i64 p, .int .u64 q, .int .i64 C, .int .i64 R, .string s, .slice lo ln lc] 27)).alloc (.cells (wdcs W.fr W.nx (.slice xa W.ms.length ya) (.slice xb W.cs.length yb) (.slice xc W.hs.length yc) (.slice xd W.ks.length yd)) 33)) w.heap.size ⟨p, q, C, R, s, .slice lo ln lc⟩) := hid (a0.still A1)
 have HQ0 : Hid (Wdb ((w.alloc (.cells #[.int .i64 p, .int .u64 q, .int .i64 C, .int .i64 R, .string s, .slice lo ln lc] 27)).alloc (.cells (wdcs W.fr W.nx (.slice xa W.ms.length ya) (.slice xb W.cs.length yb) (.slice xc W.hs.length yc) (.slice xd W.ks.length yd)) 33)) (w.heap.size + 1) W.fr W.nx (.slice xa W.ms.length ya) (.slice xb W.cs.length yb) (.slice xc W.hs.length yc) (.slice xd W.ks.length yd)) := hid b0
 obtain ⟨W0, eW0⟩ : ∃ X, ((w.alloc (.cells #[.int .i64 p, .int .u64 q, .int .i64 C, .int .i64 R, .string s, .slice lo ln lc] 27)).alloc (.cells (wdcs W.fr W.nx (.slice xa W.ms.length ya) (.slice xb W.cs.length yb) (.slice xc W.hs.length yc) (.slice xd W.ks.length yd)) 33)) = X := ⟨_, rfl⟩
 rw [eW0] at HS0 HP0 HQ0
 have H0 := hid (awake23_any w W0 D HS0.out)
 have HPr := hid hP
 have HDo := hid hD
 clear A0 A1 b0 a0 hP hD D
 go_enter Tryz.func3, Tryz.ntmps3
 go_wp2_with fail
 (try rw [eW0])
 clear eW0
 refine H0.out.mono ?_
 rintro e w1 ⟨rfl, h1⟩
 have HS1 := hid (HS0.out.trans h1)
 have HP1 := hid (HP0.out.still h1)
 have HQ1 := hid (HQ0.out.still h1)
 clear h1 HS0 HP0 HQ0 H0
 obtain ⟨c0, c1, c2, c3, c4, c5, cf⟩ := HP1.out.cells
 dsimp only at c0 c1 c2 c3 c4 c5
 obtain ⟨d0, d1, d2, d3, d4, d5, df⟩ := HQ1.out.cells
 go_wp2_with fail
 refine (HPr.out w1 HS1.out).mono ?_
 rintro e w2 ⟨t, er, rfl, ht, h2⟩
 have HQt := hid ht
 have HS2 := hid (HS1.out.trans h2)
 have HP2 := hid (HP1.out.still h2)
 have HQ2 := hid (HQ1.out.still h2)
 clear h2 ht HS1 HP1 HQ1 HPr c0 c1 c2 c3 c4 c5 cf d0 d1 d2 d3 d4 d5 df
 obtain ⟨c0, c1, c2, c3, c4, c5, cf⟩ := HP2.out.cells
 dsimp only at c0 c1 c2 c3 c4 c5
 obtain ⟨d0, d1, d2, d3, d4, d5, df⟩ := HQ2.out.cells
 go_wp2_with fail
 refine (HDo.out w2 HS2.out).mono ?_
 rintro e w3 ⟨t', er', rfl, ht, h3⟩
 obtain ⟨rfl, rfl⟩ := HQt.out.one ht
 have HS3 := hid (HS2.out.trans h3)
 clear h3 ht HQt HS2 HP2 HQ2 HDo c0 c1 c2 c3 c4 c5 cf d0 d1 d2 d3 d4 d5 df
 go_wp2_with fail
 go_ret
 exact ⟨rfl, HS3.out⟩
end Go.Proofs.YthcjckgmdokmdaaGreatDoor
