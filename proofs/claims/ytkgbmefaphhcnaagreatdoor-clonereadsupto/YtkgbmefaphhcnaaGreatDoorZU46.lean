/- Parts of the proof, laid end to end. -/
import Derived.Test.YtkgbmefaphhcnaaGreatDoorZU44
import Derived.Test.YtkgbmefaphhcnaaGreatDoorZU28
import Derived.Test.YtkgbmefaphhcnaaGreatDoorZU45
import Derived.Test.YtkgbmefaphhcnaaGreatDoorZU40
import Derived.Test.YtkgbmefaphhcnaaGreatDoorZU29
import Derived.Test.YtkgbmefaphhcnaaGreatDoorZU43
namespace Go.Proofs.YtkgbmefaphhcnaaGreatDoor
open Go.RowKit
open Pu Gp Ap Vp Np Za Ka Ja Ea Ha Hg Hi
set_option maxRecDepth 100000
set_option linter.unusedVariables false
structure Ow4 (w : World) (B : Nat) (W : Wd) (a b c d : Value) : Prop where
 oa : OwG KM 55 w B a W.ms
 ob : OwG KC 57 w B b W.cs
 oc : OwG KS 59 w B c W.hs
 od : OwG KQ 61 w B d W.ks
theorem Ow4.still {w w' : World} {B : Nat} {W : Wd} {a b c d : Value} (h : Ow4 w B W a b c d) (hs : Still w w') : Ow4 w' B W a b c d := ⟨h.oa.still hs, h.ob.still hs, h.oc.still hs, h.od.still hs⟩
theorem Ow4.keep {w w' : World} {F : Nat -> Prop} {B : Nat} {W : Wd} {a b c d : Value} (h : Ow4 w B W a b c d) (hf : Fr F w w') (hF : ∀ k, F k -> k < B) : Ow4 w' B W a b c d :=
 ⟨h.oa.keepB hf hF, h.ob.keepB hf hF, h.oc.keepB hf hF, h.od.keepB hf hF⟩
theorem Ow4.rd {w : World} {B : Nat} {W : Wd} {a b c d : Value} (h : Ow4 w B W a b c d) (hb : (W.ms.length + 1) * 104 <= 140737488355328 /\ (W.cs.length + 1) * 32 <= 140737488355328 /\ (W.hs.length + 1) * 64 <= 140737488355328 /\ (W.ks.length + 1) * 24 <= 140737488355328) : RdW w (.agg (wdcs W.fr W.nx a b c d)) W :=
 ⟨a, b, c, d, rfl, h.oa.sl (by omega), h.ob.sl (by omega), h.oc.sl (by omega), h.od.sl (by omega)⟩
theorem ow4_of {w : World} {B : Nat} {v : Value} {W : Wd} (h : OwW w B v W) : ∃ xa xb xc xd ya yb yc yd, v = .agg (wdcs W.fr W.nx (.slice xa W.ms.length ya) (.slice xb W.cs.length yb) (.slice xc W.hs.length yc) (.slice xd W.ks.length yd)) /\ Ow4 w B W (.slice xa W.ms.length ya) (.slice xb W.cs.length yb) (.slice xc W.hs.length yc) (.slice xd W.ks.length yd) := by
 obtain ⟨a, b, c, d, rfl, h1, h2, h3, h4⟩ := h
 obtain ⟨xa, ya, rfl, _⟩ := h1.slice
 obtain ⟨xb, yb, rfl, _⟩ := h2.slice
 obtain ⟨xc, yc, rfl, _⟩ := h3.slice
 obtain ⟨xd, yd, rfl, _⟩ := h4.slice
 exact ⟨xa, xb, xc, xd, ya, yb, yc, yd, rfl, h1, h2, h3, h4⟩
end Go.Proofs.YtkgbmefaphhcnaaGreatDoor
namespace Go.Proofs.YtkgbmefaphhcnaaGreatDoor
open Go.RowKit
open Pu Gp Ap Vp Np Za Ka Ja Ea Ha Hg Hi
set_option maxRecDepth 100000
set_option linter.unusedVariables false
abbrev cfv14 (p : Int) (q : Nat) (C R : Int) (s : ByteArray) (lo : Option Addr) (ln lc : Nat) : Value := .agg #[.int .i64 p, .int .u64 (q : Int), .int .i64 C, .int .i64 R, .string s, .slice lo ln lc]
end Go.Proofs.YtkgbmefaphhcnaaGreatDoor
namespace Go.Proofs.YtkgbmefaphhcnaaGreatDoor
open Go.RowKit
open Pu Gp Ap Vp Np Za Ka Ja Ea Ha Hg Hi
set_option maxRecDepth 100000
set_option linter.unusedVariables false
theorem ck14r_any (p : Int) (q : Nat) (C R : Int) (s : ByteArray) (lo : Option Addr) (ln lc : Nat) (l : List Int) (hz : s.size <= 281474976710656) (hq : q < 18446744073709551616) (w : World) (hr : RdI w lo ln lc l) : ∃ X x, Ck14 p q C R s lo ln lc l w X x /\
  (∀ u, Still w u -> Calls Tryz.prog 43 #[.agg #[.int .i64 p, .int .u64 (q : Int), .int .i64 C, .int .i64 R, .string s, .slice lo ln lc]] u fun e w' => e = .returned (.int .i64 X) /\ Still u w') /\
  (∀ u v W, Still w u -> RdW u v W -> Calls Tryz.prog 34 #[.agg #[.int .i64 p, .int .u64 (q : Int), .int .i64 C, .int .i64 R, .string s, .slice lo ln lc], v] u fun e w' => e = .returned (.int .i64 (x W)) /\ Still u w') := by
 obtain ⟨v0, hv0⟩ := chkV_ex C R s w
 obtain ⟨E, eE⟩ : ∃ E : Env, E = ⟨fun _ _ => false, stV C s v0, spV C s v0, (q : Int)⟩ := ⟨_, rfl⟩
 have hQ : ∀ u, Q13 u ⟨p, (q : Int), C, R, s, .slice lo ln lc⟩ v0 E.st E.sp := fun u => by
  have h := q13_of ⟨p, (q : Int), C, R, s, .slice lo ln lc⟩ v0 hv0 u
  rw [eE]
  exact h
 have hA : ∀ u, A13 u ⟨p, (q : Int), C, R, s, .slice lo ln lc⟩ v0 E.st := fun u => by
  have h := a13_of ⟨p, (q : Int), C, R, s, .slice lo ln lc⟩ hz v0 hv0 u
  rw [eE]
  exact h
 have hP : ∀ u, Calls Tryz.prog 62 #[ar C R s] u fun e w' => ∃ a, e = .returned a /\ OwG KT 53 w' u.heap.size a E.sp /\ Still u w' := fun u => by
  have h := spots_of C R s hz v0 hv0 u
  rw [eE]
  exact h
 by_cases hc : CfgP p v0 E.st.length l
 ·refine ⟨0, chkW p E, ?_⟩
  obtain ⟨N, rfl⟩ : ∃ N : Nat, p = (N : Int) := ⟨p.toNat, by have := hc.1; omega⟩
  refine ⟨⟨fun u hu => wcfg_yes N q C R s lo ln lc E l u v0 (hQ u) (hr.still hu) hc, fun u v W hu hv => wchk_yes N q C R s lo ln lc E l u v0 (hQ u) (hr.still hu) hc W v hv, fun W hW => ?_, fun _ => ⟨cfg_in hv0 hq hc, hc.1, hc.2.1⟩, fun h => absurd rfl h, fun W hW => ?_⟩, fun u hu => ?_, fun u v W hu hv => rchk13_yes N q C R s lo ln lc E l u v0 (hA u) hP (hr.still hu) hc W v hv⟩
  ·by_cases hf : Fits (N : Int) E W
   ·exact ⟨rfl, fits_wr hf, fits_room hf hc.2.1⟩
   ·rw [chkW_no hf] at hW
    cases hW
  ·by_cases hf : Fits (N : Int) E W
   ·exact fits_len hf hc.2.1
   ·rw [chkW_no hf] at hW
    cases hW
  ·have h := rcfg_any ⟨(N : Int), (q : Int), C, R, s, .slice lo ln lc⟩ v0 E.st l lo ln lc rfl u (hA u) (hr.still hu)
   rw [show cfgE ((N : Int)) v0 E.st.length l = 0 from if_pos hc] at h
   exact h
 ·refine ⟨130, fun _ => 130, ⟨fun u hu => wcfg_no p q C R s lo ln lc E l u v0 (hQ u) (hr.still hu) hc, fun u v W hu hv => wchk_no p q C R s lo ln lc E l u v0 (hQ u) (hr.still hu) hc W v hv, fun W hW => (by cases hW), fun h => (by cases h), fun _ W => rfl, fun W hW => (by cases hW)⟩, fun u hu => ?_, fun u v W hu hv => rchk13_no p q C R s lo ln lc E.st l u v0 (hA u) (hr.still hu) hc W v hv⟩
  have h := rcfg_any ⟨p, (q : Int), C, R, s, .slice lo ln lc⟩ v0 E.st l lo ln lc rfl u (hA u) (hr.still hu)
  rw [show cfgE p v0 E.st.length l = 130 from if_neg hc] at h
  exact h
theorem Rd.one14 (w : World) (c : UInt8) : Rd (w.alloc (.cells #[.int .u8 (c.toNat : Int)] 5)) (some ⟨w.heap.size, 0, none⟩) 1 1 [c] := by
 exact (Ow.fresh (e := 5) w #[.int .u8 (c.toNat : Int)] 1 1 [c] rfl (Nat.le_refl _) (by unfold maxLen; omega) rfl (fun j h => by
  simp at h
  subst h
  rfl)).rd
end Go.Proofs.YtkgbmefaphhcnaaGreatDoor
namespace Go.Proofs.YtkgbmefaphhcnaaGreatDoor
open Go.RowKit
open Pu Gp Ap Vp Np Za Ka Ja Ea Ha Hg Hi
set_option maxRecDepth 100000
set_option linter.unusedVariables false
theorem decW_fst (k : Nat) (bs : List UInt8) (x : Wd -> Int) : (decW k bs x).1 = zW \/ Wr14 k (decW k bs x).1 := by
 unfold decW
 by_cases h8 : bs.length < 8
 ·rw [if_pos h8]; exact .inl rfl
 ·rw [if_neg h8]
  cases hs : saysW k (bs.take (bs.length - 8)) with
  | none => exact .inl rfl
  | some X =>
   dsimp only
   by_cases hd : bs.drop (bs.length - 8) = sumB (bs.take (bs.length - 8))
   ·rw [if_pos hd]
    by_cases hx : x X = 0
    ·rw [if_pos hx]
     exact .inr (saysW_back hs).2
    ·rw [if_neg hx]; exact .inl rfl
   ·rw [if_neg hd]; exact .inl rfl
theorem decW_few {k : Nat} (hk : k <= 2147483647) (bs : List UInt8) (x : Wd -> Int) : (decW k bs x).1.ms.length <= 2147483647 /\ (decW k bs x).1.cs.length <= 2147483647 /\ (decW k bs x).1.hs.length <= 2147483647 /\ (decW k bs x).1.ks.length <= 2147483647 := by
 rcases decW_fst k bs x with h | ⟨_, h1, h2, h3, h4⟩
 ·rw [h]; unfold zW; simp
 ·omega
end Go.Proofs.YtkgbmefaphhcnaaGreatDoor
namespace Go.Proofs.YtkgbmefaphhcnaaGreatDoor
open Go.RowKit
open Pu Gp Ap Vp Np Za Ka Ja Ea Ha Hg Hi
set_option maxRecDepth 100000
set_option linter.unusedVariables false
theorem Ow4.less14 {w : World} {B B' : Nat} {W : Wd} {a b c d : Value} (h : Ow4 w B W a b c d) (hb : B' <= B) : Ow4 w B' W a b c d := ⟨h.oa.less hb, h.ob.less hb, h.oc.less hb, h.od.less hb⟩
theorem Ow4.over14 {w : World} {B : Nat} {W : Wd} {a b c d : Value} (h : Ow4 w B W a b c d) : True := trivial
theorem Ow4.set6 {w : World} {B g : Nat} {W : Wd} {a b c d : Value} (h : Ow4 w B W a b c d) (hg : Tyk w g 27) (v0 v1 v2 v3 v4 v5 : Value) : Ow4 ((((((w.setCell ⟨g, 0, none⟩ v0).setCell ⟨g, 1, none⟩ v1).setCell ⟨g, 2, none⟩ v2).setCell ⟨g, 3, none⟩ v3).setCell ⟨g, 4, none⟩ v4).setCell ⟨g, 5, none⟩ v5) B W a b c d :=
 ⟨h.oa.set6 hg (by decide) _ _ _ _ _ _, h.ob.set6 hg (by decide) _ _ _ _ _ _, h.oc.set6 hg (by decide) _ _ _ _ _ _, h.od.set6 hg (by decide) _ _ _ _ _ _⟩
structure Dd14 (p : Int) (q : Nat) (C R : Int) (s : ByteArray) (lo : Option Addr) (ln lc : Nat) (w : World) (n : Nat) (bs : List UInt8) (V : Wd) (E : Int) : Prop where
 dec : ∀ ao cap u, Still w u -> Rd u ao n cap bs -> Calls Tryz.prog 19 #[cfv14 p q C R s lo ln lc, .slice ao n cap] u fun e w' => ∃ xa xb xc xd ya yb yc yd, e = .returned (.tuple #[.agg (wdcs V.fr V.nx (.slice xa V.ms.length ya) (.slice xb V.cs.length yb) (.slice xc V.hs.length yc) (.slice xd V.ks.length yd)), .int .i64 E]) /\ Ow4 w' u.heap.size V (.slice xa V.ms.length ya) (.slice xb V.cs.length yb) (.slice xc V.hs.length yc) (.slice xd V.ks.length yd) /\ Still u w'
 rde : ∀ ao cap u, Still w u -> Rd u ao n cap bs -> Calls Tryz.prog 20 #[cfv14 p q C R s lo ln lc, .slice ao n cap] u fun e w' => ∃ xa xb xc xd ya yb yc yd, e = .returned (.tuple #[.agg (wdcs V.fr V.nx (.slice xa V.ms.length ya) (.slice xb V.cs.length yb) (.slice xc V.hs.length yc) (.slice xd V.ks.length yd)), .int .i64 E]) /\ Ow4 w' u.heap.size V (.slice xa V.ms.length ya) (.slice xb V.cs.length yb) (.slice xc V.hs.length yc) (.slice xd V.ks.length yd) /\ Still u w'
 few : (V.ms.length + 1) * 104 <= 140737488355328 /\ (V.cs.length + 1) * 32 <= 140737488355328 /\ (V.hs.length + 1) * 64 <= 140737488355328 /\ (V.ks.length + 1) * 24 <= 140737488355328
theorem dd14_any (p : Int) (q : Nat) (C R : Int) (s : ByteArray) (lo : Option Addr) (ln lc : Nat) (l : List Int) (hz : s.size <= 281474976710656) (hq : q < 18446744073709551616) (w : World) (ht : FTab w) (hr : RdI w lo ln lc l) (n : Nat) (hn : n <= 2000000) (bs : List UInt8) : ∃ V E, Dd14 p q C R s lo ln lc w n bs V E := by
 obtain ⟨X, x, hC, hRc, hRk⟩ := ck14r_any p q C R s lo ln lc l hz hq w hr
 by_cases hX : X = 0
 ·subst hX
  obtain ⟨hi, hp1, hp2⟩ := hC.inc rfl
  obtain ⟨N, rfl⟩ : ∃ N : Nat, p = (N : Int) := ⟨p.toNat, by omega⟩
  obtain ⟨e1, e2, e3, e4⟩ := decW_few (show N <= 2147483647 by omega) bs x
  refine ⟨(decW N bs x).1, (decW N bs x).2, fun ao cap u hu hb => ?_, fun ao cap u hu hb => ?_, by omega⟩
  ·refine (zdec_any N (by omega) q C R s lo ln lc ao n cap bs x u hb (by omega) (ht.still hu) (fun u' hu' => hC.cfg u' (hu.trans hu')) (fun u' v V hu' ho hV => ?_)).mono ?_
   ·obtain ⟨_, _, e1, e2, e3, e4⟩ := saysW_back hV
    exact hC.chk u' v V (hu.trans hu') (OwW.rd ho (by omega) (by omega) (by omega) (by omega))
   ·rintro e w' ⟨v, he, ho, hs⟩
    obtain ⟨xa, xb, xc, xd, ya, yb, yc, yd, rfl, h4⟩ := ow4_of ho
    exact ⟨xa, xb, xc, xd, ya, yb, yc, yd, he, h4, hs⟩
  ·refine (rdec14_any N (by omega) q C R s lo ln lc ao n cap bs x u hb hn (fun u' hu' => hRc u' (hu.trans hu')) (fun u' v V hu' ho hV => ?_)).mono ?_
   ·obtain ⟨_, _, e1, e2, e3, e4⟩ := saysW_back hV
    exact hRk u' v V (hu.trans hu') (OwW.rd ho (by omega) (by omega) (by omega) (by omega))
   ·rintro e w' ⟨v, he, ho, hs⟩
    obtain ⟨xa, xb, xc, xd, ya, yb, yc, yd, rfl, h4⟩ := ow4_of ho
    exact ⟨xa, xb, xc, xd, ya, yb, yc, yd, he, h4, hs⟩
 ·refine ⟨zW, X, fun ao cap u hu hb => ?_, fun ao cap u hu hb => ?_, by simp [zW]⟩
  ·refine (zdec_cfg p q C R s lo ln lc ao n cap X hX u (fun u' hu' => hC.cfg u' (hu.trans hu'))).mono ?_
   rintro e w' ⟨v, he, ho, hs⟩
   obtain ⟨xa, xb, xc, xd, ya, yb, yc, yd, rfl, h4⟩ := ow4_of ho
   exact ⟨xa, xb, xc, xd, ya, yb, yc, yd, he, h4, hs⟩
  ·refine (rdec14_cfg p q C R s lo ln lc ao n cap X hX u (fun u' hu' => hRc u' (hu.trans hu'))).mono ?_
   rintro e w' ⟨v, he, ho, hs⟩
   obtain ⟨xa, xb, xc, xd, ya, yb, yc, yd, rfl, h4⟩ := ow4_of ho
   exact ⟨xa, xb, xc, xd, ya, yb, yc, yd, he, h4, hs⟩
set_option maxHeartbeats 32000000 in
theorem reads14_law (p : Int) (q : Nat) (C R : Int) (s : ByteArray) (lo : Option Addr) (ln lc : Nat) (l : List Int) (hz : s.size <= 281474976710656) (hq : q < 18446744073709551616) (ao : Option Addr) (n cap : Nat) (bs : List UInt8) (hn : n <= 2000000) (w : World) (ht : FTab w) (hr : RdI w lo ln lc l) (hb : Rd w ao n cap bs) :
    Calls Tryz.prog 5 #[cfv14 p q C R s lo ln lc, .slice ao n cap] w fun e w' => e = .returned (.bool true) /\ Still w w' := by
  obtain ⟨i0, hi0, hz0, hs10, hb10⟩ := info_parts info_u8
  obtain ⟨V, E, hD⟩ := dd14_any p q C R s lo ln lc l hz hq w ht hr n hn bs
  have HT := hid ht
  have HRb := hid hb
  have HLb := hid hb.len
  have hbd := hD.few
  have hdec := hD.dec
  have hrde := hD.rde
  have HRd4 : Hid (∀ u B a b c d, Ow4 u B V a b c d -> RdW u (.agg (wdcs V.fr V.nx a b c d)) V) := hid (fun u B a b c d h => h.rd hbd)
  obtain ⟨k1, e1⟩ : ∃ n, V.ms.length = n := ⟨_, rfl⟩
  obtain ⟨k2, e2⟩ : ∃ n, V.cs.length = n := ⟨_, rfl⟩
  obtain ⟨k3, e3⟩ : ∃ n, V.hs.length = n := ⟨_, rfl⟩
  obtain ⟨k4, e4⟩ : ∃ n, V.ks.length = n := ⟨_, rfl⟩
  obtain ⟨fr, e5⟩ : ∃ n, V.fr = n := ⟨_, rfl⟩
  obtain ⟨nx, e6⟩ : ∃ n, V.nx = n := ⟨_, rfl⟩
  simp only [e1, e2, e3, e4, e5, e6] at hdec hrde hbd
  simp only [e5, e6] at HRd4
  have HD := hid hdec
  have HRD := hid hrde
  have HSp : Hid (∀ xa xb xc xd ya yb yc yd B D u, Ow4 u B V (.slice xa k1 ya) (.slice xb k2 yb) (.slice xc k3 yc) (.slice xd k4 yd) -> B <= u.heap.size -> (∀ k, (Value.slice xa k1 ya).ownBlock = some k -> k < D) -> (∀ k, (Value.slice xb k2 yb).ownBlock = some k -> k < D) -> (∀ k, (Value.slice xc k3 yc).ownBlock = some k -> k < D) -> (∀ k, (Value.slice xd k4 yd).ownBlock = some k -> k < D) -> Calls Tryz.prog 10 #[.agg (wdcs fr nx (.slice xa k1 ya) (.slice xb k2 yb) (.slice xc k3 yc) (.slice xd k4 yd))] u fun e w' => e = .returned (.int .i64 (spN k1 k2 k3 k4)) /\ Fr (Btw B D) u w') := hid (fun xa xb xc xd ya yb yc yd B D u h hB d1 d2 d3 d4 =>
    spoil14_any fr nx xa xb xc xd k1 k2 k3 k4 ya yb yc yd V.ms V.cs V.hs V.ks B D u e1 e2 e3 e4 h.oa h.ob h.oc h.od hbd hB d1 d2 d3 d4)
  obtain ⟨sp, esp⟩ : ∃ n, spN k1 k2 k3 k4 = n := ⟨_, rfl⟩
  have hsp : 4 <= sp := by rw [<- esp]; unfold spN; omega
  rw [esp] at HSp
  have HSp4 := hid hsp
  clear hD hdec hrde hbd e1 e2 e3 e4 e5 e6 esp hsp ht hr hb hz hq
  have hcf := newCf_cb w ⟨p, (q : Int), C, R, s, .slice lo ln lc⟩
  have A0 := Still.alloc w (.cells #[.int .i64 p, .int .u64 (q : Int), .int .i64 C, .int .i64 R, .string s, .slice lo ln lc] 37)
  obtain ⟨W0, eW0⟩ : ∃ X, w.alloc (.cells #[.int .i64 p, .int .u64 (q : Int), .int .i64 C, .int .i64 R, .string s, .slice lo ln lc] 37) = X := ⟨_, rfl⟩
  have HB0 : Hid (Cfb W0 w.heap.size ⟨p, (q : Int), C, R, s, .slice lo ln lc⟩ /\ Still w W0) := hid (by rw [<- eW0]; exact ⟨hcf, A0⟩)
  obtain ⟨g, eg⟩ : ∃ k, w.heap.size = k := ⟨_, rfl⟩
  rw [eg] at HB0
  clear hcf A0
  go_enter Tryz.func5, Tryz.ntmps5
  go_wp2_with fail
  clear eW0 eg
  refine (awake14_any _ (HT.out.still HB0.out.2)).mono ?_
  rintro e w1 ⟨he, h1⟩
  rw [he]
  have HB1 : Hid (Cfb w1 g ⟨p, (q : Int), C, R, s, .slice lo ln lc⟩ /\ Still w w1) := hid ⟨HB0.out.1.still h1, HB0.out.2.trans h1⟩
  have HR1 := hid (HRb.out.still HB1.out.2)
  clear he h1 HB0
  go_wp2_with (first
    | (at_builtin
       refine wpList_app _ rfl _ _ 38 rfl 5 i0 Tryz.underlying38 hi0 hz0 hs10 hb10 ao1 (some ⟨w2.heap.size, 0, none⟩) n cap1 1 1 bs [9] rfl rfl (HO2.out.1.still (Still.alloc w2 _)) HX2.out (by omega) ?_
       intro ao2 cap2 w3 ho hf hn3 _
       have HO3 : Hid (Ow 5 w3 ao2 (n + 1) cap2 (bs ++ [9])) := hid ho
       have HS3 : Hid (Still w1 w3) := hid (Fr.trans (HS2.out.trans (Still.alloc w2 _)) hf (fun k hk e => by
         obtain ⟨a, ha, e⟩ := e
         have := HO2.out.2 a ha
         omega))
       clear ho hf hn3)
    | (at_builtin
       refine wpList_app _ rfl _ _ 38 rfl 5 i0 Tryz.underlying38 hi0 hz0 hs10 hb10 none ao 0 0 n cap [] bs rfl rfl (Ow.empty _ _) HR1.out (by omega) ?_
       intro ao1 cap1 w2 ho1 hf1 hn1 _
       rw [Nat.zero_add, List.nil_append] at ho1
       rw [Nat.zero_add]
       have hst : Still w1 w2 := hf1.mono (by rintro k hk ⟨a, h, _⟩; cases h)
       have HS2 := hid hst
       have HO2 : Hid (Ow 5 w2 ao1 n cap1 bs /\ ∀ a, ao1 = some a -> w1.heap.size <= a.block) := hid ⟨ho1, fun a ha => by
         rcases hn1 a ha with h | h
         · cases h
         · exact h⟩
       have HX2 : Hid (Rd (w2.alloc (.cells #[.int .u8 9] 5)) (some ⟨w2.heap.size, 0, none⟩) 1 1 [9]) := hid (Rd.one14 w2 9)
       clear ho1 hf1 hn1 hst))
  obtain ⟨go, ego⟩ := HO3.out.head14 (by omega)
  subst ego
  have hc2 := HO3.out.rd.le
  have HR3 : Hid (Rd w3 (some ⟨go, 0, none⟩) n cap2 bs) := hid (by
    have := HO3.out.rd.take (i := n) (by omega)
    rwa [List.take_left' HLb.out] at this)
  have HN9 : Hid (∀ u, Still w3 u -> u.cell? ⟨go, n, none⟩ = some (.int .u8 9)) := hid (fun u hu => by
    have h9 := (HO3.out.still hu).rd.byte (k := n) (by rw [List.length_append, HLb.out]; simp)
    rw [Nat.zero_add] at h9
    rw [h9]
    simp [HLb.out])
  have hsl : ∀ W' : World, (Instr.slice 38 (.slice (some ⟨go, 0, none⟩) (n + 1) cap2) none (some (.int .i64 (n : Int))) none).run Tryz.prog W' = .ok (.slice (some ⟨go, 0, none⟩) n cap2) W' := fun W' => by
    have := run_upto (P := Tryz.prog) W' 38 5 i0 Tryz.underlying38 hi0 hs10 .i64 (some ⟨go, 0, none⟩) (n + 1) cap2 (n : Int) (by omega) (by omega)
    rw [this, Int.toNat_natCast]
  have HB3 : Hid (Cfb w3 g ⟨p, (q : Int), C, R, s, .slice lo ln lc⟩ /\ Still w w3) := hid ⟨HB1.out.1.still HS3.out, HB1.out.2.trans HS3.out⟩
  have HS1b : Hid (Still w w1) := hid HB1.out.2
  clear hc2 HO2 HS2 HX2 HB1 HR1 HS3 HO3
  have HDc : Hid (∀ u, Still w3 u -> Calls Tryz.prog 19 #[cfv14 p q C R s lo ln lc, .slice (some ⟨go, 0, none⟩) n cap2] u fun e w' => ∃ xa xb xc xd ya yb yc yd, e = .returned (.tuple #[.agg (wdcs fr nx (.slice xa k1 ya) (.slice xb k2 yb) (.slice xc k3 yc) (.slice xd k4 yd)), .int .i64 E]) /\ Ow4 w' u.heap.size V (.slice xa k1 ya) (.slice xb k2 yb) (.slice xc k3 yc) (.slice xd k4 yd) /\ Still u w') := hid (fun u hu => HD.out (some ⟨go, 0, none⟩) cap2 u (HB3.out.2.trans hu) (HR3.out.still hu))
  have hgl : g < w3.heap.size := block_lt HB3.out.1
  have HGl := hid hgl
  have n1' : w3.heap.size ≠ g := by omega
  obtain ⟨c0, c1, c2, c3, c4, c5, cf⟩ := HB3.out.1.cells
  dsimp only at c0 c1 c2 c3 c4 c5
  clear hgl
  go_upto_region 4 with fail
  go_cut [7, 8] (fun v7 v8 wx => ∃ gx xa0 xb0 xc0 xd0 ya0 yb0 yc0 yd0, v7 = .pointer (some ⟨gx, 0, none⟩) /\ v8 = .int .i64 E /\ Hid (Wdb wx gx fr nx (.slice xa0 k1 ya0) (.slice xb0 k2 yb0) (.slice xc0 k3 yc0) (.slice xd0 k4 yd0) /\ Ow4 wx w3.heap.size V (.slice xa0 k1 ya0) (.slice xb0 k2 yb0) (.slice xc0 k3 yc0) (.slice xd0 k4 yd0) /\ Still w3 wx /\ w3.heap.size <= gx))
  case first =>
    go_region_held3 (fun w' => w'.cell? ⟨g, 0, none⟩ = some (.int .i64 p) /\ w'.cell? ⟨g, 1, none⟩ = some (.int .u64 (q : Int)) /\ w'.cell? ⟨g, 2, none⟩ = some (.int .i64 C) /\ w'.cell? ⟨g, 3, none⟩ = some (.int .i64 R) /\ w'.cell? ⟨g, 4, none⟩ = some (.string s) /\ w'.cell? ⟨g, 5, none⟩ = some (.slice lo ln lc)) (go_keep)
      (first
        | (go_at_call 19
           refine (HDc.out _ (by repeat (first | exact Fr.refl _ _ | refine Fr.drew ?_ | refine Fr.alloc ?_ _))).mono ?_
           rintro e x1 ⟨xa0, xb0, xc0, xd0, ya0, yb0, yc0, yd0, rfl, o1, g1⟩
           have HX1 : Hid (Still w3 x1) := hid (by
             refine Still.trans ?_ g1
             repeat (first | exact Fr.refl _ _ | refine Fr.drew ?_ | refine Fr.alloc ?_ _))
           have HO1 : Hid (Ow4 x1 w3.heap.size V (.slice xa0 k1 ya0) (.slice xb0 k2 yb0) (.slice xc0 k3 yc0) (.slice xd0 k4 yd0)) := hid (o1.less14 (by
             first
               | exact Nat.le_refl _
               | (simp only [World.drew]; exact Nat.le_refl _)
               | (rw [size_alloc]; exact Nat.le_succ _)
               | (simp)))
           obtain ⟨e0, e1, e2, e3, e4, e5, ef⟩ := (HB3.out.1.still HX1.out).cells
           dsimp only at e0 e1 e2 e3 e4 e5
           have m1' : x1.heap.size ≠ g := by have := HX1.out.size; have := HGl.out; omega
           try (have z1 : Wdb x1 w3.heap.size 0 0 (.slice none 0 0) (.slice none 0 0) (.slice none 0 0) (.slice none 0 0) := Fr.kept_still (Still.undrew g1) (heap_alloc_new w3 _); obtain ⟨u0, u1, u2, u3, u4, u5, uf⟩ := z1.cells; have HZ1 := hid z1)
           try (have HN1 := hid o1.over14)
           clear o1 g1))
    · go_wp2_with fail
      go_meet
      have hA1 := Still.alloc x1 (.cells (wdcs fr nx (.slice xa0 k1 ya0) (.slice xb0 k2 yb0) (.slice xc0 k3 yc0) (.slice xd0 k4 yd0)) 27)
      exact ⟨x1.heap.size, xa0, xb0, xc0, xd0, ya0, yb0, yc0, yd0, rfl, rfl, hid ⟨heap_alloc_new x1 _, HO1.out.still hA1, HX1.out.trans hA1, HX1.out.size⟩⟩
    · go_wp2_with fail
      go_meet
      exact ⟨w3.heap.size, xa0, xb0, xc0, xd0, ya0, yb0, yc0, yd0, rfl, rfl, hid ⟨HZ1.out.put fr nx (.slice xa0 k1 ya0) (.slice xb0 k2 yb0) (.slice xc0 k3 yc0) (.slice xd0 k4 yd0), HO1.out.set6 (Wdb.ty HZ1.out) _ _ _ _ _ _, still_set6 HX1.out (Nat.le_refl _) _ _ _ _ _ _, Nat.le_refl _⟩⟩
  case rest =>
    obtain ⟨gx, xa0, xb0, xc0, xd0, ya0, yb0, yc0, yd0, rfl, rfl, HX⟩ := hcut
    obtain ⟨w4, ew4⟩ : ∃ z, z = wc := ⟨_, rfl⟩
    subst ew4
    have HS4 : Hid (Still w3 w4) := hid HX.out.2.2.1
    have HB4 : Hid (Cfb w4 g ⟨p, (q : Int), C, R, s, .slice lo ln lc⟩ /\ Still w w4) := hid ⟨HB3.out.1.still HS4.out, HB3.out.2.trans HS4.out⟩
    have HLt : Hid ((∀ k, (Value.slice xa0 k1 ya0).ownBlock = some k -> k < w4.heap.size) /\ (∀ k, (Value.slice xb0 k2 yb0).ownBlock = some k -> k < w4.heap.size) /\ (∀ k, (Value.slice xc0 k3 yc0).ownBlock = some k -> k < w4.heap.size) /\ (∀ k, (Value.slice xd0 k4 yd0).ownBlock = some k -> k < w4.heap.size)) := hid ⟨fun k hk => (HX.out.2.1.oa.block hk).2, fun k hk => (HX.out.2.1.ob.block hk).2, fun k hk => (HX.out.2.1.oc.block hk).2, fun k hk => (HX.out.2.1.od.block hk).2⟩
    clear c0 c1 c2 c3 c4 c5 cf HDc n1'
    obtain ⟨c0, c1, c2, c3, c4, c5, cf⟩ := HB4.out.1.cells
    dsimp only at c0 c1 c2 c3 c4 c5
    go_wp2_with fail
    clear c0 c1 c2 c3 c4 c5 cf
    refine (HRD.out ao cap w4 HB4.out.2 (HRb.out.still HB4.out.2)).mono ?_
    rintro e w5 ⟨xa1, xb1, xc1, xd1, ya1, yb1, yc1, yd1, he, ho, h5⟩
    rw [he]
    have A5 := Still.alloc w5 (.cells (wdcs fr nx (.slice xa1 k1 ya1) (.slice xb1 k2 yb1) (.slice xc1 k3 yc1) (.slice xd1 k4 yd1)) 27)
    have p5 := newWd_wb w5 fr nx (.slice xa1 k1 ya1) (.slice xb1 k2 yb1) (.slice xc1 k3 yc1) (.slice xd1 k4 yd1)
    unfold newWd at p5
    have HS5 := hid (h5.trans A5)
    have HV5 := hid (ho.still A5)
    have HZ5 : Hid (w4.heap.size <= w5.heap.size /\ w5.heap.size < (w5.alloc (.cells (wdcs fr nx (.slice xa1 k1 ya1) (.slice xb1 k2 yb1) (.slice xc1 k3 yc1) (.slice xd1 k4 yd1)) 27)).heap.size) := hid ⟨h5.size, by rw [size_alloc]; omega⟩
    obtain ⟨W5, eW5⟩ : ∃ X, w5.alloc (.cells (wdcs fr nx (.slice xa1 k1 ya1) (.slice xb1 k2 yb1) (.slice xc1 k3 yc1) (.slice xd1 k4 yd1)) 27) = X := ⟨_, rfl⟩
    obtain ⟨gv, egv⟩ : ∃ X, w5.heap.size = X := ⟨_, rfl⟩
    rw [eW5] at HS5 HV5 HZ5 p5
    rw [egv] at p5 HZ5
    have HP5 := hid p5
    have HXb : Hid (Wdb W5 gx fr nx (.slice xa0 k1 ya0) (.slice xb0 k2 yb0) (.slice xc0 k3 yc0) (.slice xd0 k4 yd0)) := hid (HX.out.1.still HS5.out)
    have HXo : Hid (Ow4 W5 w3.heap.size V (.slice xa0 k1 ya0) (.slice xb0 k2 yb0) (.slice xc0 k3 yc0) (.slice xd0 k4 yd0)) := hid (HX.out.2.1.still HS5.out)
    have HEw := hid eW5
    have HEg := hid egv
    clear he ho h5 A5 p5 HX eW5 egv
    obtain ⟨c0, c1, c2, c3, c4, c5, cf⟩ := HXb.out.cells
    obtain ⟨d0, d1, d2, d3, d4, d5, df⟩ := HP5.out.cells
    go_upto_region 6 with fail
    rw [HEw.out, HEg.out]
    go_wp2_with fail
    clear c0 c1 c2 c3 c4 c5 cf d0 d1 d2 d3 d4 d5 df
    refine (rsame_any V _ _ W5 (HRd4.out _ _ _ _ _ _ HXo.out) (HRd4.out _ _ _ _ _ _ HV5.out)).mono ?_
    rintro e w6 ⟨he, h6⟩
    rw [he]
    have HS6 : Hid (Still w3 w6) := hid ((HS4.out.trans HS5.out).trans h6)
    have HXb6 := hid (HXb.out.still h6)
    have HXo6 := hid (HXo.out.still h6)
    have HV6 := hid (HV5.out.still h6)
    have HP6 := hid (HP5.out.still h6)
    have HZ6 : Hid (w4.heap.size <= gv /\ gv < w6.heap.size) := hid ⟨HZ5.out.1, Nat.lt_of_lt_of_le HZ5.out.2 h6.size⟩
    clear he h6 HXb HXo HV5 HP5 HS5 HZ5 HEw HEg
    obtain ⟨c0, c1, c2, c3, c4, c5, cf⟩ := HXb6.out.cells
    go_wp2_with fail
    clear c0 c1 c2 c3 c4 c5 cf
    refine (HSp.out _ _ _ _ _ _ _ _ w3.heap.size w4.heap.size w6 HXo6.out HS6.out.size HLt.out.1 HLt.out.2.1 HLt.out.2.2.1 HLt.out.2.2.2).mono ?_
    rintro e w7 ⟨he, h7⟩
    rw [he]
    have HS7 : Hid (Still w3 w7) := hid (Fr.trans HS6.out h7 (fun k hk e => by have := e.1; omega))
    have HV7 : Hid (Ow4 w7 w4.heap.size V (.slice xa1 k1 ya1) (.slice xb1 k2 yb1) (.slice xc1 k3 yc1) (.slice xd1 k4 yd1)) := hid (HV6.out.keep h7 (fun k hk => hk.2))
    have HP7 : Hid (Wdb w7 gv fr nx (.slice xa1 k1 ya1) (.slice xb1 k2 yb1) (.slice xc1 k3 yc1) (.slice xd1 k4 yd1)) := hid ((h7.block gv HZ6.out.2 (fun e => by have := e.2; have := HZ6.out.1; omega)).trans HP6.out)
    have k9 := HN9.out w7 HS7.out
    have s1 := fun m => run_string (P := Tryz.prog) (w7.drewN m) 38 5 9 Tryz.underlying38 Tryz.underlying5 Tryz.underlying9 (HR3.out.still (HS7.out.trans ((Fr.refl _ w7).drewN m)))
    have s2 := fun m => run_string (P := Tryz.prog) (w7.drewN m) 38 5 9 Tryz.underlying38 Tryz.underlying5 Tryz.underlying9 (HRb.out.still (HB3.out.2.trans (HS7.out.trans ((Fr.refl _ w7).drewN m))))
    obtain ⟨BB, eBB⟩ : ∃ B, (⟨bs.toArray⟩ : ByteArray) = B := ⟨_, rfl⟩
    rw [eBB] at s1 s2
    have hidx : (n : Int) < ((n + 1 : Nat) : Int) := by omega
    have hidx2 : decide ((n : Int) < (n : Int) + 1) = true := by
      simp only [decide_eq_true_eq]
      omega
    clear he h7 HXb6 HXo6 HV6 HP6 HS6 HZ6 HLt eBB HB4
    go_upto_region 8 with fail
    go_quiet (fail)
    have HS8 : Hid (Still w3 (w7.drewN nq)) := hid (HS7.out.trans ((Fr.refl _ w7).drewN nq))
    have HV8 := hid (HV7.out.still ((Fr.refl _ w7).drewN nq))
    have HP8 := hid (HP7.out.still ((Fr.refl _ w7).drewN nq))
    obtain ⟨W8, eW8⟩ : ∃ X, w7.drewN nq = X := ⟨_, rfl⟩
    rw [eW8] at HS8 HV8 HP8 ⊢
    have HB8 : Hid (Cfb W8 g ⟨p, (q : Int), C, R, s, .slice lo ln lc⟩ /\ Still w W8) := hid ⟨HB3.out.1.still HS8.out, HB3.out.2.trans HS8.out⟩
    have HR8 := hid (HR3.out.still HS8.out)
    clear k9 s1 s2 hidx hidx2 eW8 HV7 HP7 HS7
    have HDc : Hid (∀ u, Still W8 u -> Calls Tryz.prog 19 #[cfv14 p q C R s lo ln lc, .slice (some ⟨go, 0, none⟩) n cap2] u fun e w' => ∃ xa xb xc xd ya yb yc yd, e = .returned (.tuple #[.agg (wdcs fr nx (.slice xa k1 ya) (.slice xb k2 yb) (.slice xc k3 yc) (.slice xd k4 yd)), .int .i64 E]) /\ Ow4 w' u.heap.size V (.slice xa k1 ya) (.slice xb k2 yb) (.slice xc k3 yc) (.slice xd k4 yd) /\ Still u w') := hid (fun u hu => HD.out (some ⟨go, 0, none⟩) cap2 u (HB8.out.2.trans hu) (HR8.out.still hu))
    have hgl : g < W8.heap.size := block_lt HB8.out.1
    have HGl := hid hgl
    have n1' : W8.heap.size ≠ g := by omega
    obtain ⟨c0, c1, c2, c3, c4, c5, cf⟩ := HB8.out.1.cells
    dsimp only at c0 c1 c2 c3 c4 c5
    clear hgl
    go_upto_region 9 with fail
    go_cut [14, 15] (fun v7 v8 wx => ∃ gx xa2 xb2 xc2 xd2 ya2 yb2 yc2 yd2, v7 = .pointer (some ⟨gx, 0, none⟩) /\ v8 = .int .i64 E /\ Hid (Wdb wx gx fr nx (.slice xa2 k1 ya2) (.slice xb2 k2 yb2) (.slice xc2 k3 yc2) (.slice xd2 k4 yd2) /\ Ow4 wx W8.heap.size V (.slice xa2 k1 ya2) (.slice xb2 k2 yb2) (.slice xc2 k3 yc2) (.slice xd2 k4 yd2) /\ Still W8 wx /\ W8.heap.size <= gx))
    case first =>
      go_region_held3 (fun w' => w'.cell? ⟨g, 0, none⟩ = some (.int .i64 p) /\ w'.cell? ⟨g, 1, none⟩ = some (.int .u64 (q : Int)) /\ w'.cell? ⟨g, 2, none⟩ = some (.int .i64 C) /\ w'.cell? ⟨g, 3, none⟩ = some (.int .i64 R) /\ w'.cell? ⟨g, 4, none⟩ = some (.string s) /\ w'.cell? ⟨g, 5, none⟩ = some (.slice lo ln lc)) (go_keep)
        (first
          | (go_at_call 19
             refine (HDc.out _ (by repeat (first | exact Fr.refl _ _ | refine Fr.drew ?_ | refine Fr.alloc ?_ _))).mono ?_
             rintro e x1 ⟨xa2, xb2, xc2, xd2, ya2, yb2, yc2, yd2, rfl, o1, g1⟩
             have HX1 : Hid (Still W8 x1) := hid (by
               refine Still.trans ?_ g1
               repeat (first | exact Fr.refl _ _ | refine Fr.drew ?_ | refine Fr.alloc ?_ _))
             have HO1 : Hid (Ow4 x1 W8.heap.size V (.slice xa2 k1 ya2) (.slice xb2 k2 yb2) (.slice xc2 k3 yc2) (.slice xd2 k4 yd2)) := hid (o1.less14 (by
               first
                 | exact Nat.le_refl _
                 | (simp only [World.drew]; exact Nat.le_refl _)
                 | (rw [size_alloc]; exact Nat.le_succ _)
                 | (simp)))
             obtain ⟨e0, e1, e2, e3, e4, e5, ef⟩ := (HB8.out.1.still HX1.out).cells
             dsimp only at e0 e1 e2 e3 e4 e5
             have m1' : x1.heap.size ≠ g := by have := HX1.out.size; have := HGl.out; omega
             try (have z1 : Wdb x1 W8.heap.size 0 0 (.slice none 0 0) (.slice none 0 0) (.slice none 0 0) (.slice none 0 0) := Fr.kept_still (Still.undrew g1) (heap_alloc_new W8 _); obtain ⟨u0, u1, u2, u3, u4, u5, uf⟩ := z1.cells; have HZ1 := hid z1)
             try (have HN1 := hid o1.over14)
             clear o1 g1))
      · go_wp2_with fail
        go_meet
        have hA1 := Still.alloc x1 (.cells (wdcs fr nx (.slice xa2 k1 ya2) (.slice xb2 k2 yb2) (.slice xc2 k3 yc2) (.slice xd2 k4 yd2)) 27)
        exact ⟨x1.heap.size, xa2, xb2, xc2, xd2, ya2, yb2, yc2, yd2, rfl, rfl, hid ⟨heap_alloc_new x1 _, HO1.out.still hA1, HX1.out.trans hA1, HX1.out.size⟩⟩
      · go_wp2_with fail
        go_meet
        exact ⟨W8.heap.size, xa2, xb2, xc2, xd2, ya2, yb2, yc2, yd2, rfl, rfl, hid ⟨HZ1.out.put fr nx (.slice xa2 k1 ya2) (.slice xb2 k2 yb2) (.slice xc2 k3 yc2) (.slice xd2 k4 yd2), HO1.out.set6 (Wdb.ty HZ1.out) _ _ _ _ _ _, still_set6 HX1.out (Nat.le_refl _) _ _ _ _ _ _, Nat.le_refl _⟩⟩
    case rest =>
      obtain ⟨gx2, xa2, xb2, xc2, xd2, ya2, yb2, yc2, yd2, rfl, rfl, HX⟩ := hcut
      obtain ⟨w9, ew9⟩ : ∃ z, z = wc := ⟨_, rfl⟩
      subst ew9
      have HS9 : Hid (Still W8 w9) := hid HX.out.2.2.1
      have HV9 := hid (HV8.out.still HS9.out)
      have HP9 := hid (HP8.out.still HS9.out)
      have HB9 : Hid (Still w w9) := hid (HB8.out.2.trans HS9.out)
      clear c0 c1 c2 c3 c4 c5 cf HDc n1'
      obtain ⟨c0, c1, c2, c3, c4, c5, cf⟩ := HX.out.1.cells
      obtain ⟨d0, d1, d2, d3, d4, d5, df⟩ := HP9.out.cells
      go_wp2_with fail
      clear c0 c1 c2 c3 c4 c5 cf d0 d1 d2 d3 d4 d5 df
      refine (rsame_any V _ _ w9 (HRd4.out _ _ _ _ _ _ HX.out.2.1) (HRd4.out _ _ _ _ _ _ HV9.out)).mono ?_
      rintro e w10 ⟨he, h10⟩
      rw [he]
      have HZ := hid (HB9.out.trans h10)
      have t1 : (E == E) = true := by simp
      have t2 : decide (4 <= sp) = true := by simpa using HSp4.out
      clear he h10 HX HV9 HP9
      go_wp2_with fail
      go_ret
      exact ⟨rfl, HZ.out⟩
end Go.Proofs.YtkgbmefaphhcnaaGreatDoor
