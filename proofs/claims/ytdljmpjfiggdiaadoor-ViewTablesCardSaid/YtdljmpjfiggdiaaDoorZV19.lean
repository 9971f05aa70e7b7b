/- Parts of the proof, laid end to end. -/
import Derived.Test.YtdljmpjfiggdiaaDoorZV16
import Derived.Test.YtdljmpjfiggdiaaDoorZV18
namespace Go.Proofs.YtdljmpjfiggdiaaDoor
open Go.RowKit
open Ea
set_option maxRecDepth 100000
def tlS (s : ByteArray) (i : Nat) (r : Nat) (x : Scr) : ByteArray := ((((((((((((s ++ itS ((i : Int) + 1)) ++ ⟨#[32]⟩) ++ ltS r) ++ ⟨#[32, 112, 111, 105, 110, 116, 115, 32]⟩) ++ itS x.p) ++ ⟨#[32, 104, 105, 116, 115, 32]⟩) ++ itS x.h) ++ ⟨#[32, 111, 117, 116, 115, 32]⟩) ++ itS x.o) ++ ⟨#[32, 115, 116, 114, 101, 97, 107, 32]⟩) ++ itS x.k) ++ ⟨#[10]⟩)
theorem tlS_sz {s : ByteArray} {i r m : Nat} {x : Scr} (h : s.size <= m) (hx1 : (itS ((i : Int) + 1)).size <= 21) (hx : MayC x) : (tlS s i r x).size <= m + 136 := by
 have hx2 := ltS_sz r
 have hx3 := itS_sz (n := x.p) ⟨by have := hx.1; omega, by have := hx.1; omega⟩
 have hx4 := itS_sz (n := x.h) ⟨by have := hx.2.1; omega, by have := hx.2.1; omega⟩
 have hx5 := itS_sz (n := x.o) ⟨by have := hx.2.2.1; omega, by have := hx.2.2.1; omega⟩
 have hx6 := itS_sz (n := x.k) ⟨by have := hx.2.2.2; omega, by have := hx.2.2.2; omega⟩
 exact Nat.le_trans (cat_sz (cat_sz (cat_sz (cat_sz (cat_sz (cat_sz (cat_sz (cat_sz (cat_sz (cat_sz (cat_sz (cat_sz h hx1) (show ((⟨#[32]⟩ : ByteArray)).size <= 1 by decide)) hx2) (show ((⟨#[32, 112, 111, 105, 110, 116, 115, 32]⟩ : ByteArray)).size <= 8 by decide)) hx3) (show ((⟨#[32, 104, 105, 116, 115, 32]⟩ : ByteArray)).size <= 6 by decide)) hx4) (show ((⟨#[32, 111, 117, 116, 115, 32]⟩ : ByteArray)).size <= 6 by decide)) hx5) (show ((⟨#[32, 115, 116, 114, 101, 97, 107, 32]⟩ : ByteArray)).size <= 8 by decide)) hx6) (show ((⟨#[10]⟩ : ByteArray)).size <= 1 by decide)) (by omega)
def rkN (L : List Scr) (i : Nat) : Nat := ((rnk L).getD i 0).toNat
def tbN (L : List Scr) : Nat -> ByteArray
 | 0 => ByteArray.empty
 | i + 1 => tlS (tbN L i) i (rkN L i) (sc L (rkN L i))
theorem rkN_at {L : List Scr} {i : Nat} (h : i < L.length) : rkN L i < L.length /\ (rnk L)[i]'(by rw [rnk_len]; exact h) = (rkN L i : Int) := by
 obtain ⟨q, hq, _, he⟩ := rnk_who h
 have h1 : (rnk L)[i]'(by rw [rnk_len]; exact h) = (q : Int) := by
  rw [List.getElem?_eq_getElem (by rw [rnk_len]; exact h)] at he
  exact Option.some.inj he
 have h2 : rkN L i = q := by
  unfold rkN
  rw [List.getD_eq_getElem?_getD, he]
  simp
 rw [h2, h1]
 exact ⟨hq, rfl⟩
theorem tbN_sz {L : List Scr} (hL : rnkE L = true) : ∀ i, i <= L.length -> (tbN L i).size <= 136 * i
 | 0, _ => by simp [tbN]
 | i + 1, h => by
  have h0 := rnkE_iff.1 hL
  have h1 := tbN_sz hL i (by omega)
  have h2 := tlS_sz (i := i) (r := rkN L i) h1 (itS_sz ⟨by omega, by omega⟩) (h0.2 _ (rkN_at (L := L) (i := i) (by omega)).1)
  show (tlS (tbN L i) i (rkN L i) (sc L (rkN L i))).size <= _
  omega
def tbR (L : List Scr) : ByteArray := if rnkE L then tbN L L.length else ByteArray.empty
def tbE (L : List Scr) : Int := if rnkE L then 0 else 230
theorem tb_no {L : List Scr} (h : rnkE L = false) : tbR L = ByteArray.empty /\ tbE L = 230 /\ errR L = 120 := by
 unfold tbR tbE errR
 rw [h]
 exact ⟨rfl, rfl, rfl⟩
theorem tb_yes {L : List Scr} (h : rnkE L = true) : tbR L = tbN L L.length /\ tbE L = 0 /\ errR L = 0 /\ rnkA L = rnk L := by
 unfold tbR tbE errR rnkA
 rw [h]
 exact ⟨rfl, rfl, rfl, rfl⟩
set_option maxHeartbeats 8000000 in
theorem rtable_any (L : List Scr) (ao : Option Addr) (n cap : Nat) (w : World) (hr : RdG KC w ao n L) (ht : PTabV w) : Calls Tryd.prog 15 #[.slice ao n cap] w fun e w' => e = .returned (.tuple #[.string (tbR L), .int .i64 (tbE L)]) /\ Still w w' := by
 have HR := hid hr
 have HL := hid hr.1
 have HT := hid ht
 have HRk := hid (rrank_any L ao n cap w hr)
 have hn47 : n <= 281474976710656 := hr.2.1
 obtain ⟨R, eR⟩ : ∃ x, tbR L = x := ⟨_, rfl⟩
 obtain ⟨E, eE⟩ : ∃ x, tbE L = x := ⟨_, rfl⟩
 obtain ⟨er, eer⟩ : ∃ x, errR L = x := ⟨_, rfl⟩
 have HNo := hid (fun h => tb_no (L := L) h)
 have HYs := hid (fun h => tb_yes (L := L) h)
 rw [eR, eE, eer] at HNo HYs
 rw [eR, eE]
 rw [eer] at HRk
 clear hr ht eR eE eer
 cases hE : rnkE L with
 | false =>
  obtain ⟨rfl, rfl, rfl⟩ := HNo.out hE
  clear hE
  go_enter Tryd.func15, Tryd.ntmps15
  go_wp2_with fail
  refine HRk.out.mono ?_
  rintro e w1 ⟨bo, m, cp, rfl, ho, h1, _⟩
  have HS1 := hid h1
  clear h1 ho
  go_wp2_with fail
  go_ret2
  exact ⟨rfl, HS1.out⟩
 | true =>
  obtain ⟨e1, rfl, rfl, e4⟩ := HYs.out hE
  rw [e4] at HRk
  have HE := hid hE
  have HR1 := hid e1
  have h6 := (rnkE_iff.1 hE).1
  have hn6 : n <= 6 := by have := HL.out; omega
  clear hE e1 e4 h6
  go_enter Tryd.func15, Tryd.ntmps15
  go_wp2_with fail
  refine HRk.out.mono ?_
  rintro e w1 ⟨bo, m, cp, rfl, ho, h1, _⟩
  have HS1 := hid h1
  have HO1 := hid ho
  obtain rfl : m = n := by have := ho.1.len; rw [rnk_len] at this; have := HL.out; omega
  clear h1 ho HRk
  go_wp2_with fail
  go_loopw [6, 7] (fun s u wr => ∃ i : Nat, i <= m /\ u = .int .i64 (i : Int) /\ s = .string (tbN L i) /\ Still w1 wr) (fun _ u _ => m - (intOf u).toNat)
  case atStart => exact ⟨0, by omega, rfl, rfl, Fr.refl _ _⟩
  case round =>
   obtain ⟨i, hi, rfl, rfl, hs⟩ := hrel
   by_cases hin : i < m
   ·have hlt : (i : Int) < (m : Int) := by omega
    have hiL : i < L.length := by have := HL.out; omega
    obtain ⟨q1, q2⟩ := rkN_at hiL
    have hq : rkN L i < m := by have := HL.out; omega
    have hxm := (rnkE_iff.1 HE.out).2 _ q1
    have ho := HO1.out.still hs
    obtain ⟨g, rfl⟩ := ho.head (by omega)
    have d0 := ho.1.byte (k := i) (by rw [rnk_len]; exact hiL)
    rw [q2, Nat.zero_add] at d0
    have hr1 := HR.out.still (HS1.out.trans hs)
    obtain ⟨B, o, rfl⟩ := hr1.at (by omega)
    obtain ⟨c0, c1, c2, c3⟩ := rdC hr1 hq
    have S0 := tbN_sz HE.out i (by omega)
    have HSt : Hid (tbN L (i + 1) = tlS (tbN L i) i (rkN L i) (sc L (rkN L i))) := hid rfl
    have hsB : seatB ((rkN L i : Nat) : Int) = true := seatB_iff.2 ⟨by omega, by omega⟩
    obtain ⟨r, er⟩ : ∃ r, rkN L i = r := ⟨_, rfl⟩
    rw [er] at d0 c0 c1 c2 c3 HSt hsB hq hxm q2
    have hrl : (r : Int) < (m : Int) := by omega
    obtain ⟨x, ex⟩ : ∃ x, sc L r = x := ⟨_, rfl⟩
    rw [ex] at c0 c1 c2 c3 HSt hxm
    obtain ⟨s, es⟩ : ∃ s, tbN L i = s := ⟨_, rfl⟩
    rw [es] at HSt S0
    rw [es]
    have hI1 : I64 ((i : Int) + 1) := ⟨by omega, by omega⟩
    have hI3 : I64 x.p := ⟨by have := hxm.1; omega, by have := hxm.1; omega⟩
    have hI4 : I64 x.h := ⟨by have := hxm.2.1; omega, by have := hxm.2.1; omega⟩
    have hI5 : I64 x.o := ⟨by have := hxm.2.2.1; omega, by have := hxm.2.2.1; omega⟩
    have hI6 : I64 x.k := ⟨by have := hxm.2.2.2; omega, by have := hxm.2.2.2; omega⟩
    have H1 := hid (fun u (hu : Still w u) => itoaV_any _ hI1 u (HT.out.still hu))
    have H2 := hid (fun u => rletter_any (r : Int) hsB u)
    rw [Int.toNat_natCast] at H2
    have H3 := hid (fun u (hu : Still w u) => itoaV_any _ hI3 u (HT.out.still hu))
    have H4 := hid (fun u (hu : Still w u) => itoaV_any _ hI4 u (HT.out.still hu))
    have H5 := hid (fun u (hu : Still w u) => itoaV_any _ hI5 u (HT.out.still hu))
    have H6 := hid (fun u (hu : Still w u) => itoaV_any _ hI6 u (HT.out.still hu))
    have X1 := itS_sz hI1
    have X2 := ltS_sz r
    have X3 := itS_sz hI3
    have X4 := itS_sz hI4
    have X5 := itS_sz hI5
    have X6 := itS_sz hI6
    have HTl : Hid (tlS s i r x = ((((((((((((s ++ itS ((i : Int) + 1)) ++ ⟨#[32]⟩) ++ ltS r) ++ ⟨#[32, 112, 111, 105, 110, 116, 115, 32]⟩) ++ itS x.p) ++ ⟨#[32, 104, 105, 116, 115, 32]⟩) ++ itS x.h) ++ ⟨#[32, 111, 117, 116, 115, 32]⟩) ++ itS x.o) ++ ⟨#[32, 115, 116, 114, 101, 97, 107, 32]⟩) ++ itS x.k) ++ ⟨#[10]⟩)) := hid rfl
    obtain ⟨x1, ex1⟩ : ∃ y, itS ((i : Int) + 1) = y := ⟨_, rfl⟩
    obtain ⟨x2, ex2⟩ : ∃ y, ltS r = y := ⟨_, rfl⟩
    obtain ⟨x3, ex3⟩ : ∃ y, itS x.p = y := ⟨_, rfl⟩
    obtain ⟨x4, ex4⟩ : ∃ y, itS x.h = y := ⟨_, rfl⟩
    obtain ⟨x5, ex5⟩ : ∃ y, itS x.o = y := ⟨_, rfl⟩
    obtain ⟨x6, ex6⟩ : ∃ y, itS x.k = y := ⟨_, rfl⟩
    rw [ex1] at H1 X1 HTl
    rw [ex2] at H2 X2 HTl
    rw [ex3] at H3 X3 HTl
    rw [ex4] at H4 X4 HTl
    rw [ex5] at H5 X5 HTl
    rw [ex6] at H6 X6 HTl
    obtain ⟨y1, f1, z1, s1⟩ := cat_ex (a := s) (b := x1) (m := 136 * i + 0) (n := 21) S0 X1 (by omega)
    obtain ⟨y2, f2, z2, s2⟩ := cat_ex (a := y1) (b := ⟨#[32]⟩) (m := 136 * i + 21) (n := 1) z1 (by decide) (by omega)
    obtain ⟨y3, f3, z3, s3⟩ := cat_ex (a := y2) (b := x2) (m := 136 * i + 22) (n := 1) z2 X2 (by omega)
    obtain ⟨y4, f4, z4, s4⟩ := cat_ex (a := y3) (b := ⟨#[32, 112, 111, 105, 110, 116, 115, 32]⟩) (m := 136 * i + 23) (n := 8) z3 (by decide) (by omega)
    obtain ⟨y5, f5, z5, s5⟩ := cat_ex (a := y4) (b := x3) (m := 136 * i + 31) (n := 21) z4 X3 (by omega)
    obtain ⟨y6, f6, z6, s6⟩ := cat_ex (a := y5) (b := ⟨#[32, 104, 105, 116, 115, 32]⟩) (m := 136 * i + 52) (n := 6) z5 (by decide) (by omega)
    obtain ⟨y7, f7, z7, s7⟩ := cat_ex (a := y6) (b := x4) (m := 136 * i + 58) (n := 21) z6 X4 (by omega)
    obtain ⟨y8, f8, z8, s8⟩ := cat_ex (a := y7) (b := ⟨#[32, 111, 117, 116, 115, 32]⟩) (m := 136 * i + 79) (n := 6) z7 (by decide) (by omega)
    obtain ⟨y9, f9, z9, s9⟩ := cat_ex (a := y8) (b := x5) (m := 136 * i + 85) (n := 21) z8 X5 (by omega)
    obtain ⟨y10, f10, z10, s10⟩ := cat_ex (a := y9) (b := ⟨#[32, 115, 116, 114, 101, 97, 107, 32]⟩) (m := 136 * i + 106) (n := 8) z9 (by decide) (by omega)
    obtain ⟨y11, f11, z11, s11⟩ := cat_ex (a := y10) (b := x6) (m := 136 * i + 114) (n := 21) z10 X6 (by omega)
    obtain ⟨y12, f12, z12, s12⟩ := cat_ex (a := y11) (b := ⟨#[10]⟩) (m := 136 * i + 135) (n := 1) z11 (by decide) (by omega)
    rw [f1, f2, f3, f4, f5, f6, f7, f8, f9, f10, f11, f12] at HTl
    have A3 := Still.alloc wr (.cells (ccs x) 54)
    have p3 : Cb (wr.alloc (.cells (ccs x) 54)) wr.heap.size x := newC_cb wr x
    have HS3 := hid (HS1.out.trans (hs.trans A3))
    have HSw := hid (hs.trans A3)
    have HP3 := hid p3
    have HO3 := hid (ho.still A3)
    have hiw : IntKind.i64.wrap ((i : Int) + 1) = (i : Int) + 1 := by rw [IntKind.wrap_i64]; omega
    obtain ⟨W3, eW3⟩ : ∃ X, wr.alloc (.cells (ccs x) 54) = X := ⟨_, rfl⟩
    rw [eW3] at HS3 HP3 HO3 HSw
    have HQ2 := hid q2
    have HiL := hid hiL
    clear A3 p3 ho hs hr1 er ex es hxm hI1 hI3 hI4 hI5 hI6 hsB q1 q2 S0 ex1 X1 ex2 X2 ex3 X3 ex4 X4 ex5 X5 ex6 X6 f1 z1 f2 z2 f3 z3 f4 z4 f5 z5 f6 z6 f7 z7 f8 z8 f9 z9 f10 z10 f11 z11 f12 z12
    go_upto_region 9 with fail
    clear eW3 c0 c1 c2 c3 d0
    obtain ⟨c0, c1, c2, c3, cf⟩ := HP3.out.cells
    have d0 := HO3.out.1.byte (k := i) (by rw [rnk_len]; exact HiL.out)
    rw [HQ2.out, Nat.zero_add] at d0
    have k0 := Cl.cell c0
    have k1 := Cl.cell c1
    have k2 := Cl.cell c2
    have k3 := Cl.cell c3
    have kd := Cl.cell d0
    have hne := Aft.here W3
    have G1 := hid (fun z : Aft W3 => H1.out z.u (HS3.out.trans z.s))
    have G2 := hid (fun z : Aft W3 => H2.out z.u)
    have G3 := hid (fun z : Aft W3 => H3.out z.u (HS3.out.trans z.s))
    have G4 := hid (fun z : Aft W3 => H4.out z.u (HS3.out.trans z.s))
    clear c0 c1 c2 c3 cf d0
    refine region_all (by kernel_rfl) (by kernel_rfl) ?_
    repeat (go_big_quiet_step ((first | (go_at_call 29; with_reducible exact Calls.cl (G2.out _)) | (go_at_call 25; with_reducible exact Calls.cl (G1.out _)) | (go_at_call 25; with_reducible exact Calls.cl (G3.out _)) | (go_at_call 25; with_reducible exact Calls.cl (G4.out _)))))
    refine wpQuiet_nil ?_
    intro W4 h4
    have HS4 := hid (HS3.out.trans h4)
    have HW4 := hid (HSw.out.trans h4)
    have HP4 := hid (HP3.out.still h4)
    clear h4 hne k0 k1 k2 k3 kd G1 G2 G3 G4 HS3 HSw HP3 HO3 H1 H2 H3 H4
    go_upto_region 10 with fail
    obtain ⟨c0, c1, c2, c3, cf⟩ := HP4.out.cells
    have k0 := Cl.cell c0
    have k1 := Cl.cell c1
    have k2 := Cl.cell c2
    have k3 := Cl.cell c3
    have hne := Aft.here W4
    have G5 := hid (fun z : Aft W4 => H5.out z.u (HS4.out.trans z.s))
    have G6 := hid (fun z : Aft W4 => H6.out z.u (HS4.out.trans z.s))
    clear c0 c1 c2 c3 cf
    refine region_all (by kernel_rfl) (by kernel_rfl) ?_
    repeat (go_big_quiet_step ((first | (go_at_call 25; with_reducible exact Calls.cl (G5.out _)) | (go_at_call 25; with_reducible exact Calls.cl (G6.out _)))))
    refine wpQuiet_nil ?_
    intro W5 h5
    have HW5 := hid (HW4.out.trans h5)
    clear h5 hne k0 k1 k2 k3 G5 G6 HS4 HP4 HW4 H5 H6
    go_wp2_with fail
    go_roundw
    case rel => exact ⟨i + 1, by omega, by go_num, by rw [HSt.out, HTl.out], HW5.out⟩
    case measure => first | (simp [intOf]; done) | (simp [intOf]; omega)
   ·have hge : ¬ (i : Int) < (m : Int) := by omega
    obtain rfl : i = m := by omega
    have HS := hid (HS1.out.trans hs)
    have e1 := HR1.out
    rw [HL.out] at e1
    rw [<- e1]
    clear hs hin e1
    go_wp2_with fail
    go_ret2
    exact ⟨rfl, HS.out⟩
end Go.Proofs.YtdljmpjfiggdiaaDoor
