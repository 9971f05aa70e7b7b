/- Parts of the proof, laid end to end. -/
import Derived.Test.YtdljmpjfiggdiaaDoorZV15
import Derived.Test.YtdljmpjfiggdiaaDoorZV17
import Derived.Test.YtdljmpjfiggdiaaDoorZV19
import Derived.Test.YtdljmpjfiggdiaaDoorZV18
namespace Go.Proofs.YtdljmpjfiggdiaaDoor
open Go.RowKit
open Ea
set_option maxRecDepth 100000
def tlL (i r : Nat) (x : Scr) : ByteArray := (((itS ((i : Int) + 1) ++ ⟨#[32]⟩) ++ ltS r) ++ ⟨#[32]⟩) ++ scS x
def tlR (L : List Scr) : Nat -> List ByteArray
 | 0 => []
 | i + 1 => tlR L i ++ [tlL i (rkN L i) (sc L (rkN L i))]
theorem tlR_len (L : List Scr) : ∀ i, (tlR L i).length = i
 | 0 => rfl
 | i + 1 => by rw [tlR, List.length_append, tlR_len L i]; rfl
theorem tl_line (s : ByteArray) (i r : Nat) (x : Scr) : (s ++ tlL i r x) ++ ⟨#[10]⟩ = tlS s i r x := by
 unfold tlL tlS scS
 generalize itS ((i : Int) + 1) = x0
 generalize itS x.p = x1
 generalize itS x.h = x2
 generalize itS x.o = x3
 generalize itS x.k = x4
 generalize ltS r = x5
 apply ByteArray.ext
 apply Array.toList_inj.1
 simp
theorem tl_table (L : List Scr) : ∀ i, enS (tlR L i) = tbN L i
 | 0 => rfl
 | i + 1 => by
  have := tl_table L i
  unfold enS at this ⊢
  rw [tlR, List.foldl_append, this, tbN, <- tl_line]
  rfl
set_option maxHeartbeats 8000000 in
theorem vtable_any (L : List Scr) (ao : Option Addr) (n cap : Nat) (w : World) (hr : RdG KC w ao n L) (ht : PTabV w) : Calls Tryd.prog 14 #[.slice ao n cap] w fun e w' => e = .returned (.tuple #[.string (tbR L), .int .i64 (tbE L)]) /\ Still w w' := by
 have HR := hid hr
 have HL := hid hr.1
 have HT := hid ht
 have HRk := hid (srank_any L ao n cap w hr)
 have hn47 : n <= 281474976710656 := hr.2.1
 obtain ⟨R, eR⟩ : ∃ x, tbR L = x := ⟨_, rfl⟩
 obtain ⟨E, eE⟩ : ∃ x, tbE L = x := ⟨_, rfl⟩
 obtain ⟨er, eer⟩ : ∃ x, errR L = x := ⟨_, rfl⟩
 have HNo := hid (fun h => tb_no (L := L) h)
 have HYs := hid (fun h => tb_yes (L := L) h)
 rw [eR, eE, eer] at HNo HYs
 rw [eR, eE]
 rw [eer] at HRk
 clear hr ht eR eE eer
 cases hE : rnkE L with
 | false =>
  obtain ⟨rfl, rfl, rfl⟩ := HNo.out hE
  clear hE
  go_enter Tryd.func14, Tryd.ntmps14
  go_wp2_with fail
  refine HRk.out.mono ?_
  rintro e w1 ⟨bo, m, cp, rfl, ho, h1, _⟩
  have HS1 := hid h1
  clear h1 ho
  go_wp2_with fail
  go_ret2
  exact ⟨rfl, HS1.out⟩
 | true =>
  obtain ⟨e1, rfl, rfl, e4⟩ := HYs.out hE
  rw [e4] at HRk
  have HE := hid hE
  have HR1 := hid e1
  have h6 := (rnkE_iff.1 hE).1
  have hn6 : n <= 6 := by have := HL.out; omega
  clear hE e1 e4 h6
  go_enter Tryd.func14, Tryd.ntmps14
  go_wp2_with fail
  refine HRk.out.mono ?_
  rintro e w1 ⟨bo, m, cp, rfl, ho, h1, _⟩
  have HS1 := hid h1
  have HO1 := hid ho
  obtain rfl : m = n := by have := ho.1.len; rw [rnk_len] at this; have := HL.out; omega
  clear h1 ho HRk
  go_wp2_with fail
  go_loopw [6, 18] (fun v u wr => ∃ i : Nat, i <= m /\ u = .int .i64 (i : Int) /\ OwG KSt 9 wr w1.heap.size v (tlR L i) /\ Still w1 wr) (fun _ u _ => m - (intOf u).toNat)
  case atStart => exact ⟨0, by omega, rfl, OwG.nil _ _, Fr.refl _ _⟩
  case round =>
   obtain ⟨i, hi, rfl, hl, hs⟩ := hrel
   have HLO := hid hl
   have HSw := hid hs
   obtain ⟨lo, lcp, rfl, hlo⟩ := hl.slice
   have HLe := hid (tlR_len L i)
   by_cases hin : i < m
   ·have hlt : (i : Int) < (m : Int) := by omega
    have hiL : i < L.length := by have := HL.out; omega
    obtain ⟨q1, q2⟩ := rkN_at hiL
    have hq : rkN L i < m := by have := HL.out; omega
    have hxm := (rnkE_iff.1 HE.out).2 _ q1
    have ho := HO1.out.still hs
    obtain ⟨g, rfl⟩ := ho.head (by omega)
    have d0 := ho.1.byte (k := i) (by rw [rnk_len]; exact hiL)
    rw [q2, Nat.zero_add] at d0
    have hr1 := HR.out.still (HS1.out.trans hs)
    obtain ⟨B, o, rfl⟩ := hr1.at (by omega)
    have HRd := hid (fun u (hu : Still wr u) => rdC (hr1.still hu) hq)
    have HStp : Hid (tlR L (i + 1) = tlR L i ++ [tlL i (rkN L i) (sc L (rkN L i))]) := hid rfl
    have hsB : seatB ((rkN L i : Nat) : Int) = true := seatB_iff.2 ⟨by omega, by omega⟩
    obtain ⟨r, er⟩ : ∃ r, rkN L i = r := ⟨_, rfl⟩
    rw [er] at d0 HRd HStp hsB hq hxm q2
    have hrl : (r : Int) < (m : Int) := by omega
    obtain ⟨x, ex⟩ : ∃ x, sc L r = x := ⟨_, rfl⟩
    rw [ex] at HRd HStp hxm
    obtain ⟨LL, eLL⟩ : ∃ s, tlR L i = s := ⟨_, rfl⟩
    rw [eLL] at HStp HLO HLe
    rw [eLL]
    have hI1 : I64 ((i : Int) + 1) := ⟨by omega, by omega⟩
    have hI3 : I64 x.p := ⟨by have := hxm.1; omega, by have := hxm.1; omega⟩
    have hI4 : I64 x.h := ⟨by have := hxm.2.1; omega, by have := hxm.2.1; omega⟩
    have hI5 : I64 x.o := ⟨by have := hxm.2.2.1; omega, by have := hxm.2.2.1; omega⟩
    have hI6 : I64 x.k := ⟨by have := hxm.2.2.2; omega, by have := hxm.2.2.2; omega⟩
    have H1 := hid (fun u (hu : Still w u) => itoaV_any _ hI1 u (HT.out.still hu))
    have H2 := hid (fun u => vletter_any (r : Int) hsB u)
    rw [Int.toNat_natCast] at H2
    have H3 := hid (fun u (hu : Still w u) => scoreText_any x hxm u (HT.out.still hu))
    have X1 := itS_sz hI1
    have X2 := ltS_sz r
    have X3 : (scS x).size <= 112 := Nat.le_trans (cat_sz (cat_sz (cat_sz (cat_sz (cat_sz (cat_sz (cat_sz (show ((⟨#[112, 111, 105, 110, 116, 115, 32]⟩ : ByteArray)).size <= 7 by decide) (itS_sz hI3)) (show ((⟨#[32, 104, 105, 116, 115, 32]⟩ : ByteArray)).size <= 6 by decide)) (itS_sz hI4)) (show ((⟨#[32, 111, 117, 116, 115, 32]⟩ : ByteArray)).size <= 6 by decide)) (itS_sz hI5)) (show ((⟨#[32, 115, 116, 114, 101, 97, 107, 32]⟩ : ByteArray)).size <= 8 by decide)) (itS_sz hI6)) (by decide)
    have HTl : Hid (tlL i r x = (((itS ((i : Int) + 1) ++ ⟨#[32]⟩) ++ ltS r) ++ ⟨#[32]⟩) ++ scS x) := hid rfl
    obtain ⟨x1, ex1⟩ : ∃ y, itS ((i : Int) + 1) = y := ⟨_, rfl⟩
    obtain ⟨x2, ex2⟩ : ∃ y, ltS r = y := ⟨_, rfl⟩
    obtain ⟨x3, ex3⟩ : ∃ y, scS x = y := ⟨_, rfl⟩
    rw [ex1] at H1 X1 HTl
    rw [ex2] at H2 X2 HTl
    rw [ex3] at H3 X3 HTl
    obtain ⟨y1, f1, z1, s1⟩ := cat_ex (a := x1) (b := ⟨#[32]⟩) (m := 21) (n := 1) X1 (by decide) (by omega)
    obtain ⟨y2, f2, z2, s2⟩ := cat_ex (a := y1) (b := x2) (m := 22) (n := 1) z1 X2 (by omega)
    obtain ⟨y3, f3, z3, s3⟩ := cat_ex (a := y2) (b := ⟨#[32]⟩) (m := 23) (n := 1) z2 (by decide) (by omega)
    obtain ⟨y4, f4, z4, s4⟩ := cat_ex (a := y3) (b := x3) (m := 24) (n := 112) z3 X3 (by omega)
    rw [f1, f2, f3, f4] at HTl
    rw [HTl.out] at HStp
    have HS3 := hid (HS1.out.trans hs)
    have hiw : IntKind.i64.wrap ((i : Int) + 1) = (i : Int) + 1 := by rw [IntKind.wrap_i64]; omega
    clear ho hs hr1 er ex hxm hI1 hI3 hI4 hI5 hI6 hsB q1 q2 ex1 X1 ex2 X2 ex3 X3 f1 z1 f2 z2 f3 z3 f4 z4 eLL hl hlo HTl
    go_upto_region 8 with fail
    clear d0
    refine region_laid 15 1 (by kernel_rfl) (by kernel_rfl) (by kernel_rfl) ?_
    apply Exists.intro
    refine And.intro ?_ (And.intro ?_ ?_)
    ·intro u hu
     obtain ⟨c0, c1, c2, c3⟩ := HRd.out u hu
     have k0 := Cl.cell c0
     have k1 := Cl.cell c1
     have k2 := Cl.cell c2
     have k3 := Cl.cell c3
     have hne := Aft.here u
     have G1 := hid (fun z : Aft u => H1.out z.u (HS3.out.trans (hu.trans z.s)))
     have G2 := hid (fun z : Aft u => H2.out z.u)
     have G3 := hid (fun z : Aft u => H3.out z.u (HS3.out.trans (hu.trans z.s)))
     clear c0 c1 c2 c3
     simp only [List.take_succ_cons, List.take_zero]
     repeat (go_big_quiet_step ((first | (go_at_call 26; with_reducible exact Calls.cl (G2.out _)) | (go_at_call 25; with_reducible exact Calls.cl (G1.out _)) | (go_at_call 27; with_reducible exact Calls.cl (G3.out _)))))
     exact wpQuiet_nil rfl
    ·intro _ o ho u hu
     obtain rfl := Option.some.inj ho
     exact ⟨_, _, bs_st1 rfl rfl u, Still.alloc u _⟩
    intro w3 h3
    simp only [List.drop_succ_cons, List.drop_zero]
    have A4 := Still.alloc w3 (.cells #[.string y4] 9)
    have HO4 := hid (HLO.out.still (h3.trans A4))
    have HS4 := hid (HSw.out.trans (h3.trans A4))
    have HY4 := hid (sr_st1 (show (w3.alloc (.cells #[.string y4] 9)).heap[w3.heap.size]? = some (.cells #[.string y4] 9 (0, 0)) from heap_alloc_new w3 _))
    have HB4 : Hid (w1.heap.size <= (w3.alloc (.cells #[.string y4] 9)).heap.size) := hid HS4.out.size
    have HL4 : Hid ((LL.length + [y4].length) * 16 <= 140737488355328) := hid (by have := HLe.out; simp only [List.length_cons, List.length_nil]; omega)
    have HL5 : Hid (LL.length + [y4].length <= 281474976710656) := hid (by have := HLe.out; simp only [List.length_cons, List.length_nil]; omega)
    clear A4 h3 H1 H2 H3 s1 s2 s3 s4 HLe
    go_wp2_with (
     at_builtin
     refine wpList_appMG KSt _ rfl _ _ 59 rfl Tryd.underlying59 16 (.string ⟨#[]⟩) rfl infoSt w1.heap.size (.slice lo LL.length lcp) LL [y4] (some ⟨w3.heap.size, 0, none⟩) 1 1 rfl rfl rfl HO4.out HY4.out HL4.out HL5.out HB4.out ?_
     intro v' w' ho' hf'
     have HO9 := hid ho'
     have HF9 := hid hf'
     clear ho' hf')
    refine ⟨rfl, ?_⟩
    go_wp2_with fail
    go_roundw
    case rel => exact ⟨i + 1, by omega, by go_num, by rw [HStp.out]; exact HO9.out, still_appG HS4.out HO4.out HF9.out (Nat.le_refl _)⟩
    case measure => first | (simp [intOf]; done) | (simp [intOf]; omega)
   ·have hge : ¬ (i : Int) < (m : Int) := by omega
    obtain rfl : i = m := by omega
    have HS := hid (HS1.out.trans hs)
    have e1 := HR1.out
    rw [HL.out] at e1
    have HC := hid (ended_any (tlR L i) (by rw [tl_table]; exact Nat.le_trans (tbN_sz HE.out i (by have := HL.out; omega)) (by omega)) lo i lcp wr (by
     have h := OwG.rd (M := []) (by simpa using HLO.out) (by rw [HLe.out]; omega)
     rwa [HLe.out] at h))
    rw [tl_table, <- e1] at HC
    rw [HLe.out]
    clear hs hin e1 hl hlo
    go_wp2_with fail
    refine HC.out.mono ?_
    rintro e w4 ⟨rfl, h4⟩
    have HS4 := hid (HS.out.trans h4)
    clear h4 HC
    go_wp2_with fail
    go_ret2
    exact ⟨rfl, HS4.out⟩
end Go.Proofs.YtdljmpjfiggdiaaDoor
