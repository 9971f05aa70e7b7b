/- Parts of the proof, laid end to end. -/
import Derived.Test.YtdljmpjfiggdiaaDoorZV13
import Derived.Test.YtdljmpjfiggdiaaDoorZV01
import Derived.Test.YtdljmpjfiggdiaaDoorZV03
namespace Go.Proofs.YtdljmpjfiggdiaaDoor
open Go.RowKit
open Pu Gp Np Za Ka Ja Ea Ha
set_option maxRecDepth 100000
structure Cr where
 pe : Int
 bx : Int
 bz : Int
 ax : Int
 az : Int
 hl : Int
 po : Int
def zCr : Cr := ⟨0, 0, 0, 0, 0, 0, 0⟩
abbrev crcs (x : Cr) : Array Value := #[.int .i64 x.pe, .int .i64 x.bx, .int .i64 x.bz, .int .i64 x.ax, .int .i64 x.az, .int .i64 x.hl, .int .i64 x.po]
def KCr : Kd Cr := ⟨fun x => (crcs x).toList, 7, zCr, fun _ => rfl, fun m u hu => by
 simp at hu
 rcases hu with rfl | rfl | rfl | rfl | rfl | rfl | rfl <;> rfl, by decide⟩
theorem infoCr : ∃ i, Tryd.prog.info? 37 = some i /\ i.zero = some (.agg (KCr.f KCr.d).toArray) /\ i.size = KCr.k /\ i.bytes = 56 := ⟨_, rfl, rfl, rfl, rfl⟩
def Crb (w : World) (g : Nat) (x : Cr) : Prop := w.heap[g]? = some (.cells (crcs x) 37 (0, 0))
theorem Crb.still {w w' : World} {g : Nat} {x : Cr} (h : Crb w g x) (hs : Still w w') : Crb w' g x := hs.kept_still h
theorem Crb.cells {w : World} {g : Nat} {x : Cr} (h : Crb w g x) : w.cell? ⟨g, 0, none⟩ = some (.int .i64 x.pe) /\ w.cell? ⟨g, 1, none⟩ = some (.int .i64 x.bx) /\ w.cell? ⟨g, 2, none⟩ = some (.int .i64 x.bz) /\ w.cell? ⟨g, 3, none⟩ = some (.int .i64 x.ax) /\ w.cell? ⟨g, 4, none⟩ = some (.int .i64 x.az) /\ w.cell? ⟨g, 5, none⟩ = some (.int .i64 x.hl) /\ w.cell? ⟨g, 6, none⟩ = some (.int .i64 x.po) /\ ∀ o, w.frozen? ⟨g, o, none⟩ = false := by
 refine ⟨?_, ?_, ?_, ?_, ?_, ?_, ?_, fun o => frozen_of_row w g o _ _ h⟩ <;> (rw [cell_of_row _ _ _ _ _ _ h]; rfl)
theorem Crb.setH {w : World} {g : Nat} {x : Cr} (h : Crb w g x) (v : Int) : Crb (w.setCell ⟨g, 5, none⟩ (.int .i64 v)) g { x with hl := v } := (heap_setCell_same w g 5 _ _ _ h).trans (by kernel_rfl)
theorem Crb.setP {w : World} {g : Nat} {x : Cr} (h : Crb w g x) (v : Int) : Crb (w.setCell ⟨g, 6, none⟩ (.int .i64 v)) g { x with po := v } := (heap_setCell_same w g 6 _ _ _ h).trans (by kernel_rfl)
def crV (i : Nat) (a b : Mv) (s t : Scr) : Cr := ⟨(i : Int), a.ax, a.ay, b.ax, b.ay, wrap64 (b.hl - a.hl), wrap64 (t.p - s.p)⟩
def crB (a b : Mv) (s t : Scr) : Bool := !(a.ax == b.ax && a.ay == b.ay) || a.hl != b.hl || s.p != t.p
def crN (M M' : List Mv) (C C' : List Scr) : Nat -> List Cr
 | 0 => []
 | i + 1 => crN M M' C C' i ++ (if crB (mm M i) (mm M' i) (sc C i) (sc C' i) then [crV i (mm M i) (mm M' i) (sc C i) (sc C' i)] else [])
theorem crN_len (M M' : List Mv) (C C' : List Scr) : ∀ i, (crN M M' C C' i).length <= i
 | 0 => Nat.le_refl _
 | i + 1 => by
  have := crN_len M M' C C' i
  rw [crN, List.length_append]
  split <;> simp <;> omega
set_option maxHeartbeats 4000000 in
theorem rcorrect_no (f1 x1 f2 x2 : Int) (ao bo co so p1 q1 r1 t1 : Option Addr) (ac bc cc sc' p2 p3 q2 q3 r2 r3 t2 t3 : Nat) (n1 n2 n3 n4 : Nat) (h : ¬ (n2 = n1 /\ n3 = n1 /\ n4 = n1)) (w : World) : Calls Tryd.prog 10 #[.agg (wdcs f1 x1 (.slice ao n1 ac) (.slice bo n3 bc) (.slice p1 p2 p3) (.slice q1 q2 q3)), .agg (wdcs f2 x2 (.slice co n2 cc) (.slice so n4 sc') (.slice r1 r2 r3) (.slice t1 t2 t3))] w fun e w' => e = .returned (.tuple #[.slice none 0 0, .int .i64 230]) /\ Still w w' := by
 have A0 := Still.alloc w (.cells (wdcs f1 x1 (.slice ao n1 ac) (.slice bo n3 bc) (.slice p1 p2 p3) (.slice q1 q2 q3)) 27)
 have A1 := Still.alloc (w.alloc (.cells (wdcs f1 x1 (.slice ao n1 ac) (.slice bo n3 bc) (.slice p1 p2 p3) (.slice q1 q2 q3)) 27)) (.cells (wdcs f2 x2 (.slice co n2 cc) (.slice so n4 sc') (.slice r1 r2 r3) (.slice t1 t2 t3)) 27)
 have b0 := newWd_wb (w.alloc (.cells (wdcs f1 x1 (.slice ao n1 ac) (.slice bo n3 bc) (.slice p1 p2 p3) (.slice q1 q2 q3)) 27)) f2 x2 (.slice co n2 cc) (.slice so n4 sc') (.slice r1 r2 r3) (.slice t1 t2 t3)
 rw [size_alloc] at b0
 have HS0 : Hid (Still w ((w.alloc (.cells (wdcs f1 x1 (.slice ao n1 ac) (.slice bo n3 bc) (.slice p1 p2 p3) (.slice q1 q2 q3)) 27)).alloc (.cells (wdcs f2 x2 (.slice co n2 cc) (.slice so n4 sc') (.slice r1 r2 r3) (.slice t1 t2 t3)) 27))) := hid (A0.trans A1)
 have HP0 : Hid (Wdb ((w.alloc (.cells (wdcs f1 x1 (.slice ao n1 ac) (.slice bo n3 bc) (.slice p1 p2 p3) (.slice q1 q2 q3)) 27)).alloc (.cells (wdcs f2 x2 (.slice co n2 cc) (.slice so n4 sc') (.slice r1 r2 r3) (.slice t1 t2 t3)) 27)) w.heap.size f1 x1 (.slice ao n1 ac) (.slice bo n3 bc) (.slice p1 p2 p3) (.slice q1 q2 q3)) := hid ((newWd_wb w f1 x1 (.slice ao n1 ac) (.slice bo n3 bc) (.slice p1 p2 p3) (.slice q1 q2 q3)).still A1)
 have HQ0 : Hid (Wdb ((w.alloc (.cells (wdcs f1 x1 (.slice ao n1 ac) (.slice bo n3 bc) (.slice p1 p2 p3) (.slice q1 q2 q3)) 27)).alloc (.cells (wdcs f2 x2 (.slice co n2 cc) (.slice so n4 sc') (.slice r1 r2 r3) (.slice t1 t2 t3)) 27)) (w.heap.size + 1) f2 x2 (.slice co n2 cc) (.slice so n4 sc') (.slice r1 r2 r3) (.slice t1 t2 t3)) := hid b0
 obtain ⟨W0, eW0⟩ : ∃ X, ((w.alloc (.cells (wdcs f1 x1 (.slice ao n1 ac) (.slice bo n3 bc) (.slice p1 p2 p3) (.slice q1 q2 q3)) 27)).alloc (.cells (wdcs f2 x2 (.slice co n2 cc) (.slice so n4 sc') (.slice r1 r2 r3) (.slice t1 t2 t3)) 27)) = X := ⟨_, rfl⟩
 rw [eW0] at HS0 HP0 HQ0
 obtain ⟨c0, c1, c2, c3, c4, c5, cf⟩ := HP0.out.cells
 obtain ⟨d0, d1, d2, d3, d4, d5, df⟩ := HQ0.out.cells
 clear A0 A1 b0
 by_cases h2 : n2 = n1
 ·have b2 : ((n2 : Int) != (n1 : Int)) = false := by rw [h2]; simp
  by_cases h3 : n3 = n1
  ·have b3 : ((n3 : Int) != (n1 : Int)) = false := by rw [h3]; simp
   have b4 : ((n4 : Int) != (n1 : Int)) = true := by simp; omega
   clear h h2 h3
   go_enter Tryd.func10, Tryd.ntmps10
   go_wp2_with fail
   go_ret2
   exact ⟨rfl, HS0.out⟩
  ·have b3 : ((n3 : Int) != (n1 : Int)) = true := by simp; omega
   clear h h2 h3
   go_enter Tryd.func10, Tryd.ntmps10
   go_wp2_with fail
   go_ret2
   exact ⟨rfl, HS0.out⟩
 ·have b2 : ((n2 : Int) != (n1 : Int)) = true := by simp; omega
  clear h h2
  go_enter Tryd.func10, Tryd.ntmps10
  go_wp2_with fail
  go_ret2
  exact ⟨rfl, HS0.out⟩
set_option maxHeartbeats 16000000 in
theorem rcorrect_yes (f1 x1 f2 x2 : Int) (ao bo co so p1 q1 r1 t1 : Option Addr) (ac bc cc sc' p2 p3 q2 q3 r2 r3 t2 t3 : Nat) (n : Nat) (M M' : List Mv) (C C' : List Scr) (w : World) (hM : RdG KM w ao n M) (hC : RdG KC w bo n C) (hM' : RdG KM w co n M') (hC' : RdG KC w so n C') (hb : (n + 1) * 56 <= 140737488355328) : Calls Tryd.prog 10 #[.agg (wdcs f1 x1 (.slice ao n ac) (.slice bo n bc) (.slice p1 p2 p3) (.slice q1 q2 q3)), .agg (wdcs f2 x2 (.slice co n cc) (.slice so n sc') (.slice r1 r2 r3) (.slice t1 t2 t3))] w fun e w' => ∃ v, e = .returned (.tuple #[v, .int .i64 0]) /\ OwG KCr 37 w' w.heap.size v (crN M M' C C' n) /\ Still w w' := by
 have A0 := Still.alloc w (.cells (wdcs f1 x1 (.slice ao n ac) (.slice bo n bc) (.slice p1 p2 p3) (.slice q1 q2 q3)) 27)
 have A1 := Still.alloc (w.alloc (.cells (wdcs f1 x1 (.slice ao n ac) (.slice bo n bc) (.slice p1 p2 p3) (.slice q1 q2 q3)) 27)) (.cells (wdcs f2 x2 (.slice co n cc) (.slice so n sc') (.slice r1 r2 r3) (.slice t1 t2 t3)) 27)
 have b0 := newWd_wb (w.alloc (.cells (wdcs f1 x1 (.slice ao n ac) (.slice bo n bc) (.slice p1 p2 p3) (.slice q1 q2 q3)) 27)) f2 x2 (.slice co n cc) (.slice so n sc') (.slice r1 r2 r3) (.slice t1 t2 t3)
 rw [size_alloc] at b0
 have HS0 : Hid (Still w ((w.alloc (.cells (wdcs f1 x1 (.slice ao n ac) (.slice bo n bc) (.slice p1 p2 p3) (.slice q1 q2 q3)) 27)).alloc (.cells (wdcs f2 x2 (.slice co n cc) (.slice so n sc') (.slice r1 r2 r3) (.slice t1 t2 t3)) 27))) := hid (A0.trans A1)
 have HP0 : Hid (Wdb ((w.alloc (.cells (wdcs f1 x1 (.slice ao n ac) (.slice bo n bc) (.slice p1 p2 p3) (.slice q1 q2 q3)) 27)).alloc (.cells (wdcs f2 x2 (.slice co n cc) (.slice so n sc') (.slice r1 r2 r3) (.slice t1 t2 t3)) 27)) w.heap.size f1 x1 (.slice ao n ac) (.slice bo n bc) (.slice p1 p2 p3) (.slice q1 q2 q3)) := hid ((newWd_wb w f1 x1 (.slice ao n ac) (.slice bo n bc) (.slice p1 p2 p3) (.slice q1 q2 q3)).still A1)
 have HQ0 : Hid (Wdb ((w.alloc (.cells (wdcs f1 x1 (.slice ao n ac) (.slice bo n bc) (.slice p1 p2 p3) (.slice q1 q2 q3)) 27)).alloc (.cells (wdcs f2 x2 (.slice co n cc) (.slice so n sc') (.slice r1 r2 r3) (.slice t1 t2 t3)) 27)) (w.heap.size + 1) f2 x2 (.slice co n cc) (.slice so n sc') (.slice r1 r2 r3) (.slice t1 t2 t3)) := hid b0
 obtain ⟨W0, eW0⟩ : ∃ X, ((w.alloc (.cells (wdcs f1 x1 (.slice ao n ac) (.slice bo n bc) (.slice p1 p2 p3) (.slice q1 q2 q3)) 27)).alloc (.cells (wdcs f2 x2 (.slice co n cc) (.slice so n sc') (.slice r1 r2 r3) (.slice t1 t2 t3)) 27)) = X := ⟨_, rfl⟩
 rw [eW0] at HS0 HP0 HQ0
 obtain ⟨c0, c1, c2, c3, c4, c5, cf⟩ := HP0.out.cells
 obtain ⟨d0, d1, d2, d3, d4, d5, df⟩ := HQ0.out.cells
 clear A0 A1 b0
 have HM1 := hid hM
 have HM2 := hid hM'
 have HC1 := hid hC
 have HC2 := hid hC'
 have hn47 : n <= 281474976710656 := hM.2.1
 have HBd := hid hb
 clear hM hM' hC hC' hb
 go_enter Tryd.func10, Tryd.ntmps10
 go_wp2_with fail
 clear c0 c1 c2 c3 c4 c5 cf d0 d1 d2 d3 d4 d5 df
 (try rw [eW0])
 clear eW0
 go_loopw [7, 8] (fun v u wr => ∃ i : Nat, i <= n /\ u = .int .i64 (i : Int) /\ OwG KCr 37 wr W0.heap.size v (crN M M' C C' i) /\ Still W0 wr) (fun _ u _ => n - (intOf u).toNat)
 case atStart => exact ⟨0, by omega, rfl, OwG.nil _ _, Fr.refl _ _⟩
 case round =>
  obtain ⟨i, hi, rfl, ho, hs⟩ := hrel
  have HS := hid hs
  have HO := hid ho
  obtain ⟨lo, lcp, rfl, hlo⟩ := ho.slice
  obtain ⟨LL, eLL⟩ : ∃ m, crN M M' C C' i = m := ⟨_, rfl⟩
  have HLe : Hid (LL.length <= i) := hid (by rw [<- eLL]; exact crN_len _ _ _ _ i)
  have HStp : Hid (crN M M' C C' (i + 1) = LL ++ (if crB (mm M i) (mm M' i) (sc C i) (sc C' i) then [crV i (mm M i) (mm M' i) (sc C i) (sc C' i)] else [])) := hid (by rw [crN, eLL])
  rw [eLL] at HO ho
  rw [eLL]
  have HEL := hid eLL
  clear eLL
  by_cases hin : i < n
  ·have hlt : (i : Int) < (n : Int) := by omega
   have hr1 := HM1.out.still (HS0.out.trans hs)
   have hr2 := HM2.out.still (HS0.out.trans hs)
   have hr3 := HC1.out.still (HS0.out.trans hs)
   have hr4 := HC2.out.still (HS0.out.trans hs)
   obtain ⟨A1, o1, rfl⟩ := hr1.at (by omega)
   obtain ⟨A2, o2, rfl⟩ := hr2.at (by omega)
   obtain ⟨A3, o3, rfl⟩ := hr3.at (by omega)
   obtain ⟨A4, o4, rfl⟩ := hr4.at (by omega)
   have HR1 := hid (fun u (hu : Still wr u) => rdM (hr1.still hu) hin)
   have HR2 := hid (fun u (hu : Still wr u) => rdM (hr2.still hu) hin)
   have HR3 := hid (fun u (hu : Still wr u) => rdC (hr3.still hu) hin)
   have HR4 := hid (fun u (hu : Still wr u) => rdC (hr4.still hu) hin)
   have HP1 := hid (HP0.out.still hs)
   have HQ1 := hid (HQ0.out.still hs)
   obtain ⟨a, ea⟩ : ∃ x, mm M i = x := ⟨_, rfl⟩
   obtain ⟨b, eb⟩ : ∃ x, mm M' i = x := ⟨_, rfl⟩
   obtain ⟨s, es⟩ : ∃ x, sc C i = x := ⟨_, rfl⟩
   obtain ⟨t, et⟩ : ∃ x, sc C' i = x := ⟨_, rfl⟩
   rw [ea] at HR1 HStp
   rw [eb] at HR2 HStp
   rw [es] at HR3 HStp
   rw [et] at HR4 HStp
   clear ea eb es et hr1 hr2 hr3 hr4 hs ho
   go_upto_region 8 with fail
   refine region_mk2 10 9 10 (.cells (mcs zM) 52 (0, 0)) (.cells (mcs a) 52 (0, 0)) (.cells (mcs b) 52 (0, 0)) (by kernel_rfl) (by kernel_rfl) (by kernel_rfl) (by kernel_rfl) ⟨rfl, rfl⟩ ⟨rfl, rfl⟩ (fun u b => ⟨nw_mv rfl u, nw_mv rfl u⟩) (fun u => heap_alloc_new u _) ?_
   apply Exists.intro
   refine And.intro ?_ (And.intro ?_ (And.intro ?_ ?_))
   ·intro u hu
    obtain ⟨c0, c1, c2, c3, c4, c5, cf⟩ := (HP1.out.still hu).cells
    obtain ⟨d0, d1, d2, d3, d4, d5, df⟩ := (HQ1.out.still hu).cells
    obtain ⟨m0, m1, m2, m3, m4, m5, m6, m7, m8, m9, m10, m11, m12⟩ := HR1.out u hu
    obtain ⟨n0, n1, n2, n3, n4, n5, n6, n7, n8, n9, n10, n11, n12⟩ := HR2.out u hu
    have k1 := Cl.cell c1
    have k2 := Cl.cell d1
    have y0 := Cl.cell m0
    have y1 := Cl.cell m1
    have y2 := Cl.cell m2
    have y3 := Cl.cell m3
    have y4 := Cl.cell m4
    have y5 := Cl.cell m5
    have y6 := Cl.cell m6
    have y7 := Cl.cell m7
    have y8 := Cl.cell m8
    have y9 := Cl.cell m9
    have y10 := Cl.cell m10
    have y11 := Cl.cell m11
    have y12 := Cl.cell m12
    have z0 := Cl.cell n0
    have z1 := Cl.cell n1
    have z2 := Cl.cell n2
    have z3 := Cl.cell n3
    have z4 := Cl.cell n4
    have z5 := Cl.cell n5
    have z6 := Cl.cell n6
    have z7 := Cl.cell n7
    have z8 := Cl.cell n8
    have z9 := Cl.cell n9
    have z10 := Cl.cell n10
    have z11 := Cl.cell n11
    have z12 := Cl.cell n12
    have hne := Aft.here u
    clear c0 c1 c2 c3 c4 c5 cf d0 d1 d2 d3 d4 d5 df m0 m1 m2 m3 m4 m5 m6 m7 m8 m9 m10 m11 m12 n0 n1 n2 n3 n4 n5 n6 n7 n8 n9 n10 n11 n12
    simp only [qlist, List.take_succ_cons, List.take_zero, List.drop_succ_cons, List.drop_zero, List.cons_append, List.nil_append, Nat.reduceMul, Nat.reduceAdd]
    repeat (go_big_quiet_step (fail))
    exact wpQuiet_nil rfl
   ·exact fun u h hh => st_mv rfl rfl rfl hh
   ·exact fun u h hh => st_mv rfl rfl rfl hh
   intro w2 g1 g2 h2 hg1 hg2 hg12 hm1 hm2
   have p2 : Mb w2 g1 a := hm1
   have q2 : Mb w2 g2 b := hm2
   have HS2 := hid (HS.out.trans h2)
   have HT2 := hid h2
   have HPa := hid p2
   have HPb := hid q2
   obtain ⟨m0, m1, m2, m3, m4, m5, m6, m7, m8, m9, m10, m11, m12, mf⟩ := p2.cells
   obtain ⟨k0, k1, k2, k3, k4, k5, k6, k7, k8, k9, k10, k11, k12, kf⟩ := q2.cells
   clear h2 hm1 hm2 p2 q2
   simp only [Act.put, List.setIfInBounds_toArray, List.set_cons_succ, List.set_cons_zero]
   go_upto_region 10 with fail
   have A3 := Still.alloc w2 (.cells #[.int .i64 (i : Int), .int .i64 a.ax, .int .i64 a.ay, .int .i64 b.ax, .int .i64 b.ay, .int .i64 0, .int .i64 0] 37)
   have hc3 : Crb (w2.alloc (.cells #[.int .i64 (i : Int), .int .i64 a.ax, .int .i64 a.ay, .int .i64 b.ax, .int .i64 b.ay, .int .i64 0, .int .i64 0] 37)) w2.heap.size ⟨(i : Int), a.ax, a.ay, b.ax, b.ay, 0, 0⟩ := heap_alloc_new w2 _
   have hS4 : Still w2 ((w2.alloc (.cells #[.int .i64 (i : Int), .int .i64 a.ax, .int .i64 a.ay, .int .i64 b.ax, .int .i64 b.ay, .int .i64 0, .int .i64 0] 37)).setCell ⟨w2.heap.size, 5, none⟩ (.int .i64 (wrap64 (b.hl - a.hl)))) := A3.setCell ⟨w2.heap.size, 5, none⟩ (.int .i64 (wrap64 (b.hl - a.hl))) (.inr (Nat.le_refl _))
   have hc4 := hc3.setH (wrap64 (b.hl - a.hl))
   have HPa3 := hid (HPa.out.still A3)
   have HPb3 := hid (HPb.out.still A3)
   have HC3 := hid hc3
   have HC4 := hid hc4
   have HS4 : Hid (Still w2 ((w2.alloc (.cells #[.int .i64 (i : Int), .int .i64 a.ax, .int .i64 a.ay, .int .i64 b.ax, .int .i64 b.ay, .int .i64 0, .int .i64 0] 37)).setCell ⟨w2.heap.size, 5, none⟩ (.int .i64 (wrap64 (b.hl - a.hl))))) := hid hS4
   obtain ⟨W3, eW3⟩ : ∃ X, (w2.alloc (.cells #[.int .i64 (i : Int), .int .i64 a.ax, .int .i64 a.ay, .int .i64 b.ax, .int .i64 b.ay, .int .i64 0, .int .i64 0] 37)) = X := ⟨_, rfl⟩
   rw [eW3] at HPa3 HPb3 HC3 HC4 HS4
   rw [eW3]
   clear eW3
   obtain ⟨W4, eW4⟩ : ∃ X, W3.setCell ⟨w2.heap.size, 5, none⟩ (.int .i64 (wrap64 (b.hl - a.hl))) = X := ⟨_, rfl⟩
   rw [eW4] at HC4 HS4
   obtain ⟨e0, e1, e2, e3, e4, e5, e6, ef⟩ := HC3.out.cells
   obtain ⟨a0, a1, a2, a3, a4, a5, a6, a7, a8, a9, a10, a11, a12, af⟩ := HPa3.out.cells
   obtain ⟨b0, b1, b2, b3, b4, b5, b6, b7, b8, b9, b10, b11, b12, bf⟩ := HPb3.out.cells
   clear A3 hc3 hS4 hc4
   go_upto_region 11 with fail
   clear eW4 e0 e1 e2 e3 e4 e5 e6 ef a0 a1 a2 a3 a4 a5 a6 a7 a8 a9 a10 a11 a12 af b0 b1 b2 b3 b4 b5 b6 b7 b8 b9 b10 b11 b12 bf m0 m1 m2 m3 m4 m5 m6 m7 m8 m9 m10 m11 m12 mf k0 k1 k2 k3 k4 k5 k6 k7 k8 k9 k10 k11 k12 kf HPa3 HPb3 HC3
   have HST := hid (HT2.out.trans HS4.out)
   obtain ⟨c0, c1, c2, c3, c4, c5, cf⟩ := (HP1.out.still HST.out).cells
   obtain ⟨d0, d1, d2, d3, d4, d5, df⟩ := (HQ1.out.still HST.out).cells
   obtain ⟨s0, s1, s2, s3⟩ := HR3.out W4 HST.out
   obtain ⟨t0, t1', t2', t3'⟩ := HR4.out W4 HST.out
   have k1 := Cl.cell c2
   have k2 := Cl.cell d2
   have k3 := Cl.cell s0
   have k4 := Cl.cell t0
   have hne := Aft.here W4
   clear c0 c1 c2 c3 c4 c5 cf d0 d1 d2 d3 d4 d5 df s0 s1 s2 s3 t0 t1' t2' t3'
   refine region_rest 14 (by kernel_rfl) (by kernel_rfl) ?_
   simp only [List.take_succ_cons, List.take_zero, List.drop_succ_cons, List.drop_zero]
   repeat (go_big_quiet_step (fail))
   refine wpQuiet_nil ?_
   intro w5 h5
   have HC5 := hid (HC4.out.still h5)
   have HS6 : Hid (Still w2 (w5.setCell ⟨w2.heap.size, 6, none⟩ (.int .i64 (wrap64 (t.p - s.p))))) := hid (Fr.setCell (HS4.out.trans h5) ⟨w2.heap.size, 6, none⟩ (.int .i64 (wrap64 (t.p - s.p))) (.inr (Nat.le_refl _)))
   have HC6 := hid (HC5.out.setP (wrap64 (t.p - s.p)))
   obtain ⟨e0, e1, e2, e3, e4, e5, e6, ef⟩ := HC5.out.cells
   obtain ⟨W6, eW6⟩ : ∃ X, w5.setCell ⟨w2.heap.size, 6, none⟩ (.int .i64 (wrap64 (t.p - s.p))) = X := ⟨_, rfl⟩
   rw [eW6] at HS6 HC6
   clear h5 hne k1 k2 k3 k4 HC4 HS4
   go_upto_region 12 with fail
   clear eW6 e0 e1 e2 e3 e4 e5 e6 ef HC5
   rcases (show ¬ (a.ax = b.ax /\ a.ay = b.ay) \/ ((a.ax = b.ax /\ a.ay = b.ay) /\ a.hl ≠ b.hl) \/ ((a.ax = b.ax /\ a.ay = b.ay) /\ a.hl = b.hl /\ s.p ≠ t.p) \/ ((a.ax = b.ax /\ a.ay = b.ay) /\ a.hl = b.hl /\ s.p = t.p) by omega) with h1 | ⟨h1, h2⟩ | ⟨h1, h2, h3⟩ | ⟨h1, h2, h3⟩
   ·have E1 := neq_pt_t h1
    have HB : Hid (crB a b s t = true) := hid (by unfold crB; simp; exact .inl (.inl (by omega)))
    clear h1
    have hS6 := HT2.out.trans HS6.out
    obtain ⟨c0, c1, c2, c3, c4, c5, cf⟩ := (HP1.out.still hS6).cells
    obtain ⟨d0, d1, d2, d3, d4, d5, df⟩ := (HQ1.out.still hS6).cells
    obtain ⟨s0, s1, s2, s3⟩ := HR3.out W6 hS6
    obtain ⟨t0, t1', t2', t3'⟩ := HR4.out W6 hS6
    obtain ⟨m0, m1, m2, m3, m4, m5, m6, m7, m8, m9, m10, m11, m12, mf⟩ := (HPa.out.still HS6.out).cells
    obtain ⟨n0, n1, n2, n3, n4, n5, n6, n7, n8, n9, n10, n11, n12, nf⟩ := (HPb.out.still HS6.out).cells
    have k1 := Cl.cell c2
    have k2 := Cl.cell d2
    have k3 := Cl.cell s0
    have k4 := Cl.cell t0
    have y0 := Cl.cell m0
    have y1 := Cl.cell m1
    have y2 := Cl.cell m2
    have y3 := Cl.cell m3
    have y4 := Cl.cell m4
    have y5 := Cl.cell m5
    have y6 := Cl.cell m6
    have y7 := Cl.cell m7
    have y8 := Cl.cell m8
    have y9 := Cl.cell m9
    have y10 := Cl.cell m10
    have y11 := Cl.cell m11
    have y12 := Cl.cell m12
    have z0 := Cl.cell n0
    have z1 := Cl.cell n1
    have z2 := Cl.cell n2
    have z3 := Cl.cell n3
    have z4 := Cl.cell n4
    have z5 := Cl.cell n5
    have z6 := Cl.cell n6
    have z7 := Cl.cell n7
    have z8 := Cl.cell n8
    have z9 := Cl.cell n9
    have z10 := Cl.cell n10
    have z11 := Cl.cell n11
    have z12 := Cl.cell n12
    have hne := Aft.here W6
    clear c0 c1 c2 c3 c4 c5 cf d0 d1 d2 d3 d4 d5 df s0 s1 s2 s3 t0 t1' t2' t3' m0 m1 m2 m3 m4 m5 m6 m7 m8 m9 m10 m11 m12 mf n0 n1 n2 n3 n4 n5 n6 n7 n8 n9 n10 n11 n12 nf
    refine region_all (by kernel_rfl) (by kernel_rfl) ?_
    repeat (go_big_quiet_step (fail))
    refine wpQuiet_nil ?_
    intro w7 h7
    have HS7 := hid (hS6.trans h7)
    have HC7 := hid (HC6.out.still h7)
    clear h7 hS6 hne k1 k2 k3 k4 y0 y1 y2 y3 y4 y5 y6 y7 y8 y9 y10 y11 y12 z0 z1 z2 z3 z4 z5 z6 z7 z8 z9 z10 z11 z12 HC6 HS6
    obtain ⟨e0, e1, e2, e3, e4, e5, e6, ef⟩ := HC7.out.cells
    have A8 := Still.alloc w7 (.cells (crcs (crV i a b s t)) 37)
    have HO8 := hid (HO.out.still (HS7.out.trans A8))
    have HS8 := hid (HS.out.trans (HS7.out.trans A8))
    have HY8 : Hid ((w7.alloc (.cells (crcs (crV i a b s t)) 37)).heap[w7.heap.size]? = some (.cells (crcs (crV i a b s t)) 37 (0, 0))) := hid (heap_alloc_new w7 _)
    have HB8 : Hid (W0.heap.size <= (w7.alloc (.cells (crcs (crV i a b s t)) 37)).heap.size) := hid HS8.out.size
    have HL8 : Hid ((LL.length + 1) * 56 <= 140737488355328) := hid (Nat.le_trans (Nat.mul_le_mul_right 56 (by have := HLe.out; omega)) HBd.out)
    clear A8
    go_wp2_with (
     at_builtin
     refine wpList_appH KCr _ rfl _ _ 29 rfl Tryd.underlying29 56 infoCr W0.heap.size w7.heap.size _ LL (crV i a b s t) rfl rfl HO8.out HY8.out HL8.out (by have := HL8.out; omega) HB8.out ?_
     intro v' w' ho' hf'
     have HO9 := hid ho'
     have HF9 := hid hf'
     clear ho' hf' e0 e1 e2 e3 e4 e5 e6 ef)
    go_roundw
    case rel => exact ⟨i + 1, by omega, by go_num, by rw [HStp.out, HB.out]; exact HO9.out, still_appG HS8.out HO8.out HF9.out (Nat.le_refl _)⟩
    case measure => first | (simp [intOf]; done) | (simp [intOf]; omega)
   ·have E1 := neq_pt_f h1
    have bH : (a.hl != b.hl) = true := by simpa using h2
    have HB : Hid (crB a b s t = true) := hid (by unfold crB; rw [bH]; simp)
    clear h1 h2
    have hS6 := HT2.out.trans HS6.out
    obtain ⟨c0, c1, c2, c3, c4, c5, cf⟩ := (HP1.out.still hS6).cells
    obtain ⟨d0, d1, d2, d3, d4, d5, df⟩ := (HQ1.out.still hS6).cells
    obtain ⟨s0, s1, s2, s3⟩ := HR3.out W6 hS6
    obtain ⟨t0, t1', t2', t3'⟩ := HR4.out W6 hS6
    obtain ⟨m0, m1, m2, m3, m4, m5, m6, m7, m8, m9, m10, m11, m12, mf⟩ := (HPa.out.still HS6.out).cells
    obtain ⟨n0, n1, n2, n3, n4, n5, n6, n7, n8, n9, n10, n11, n12, nf⟩ := (HPb.out.still HS6.out).cells
    have k1 := Cl.cell c2
    have k2 := Cl.cell d2
    have k3 := Cl.cell s0
    have k4 := Cl.cell t0
    have y0 := Cl.cell m0
    have y1 := Cl.cell m1
    have y2 := Cl.cell m2
    have y3 := Cl.cell m3
    have y4 := Cl.cell m4
    have y5 := Cl.cell m5
    have y6 := Cl.cell m6
    have y7 := Cl.cell m7
    have y8 := Cl.cell m8
    have y9 := Cl.cell m9
    have y10 := Cl.cell m10
    have y11 := Cl.cell m11
    have y12 := Cl.cell m12
    have z0 := Cl.cell n0
    have z1 := Cl.cell n1
    have z2 := Cl.cell n2
    have z3 := Cl.cell n3
    have z4 := Cl.cell n4
    have z5 := Cl.cell n5
    have z6 := Cl.cell n6
    have z7 := Cl.cell n7
    have z8 := Cl.cell n8
    have z9 := Cl.cell n9
    have z10 := Cl.cell n10
    have z11 := Cl.cell n11
    have z12 := Cl.cell n12
    have hne := Aft.here W6
    clear c0 c1 c2 c3 c4 c5 cf d0 d1 d2 d3 d4 d5 df s0 s1 s2 s3 t0 t1' t2' t3' m0 m1 m2 m3 m4 m5 m6 m7 m8 m9 m10 m11 m12 mf n0 n1 n2 n3 n4 n5 n6 n7 n8 n9 n10 n11 n12 nf
    refine region_all (by kernel_rfl) (by kernel_rfl) ?_
    repeat (go_big_quiet_step (fail))
    refine wpQuiet_nil ?_
    intro w7 h7
    have HS7 := hid (hS6.trans h7)
    have HC7 := hid (HC6.out.still h7)
    clear h7 hS6 hne k1 k2 k3 k4 y0 y1 y2 y3 y4 y5 y6 y7 y8 y9 y10 y11 y12 z0 z1 z2 z3 z4 z5 z6 z7 z8 z9 z10 z11 z12 HC6 HS6
    obtain ⟨e0, e1, e2, e3, e4, e5, e6, ef⟩ := HC7.out.cells
    have A8 := Still.alloc w7 (.cells (crcs (crV i a b s t)) 37)
    have HO8 := hid (HO.out.still (HS7.out.trans A8))
    have HS8 := hid (HS.out.trans (HS7.out.trans A8))
    have HY8 : Hid ((w7.alloc (.cells (crcs (crV i a b s t)) 37)).heap[w7.heap.size]? = some (.cells (crcs (crV i a b s t)) 37 (0, 0))) := hid (heap_alloc_new w7 _)
    have HB8 : Hid (W0.heap.size <= (w7.alloc (.cells (crcs (crV i a b s t)) 37)).heap.size) := hid HS8.out.size
    have HL8 : Hid ((LL.length + 1) * 56 <= 140737488355328) := hid (Nat.le_trans (Nat.mul_le_mul_right 56 (by have := HLe.out; omega)) HBd.out)
    clear A8
    go_wp2_with (
     at_builtin
     refine wpList_appH KCr _ rfl _ _ 29 rfl Tryd.underlying29 56 infoCr W0.heap.size w7.heap.size _ LL (crV i a b s t) rfl rfl HO8.out HY8.out HL8.out (by have := HL8.out; omega) HB8.out ?_
     intro v' w' ho' hf'
     have HO9 := hid ho'
     have HF9 := hid hf'
     clear ho' hf' e0 e1 e2 e3 e4 e5 e6 ef)
    go_roundw
    case rel => exact ⟨i + 1, by omega, by go_num, by rw [HStp.out, HB.out]; exact HO9.out, still_appG HS8.out HO8.out HF9.out (Nat.le_refl _)⟩
    case measure => first | (simp [intOf]; done) | (simp [intOf]; omega)
   ·have E1 := neq_pt_f h1
    have bH : (a.hl != b.hl) = false := by simpa using h2
    have bP : (s.p != t.p) = true := by simpa using h3
    have HB : Hid (crB a b s t = true) := hid (by unfold crB; rw [bP]; simp)
    clear h1 h2 h3
    have hS6 := HT2.out.trans HS6.out
    obtain ⟨c0, c1, c2, c3, c4, c5, cf⟩ := (HP1.out.still hS6).cells
    obtain ⟨d0, d1, d2, d3, d4, d5, df⟩ := (HQ1.out.still hS6).cells
    obtain ⟨s0, s1, s2, s3⟩ := HR3.out W6 hS6
    obtain ⟨t0, t1', t2', t3'⟩ := HR4.out W6 hS6
    obtain ⟨m0, m1, m2, m3, m4, m5, m6, m7, m8, m9, m10, m11, m12, mf⟩ := (HPa.out.still HS6.out).cells
    obtain ⟨n0, n1, n2, n3, n4, n5, n6, n7, n8, n9, n10, n11, n12, nf⟩ := (HPb.out.still HS6.out).cells
    have k1 := Cl.cell c2
    have k2 := Cl.cell d2
    have k3 := Cl.cell s0
    have k4 := Cl.cell t0
    have y0 := Cl.cell m0
    have y1 := Cl.cell m1
    have y2 := Cl.cell m2
    have y3 := Cl.cell m3
    have y4 := Cl.cell m4
    have y5 := Cl.cell m5
    have y6 := Cl.cell m6
    have y7 := Cl.cell m7
    have y8 := Cl.cell m8
    have y9 := Cl.cell m9
    have y10 := Cl.cell m10
    have y11 := Cl.cell m11
    have y12 := Cl.cell m12
    have z0 := Cl.cell n0
    have z1 := Cl.cell n1
    have z2 := Cl.cell n2
    have z3 := Cl.cell n3
    have z4 := Cl.cell n4
    have z5 := Cl.cell n5
    have z6 := Cl.cell n6
    have z7 := Cl.cell n7
    have z8 := Cl.cell n8
    have z9 := Cl.cell n9
    have z10 := Cl.cell n10
    have z11 := Cl.cell n11
    have z12 := Cl.cell n12
    have hne := Aft.here W6
    clear c0 c1 c2 c3 c4 c5 cf d0 d1 d2 d3 d4 d5 df s0 s1 s2 s3 t0 t1' t2' t3' m0 m1 m2 m3 m4 m5 m6 m7 m8 m9 m10 m11 m12 mf n0 n1 n2 n3 n4 n5 n6 n7 n8 n9 n10 n11 n12 nf
    refine region_all (by kernel_rfl) (by kernel_rfl) ?_
    repeat (go_big_quiet_step (fail))
    refine wpQuiet_nil ?_
    intro w7 h7
    have HS7 := hid (hS6.trans h7)
    have HC7 := hid (HC6.out.still h7)
    clear h7 hS6 hne k1 k2 k3 k4 y0 y1 y2 y3 y4 y5 y6 y7 y8 y9 y10 y11 y12 z0 z1 z2 z3 z4 z5 z6 z7 z8 z9 z10 z11 z12 HC6 HS6
    obtain ⟨e0, e1, e2, e3, e4, e5, e6, ef⟩ := HC7.out.cells
    have A8 := Still.alloc w7 (.cells (crcs (crV i a b s t)) 37)
    have HO8 := hid (HO.out.still (HS7.out.trans A8))
    have HS8 := hid (HS.out.trans (HS7.out.trans A8))
    have HY8 : Hid ((w7.alloc (.cells (crcs (crV i a b s t)) 37)).heap[w7.heap.size]? = some (.cells (crcs (crV i a b s t)) 37 (0, 0))) := hid (heap_alloc_new w7 _)
    have HB8 : Hid (W0.heap.size <= (w7.alloc (.cells (crcs (crV i a b s t)) 37)).heap.size) := hid HS8.out.size
    have HL8 : Hid ((LL.length + 1) * 56 <= 140737488355328) := hid (Nat.le_trans (Nat.mul_le_mul_right 56 (by have := HLe.out; omega)) HBd.out)
    clear A8
    go_wp2_with (
     at_builtin
     refine wpList_appH KCr _ rfl _ _ 29 rfl Tryd.underlying29 56 infoCr W0.heap.size w7.heap.size _ LL (crV i a b s t) rfl rfl HO8.out HY8.out HL8.out (by have := HL8.out; omega) HB8.out ?_
     intro v' w' ho' hf'
     have HO9 := hid ho'
     have HF9 := hid hf'
     clear ho' hf' e0 e1 e2 e3 e4 e5 e6 ef)
    go_roundw
    case rel => exact ⟨i + 1, by omega, by go_num, by rw [HStp.out, HB.out]; exact HO9.out, still_appG HS8.out HO8.out HF9.out (Nat.le_refl _)⟩
    case measure => first | (simp [intOf]; done) | (simp [intOf]; omega)
   ·have E1 := neq_pt_f h1
    have bH : (a.hl != b.hl) = false := by simpa using h2
    have bP : (s.p != t.p) = false := by simpa using h3
    have HB : Hid (crB a b s t = false) := hid (by unfold crB; rw [bH, bP, h1.1, h1.2]; simp)
    clear h1 h2 h3
    have hS6 := HT2.out.trans HS6.out
    obtain ⟨c0, c1, c2, c3, c4, c5, cf⟩ := (HP1.out.still hS6).cells
    obtain ⟨d0, d1, d2, d3, d4, d5, df⟩ := (HQ1.out.still hS6).cells
    obtain ⟨s0, s1, s2, s3⟩ := HR3.out W6 hS6
    obtain ⟨t0, t1', t2', t3'⟩ := HR4.out W6 hS6
    obtain ⟨m0, m1, m2, m3, m4, m5, m6, m7, m8, m9, m10, m11, m12, mf⟩ := (HPa.out.still HS6.out).cells
    obtain ⟨n0, n1, n2, n3, n4, n5, n6, n7, n8, n9, n10, n11, n12, nf⟩ := (HPb.out.still HS6.out).cells
    have k1 := Cl.cell c2
    have k2 := Cl.cell d2
    have k3 := Cl.cell s0
    have k4 := Cl.cell t0
    have y0 := Cl.cell m0
    have y1 := Cl.cell m1
    have y2 := Cl.cell m2
    have y3 := Cl.cell m3
    have y4 := Cl.cell m4
    have y5 := Cl.cell m5
    have y6 := Cl.cell m6
    have y7 := Cl.cell m7
    have y8 := Cl.cell m8
    have y9 := Cl.cell m9
    have y10 := Cl.cell m10
    have y11 := Cl.cell m11
    have y12 := Cl.cell m12
    have z0 := Cl.cell n0
    have z1 := Cl.cell n1
    have z2 := Cl.cell n2
    have z3 := Cl.cell n3
    have z4 := Cl.cell n4
    have z5 := Cl.cell n5
    have z6 := Cl.cell n6
    have z7 := Cl.cell n7
    have z8 := Cl.cell n8
    have z9 := Cl.cell n9
    have z10 := Cl.cell n10
    have z11 := Cl.cell n11
    have z12 := Cl.cell n12
    have hne := Aft.here W6
    clear c0 c1 c2 c3 c4 c5 cf d0 d1 d2 d3 d4 d5 df s0 s1 s2 s3 t0 t1' t2' t3' m0 m1 m2 m3 m4 m5 m6 m7 m8 m9 m10 m11 m12 mf n0 n1 n2 n3 n4 n5 n6 n7 n8 n9 n10 n11 n12 nf
    refine region_all (by kernel_rfl) (by kernel_rfl) ?_
    repeat (go_big_quiet_step (fail))
    refine wpQuiet_nil ?_
    intro w7 h7
    have HS7 := hid (hS6.trans h7)
    have HC7 := hid (HC6.out.still h7)
    clear h7 hS6 hne k1 k2 k3 k4 y0 y1 y2 y3 y4 y5 y6 y7 y8 y9 y10 y11 y12 z0 z1 z2 z3 z4 z5 z6 z7 z8 z9 z10 z11 z12 HC6 HS6
    go_wp2_with fail
    go_roundw
    case rel => exact ⟨i + 1, by omega, by go_num, by rw [HStp.out, HB.out]; simpa using HO.out.still HS7.out, HS.out.trans HS7.out⟩
    case measure => first | (simp [intOf]; done) | (simp [intOf]; omega)
  ·have hge : ¬ (i : Int) < (n : Int) := by omega
   obtain rfl : i = n := by omega
   have HS7 := hid (HS0.out.trans hs)
   clear hs ho hin
   go_wp2_with fail
   go_ret2
   exact ⟨_, rfl, by rw [HEL.out]; exact HO.out.less HS0.out.size, HS7.out⟩
end Go.Proofs.YtdljmpjfiggdiaaDoor
namespace Go.Proofs.YtdljmpjfiggdiaaDoor
open Go.RowKit
open Pu Gp Np Za Ka Ja Ea Ha
set_option maxRecDepth 100000
abbrev crv (x : Cr) : Value := .agg (crcs x)
theorem part_cr (x : Cr) (w : World) : (part 3 (crcs x) 0).run Tryd.prog w = .ok (.int .i64 x.pe) w /\ (part 35 (crcs x) 1).run Tryd.prog w = .ok (pt x.bx x.bz) w /\ (part 35 (crcs x) 3).run Tryd.prog w = .ok (pt x.ax x.az) w /\ (part 3 (crcs x) 5).run Tryd.prog w = .ok (.int .i64 x.hl) w /\ (part 3 (crcs x) 6).run Tryd.prog w = .ok (.int .i64 x.po) w := by
 refine ⟨?_, ?_, ?_, ?_, ?_⟩ <;> go_simp
def eqR (x y : Cr) : Bool := (x.pe == y.pe) && ((x.bx == y.bx && x.bz == y.bz) && ((x.ax == y.ax && x.az == y.az) && ((x.hl == y.hl) && (x.po == y.po))))
theorem eqR_refl (x : Cr) : eqR x x = true := by unfold eqR; simp
theorem equal_cr (x y : Cr) (w : World) : (Op.equalIn 10000 37 (crv x) (crv y)).run Tryd.prog w = .ok (eqR x y) w := by
 have a0 := fun w => (part_cr x w).1
 have a1 := fun w => (part_cr x w).2.1
 have a2 := fun w => (part_cr x w).2.2.1
 have a3 := fun w => (part_cr x w).2.2.2.1
 have a4 := fun w => (part_cr x w).2.2.2.2
 have b0 := fun w => (part_cr y w).1
 have b1 := fun w => (part_cr y w).2.1
 have b2 := fun w => (part_cr y w).2.2.1
 have b3 := fun w => (part_cr y w).2.2.2.1
 have b4 := fun w => (part_cr y w).2.2.2.2
 have r0 := fun w => equal_int 9998 x.pe y.pe w
 have q1 := fun w => equal_pt 9997 x.bx x.bz y.bx y.bz w
 have q2 := fun w => equal_pt 9997 x.ax x.az y.ax y.az w
 have r3 := fun w => equal_int 9998 x.hl y.hl w
 have r4 := fun w => equal_int 9998 x.po y.po w
 rw [run_equalIn_struct w 9999 _ _ _ (by kernel_rfl) (by kernel_rfl)]
 have e : (Tryd.prog.fieldsOf 37) = #[⟨ "Peer", 3, 0, false, "", "", 0⟩, ⟨ "Before", 35, 1, false, "", "", 8⟩, ⟨ "After", 35, 3, false, "", "", 24⟩, ⟨ "Health", 3, 5, false, "", "", 40⟩, ⟨ "Points", 3, 6, false, "", "", 48⟩] := by kernel_rfl
 rw [e]
 simp only [Op.eqFields, ne_eq, String.reduceEq, not_false_eq_true, if_true, Sem.run_bind, a0, a1, a2, a3, a4, b0, b1, b2, b3, b4, Result.andThen_ok, r0, q1, q2, r3, r4, Sem.run_ite, Sem.run_pure]
 unfold eqR
 exact st (st (st (st (st1 _))))
theorem eql_cr_t (x : Cr) (w : World) : (binOp .eql 37 (crv x) (crv x)).run Tryd.prog w = .ok (.bool true) w := by
 rw [run_eql_struct, equal_cr, eqR_refl]; rfl
theorem neq_cr_f (x : Cr) (w : World) : (binOp .neq 37 (crv x) (crv x)).run Tryd.prog w = .ok (.bool false) w := by
 rw [run_neq_struct, equal_cr, eqR_refl]; rfl
def crA (L : List Cr) (i : Nat) : Cr := L.getD i zCr
theorem rdCr {w : World} {B o n : Nat} {L : List Cr} (h : RdG KCr w (some ⟨B, o, none⟩) n L) {i : Nat} (hi : i < n) : w.cell? ⟨B, o + i * 7, none⟩ = some (.int .i64 (crA L i).pe) /\ w.cell? ⟨B, o + i * 7 + 1, none⟩ = some (.int .i64 (crA L i).bx) /\ w.cell? ⟨B, o + i * 7 + 2, none⟩ = some (.int .i64 (crA L i).bz) /\ w.cell? ⟨B, o + i * 7 + 3, none⟩ = some (.int .i64 (crA L i).ax) /\ w.cell? ⟨B, o + i * 7 + 4, none⟩ = some (.int .i64 (crA L i).az) /\ w.cell? ⟨B, o + i * 7 + 5, none⟩ = some (.int .i64 (crA L i).hl) /\ w.cell? ⟨B, o + i * 7 + 6, none⟩ = some (.int .i64 (crA L i).po) :=
 ⟨h.get hi 0 _ rfl, h.get hi 1 _ rfl, h.get hi 2 _ rfl, h.get hi 3 _ rfl, h.get hi 4 _ rfl, h.get hi 5 _ rfl, h.get hi 6 _ rfl⟩
theorem rd_blk {α : Type} {K : Kd α} {w : World} {B : Nat} {cur : Array Value} {t : TypeId} (h : w.heap[B]? = some (.cells cur t (0, 0))) (L : List α) (hc : cur.toList = K.row L) (hn : L.length <= 281474976710656) : RdG K w (some ⟨B, 0, none⟩) L.length L := by
 refine ⟨rfl, hn, .inr ⟨B, 0, rfl, fun i hi j u hu => ?_⟩⟩
 have hj : j < K.k := by
  have := (List.getElem?_eq_some_iff.1 hu).1
  rwa [K.len] at this
 rw [cell_of_row _ _ _ _ _ _ h, Nat.zero_add, <- Array.getElem?_toList, hc, K.row_get L i j hi hj]
 exact hu
set_option maxHeartbeats 4000000 in
theorem rsamec_t (L : List Cr) (ao bo : Option Addr) (n ac bc : Nat) (w : World) (h1 : RdG KCr w ao n L) (h2 : RdG KCr w bo n L) : Calls Tryd.prog 11 #[.slice ao n ac, .slice bo n bc] w fun e w' => e = .returned (.bool true) /\ Still w w' := by
 have HR1 := hid h1
 have HR2 := hid h2
 have hn47 : n <= 281474976710656 := h1.2.1
 clear h1 h2
 go_enter Tryd.func11, Tryd.ntmps11
 go_wp2_with fail
 go_loopw [5] (fun u wr => ∃ i : Nat, i <= n /\ u = .int .i64 (i : Int) /\ Still w wr) (fun u _ => n - (intOf u).toNat)
 case atStart => exact ⟨0, by omega, rfl, Fr.refl _ _⟩
 case round =>
  obtain ⟨i, hi, rfl, hs⟩ := hrel
  by_cases hin : i < n
  ·have hlt : (i : Int) < (n : Int) := by omega
   have r1 := HR1.out.still hs
   have r2 := HR2.out.still hs
   obtain ⟨A, oa, rfl⟩ := r1.at (by omega)
   obtain ⟨B, ob, rfl⟩ := r2.at (by omega)
   obtain ⟨a0, a1, a2, a3, a4, a5, a6⟩ := rdCr r1 hin
   obtain ⟨b0, b1, b2, b3, b4, b5, b6⟩ := rdCr r2 hin
   obtain ⟨x, ex⟩ : ∃ x, crA L i = x := ⟨_, rfl⟩
   rw [ex] at a0 a1 a2 a3 a4 a5 a6 b0 b1 b2 b3 b4 b5 b6
   have E1 := neq_cr_f x
   have HS := hid hs
   have y0 := Cl.cell a0
   have y1 := Cl.cell a1
   have y2 := Cl.cell a2
   have y3 := Cl.cell a3
   have y4 := Cl.cell a4
   have y5 := Cl.cell a5
   have y6 := Cl.cell a6
   have z0 := Cl.cell b0
   have z1 := Cl.cell b1
   have z2 := Cl.cell b2
   have z3 := Cl.cell b3
   have z4 := Cl.cell b4
   have z5 := Cl.cell b5
   have z6 := Cl.cell b6
   have hne := Aft.here wr
   clear ex r1 r2 hs a0 a1 a2 a3 a4 a5 a6 b0 b1 b2 b3 b4 b5 b6
   go_upto_region 6 with fail
   refine region_all (by kernel_rfl) (by kernel_rfl) ?_
   repeat (go_big_quiet_step (fail))
   refine wpQuiet_nil ?_
   intro w2 h2
   have HS2 := hid (HS.out.trans h2)
   clear h2 hne E1 y0 y1 y2 y3 y4 y5 y6 z0 z1 z2 z3 z4 z5 z6
   go_wp2_with fail
   go_roundw
   case rel => exact ⟨i + 1, by omega, by go_num, HS2.out⟩
   case measure => first | (simp [intOf]; done) | (simp [intOf]; omega)
  ·have hge : ¬ (i : Int) < (n : Int) := by omega
   have HS := hid hs
   clear hs hin
   go_wp2_with fail
   go_ret
   exact ⟨rfl, HS.out⟩
end Go.Proofs.YtdljmpjfiggdiaaDoor
