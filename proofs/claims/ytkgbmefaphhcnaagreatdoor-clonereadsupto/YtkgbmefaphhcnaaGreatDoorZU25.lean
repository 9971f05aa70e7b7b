/- Parts of the proof, laid end to end. -/
import Derived.Test.YtkgbmefaphhcnaaGreatDoorZU16
import Derived.Test.YtkgbmefaphhcnaaGreatDoorZU23
namespace Go.Proofs.YtkgbmefaphhcnaaGreatDoor
open Go.RowKit
open Np Za Ka Ja Ea Ha Wp
set_option maxRecDepth 100000
set_option linter.unusedVariables false
set_option linter.unusedSimpArgs false
theorem newReaderZ_any (ao : Option Addr) (n cap : Nat) (bs : List UInt8) (w : World) (hr : Rd w ao n cap bs) (h47 : n <= 140737488355328) :
  Calls Tryz.prog 74 #[.slice ao n cap] w fun r w' => ∃ p ao' cap', r = .returned (.pointer (some ⟨p, 0, none⟩)) /\ w.heap.size <= p /\ Rr w' p ao' n cap' bs 0 /\ Still w w' /\ Ub w' ao' := by
 go_enter Tryz.func74, Tryz.ntmps74
 go_wp2_with fail
 refine (clone_any ao n cap bs w hr h47).mono ?_
 rintro r w1 ⟨ao', cap', rfl, ho, hst, hao⟩
 go_wp2
 go_ret
 exact ⟨w1.heap.size, ao', cap', rfl, hst.size, ⟨heap_alloc_new w1 _, ho.rd.alloc _⟩, Fr.alloc hst _, fun a ha => by
  obtain ⟨_, _, cur, hc, _⟩ := ho.row a ha
  exact ⟨cur, (Still.alloc w1 _).kept_still hc⟩⟩
theorem Rc.new {w : World} {p n cap : Nat} {ao : Option Addr} {bs : List UInt8} (h : Rr w p ao n cap bs 0) (hu : Ub w ao) : Rc (w.alloc (.cells #[.pointer (some ⟨p, 0, none⟩), .bool false] 118)) w.heap.size p ⟨bs, 0, false⟩ := by
 have A := Still.alloc w (.cells #[.pointer (some ⟨p, 0, none⟩), .bool false] 118)
 have := h.lt
 exact ⟨heap_alloc_new w _, ⟨ao, n, cap, h.still A, hu.kept A (fun _ _ e => e)⟩, by omega⟩
theorem OwW.still {w w' : World} {B : Nat} {v : Value} {W : Wd} (h : OwW w B v W) (hs : Still w w') : OwW w' B v W := by
 obtain ⟨a, b, c, d, e, h1, h2, h3, h4⟩ := h
 exact ⟨a, b, c, d, e, h1.still hs, h2.still hs, h3.still hs, h4.still hs⟩
theorem OwW.less {w : World} {B B' : Nat} {v : Value} {W : Wd} (h : OwW w B v W) (hb : B' <= B) : OwW w B' v W := by
 obtain ⟨a, b, c, d, e, h1, h2, h3, h4⟩ := h
 exact ⟨a, b, c, d, e, h1.less hb, h2.less hb, h3.less hb, h4.less hb⟩
theorem OwW.set6 {w : World} {B g : Nat} {v : Value} {W : Wd} (h : OwW w B v W) (hg : Tyk w g 27) (v0 v1 v2 v3 v4 v5 : Value) : OwW ((((((w.setCell ⟨g, 0, none⟩ v0).setCell ⟨g, 1, none⟩ v1).setCell ⟨g, 2, none⟩ v2).setCell ⟨g, 3, none⟩ v3).setCell ⟨g, 4, none⟩ v4).setCell ⟨g, 5, none⟩ v5) B v W := by
 obtain ⟨a, b, c, d, e, h1, h2, h3, h4⟩ := h
 exact ⟨a, b, c, d, e, h1.set6 hg (by decide) _ _ _ _ _ _, h2.set6 hg (by decide) _ _ _ _ _ _, h3.set6 hg (by decide) _ _ _ _ _ _, h4.set6 hg (by decide) _ _ _ _ _ _⟩
end Go.Proofs.YtkgbmefaphhcnaaGreatDoor
namespace Go.Proofs.YtkgbmefaphhcnaaGreatDoor
open Go.RowKit
open Np Za Ka Ja Ea Ha Wp
set_option maxRecDepth 100000
set_option linter.unusedVariables false
set_option linter.unusedSimpArgs false
set_option maxHeartbeats 8000000 in
theorem zparse_any (ao : Option Addr) (n cap k : Nat) (bs : List UInt8) (hk : k <= 2147483647) (w : World) (hr : Rd w ao n cap bs) (h47 : n <= 140737488355328) :
  Calls Tryz.prog 48 #[.slice ao n cap, .int .i64 (k : Int)] w fun r w' => ∃ v, r = .returned (.tuple #[v, .bool (!(wdM k ⟨bs, 0, false⟩).2.y && doB (wdM k ⟨bs, 0, false⟩).2)]) /\ OwW w' w.heap.size v (wdM k ⟨bs, 0, false⟩).1 /\ Still w w' := by
 have A0 := Still.alloc w (.cells (wdcs 0 0 (.slice none 0 0) (.slice none 0 0) (.slice none 0 0) (.slice none 0 0)) 27)
 have B0 : Wdb (w.alloc (.cells (wdcs 0 0 (.slice none 0 0) (.slice none 0 0) (.slice none 0 0) (.slice none 0 0)) 27)) w.heap.size 0 0 (.slice none 0 0) (.slice none 0 0) (.slice none 0 0) (.slice none 0 0) := heap_alloc_new w _
 have hr0 := hr.still A0
 obtain ⟨W, eW⟩ : ∃ W, w.alloc (.cells (wdcs 0 0 (.slice none 0 0) (.slice none 0 0) (.slice none 0 0) (.slice none 0 0)) 27) = W := ⟨_, rfl⟩
 obtain ⟨g, eg⟩ : ∃ g, w.heap.size = g := ⟨_, rfl⟩
 rw [eW] at A0 B0 hr0
 rw [eg] at B0
 have HA := hid A0
 have HG : Hid (w.heap.size <= g /\ g < W.heap.size) := hid ⟨by omega, block_lt B0⟩
 have HB0 := hid B0
 have HC1 := hid (newReaderZ_any ao n cap bs W hr0 h47)
 obtain ⟨X, S, eX⟩ : ∃ a b, wdM k ⟨bs, 0, false⟩ = (a, b) := ⟨_, _, rfl⟩
 have HC2 : Hid (∀ u q p, Rc u q p ⟨bs, 0, false⟩ -> Calls Tryz.prog 75 #[.pointer (some ⟨q, 0, none⟩), .int .i64 (k : Int)] u fun r w' => ∃ v, r = .returned v /\ OwW w' u.heap.size v X /\ Tc u w' q p S) := hid (fun u q p hu => by
  have := zworld_any q p k hk ⟨bs, 0, false⟩ u hu
  rw [eX] at this
  exact this)
 rw [eX]
 dsimp only
 clear A0 B0 hr hr0 eX
 go_enter Tryz.func48, Tryz.ntmps48
 go_wp2_with fail
 refine HC1.out.mono ?_
 rintro e w1 ⟨p, ao1, cap1, he, hp, hr1, h1, hu1⟩
 rw [he]
 have A1 := Still.alloc w1 (.cells #[.pointer (some ⟨p, 0, none⟩), .bool false] 118)
 have n1 := Rc.new hr1 hu1
 have z1 := h1.size
 obtain ⟨V1, eV1⟩ : ∃ V, w1.alloc (.cells #[.pointer (some ⟨p, 0, none⟩), .bool false] 118) = V := ⟨_, rfl⟩
 obtain ⟨q, eq⟩ : ∃ q, w1.heap.size = q := ⟨_, rfl⟩
 rw [eV1] at A1 n1
 rw [eq] at n1 z1
 have HN1 := hid n1
 have HS1 : Hid (Still w V1) := hid ((HA.out.trans h1).trans A1)
 have HB1 : Hid (Wdb V1 g 0 0 (.slice none 0 0) (.slice none 0 0) (.slice none 0 0) (.slice none 0 0)) := hid ((HB0.out.still h1).still A1)
 have HQ : Hid (w.heap.size <= q /\ w.heap.size <= p /\ ¬ RF q p g) := hid (by
  have h2 := HG.out
  have h3 := HA.out.size
  exact ⟨by omega, by omega, by rintro (e | e) <;> omega⟩)
 clear he hp hr1 h1 hu1 A1 n1 z1 HC1 HB0 eW HA
 go_wp2_with fail
 refine (HC2.out _ q p HN1.out).mono ?_
 rintro e w2 ⟨v, he, hv, h2⟩
 have HS2 : Hid (Still w w2) := hid (Fr.trans HS1.out h2.f (fun k hk e => by have := HQ.out; rcases e with e | e <;> omega))
 have HO2 : Hid (OwW w2 w.heap.size v X) := hid (hv.less HS1.out.size)
 have HT2 := hid h2.r
 have HB2 : Hid (Wdb w2 g 0 0 (.slice none 0 0) (.slice none 0 0) (.slice none 0 0) (.slice none 0 0)) := hid (h2.f.kept HB1.out HQ.out.2.2)
 obtain ⟨va, vb, vc, vd, rfl, o1, o2, o3, o4⟩ := hv
 obtain ⟨a1, b1, rfl, _⟩ := o1.slice
 obtain ⟨a2, b2, rfl, _⟩ := o2.slice
 obtain ⟨a3, b3, rfl, _⟩ := o3.slice
 obtain ⟨a4, b4, rfl, _⟩ := o4.slice
 rw [he]
 have A3 := Still.alloc w2 (.cells (wdcs X.fr X.nx (.slice a1 X.ms.length b1) (.slice a2 X.cs.length b2) (.slice a3 X.hs.length b3) (.slice a4 X.ks.length b4)) 27)
 have B3 := newWd_wb w2 X.fr X.nx (.slice a1 X.ms.length b1) (.slice a2 X.cs.length b2) (.slice a3 X.hs.length b3) (.slice a4 X.ks.length b4)
 have HZ : Hid (g < w2.heap.size) := hid (block_lt HB2.out)
 obtain ⟨V3, eV3⟩ : ∃ V, w2.alloc (.cells (wdcs X.fr X.nx (.slice a1 X.ms.length b1) (.slice a2 X.cs.length b2) (.slice a3 X.hs.length b3) (.slice a4 X.ks.length b4)) 27) = V := ⟨_, rfl⟩
 obtain ⟨g7, eg7⟩ : ∃ q, w2.heap.size = q := ⟨_, rfl⟩
 have HR3 := hid (HT2.out.still A3)
 have HB3 := hid (HB2.out.still A3)
 have HO3 := hid (HO2.out.still A3)
 have HS3 := hid (HS2.out.trans A3)
 have B3' : Wdb (w2.alloc (.cells (wdcs X.fr X.nx (.slice a1 X.ms.length b1) (.slice a2 X.cs.length b2) (.slice a3 X.hs.length b3) (.slice a4 X.ks.length b4)) 27)) w2.heap.size X.fr X.nx (.slice a1 X.ms.length b1) (.slice a2 X.cs.length b2) (.slice a3 X.hs.length b3) (.slice a4 X.ks.length b4) := B3
 rw [eV3] at HR3 HB3 HO3 HS3 B3'
 rw [eg7] at B3'
 obtain ⟨c0, c1, c2, c3, c4, c5, _⟩ := B3'.cells
 obtain ⟨d0, d1, d2, d3, d4, d5, df⟩ := HB3.out.cells
 have k0 := HR3.out.ptr
 have k1 := HR3.out.spo
 have HD := hid (fun u hu => zdone_any q p S u (HR3.out.still hu))
 have hd : ((if S.e = 0 /\ 0 < S.bs.length then (23 : Int) else S.e) == 0) = doB S := by unfold doB; rw [Bool.eq_iff_iff]; simp
 obtain ⟨D, eD⟩ : ∃ N, (if S.e = 0 /\ 0 < S.bs.length then (23 : Int) else S.e) = N := ⟨_, rfl⟩
 rw [eD] at HD hd
 clear he h2 o1 o2 o3 o4 HC2 HB1 HN1 HS1 eV1 eq A3 B3 B3' HT2 HB2 HO2 HS2 eD
 have HF : Hid (∀ T, ((((((V3.setCell ⟨g, 0, none⟩ (.int .i64 X.fr)).setCell ⟨g, 1, none⟩ (.slice a1 X.ms.length b1)).setCell ⟨g, 2, none⟩ (.slice a2 X.cs.length b2)).setCell ⟨g, 3, none⟩ (.slice a3 X.hs.length b3)).setCell ⟨g, 4, none⟩ (.slice a4 X.ks.length b4)).setCell ⟨g, 5, none⟩ (.int .i64 X.nx)).drew = T -> Wdb T g X.fr X.nx (.slice a1 X.ms.length b1) (.slice a2 X.cs.length b2) (.slice a3 X.hs.length b3) (.slice a4 X.ks.length b4) /\ OwW T w.heap.size (.agg (wdcs X.fr X.nx (.slice a1 X.ms.length b1) (.slice a2 X.cs.length b2) (.slice a3 X.hs.length b3) (.slice a4 X.ks.length b4))) X /\ Still w T) := hid (fun T eT => by
  have t1 := HB3.out.put X.fr X.nx (.slice a1 X.ms.length b1) (.slice a2 X.cs.length b2) (.slice a3 X.hs.length b3) (.slice a4 X.ks.length b4)
  have t2 := HO3.out.set6 HB3.out.ty (.int .i64 X.fr) (.slice a1 X.ms.length b1) (.slice a2 X.cs.length b2) (.slice a3 X.hs.length b3) (.slice a4 X.ks.length b4) (.int .i64 X.nx)
  have t3 := still_set6 HS3.out HG.out.1 (.int .i64 X.fr) (.slice a1 X.ms.length b1) (.slice a2 X.cs.length b2) (.slice a3 X.hs.length b3) (.slice a4 X.ks.length b4) (.int .i64 X.nx)
  rw [<- eT]
  exact ⟨t1.still ((Fr.refl _ _).drew), t2.still ((Fr.refl _ _).drew), t3.trans ((Fr.refl _ _).drew)⟩)
 cases hy : S.y with
 | true =>
  rw [hy] at k1
  have HY : Hid ((!S.y && doB S) = false) := hid (by rw [hy]; rfl)
  go_upto_region 3 with fail
  go_region
  obtain ⟨T, eT⟩ : ∃ T, ((((((V3.setCell ⟨g, 0, none⟩ (.int .i64 X.fr)).setCell ⟨g, 1, none⟩ (.slice a1 X.ms.length b1)).setCell ⟨g, 2, none⟩ (.slice a2 X.cs.length b2)).setCell ⟨g, 3, none⟩ (.slice a3 X.hs.length b3)).setCell ⟨g, 4, none⟩ (.slice a4 X.ks.length b4)).setCell ⟨g, 5, none⟩ (.int .i64 X.nx)).drew = T := ⟨_, rfl⟩
  have HF2 := hid (HF.out T eT)
  rw [eT]
  clear eT HF
  go_wp2_with fail
  refine bodyPost_ret (Wdb.res2 HF2.out.1 rfl _ _ rfl rfl) rfl ⟨_, ?_, HF2.out.2⟩
  rw [HY.out]
  rfl
 | false =>
  rw [hy] at k1
  have HY : Hid ((!S.y && doB S) = doB S) := hid (by rw [hy]; rfl)
  go_upto_region 3 with fail
  go_region_with (go_at_call 76; refine (HD.out _ (by first | exact Fr.refl _ _ | exact (Fr.refl _ V3).drew | exact (Fr.refl _ V3).drewN _)).mono ?_; rintro e w4 ⟨he, hw4⟩; rw [he, hw4]; clear he hw4)
  all_goals
   obtain ⟨T, eT⟩ : ∃ T, ((((((V3.setCell ⟨g, 0, none⟩ (.int .i64 X.fr)).setCell ⟨g, 1, none⟩ (.slice a1 X.ms.length b1)).setCell ⟨g, 2, none⟩ (.slice a2 X.cs.length b2)).setCell ⟨g, 3, none⟩ (.slice a3 X.hs.length b3)).setCell ⟨g, 4, none⟩ (.slice a4 X.ks.length b4)).setCell ⟨g, 5, none⟩ (.int .i64 X.nx)).drew = T := ⟨_, rfl⟩
   have HF2 := hid (HF.out T eT)
   rw [eT]
   clear eT HF
   go_wp2_with fail
   refine bodyPost_ret (Wdb.res2 HF2.out.1 rfl _ _ rfl rfl) rfl ⟨_, ?_, HF2.out.2⟩
   rw [HY.out]
   rfl
end Go.Proofs.YtkgbmefaphhcnaaGreatDoor
