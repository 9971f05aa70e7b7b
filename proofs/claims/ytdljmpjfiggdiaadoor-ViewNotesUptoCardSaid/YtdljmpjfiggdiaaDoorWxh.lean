/- The program's correction, isOne, Correct. -/
import Derived.Test.YtdljmpjfiggdiaaDoorWvi
import Derived.Test.YtdljmpjfiggdiaaDoorIo
namespace Go.Proofs.YtdljmpjfiggdiaaDoor
open Go.RowKit
open Pu Gp Np Za Ka Ja Ea Ha
set_option maxRecDepth 100000

theorem Crb.put {w : World} {g : Nat} {x : Cr} (h : Crb w g x) (y : Cr) : Crb (((((((w.setCell ⟨g, 0, none⟩ (.int .i64 y.pe)).setCell ⟨g, 1, none⟩ (.int .i64 y.bx)).setCell ⟨g, 2, none⟩ (.int .i64 y.bz)).setCell ⟨g, 3, none⟩ (.int .i64 y.ax)).setCell ⟨g, 4, none⟩ (.int .i64 y.az)).setCell ⟨g, 5, none⟩ (.int .i64 y.hl)).setCell ⟨g, 6, none⟩ (.int .i64 y.po)) g y := by
  have h1 := heap_setCell_same w g 0 _ _ (.int .i64 y.pe) h
  have h2 := heap_setCell_same _ g 1 _ _ (.int .i64 y.bx) h1
  have h3 := heap_setCell_same _ g 2 _ _ (.int .i64 y.bz) h2
  have h4 := heap_setCell_same _ g 3 _ _ (.int .i64 y.ax) h3
  have h5 := heap_setCell_same _ g 4 _ _ (.int .i64 y.az) h4
  have h6 := heap_setCell_same _ g 5 _ _ (.int .i64 y.hl) h5
  have h7 := heap_setCell_same _ g 6 _ _ (.int .i64 y.po) h6
  exact h7.trans (by kernel_rfl)
theorem Crb.load {w : World} {g : Nat} {x : Cr} (h : Crb w g x) : (loadVar 37 ⟨g, 0, none⟩).run Tryd.prog w = .ok (.agg (crcs x)) w := by
  obtain ⟨c0, c1, c2, c3, c4, c5, c6, cf⟩ := h.cells
  go_simp
theorem Crb.res {fn : Func} {p : Tmp} {w : World} {g : Nat} {x : Cr} (hb : Crb w g x) (h : fn.results = #[.cell p 37]) (tmps : Array Value) (hp : tmps.getD p undef = .pointer (some ⟨g, 0, none⟩)) :
    (results fn tmps).run Tryd.prog w = .ok (.agg (crcs x)) w := by
  have hp' : tmps[p]?.getD undef = .pointer (some ⟨g, 0, none⟩) := by simpa using hp
  simp [results, h, hp', asAddr, hb.load]
set_option maxHeartbeats 8000000 in
theorem vcorrection_any (f1 x1 f2 x2 : Int) (ao bo co so p1 q1 r1 t1 : Option Addr) (ac bc cc sc' p2 p3 q2 q3 r2 r3 t2 t3 : Nat) (n : Nat) (M M' : List Mv) (C C' : List Scr) (w : World) (hM : RdG KM w ao n M) (hC : RdG KC w bo n C) (hM' : RdG KM w co n M') (hC' : RdG KC w so n C') (i : Nat) (hin : i < n) : Calls Tryd.prog 18 #[.int .i64 (i : Int), .agg (wdcs f1 x1 (.slice ao n ac) (.slice bo n bc) (.slice p1 p2 p3) (.slice q1 q2 q3)), .agg (wdcs f2 x2 (.slice co n cc) (.slice so n sc') (.slice r1 r2 r3) (.slice t1 t2 t3))] w fun e w' => e = .returned (.agg (crcs (crV i (mm M i) (mm M' i) (sc C i) (sc C' i)))) ∧ Still w w' := by
  have A0 := Still.alloc w (.cells (wdcs f1 x1 (.slice ao n ac) (.slice bo n bc) (.slice p1 p2 p3) (.slice q1 q2 q3)) 27)
  have A1 := Still.alloc (w.alloc (.cells (wdcs f1 x1 (.slice ao n ac) (.slice bo n bc) (.slice p1 p2 p3) (.slice q1 q2 q3)) 27)) (.cells (wdcs f2 x2 (.slice co n cc) (.slice so n sc') (.slice r1 r2 r3) (.slice t1 t2 t3)) 27)
  have A2 := Still.alloc ((w.alloc (.cells (wdcs f1 x1 (.slice ao n ac) (.slice bo n bc) (.slice p1 p2 p3) (.slice q1 q2 q3)) 27)).alloc (.cells (wdcs f2 x2 (.slice co n cc) (.slice so n sc') (.slice r1 r2 r3) (.slice t1 t2 t3)) 27)) (.cells #[.int .i64 0, .int .i64 0, .int .i64 0, .int .i64 0, .int .i64 0, .int .i64 0, .int .i64 0] 37)
  have q0 := (newWd_wb w f1 x1 (.slice ao n ac) (.slice bo n bc) (.slice p1 p2 p3) (.slice q1 q2 q3)).still (A1.trans A2)
  have q1' := (newWd_wb (w.alloc (.cells (wdcs f1 x1 (.slice ao n ac) (.slice bo n bc) (.slice p1 p2 p3) (.slice q1 q2 q3)) 27)) f2 x2 (.slice co n cc) (.slice so n sc') (.slice r1 r2 r3) (.slice t1 t2 t3)).still A2
  have q2' : Crb (((w.alloc (.cells (wdcs f1 x1 (.slice ao n ac) (.slice bo n bc) (.slice p1 p2 p3) (.slice q1 q2 q3)) 27)).alloc (.cells (wdcs f2 x2 (.slice co n cc) (.slice so n sc') (.slice r1 r2 r3) (.slice t1 t2 t3)) 27)).alloc (.cells #[.int .i64 0, .int .i64 0, .int .i64 0, .int .i64 0, .int .i64 0, .int .i64 0, .int .i64 0] 37)) ((w.alloc (.cells (wdcs f1 x1 (.slice ao n ac) (.slice bo n bc) (.slice p1 p2 p3) (.slice q1 q2 q3)) 27)).alloc (.cells (wdcs f2 x2 (.slice co n cc) (.slice so n sc') (.slice r1 r2 r3) (.slice t1 t2 t3)) 27)).heap.size zCr := heap_alloc_new _ _
  rw [size_alloc] at q1'
  rw [size_alloc, size_alloc] at q2'
  have HS0 := hid (A0.trans (A1.trans A2))
  have HP0 : Hid (Wdb (((w.alloc (.cells (wdcs f1 x1 (.slice ao n ac) (.slice bo n bc) (.slice p1 p2 p3) (.slice q1 q2 q3)) 27)).alloc (.cells (wdcs f2 x2 (.slice co n cc) (.slice so n sc') (.slice r1 r2 r3) (.slice t1 t2 t3)) 27)).alloc (.cells #[.int .i64 0, .int .i64 0, .int .i64 0, .int .i64 0, .int .i64 0, .int .i64 0, .int .i64 0] 37)) w.heap.size f1 x1 (.slice ao n ac) (.slice bo n bc) (.slice p1 p2 p3) (.slice q1 q2 q3)) := hid q0
  have HQ0 : Hid (Wdb (((w.alloc (.cells (wdcs f1 x1 (.slice ao n ac) (.slice bo n bc) (.slice p1 p2 p3) (.slice q1 q2 q3)) 27)).alloc (.cells (wdcs f2 x2 (.slice co n cc) (.slice so n sc') (.slice r1 r2 r3) (.slice t1 t2 t3)) 27)).alloc (.cells #[.int .i64 0, .int .i64 0, .int .i64 0, .int .i64 0, .int .i64 0, .int .i64 0, .int .i64 0] 37)) (w.heap.size + 1) f2 x2 (.slice co n cc) (.slice so n sc') (.slice r1 r2 r3) (.slice t1 t2 t3)) := hid q1'
  have HC0 : Hid (Crb (((w.alloc (.cells (wdcs f1 x1 (.slice ao n ac) (.slice bo n bc) (.slice p1 p2 p3) (.slice q1 q2 q3)) 27)).alloc (.cells (wdcs f2 x2 (.slice co n cc) (.slice so n sc') (.slice r1 r2 r3) (.slice t1 t2 t3)) 27)).alloc (.cells #[.int .i64 0, .int .i64 0, .int .i64 0, .int .i64 0, .int .i64 0, .int .i64 0, .int .i64 0] 37)) (w.heap.size + 1 + 1) zCr) := hid q2'
  obtain ⟨W0, eW0⟩ : ∃ X, (((w.alloc (.cells (wdcs f1 x1 (.slice ao n ac) (.slice bo n bc) (.slice p1 p2 p3) (.slice q1 q2 q3)) 27)).alloc (.cells (wdcs f2 x2 (.slice co n cc) (.slice so n sc') (.slice r1 r2 r3) (.slice t1 t2 t3)) 27)).alloc (.cells #[.int .i64 0, .int .i64 0, .int .i64 0, .int .i64 0, .int .i64 0, .int .i64 0, .int .i64 0] 37)) = X := ⟨_, rfl⟩
  rw [eW0] at HS0 HP0 HQ0 HC0
  have hlt : (i : Int) < (n : Int) := by omega
  have hr1 := hM.still HS0.out
  have hr2 := hM'.still HS0.out
  have hr3 := hC.still HS0.out
  have hr4 := hC'.still HS0.out
  obtain ⟨B1, o1, rfl⟩ := hr1.at (by omega)
  obtain ⟨B2, o2, rfl⟩ := hr2.at (by omega)
  obtain ⟨B3, o3, rfl⟩ := hr3.at (by omega)
  obtain ⟨B4, o4, rfl⟩ := hr4.at (by omega)
  have HR1 := hid (fun u (hu : Still W0 u) => rdM (hr1.still hu) hin)
  have HR2 := hid (fun u (hu : Still W0 u) => rdM (hr2.still hu) hin)
  have HR3 := hid (fun u (hu : Still W0 u) => rdC (hr3.still hu) hin)
  have HR4 := hid (fun u (hu : Still W0 u) => rdC (hr4.still hu) hin)
  obtain ⟨a, ea⟩ : ∃ x, mm M i = x := ⟨_, rfl⟩
  obtain ⟨b, eb⟩ : ∃ x, mm M' i = x := ⟨_, rfl⟩
  obtain ⟨s, es⟩ : ∃ x, sc C i = x := ⟨_, rfl⟩
  obtain ⟨t, et⟩ : ∃ x, sc C' i = x := ⟨_, rfl⟩
  rw [ea] at HR1
  rw [eb] at HR2
  rw [es] at HR3
  rw [et] at HR4
  rw [ea, eb, es, et]
  have hn47 : n ≤ 281474976710656 := hM.2.1
  clear ea eb es et hr1 hr2 hr3 hr4 hM hM' hC hC' A0 A1 A2 q0 q1' q2' hin
  go_enter Tryd.func18, Tryd.ntmps18
  go_upto_region 1 with fail
  (try rw [eW0])
  clear eW0
  refine region_mk2 10 7 8 (.cells (mcs zM) 52 (0, 0)) (.cells (mcs a) 52 (0, 0)) (.cells (mcs b) 52 (0, 0)) (by kernel_rfl) (by kernel_rfl) (by kernel_rfl) (by kernel_rfl) ⟨rfl, rfl⟩ ⟨rfl, rfl⟩ (fun u b => ⟨nw_mv rfl u, nw_mv rfl u⟩) (fun u => heap_alloc_new u _) ?_
  apply Exists.intro
  refine And.intro ?_ (And.intro ?_ (And.intro ?_ ?_))
  · intro u hu
    obtain ⟨c0, c1, c2, c3, c4, c5, cf⟩ := (HP0.out.still hu).cells
    obtain ⟨d0, d1, d2, d3, d4, d5, df⟩ := (HQ0.out.still hu).cells
    obtain ⟨m0, m1, m2, m3, m4, m5, m6, m7, m8, m9, m10, m11, m12⟩ := HR1.out u hu
    obtain ⟨n0, n1, n2, n3, n4, n5, n6, n7, n8, n9, n10, n11, n12⟩ := HR2.out u hu
    have k1 := Cl.cell c1
    have k2 := Cl.cell d1
    have y0 := Cl.cell m0
    have y1 := Cl.cell m1
    have y2 := Cl.cell m2
    have y3 := Cl.cell m3
    have y4 := Cl.cell m4
    have y5 := Cl.cell m5
    have y6 := Cl.cell m6
    have y7 := Cl.cell m7
    have y8 := Cl.cell m8
    have y9 := Cl.cell m9
    have y10 := Cl.cell m10
    have y11 := Cl.cell m11
    have y12 := Cl.cell m12
    have z0 := Cl.cell n0
    have z1 := Cl.cell n1
    have z2 := Cl.cell n2
    have z3 := Cl.cell n3
    have z4 := Cl.cell n4
    have z5 := Cl.cell n5
    have z6 := Cl.cell n6
    have z7 := Cl.cell n7
    have z8 := Cl.cell n8
    have z9 := Cl.cell n9
    have z10 := Cl.cell n10
    have z11 := Cl.cell n11
    have z12 := Cl.cell n12
    have hne := Aft.here u
    clear c0 c1 c2 c3 c4 c5 cf d0 d1 d2 d3 d4 d5 df m0 m1 m2 m3 m4 m5 m6 m7 m8 m9 m10 m11 m12 n0 n1 n2 n3 n4 n5 n6 n7 n8 n9 n10 n11 n12
    simp only [qlist, List.take_succ_cons, List.take_zero, List.drop_succ_cons, List.drop_zero, List.cons_append, List.nil_append, Nat.reduceMul, Nat.reduceAdd]
    repeat (go_big_quiet_step (fail))
    exact wpQuiet_nil rfl
  · exact fun u h hh => st_mv rfl rfl rfl hh
  · exact fun u h hh => st_mv rfl rfl rfl hh
  intro w2 g1 g2 h2 hg1 hg2 hg12 hm1 hm2
  have p2 : Mb w2 g1 a := hm1
  have q2 : Mb w2 g2 b := hm2
  have HS2 := hid (HS0.out.trans h2)
  have HT2 := hid h2
  have HPa := hid p2
  have HPb := hid q2
  have HC2 := hid (HC0.out.still h2)
  clear h2 hm1 hm2 p2 q2 hg1 hg2 hg12
  simp only [Act.put, List.setIfInBounds_toArray, List.set_cons_succ, List.set_cons_zero]
  go_upto_region 2 with fail
  refine region_late 24 (by kernel_rfl) (by kernel_rfl) (by kernel_rfl) ?_
  apply Exists.intro
  refine And.intro ?_ ?_
  · intro u hu
    obtain ⟨c0, c1, c2, c3, c4, c5, cf⟩ := (HP0.out.still (HT2.out.trans hu)).cells
    obtain ⟨d0, d1, d2, d3, d4, d5, df⟩ := (HQ0.out.still (HT2.out.trans hu)).cells
    obtain ⟨m0, m1, m2, m3, m4, m5, m6, m7, m8, m9, m10, m11, m12, mf⟩ := (HPa.out.still hu).cells
    obtain ⟨n0, n1, n2, n3, n4, n5, n6, n7, n8, n9, n10, n11, n12, nf⟩ := (HPb.out.still hu).cells
    obtain ⟨s0, s1, s2, s3⟩ := HR3.out u (HT2.out.trans hu)
    obtain ⟨t0, t1', t2', t3'⟩ := HR4.out u (HT2.out.trans hu)
    have k1 := Cl.cell c2
    have k2 := Cl.cell d2
    have k3 := Cl.cell s0
    have k4 := Cl.cell t0
    have y0 := Cl.cell m0
    have y1 := Cl.cell m1
    have y7 := Cl.cell m7
    have z0 := Cl.cell n0
    have z1 := Cl.cell n1
    have z7 := Cl.cell n7
    have hne := Aft.here u
    clear c0 c1 c2 c3 c4 c5 cf d0 d1 d2 d3 d4 d5 df m0 m1 m2 m3 m4 m5 m6 m7 m8 m9 m10 m11 m12 mf n0 n1 n2 n3 n4 n5 n6 n7 n8 n9 n10 n11 n12 nf s0 s1 s2 s3 t0 t1' t2' t3'
    simp only [List.take_succ_cons, List.take_zero]
    repeat (go_big_quiet_step (fail))
    exact wpQuiet_nil rfl
  intro w3 h3
  simp only [List.drop_succ_cons, List.drop_zero]
  have HC3 := hid (HC2.out.still h3)
  have HS3 := hid (HS2.out.trans h3)
  have HC4 := hid (HC3.out.put (crV i a b s t))
  obtain ⟨e0, e1, e2, e3, e4, e5, e6, ef⟩ := HC3.out.cells
  clear h3 HC2 HS2 HP0 HQ0 HR1 HR2 HR3 HR4 HPa HPb HC0
  go_wp2_with fail
  refine ⟨rfl, ?_⟩
  go_wp2_with fail
  refine bodyPost_ret (Crb.res HC4.out rfl _ rfl) rfl ⟨rfl, ?_⟩
  repeat (first | refine Fr.setCell ?_ _ _ (.inr (by show w.heap.size ≤ w.heap.size + 1 + 1; omega)) | with_reducible exact HS3.out)
/-- does it put anything right -/
def oneB (x : Cr) : Bool := !(x.bx == x.ax && x.bz == x.az) || (x.hl != 0) || (x.po != 0)
set_option maxHeartbeats 4000000 in
theorem visOne_any (x : Cr) (w : World) : Calls Tryd.prog 19 #[.agg (crcs x)] w fun e w' => e = .returned (.bool (oneB x)) ∧ Still w w' := by
  have A0 := Still.alloc w (.cells (crcs x) 37)
  have p0 : Crb (w.alloc (.cells (crcs x) 37)) w.heap.size x := heap_alloc_new w _
  obtain ⟨c0, c1, c2, c3, c4, c5, c6, cf⟩ := p0.cells
  have HS := hid A0
  rcases (show ¬ (x.bx = x.ax ∧ x.bz = x.az) ∨ ((x.bx = x.ax ∧ x.bz = x.az) ∧ x.hl ≠ 0) ∨ ((x.bx = x.ax ∧ x.bz = x.az) ∧ x.hl = 0) by omega) with h1 | ⟨h1, h2⟩ | ⟨h1, h2⟩
  · have E1 := neq_pt_t h1
    have HE : Hid (oneB x = true) := hid (by unfold oneB; simp; exact .inl (.inl (by omega)))
    clear h1 A0 p0
    go_enter Tryd.func19, Tryd.ntmps19
    go_wp2_with fail
    go_ret
    exact ⟨by rw [HE.out]; rfl, HS.out⟩
  · have E1 := neq_pt_f h1
    have bH : (x.hl != 0) = true := by simpa using h2
    have HE : Hid (oneB x = true) := hid (by unfold oneB; rw [bH]; simp)
    clear h1 h2 A0 p0
    go_enter Tryd.func19, Tryd.ntmps19
    go_wp2_with fail
    go_ret
    exact ⟨by rw [HE.out]; rfl, HS.out⟩
  · have E1 := neq_pt_f h1
    have bH : (x.hl != 0) = false := by simpa using h2
    have HE : Hid (oneB x = (x.po != 0)) := hid (by unfold oneB; rw [bH, h1.1, h1.2]; simp)
    clear h1 h2 A0 p0
    cases bP : (x.po != 0) with
    | false =>
      go_enter Tryd.func19, Tryd.ntmps19
      go_wp2_with fail
      go_ret
      exact ⟨by rw [HE.out, bP]; rfl, HS.out⟩
    | true =>
      go_enter Tryd.func19, Tryd.ntmps19
      go_wp2_with fail
      go_ret
      exact ⟨by rw [HE.out, bP]; rfl, HS.out⟩
theorem wrap_zero {x y : Int} (hx : I64 x) (hy : I64 y) : (wrap64 (y - x) != 0) = (x != y) := by
  have h : wrap64 (y - x) = 0 ↔ x = y := by
    unfold I64 at hx hy
    unfold wrap64
    omega
  by_cases e : x = y
  · rw [h.2 e, e]; simp
  · have : wrap64 (y - x) ≠ 0 := fun k => e (h.1 k)
    rw [bne_iff_ne.2 this, bne_iff_ne.2 e]
theorem one_cr {i : Nat} {a b : Mv} {s t : Scr} (h1 : I64 a.hl) (h2 : I64 b.hl) (h3 : I64 s.p) (h4 : I64 t.p) : oneB (crV i a b s t) = crB a b s t := by
  unfold oneB crV crB
  dsimp only
  rw [wrap_zero h1 h2, wrap_zero h3 h4]
set_option maxHeartbeats 4000000 in
theorem vcorrect_no (f1 x1 f2 x2 : Int) (ao bo co so p1 q1 r1 t1 : Option Addr) (ac bc cc sc' p2 p3 q2 q3 r2 r3 t2 t3 : Nat) (n1 n2 n3 n4 : Nat) (h : ¬ (n2 = n1 ∧ n3 = n1 ∧ n4 = n1)) (w : World) : Calls Tryd.prog 9 #[.agg (wdcs f1 x1 (.slice ao n1 ac) (.slice bo n3 bc) (.slice p1 p2 p3) (.slice q1 q2 q3)), .agg (wdcs f2 x2 (.slice co n2 cc) (.slice so n4 sc') (.slice r1 r2 r3) (.slice t1 t2 t3))] w fun e w' => e = .returned (.tuple #[.slice none 0 0, .int .i64 230]) ∧ Still w w' := by
  have A0 := Still.alloc w (.cells (wdcs f1 x1 (.slice ao n1 ac) (.slice bo n3 bc) (.slice p1 p2 p3) (.slice q1 q2 q3)) 27)
  have A1 := Still.alloc (w.alloc (.cells (wdcs f1 x1 (.slice ao n1 ac) (.slice bo n3 bc) (.slice p1 p2 p3) (.slice q1 q2 q3)) 27)) (.cells (wdcs f2 x2 (.slice co n2 cc) (.slice so n4 sc') (.slice r1 r2 r3) (.slice t1 t2 t3)) 27)
  have b0 := newWd_wb (w.alloc (.cells (wdcs f1 x1 (.slice ao n1 ac) (.slice bo n3 bc) (.slice p1 p2 p3) (.slice q1 q2 q3)) 27)) f2 x2 (.slice co n2 cc) (.slice so n4 sc') (.slice r1 r2 r3) (.slice t1 t2 t3)
  rw [size_alloc] at b0
  have HS0 : Hid (Still w ((w.alloc (.cells (wdcs f1 x1 (.slice ao n1 ac) (.slice bo n3 bc) (.slice p1 p2 p3) (.slice q1 q2 q3)) 27)).alloc (.cells (wdcs f2 x2 (.slice co n2 cc) (.slice so n4 sc') (.slice r1 r2 r3) (.slice t1 t2 t3)) 27))) := hid (A0.trans A1)
  have HP0 : Hid (Wdb ((w.alloc (.cells (wdcs f1 x1 (.slice ao n1 ac) (.slice bo n3 bc) (.slice p1 p2 p3) (.slice q1 q2 q3)) 27)).alloc (.cells (wdcs f2 x2 (.slice co n2 cc) (.slice so n4 sc') (.slice r1 r2 r3) (.slice t1 t2 t3)) 27)) w.heap.size f1 x1 (.slice ao n1 ac) (.slice bo n3 bc) (.slice p1 p2 p3) (.slice q1 q2 q3)) := hid ((newWd_wb w f1 x1 (.slice ao n1 ac) (.slice bo n3 bc) (.slice p1 p2 p3) (.slice q1 q2 q3)).still A1)
  have HQ0 : Hid (Wdb ((w.alloc (.cells (wdcs f1 x1 (.slice ao n1 ac) (.slice bo n3 bc) (.slice p1 p2 p3) (.slice q1 q2 q3)) 27)).alloc (.cells (wdcs f2 x2 (.slice co n2 cc) (.slice so n4 sc') (.slice r1 r2 r3) (.slice t1 t2 t3)) 27)) (w.heap.size + 1) f2 x2 (.slice co n2 cc) (.slice so n4 sc') (.slice r1 r2 r3) (.slice t1 t2 t3)) := hid b0
  obtain ⟨W0, eW0⟩ : ∃ X, ((w.alloc (.cells (wdcs f1 x1 (.slice ao n1 ac) (.slice bo n3 bc) (.slice p1 p2 p3) (.slice q1 q2 q3)) 27)).alloc (.cells (wdcs f2 x2 (.slice co n2 cc) (.slice so n4 sc') (.slice r1 r2 r3) (.slice t1 t2 t3)) 27)) = X := ⟨_, rfl⟩
  rw [eW0] at HS0 HP0 HQ0
  obtain ⟨c0, c1, c2, c3, c4, c5, cf⟩ := HP0.out.cells
  obtain ⟨d0, d1, d2, d3, d4, d5, df⟩ := HQ0.out.cells
  clear A0 A1 b0
  by_cases h2 : n2 = n1
  · have b2 : ((n2 : Int) != (n1 : Int)) = false := by rw [h2]; simp
    by_cases h3 : n3 = n1
    · have b3 : ((n3 : Int) != (n1 : Int)) = false := by rw [h3]; simp
      have b4 : ((n4 : Int) != (n1 : Int)) = true := by simp; omega
      clear h h2 h3
      go_enter Tryd.func9, Tryd.ntmps9
      go_wp2_with fail
      go_ret2
      exact ⟨rfl, HS0.out⟩
    · have b3 : ((n3 : Int) != (n1 : Int)) = true := by simp; omega
      clear h h2 h3
      go_enter Tryd.func9, Tryd.ntmps9
      go_wp2_with fail
      go_ret2
      exact ⟨rfl, HS0.out⟩
  · have b2 : ((n2 : Int) != (n1 : Int)) = true := by simp; omega
    clear h h2
    go_enter Tryd.func9, Tryd.ntmps9
    go_wp2_with fail
    go_ret2
    exact ⟨rfl, HS0.out⟩
set_option maxHeartbeats 16000000 in
theorem vcorrect_yes (f1 x1 f2 x2 : Int) (ao bo co so p1 q1 r1 t1 : Option Addr) (ac bc cc sc' p2 p3 q2 q3 r2 r3 t2 t3 : Nat) (n : Nat) (M M' : List Mv) (C C' : List Scr) (w : World) (hM : RdG KM w ao n M) (hC : RdG KC w bo n C) (hM' : RdG KM w co n M') (hC' : RdG KC w so n C') (hi : InH M C) (hi' : InH M' C') (hb : (n + 1) * 56 ≤ 140737488355328) : Calls Tryd.prog 9 #[.agg (wdcs f1 x1 (.slice ao n ac) (.slice bo n bc) (.slice p1 p2 p3) (.slice q1 q2 q3)), .agg (wdcs f2 x2 (.slice co n cc) (.slice so n sc') (.slice r1 r2 r3) (.slice t1 t2 t3))] w fun e w' => ∃ v, e = .returned (.tuple #[v, .int .i64 0]) ∧ OwG KCr 37 w' w.heap.size v (crN M M' C C' n) ∧ Still w w' := by
  have A0 := Still.alloc w (.cells (wdcs f1 x1 (.slice ao n ac) (.slice bo n bc) (.slice p1 p2 p3) (.slice q1 q2 q3)) 27)
  have A1 := Still.alloc (w.alloc (.cells (wdcs f1 x1 (.slice ao n ac) (.slice bo n bc) (.slice p1 p2 p3) (.slice q1 q2 q3)) 27)) (.cells (wdcs f2 x2 (.slice co n cc) (.slice so n sc') (.slice r1 r2 r3) (.slice t1 t2 t3)) 27)
  have b0 := newWd_wb (w.alloc (.cells (wdcs f1 x1 (.slice ao n ac) (.slice bo n bc) (.slice p1 p2 p3) (.slice q1 q2 q3)) 27)) f2 x2 (.slice co n cc) (.slice so n sc') (.slice r1 r2 r3) (.slice t1 t2 t3)
  rw [size_alloc] at b0
  have HS0 : Hid (Still w ((w.alloc (.cells (wdcs f1 x1 (.slice ao n ac) (.slice bo n bc) (.slice p1 p2 p3) (.slice q1 q2 q3)) 27)).alloc (.cells (wdcs f2 x2 (.slice co n cc) (.slice so n sc') (.slice r1 r2 r3) (.slice t1 t2 t3)) 27))) := hid (A0.trans A1)
  have HP0 : Hid (Wdb ((w.alloc (.cells (wdcs f1 x1 (.slice ao n ac) (.slice bo n bc) (.slice p1 p2 p3) (.slice q1 q2 q3)) 27)).alloc (.cells (wdcs f2 x2 (.slice co n cc) (.slice so n sc') (.slice r1 r2 r3) (.slice t1 t2 t3)) 27)) w.heap.size f1 x1 (.slice ao n ac) (.slice bo n bc) (.slice p1 p2 p3) (.slice q1 q2 q3)) := hid ((newWd_wb w f1 x1 (.slice ao n ac) (.slice bo n bc) (.slice p1 p2 p3) (.slice q1 q2 q3)).still A1)
  have HQ0 : Hid (Wdb ((w.alloc (.cells (wdcs f1 x1 (.slice ao n ac) (.slice bo n bc) (.slice p1 p2 p3) (.slice q1 q2 q3)) 27)).alloc (.cells (wdcs f2 x2 (.slice co n cc) (.slice so n sc') (.slice r1 r2 r3) (.slice t1 t2 t3)) 27)) (w.heap.size + 1) f2 x2 (.slice co n cc) (.slice so n sc') (.slice r1 r2 r3) (.slice t1 t2 t3)) := hid b0
  obtain ⟨W0, eW0⟩ : ∃ X, ((w.alloc (.cells (wdcs f1 x1 (.slice ao n ac) (.slice bo n bc) (.slice p1 p2 p3) (.slice q1 q2 q3)) 27)).alloc (.cells (wdcs f2 x2 (.slice co n cc) (.slice so n sc') (.slice r1 r2 r3) (.slice t1 t2 t3)) 27)) = X := ⟨_, rfl⟩
  rw [eW0] at HS0 HP0 HQ0
  obtain ⟨c0, c1, c2, c3, c4, c5, cf⟩ := HP0.out.cells
  obtain ⟨d0, d1, d2, d3, d4, d5, df⟩ := HQ0.out.cells
  clear A0 A1 b0
  have HM1 := hid hM
  have HM2 := hid hM'
  have HC1 := hid hC
  have HC2 := hid hC'
  have hn47 : n ≤ 281474976710656 := hM.2.1
  have HBd := hid hb
  have HI1 := hid hi
  have HI2 := hid hi'
  clear hM hM' hC hC' hb hi hi'
  go_enter Tryd.func9, Tryd.ntmps9
  go_wp2_with fail
  clear c0 c1 c2 c3 c4 c5 cf d0 d1 d2 d3 d4 d5 df
  (try rw [eW0])
  clear eW0
  go_loopw [7, 33] (fun v u wr => ∃ i : Nat, i ≤ n ∧ u = .int .i64 (i : Int) ∧ OwG KCr 37 wr W0.heap.size v (crN M M' C C' i) ∧ Still W0 wr) (fun _ u _ => n - (intOf u).toNat)
  case atStart => exact ⟨0, by omega, rfl, OwG.nil _ _, Fr.refl _ _⟩
  case round =>
    obtain ⟨i, hi, rfl, ho, hs⟩ := hrel
    have HS := hid hs
    have HO := hid ho
    obtain ⟨lo, lcp, rfl, hlo⟩ := ho.slice
    obtain ⟨LL, eLL⟩ : ∃ m, crN M M' C C' i = m := ⟨_, rfl⟩
    have HLe : Hid (LL.length ≤ i) := hid (by rw [← eLL]; exact crN_len _ _ _ _ i)
    have HStp : Hid (crN M M' C C' (i + 1) = LL ++ (if crB (mm M i) (mm M' i) (sc C i) (sc C' i) then [crV i (mm M i) (mm M' i) (sc C i) (sc C' i)] else [])) := hid (by rw [crN, eLL])
    rw [eLL] at HO ho
    rw [eLL]
    have HEL := hid eLL
    clear eLL
    by_cases hin : i < n
    · have hlt : (i : Int) < (n : Int) := by omega
      have hr1 := HM1.out.still (HS0.out.trans hs)
      have hr2 := HM2.out.still (HS0.out.trans hs)
      have hr3 := HC1.out.still (HS0.out.trans hs)
      have hr4 := HC2.out.still (HS0.out.trans hs)
      have HCo := hid (vcorrection_any f1 x1 f2 x2 ao bo co so p1 q1 r1 t1 ac bc cc sc' p2 p3 q2 q3 r2 r3 t2 t3 n M M' C C' wr hr1 hr3 hr2 hr4 i hin)
      have HOn : Hid (oneB (crV i (mm M i) (mm M' i) (sc C i) (sc C' i)) = crB (mm M i) (mm M' i) (sc C i) (sc C' i)) := hid (one_cr (HI1.out i).1 (HI2.out i).1 (HI1.out i).2 (HI2.out i).2)
      obtain ⟨c0, c1, c2, c3, c4, c5, cf⟩ := (HP0.out.still hs).cells
      obtain ⟨d0, d1, d2, d3, d4, d5, df⟩ := (HQ0.out.still hs).cells
      obtain ⟨y, ey⟩ : ∃ y, crV i (mm M i) (mm M' i) (sc C i) (sc C' i) = y := ⟨_, rfl⟩
      obtain ⟨bo', eb⟩ : ∃ b, crB (mm M i) (mm M' i) (sc C i) (sc C' i) = b := ⟨_, rfl⟩
      rw [ey] at HCo HOn HStp
      rw [eb] at HOn HStp
      clear ey eb hr1 hr2 hr3 hr4 hs ho hlo
      go_wp2_with fail
      refine HCo.out.mono ?_
      rintro e w3 ⟨rfl, h3⟩
      have A4 := Still.alloc w3 (.cells (crcs y) 37)
      have p4 : Crb (w3.alloc (.cells (crcs y) 37)) w3.heap.size y := heap_alloc_new w3 _
      have HC4 := hid p4
      have HS4 := hid (h3.trans A4)
      have HOe := hid (visOne_any y (w3.alloc (.cells (crcs y) 37)))
      rw [HOn.out] at HOe
      obtain ⟨W4, eW4⟩ : ∃ X, w3.alloc (.cells (crcs y) 37) = X := ⟨_, rfl⟩
      rw [eW4] at HC4 HS4 HOe
      obtain ⟨e0, e1, e2, e3, e4, e5, e6, ef⟩ := HC4.out.cells
      clear h3 A4 p4 HCo HOn c0 c1 c2 c3 c4 c5 cf d0 d1 d2 d3 d4 d5 df
      go_wp2_with fail
      refine HOe.out.mono ?_
      rintro e w5 ⟨rfl, h5⟩
      have HS5 := hid (HS4.out.trans h5)
      have HC5 := hid (HC4.out.still h5)
      clear h5 HOe HS4 HC4 eW4 e0 e1 e2 e3 e4 e5 e6 ef
      obtain ⟨e0, e1, e2, e3, e4, e5, e6, ef⟩ := HC5.out.cells
      cases bo' with
      | true =>
        have A8 := Still.alloc w5 (.cells (crcs y) 37)
        have HO8 := hid (HO.out.still (HS5.out.trans A8))
        have HS8 := hid (HS.out.trans (HS5.out.trans A8))
        have HY8 : Hid ((w5.alloc (.cells (crcs y) 37)).heap[w5.heap.size]? = some (.cells (crcs y) 37 (0, 0))) := hid (heap_alloc_new w5 _)
        have HB8 : Hid (W0.heap.size ≤ (w5.alloc (.cells (crcs y) 37)).heap.size) := hid HS8.out.size
        have HL8 : Hid ((LL.length + 1) * 56 ≤ 140737488355328) := hid (Nat.le_trans (Nat.mul_le_mul_right 56 (by have := HLe.out; omega)) HBd.out)
        clear A8
        go_wp2_with (
          at_builtin
          refine wpList_appH KCr _ rfl _ _ 29 rfl Tryd.underlying29 56 infoCr W0.heap.size w5.heap.size _ LL y rfl rfl HO8.out HY8.out HL8.out (by have := HL8.out; omega) HB8.out ?_
          intro v' w' ho' hf'
          have HO9 := hid ho'
          have HF9 := hid hf'
          clear ho' hf' e0 e1 e2 e3 e4 e5 e6 ef)
        go_roundw
        case rel => exact ⟨i + 1, by omega, by go_num, by rw [HStp.out]; exact HO9.out, still_appG HS8.out HO8.out HF9.out (Nat.le_refl _)⟩
        case measure => first | (simp [intOf]; done) | (simp [intOf]; omega)
      | false =>
        clear e0 e1 e2 e3 e4 e5 e6 ef
        go_wp2_with fail
        go_roundw
        case rel => exact ⟨i + 1, by omega, by go_num, by rw [HStp.out]; simpa using HO.out.still HS5.out, HS.out.trans HS5.out⟩
        case measure => first | (simp [intOf]; done) | (simp [intOf]; omega)
    · have hge : ¬ (i : Int) < (n : Int) := by omega
      obtain rfl : i = n := by omega
      have HS7 := hid (HS0.out.trans hs)
      clear hs ho hin
      go_wp2_with fail
      go_ret2
      exact ⟨_, rfl, by rw [HEL.out]; exact HO.out.less HS0.out.size, HS7.out⟩
end Go.Proofs.YtdljmpjfiggdiaaDoor
