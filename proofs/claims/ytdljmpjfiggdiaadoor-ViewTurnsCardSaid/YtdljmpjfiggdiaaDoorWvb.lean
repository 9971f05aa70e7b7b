/- Counters in memory, and as text; the document's Print. -/
import Derived.Test.YtdljmpjfiggdiaaDoorWva
namespace Go.Proofs.YtdljmpjfiggdiaaDoor
open Go.RowKit
set_option maxRecDepth 100000

/-- counters -/
structure Ctr where
  tk : Int
  sl : Int
  sp : Int
  cp : Int
  lt : Int
  sn : Int
  gt : Int
  rf : Int
  ac : Int
/-- they are numbers of the machine -/
def Ctr.In (c : Ctr) : Prop := I64 c.tk ∧ I64 c.sl ∧ I64 c.sp ∧ I64 c.cp ∧ I64 c.lt ∧ I64 c.sn ∧ I64 c.gt ∧ I64 c.rf ∧ I64 c.ac
abbrev ctcs (c : Ctr) : Array Value := #[.int .i64 c.tk, .int .i64 c.sl, .int .i64 c.sp, .int .i64 c.cp, .int .i64 c.lt, .int .i64 c.sn, .int .i64 c.gt, .int .i64 c.rf, .int .i64 c.ac]
def Ctb (w : World) (g : Nat) (c : Ctr) : Prop := w.heap[g]? = some (.cells (ctcs c) 46 (0, 0))
theorem Ctb.still {w w' : World} {g : Nat} {c : Ctr} (h : Ctb w g c) (hs : Still w w') : Ctb w' g c := hs.kept_still h
theorem Ctb.cells {w : World} {g : Nat} {c : Ctr} (h : Ctb w g c) : w.cell? ⟨g, 0, none⟩ = some (.int .i64 c.tk) ∧ w.cell? ⟨g, 1, none⟩ = some (.int .i64 c.sl) ∧ w.cell? ⟨g, 2, none⟩ = some (.int .i64 c.sp) ∧ w.cell? ⟨g, 3, none⟩ = some (.int .i64 c.cp) ∧ w.cell? ⟨g, 4, none⟩ = some (.int .i64 c.lt) ∧ w.cell? ⟨g, 5, none⟩ = some (.int .i64 c.sn) ∧ w.cell? ⟨g, 6, none⟩ = some (.int .i64 c.gt) ∧ w.cell? ⟨g, 7, none⟩ = some (.int .i64 c.rf) ∧ w.cell? ⟨g, 8, none⟩ = some (.int .i64 c.ac) := by
  refine ⟨?_, ?_, ?_, ?_, ?_, ?_, ?_, ?_, ?_⟩ <;> (rw [cell_of_row _ _ _ _ _ _ h]; rfl)
theorem Ctb.cl {w : World} {g : Nat} {c : Ctr} (h : Ctb w g c) : (∀ z : Aft w, z.u.cell? ⟨g, 0, none⟩ = some (.int .i64 c.tk)) ∧ (∀ z : Aft w, z.u.cell? ⟨g, 1, none⟩ = some (.int .i64 c.sl)) ∧ (∀ z : Aft w, z.u.cell? ⟨g, 2, none⟩ = some (.int .i64 c.sp)) ∧ (∀ z : Aft w, z.u.cell? ⟨g, 3, none⟩ = some (.int .i64 c.cp)) ∧ (∀ z : Aft w, z.u.cell? ⟨g, 4, none⟩ = some (.int .i64 c.lt)) ∧ (∀ z : Aft w, z.u.cell? ⟨g, 5, none⟩ = some (.int .i64 c.sn)) ∧ (∀ z : Aft w, z.u.cell? ⟨g, 6, none⟩ = some (.int .i64 c.gt)) ∧ (∀ z : Aft w, z.u.cell? ⟨g, 7, none⟩ = some (.int .i64 c.rf)) ∧ (∀ z : Aft w, z.u.cell? ⟨g, 8, none⟩ = some (.int .i64 c.ac)) := by
  obtain ⟨c0, c1, c2, c3, c4, c5, c6, c7, c8⟩ := h.cells
  exact ⟨Cl.cell c0, Cl.cell c1, Cl.cell c2, Cl.cell c3, Cl.cell c4, Cl.cell c5, Cl.cell c6, Cl.cell c7, Cl.cell c8⟩
/-- counters as text -/
def prS (c : Ctr) : ByteArray := (((((((((((((((((⟨#[116, 105, 99, 107, 115, 32]⟩ ++ itS c.tk : ByteArray) ++ ⟨#[32, 115, 116, 97, 108, 108, 115, 32]⟩) ++ itS c.sl) ++ ⟨#[32, 115, 116, 101, 112, 115, 32]⟩) ++ itS c.sp) ++ ⟨#[32, 99, 111, 112, 105, 101, 115, 32]⟩) ++ itS c.cp) ++ ⟨#[32, 108, 97, 116, 101, 32]⟩) ++ itS c.lt) ++ ⟨#[32, 115, 101, 110, 116, 32]⟩) ++ itS c.sn) ++ ⟨#[32, 103, 111, 116, 32]⟩) ++ itS c.gt) ++ ⟨#[32, 114, 101, 102, 117, 115, 101, 100, 32]⟩) ++ itS c.rf) ++ ⟨#[32, 97, 99, 99, 101, 112, 116, 101, 100, 32]⟩) ++ itS c.ac)
set_option maxHeartbeats 4000000 in
theorem rprint23_any (c : Ctr) (hc : c.In) (w : World) (ht : PTabV w) : Calls Tryd.prog 17 #[.agg (ctcs c)] w fun e w' => e = .returned (.string (prS c)) ∧ Still w w' := by
  have HI := hid (fun n (hn : I64 n) u (hu : Still w u) => itoaV_any n hn u (ht.still hu))
  have A0 := Still.alloc w (.cells (ctcs c) 46)
  have p0 : Ctb (w.alloc (.cells (ctcs c) 46)) w.heap.size c := heap_alloc_new w _
  have HS0 := hid A0
  have HP0 := hid p0
  have HC := hid hc
  obtain ⟨W0, eW0⟩ : ∃ X, w.alloc (.cells (ctcs c) 46) = X := ⟨_, rfl⟩
  rw [eW0] at HS0 HP0
  have HZ : Hid (prS c = (((((((((((((((((⟨#[116, 105, 99, 107, 115, 32]⟩ ++ itS c.tk : ByteArray) ++ ⟨#[32, 115, 116, 97, 108, 108, 115, 32]⟩) ++ itS c.sl) ++ ⟨#[32, 115, 116, 101, 112, 115, 32]⟩) ++ itS c.sp) ++ ⟨#[32, 99, 111, 112, 105, 101, 115, 32]⟩) ++ itS c.cp) ++ ⟨#[32, 108, 97, 116, 101, 32]⟩) ++ itS c.lt) ++ ⟨#[32, 115, 101, 110, 116, 32]⟩) ++ itS c.sn) ++ ⟨#[32, 103, 111, 116, 32]⟩) ++ itS c.gt) ++ ⟨#[32, 114, 101, 102, 117, 115, 101, 100, 32]⟩) ++ itS c.rf) ++ ⟨#[32, 97, 99, 99, 101, 112, 116, 101, 100, 32]⟩) ++ itS c.ac)) := hid rfl
  obtain ⟨PS, eS⟩ : ∃ x, prS c = x := ⟨_, rfl⟩
  rw [eS] at HZ ⊢
  have X0 := itS_sz HC.out.1
  have X1 := itS_sz HC.out.2.1
  have X2 := itS_sz HC.out.2.2.1
  have X3 := itS_sz HC.out.2.2.2.1
  have X4 := itS_sz HC.out.2.2.2.2.1
  have X5 := itS_sz HC.out.2.2.2.2.2.1
  have X6 := itS_sz HC.out.2.2.2.2.2.2.1
  have X7 := itS_sz HC.out.2.2.2.2.2.2.2.1
  have X8 := itS_sz HC.out.2.2.2.2.2.2.2.2
  obtain ⟨x0, ex0⟩ : ∃ x, itS c.tk = x := ⟨_, rfl⟩
  obtain ⟨x1, ex1⟩ : ∃ x, itS c.sl = x := ⟨_, rfl⟩
  obtain ⟨x2, ex2⟩ : ∃ x, itS c.sp = x := ⟨_, rfl⟩
  obtain ⟨x3, ex3⟩ : ∃ x, itS c.cp = x := ⟨_, rfl⟩
  obtain ⟨x4, ex4⟩ : ∃ x, itS c.lt = x := ⟨_, rfl⟩
  obtain ⟨x5, ex5⟩ : ∃ x, itS c.sn = x := ⟨_, rfl⟩
  obtain ⟨x6, ex6⟩ : ∃ x, itS c.gt = x := ⟨_, rfl⟩
  obtain ⟨x7, ex7⟩ : ∃ x, itS c.rf = x := ⟨_, rfl⟩
  obtain ⟨x8, ex8⟩ : ∃ x, itS c.ac = x := ⟨_, rfl⟩
  have H0 := hid (fun u (hu : Still w u) => HI.out c.tk HC.out.1 u hu)
  have H1 := hid (fun u (hu : Still w u) => HI.out c.sl HC.out.2.1 u hu)
  have H2 := hid (fun u (hu : Still w u) => HI.out c.sp HC.out.2.2.1 u hu)
  have H3 := hid (fun u (hu : Still w u) => HI.out c.cp HC.out.2.2.2.1 u hu)
  have H4 := hid (fun u (hu : Still w u) => HI.out c.lt HC.out.2.2.2.2.1 u hu)
  have H5 := hid (fun u (hu : Still w u) => HI.out c.sn HC.out.2.2.2.2.2.1 u hu)
  have H6 := hid (fun u (hu : Still w u) => HI.out c.gt HC.out.2.2.2.2.2.2.1 u hu)
  have H7 := hid (fun u (hu : Still w u) => HI.out c.rf HC.out.2.2.2.2.2.2.2.1 u hu)
  have H8 := hid (fun u (hu : Still w u) => HI.out c.ac HC.out.2.2.2.2.2.2.2.2 u hu)
  rw [ex0] at H0 X0 HZ
  rw [ex1] at H1 X1 HZ
  rw [ex2] at H2 X2 HZ
  rw [ex3] at H3 X3 HZ
  rw [ex4] at H4 X4 HZ
  rw [ex5] at H5 X5 HZ
  rw [ex6] at H6 X6 HZ
  rw [ex7] at H7 X7 HZ
  rw [ex8] at H8 X8 HZ
  obtain ⟨y1, f1, z1, s1⟩ := cat_ex (a := ⟨#[116, 105, 99, 107, 115, 32]⟩) (b := x0) (m := 6) (n := 21) (by decide) X0 (by decide)
  obtain ⟨y2, f2, z2, s2⟩ := cat_ex (a := y1) (b := ⟨#[32, 115, 116, 97, 108, 108, 115, 32]⟩) (m := 27) (n := 8) z1 (by decide) (by decide)
  obtain ⟨y3, f3, z3, s3⟩ := cat_ex (a := y2) (b := x1) (m := 35) (n := 21) z2 X1 (by decide)
  obtain ⟨y4, f4, z4, s4⟩ := cat_ex (a := y3) (b := ⟨#[32, 115, 116, 101, 112, 115, 32]⟩) (m := 56) (n := 7) z3 (by decide) (by decide)
  obtain ⟨y5, f5, z5, s5⟩ := cat_ex (a := y4) (b := x2) (m := 63) (n := 21) z4 X2 (by decide)
  obtain ⟨y6, f6, z6, s6⟩ := cat_ex (a := y5) (b := ⟨#[32, 99, 111, 112, 105, 101, 115, 32]⟩) (m := 84) (n := 8) z5 (by decide) (by decide)
  obtain ⟨y7, f7, z7, s7⟩ := cat_ex (a := y6) (b := x3) (m := 92) (n := 21) z6 X3 (by decide)
  obtain ⟨y8, f8, z8, s8⟩ := cat_ex (a := y7) (b := ⟨#[32, 108, 97, 116, 101, 32]⟩) (m := 113) (n := 6) z7 (by decide) (by decide)
  obtain ⟨y9, f9, z9, s9⟩ := cat_ex (a := y8) (b := x4) (m := 119) (n := 21) z8 X4 (by decide)
  obtain ⟨y10, f10, z10, s10⟩ := cat_ex (a := y9) (b := ⟨#[32, 115, 101, 110, 116, 32]⟩) (m := 140) (n := 6) z9 (by decide) (by decide)
  obtain ⟨y11, f11, z11, s11⟩ := cat_ex (a := y10) (b := x5) (m := 146) (n := 21) z10 X5 (by decide)
  obtain ⟨y12, f12, z12, s12⟩ := cat_ex (a := y11) (b := ⟨#[32, 103, 111, 116, 32]⟩) (m := 167) (n := 5) z11 (by decide) (by decide)
  obtain ⟨y13, f13, z13, s13⟩ := cat_ex (a := y12) (b := x6) (m := 172) (n := 21) z12 X6 (by decide)
  obtain ⟨y14, f14, z14, s14⟩ := cat_ex (a := y13) (b := ⟨#[32, 114, 101, 102, 117, 115, 101, 100, 32]⟩) (m := 193) (n := 9) z13 (by decide) (by decide)
  obtain ⟨y15, f15, z15, s15⟩ := cat_ex (a := y14) (b := x7) (m := 202) (n := 21) z14 X7 (by decide)
  obtain ⟨y16, f16, z16, s16⟩ := cat_ex (a := y15) (b := ⟨#[32, 97, 99, 99, 101, 112, 116, 101, 100, 32]⟩) (m := 223) (n := 10) z15 (by decide) (by decide)
  obtain ⟨y17, f17, z17, s17⟩ := cat_ex (a := y16) (b := x8) (m := 233) (n := 21) z16 X8 (by decide)
  have HPS : Hid (PS = y17) := hid (by rw [HZ.out, f1, f2, f3, f4, f5, f6, f7, f8, f9, f10, f11, f12, f13, f14, f15, f16, f17])
  clear A0 p0 hc HI HC eS HZ ex0 X0 ex1 X1 ex2 X2 ex3 X3 ex4 X4 ex5 X5 ex6 X6 ex7 X7 ex8 X8 f1 z1 f2 z2 f3 z3 f4 z4 f5 z5 f6 z6 f7 z7 f8 z8 f9 z9 f10 z10 f11 z11 f12 z12 f13 z13 f14 z14 f15 z15 f16 z16 f17 z17
  go_enter Tryd.func17, Tryd.ntmps17
  go_upto_region 1 with fail
  clear eW0
  obtain ⟨k0, k1, k2, k3, k4, k5, k6, k7, k8⟩ := HP0.out.cl
  have hne := Aft.here W0
  have G0 := hid (fun z : Aft W0 => H0.out z.u (HS0.out.trans z.s))
  have G1 := hid (fun z : Aft W0 => H1.out z.u (HS0.out.trans z.s))
  have G2 := hid (fun z : Aft W0 => H2.out z.u (HS0.out.trans z.s))
  refine region_all (by kernel_rfl) (by kernel_rfl) ?_
  repeat (go_big_quiet_step ((first | (go_at_call 25; with_reducible exact Calls.cl (G0.out _)) | (go_at_call 25; with_reducible exact Calls.cl (G1.out _)) | (go_at_call 25; with_reducible exact Calls.cl (G2.out _)))))
  refine wpQuiet_nil ?_
  intro W1 h1
  have HS1 := hid (HS0.out.trans h1)
  have HP1 := hid (HP0.out.still h1)
  clear h1 hne k0 k1 k2 k3 k4 k5 k6 k7 k8 G0 G1 G2 HS0 HP0
  go_upto_region 2 with fail
  obtain ⟨k0, k1, k2, k3, k4, k5, k6, k7, k8⟩ := HP1.out.cl
  have hne := Aft.here W1
  have G3 := hid (fun z : Aft W1 => H3.out z.u (HS1.out.trans z.s))
  have G4 := hid (fun z : Aft W1 => H4.out z.u (HS1.out.trans z.s))
  have G5 := hid (fun z : Aft W1 => H5.out z.u (HS1.out.trans z.s))
  refine region_all (by kernel_rfl) (by kernel_rfl) ?_
  repeat (go_big_quiet_step ((first | (go_at_call 25; with_reducible exact Calls.cl (G3.out _)) | (go_at_call 25; with_reducible exact Calls.cl (G4.out _)) | (go_at_call 25; with_reducible exact Calls.cl (G5.out _)))))
  refine wpQuiet_nil ?_
  intro W2 h2
  have HS2 := hid (HS1.out.trans h2)
  have HP2 := hid (HP1.out.still h2)
  clear h2 hne k0 k1 k2 k3 k4 k5 k6 k7 k8 G3 G4 G5 HS1 HP1
  go_upto_region 3 with fail
  obtain ⟨k0, k1, k2, k3, k4, k5, k6, k7, k8⟩ := HP2.out.cl
  have hne := Aft.here W2
  have G6 := hid (fun z : Aft W2 => H6.out z.u (HS2.out.trans z.s))
  have G7 := hid (fun z : Aft W2 => H7.out z.u (HS2.out.trans z.s))
  have G8 := hid (fun z : Aft W2 => H8.out z.u (HS2.out.trans z.s))
  refine region_all (by kernel_rfl) (by kernel_rfl) ?_
  repeat (go_big_quiet_step ((first | (go_at_call 25; with_reducible exact Calls.cl (G6.out _)) | (go_at_call 25; with_reducible exact Calls.cl (G7.out _)) | (go_at_call 25; with_reducible exact Calls.cl (G8.out _)))))
  refine wpQuiet_nil ?_
  intro W3 h3
  have HS3 := hid (HS2.out.trans h3)
  have HP3 := hid (HP2.out.still h3)
  clear h3 hne k0 k1 k2 k3 k4 k5 k6 k7 k8 G6 G7 G8 HS2 HP2
  go_wp2_with fail
  go_ret
  rw [HPS.out]
  exact ⟨rfl, HS3.out⟩
end Go.Proofs.YtdljmpjfiggdiaaDoor
