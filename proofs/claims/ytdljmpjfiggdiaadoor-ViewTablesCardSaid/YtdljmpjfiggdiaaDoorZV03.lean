/- Parts of the proof, laid end to end. -/
import Derived.Test.YtdljmpjfiggdiaaDoorZV01
import Derived.Test.YtdljmpjfiggdiaaDoorZV02
import Derived.Lib.AppendIntMem
import Derived.Lib.LaidTab
import Derived.Lib.ItoaLen
import Derived.Deep.DeepCutAuto
namespace Go.Proofs.YtdljmpjfiggdiaaDoor
open Go.RowKit
set_option maxRecDepth 100000
theorem still_of_belowV {w w' : World} (h : Below w.heap.size w w') : Still w w' := ⟨h.os, h.tape, h.output, h.size, fun k hk _ => h.block k hk⟩
def PTabV (w : World) : Prop := Lib.TabIs Tryd.prog w "internal/strconv.uint64pow10" .u64 Lib.pow10Tab
theorem PTabV.still {w w' : World} (h : PTabV w) (hs : Still w w') : PTabV w' := (Lib.tabBelow_of_tabIs h) w' hs.below
def I64 (n : Int) : Prop := -9223372036854775808 <= n /\ n <= 9223372036854775807
def itS (n : Int) : ByteArray := ⟨(Lib.itoa n).toArray⟩
theorem itS_sz {n : Int} (h : I64 n) : (itS n).size <= 21 := by
 have := Lib.itoa_length_le n h.1 h.2
 simpa [itS, ByteArray.size] using this
theorem itoaV_any (n : Int) (h : I64 n) (w : World) (ht : PTabV w) : Calls Tryd.prog 25 #[.int .i64 n] w fun e w' => e = .returned (.string (itS n)) /\ Still w w' := by
 refine (Tryd.strconv_Itoa n h.1 h.2 w ht).mono ?_
 rintro e w' ⟨rfl, k, os, rfl⟩
 exact ⟨rfl, still_of_belowV (Lib.below_grow _ _ (Nat.le_refl _) _ _)⟩
theorem cat_ex {a b : ByteArray} {m n : Nat} (ha : a.size <= m) (hb : b.size <= n) (h : m + n <= 9223372036854775807) : ∃ y, a ++ b = y /\ y.size <= m + n /\ Op.stringOp .add a b = pure (.string y) := by
 refine ⟨_, rfl, by rw [ByteArray.size_append]; omega, ?_⟩
 unfold Op.stringOp
 simp only
 rw [if_neg]
 show ¬ ((a.size + b.size : Nat) : Int) > 9223372036854775807
 omega
end Go.Proofs.YtdljmpjfiggdiaaDoor
namespace Go.Proofs.YtdljmpjfiggdiaaDoor
open Go.RowKit
set_option maxRecDepth 100000
structure Ctr where
 tk : Int
 sl : Int
 sp : Int
 cp : Int
 lt : Int
 sn : Int
 gt : Int
 rf : Int
 ac : Int
def Ctr.In (c : Ctr) : Prop := I64 c.tk /\ I64 c.sl /\ I64 c.sp /\ I64 c.cp /\ I64 c.lt /\ I64 c.sn /\ I64 c.gt /\ I64 c.rf /\ I64 c.ac
abbrev ctcs (c : Ctr) : Array Value := #[.int .i64 c.tk, .int .i64 c.sl, .int .i64 c.sp, .int .i64 c.cp, .int .i64 c.lt, .int .i64 c.sn, .int .i64 c.gt, .int .i64 c.rf, .int .i64 c.ac]
def Ctb (w : World) (g : Nat) (c : Ctr) : Prop := w.heap[g]? = some (.cells (ctcs c) 46 (0, 0))
theorem Ctb.still {w w' : World} {g : Nat} {c : Ctr} (h : Ctb w g c) (hs : Still w w') : Ctb w' g c := hs.kept_still h
theorem Ctb.cells {w : World} {g : Nat} {c : Ctr} (h : Ctb w g c) : w.cell? ⟨g, 0, none⟩ = some (.int .i64 c.tk) /\ w.cell? ⟨g, 1, none⟩ = some (.int .i64 c.sl) /\ w.cell? ⟨g, 2, none⟩ = some (.int .i64 c.sp) /\ w.cell? ⟨g, 3, none⟩ = some (.int .i64 c.cp) /\ w.cell? ⟨g, 4, none⟩ = some (.int .i64 c.lt) /\ w.cell? ⟨g, 5, none⟩ = some (.int .i64 c.sn) /\ w.cell? ⟨g, 6, none⟩ = some (.int .i64 c.gt) /\ w.cell? ⟨g, 7, none⟩ = some (.int .i64 c.rf) /\ w.cell? ⟨g, 8, none⟩ = some (.int .i64 c.ac) := by
 refine ⟨?_, ?_, ?_, ?_, ?_, ?_, ?_, ?_, ?_⟩ <;> (rw [cell_of_row _ _ _ _ _ _ h]; rfl)
theorem Ctb.cl {w : World} {g : Nat} {c : Ctr} (h : Ctb w g c) : (∀ z : Aft w, z.u.cell? ⟨g, 0, none⟩ = some (.int .i64 c.tk)) /\ (∀ z : Aft w, z.u.cell? ⟨g, 1, none⟩ = some (.int .i64 c.sl)) /\ (∀ z : Aft w, z.u.cell? ⟨g, 2, none⟩ = some (.int .i64 c.sp)) /\ (∀ z : Aft w, z.u.cell? ⟨g, 3, none⟩ = some (.int .i64 c.cp)) /\ (∀ z : Aft w, z.u.cell? ⟨g, 4, none⟩ = some (.int .i64 c.lt)) /\ (∀ z : Aft w, z.u.cell? ⟨g, 5, none⟩ = some (.int .i64 c.sn)) /\ (∀ z : Aft w, z.u.cell? ⟨g, 6, none⟩ = some (.int .i64 c.gt)) /\ (∀ z : Aft w, z.u.cell? ⟨g, 7, none⟩ = some (.int .i64 c.rf)) /\ (∀ z : Aft w, z.u.cell? ⟨g, 8, none⟩ = some (.int .i64 c.ac)) := by
 obtain ⟨c0, c1, c2, c3, c4, c5, c6, c7, c8⟩ := h.cells
 exact ⟨Cl.cell c0, Cl.cell c1, Cl.cell c2, Cl.cell c3, Cl.cell c4, Cl.cell c5, Cl.cell c6, Cl.cell c7, Cl.cell c8⟩
def prS (c : Ctr) : ByteArray := (((((((((((((((((⟨#[116, 105, 99, 107, 115, 32]⟩ ++ itS c.tk : ByteArray) ++ ⟨#[32, 115, 116, 97, 108, 108, 115, 32]⟩) ++ itS c.sl) ++ ⟨#[32, 115, 116, 101, 112, 115, 32]⟩) ++ itS c.sp) ++ ⟨#[32, 99, 111, 112, 105, 101, 115, 32]⟩) ++ itS c.cp) ++ ⟨#[32, 108, 97, 116, 101, 32]⟩) ++ itS c.lt) ++ ⟨#[32, 115, 101, 110, 116, 32]⟩) ++ itS c.sn) ++ ⟨#[32, 103, 111, 116, 32]⟩) ++ itS c.gt) ++ ⟨#[32, 114, 101, 102, 117, 115, 101, 100, 32]⟩) ++ itS c.rf) ++ ⟨#[32, 97, 99, 99, 101, 112, 116, 101, 100, 32]⟩) ++ itS c.ac)
set_option maxHeartbeats 4000000 in
theorem rprint23_any (c : Ctr) (hc : c.In) (w : World) (ht : PTabV w) : Calls Tryd.prog 17 #[.agg (ctcs c)] w fun e w' => e = .returned (.string (prS c)) /\ Still w w' := by
 have HI := hid (fun n (hn : I64 n) u (hu : Still w u) => itoaV_any n hn u (ht.still hu))
 have A0 := Still.alloc w (.cells (ctcs c) 46)
 have p0 : Ctb (w.alloc (.cells (ctcs c) 46)) w.heap.size c := heap_alloc_new w _
 have HS0 := hid A0
 have HP0 := hid p0
 have HC := hid hc
 obtain ⟨W0, eW0⟩ : ∃ X, w.alloc (.cells (ctcs c) 46) = X := ⟨_, rfl⟩
 rw [eW0] at HS0 HP0
 have HZ : Hid (prS c = (((((((((((((((((⟨#[116, 105, 99, 107, 115, 32]⟩ ++ itS c.tk : ByteArray) ++ ⟨#[32, 115, 116, 97, 108, 108, 115, 32]⟩) ++ itS c.sl) ++ ⟨#[32, 115, 116, 101, 112, 115, 32]⟩) ++ itS c.sp) ++ ⟨#[32, 99, 111, 112, 105, 101, 115, 32]⟩) ++ itS c.cp) ++ ⟨#[32, 108, 97, 116, 101, 32]⟩) ++ itS c.lt) ++ ⟨#[32, 115, 101, 110, 116, 32]⟩) ++ itS c.sn) ++ ⟨#[32, 103, 111, 116, 32]⟩) ++ itS c.gt) ++ ⟨#[32, 114, 101, 102, 117, 115, 101, 100, 32]⟩) ++ itS c.rf) ++ ⟨#[32, 97, 99, 99, 101, 112, 116, 101, 100, 32]⟩) ++ itS c.ac)) := hid rfl
 obtain ⟨PS, eS⟩ : ∃ x, prS c = x := ⟨_, rfl⟩
 rw [eS] at HZ ⊢
 have X0 := itS_sz HC.out.1
 have X1 := itS_sz HC.out.2.1
 have X2 := itS_sz HC.out.2.2.1
 have X3 := itS_sz HC.out.2.2.2.1
 have X4 := itS_sz HC.out.2.2.2.2.1
 have X5 := itS_sz HC.out.2.2.2.2.2.1
 have X6 := itS_sz HC.out.2.2.2.2.2.2.1
 have X7 := itS_sz HC.out.2.2.2.2.2.2.2.1
 have X8 := itS_sz HC.out.2.2.2.2.2.2.2.2
 obtain ⟨x0, ex0⟩ : ∃ x, itS c.tk = x := ⟨_, rfl⟩
 obtain ⟨x1, ex1⟩ : ∃ x, itS c.sl = x := ⟨_, rfl⟩
 obtain ⟨x2, ex2⟩ : ∃ x, itS c.sp = x := ⟨_, rfl⟩
 obtain ⟨x3, ex3⟩ : ∃ x, itS c.cp = x := ⟨_, rfl⟩
 obtain ⟨x4, ex4⟩ : ∃ x, itS c.lt = x := ⟨_, rfl⟩
 obtain ⟨x5, ex5⟩ : ∃ x, itS c.sn = x := ⟨_, rfl⟩
 obtain ⟨x6, ex6⟩ : ∃ x, itS c.gt = x := ⟨_, rfl⟩
 obtain ⟨x7, ex7⟩ : ∃ x, itS c.rf = x := ⟨_, rfl⟩
 obtain ⟨x8, ex8⟩ : ∃ x, itS c.ac = x := ⟨_, rfl⟩
 have H0 := hid (fun u (hu : Still w u) => HI.out c.tk HC.out.1 u hu)
 have H1 := hid (fun u (hu : Still w u) => HI.out c.sl HC.out.2.1 u hu)
 have H2 := hid (fun u (hu : Still w u) => HI.out c.sp HC.out.2.2.1 u hu)
 have H3 := hid (fun u (hu : Still w u) => HI.out c.cp HC.out.2.2.2.1 u hu)
 have H4 := hid (fun u (hu : Still w u) => HI.out c.lt HC.out.2.2.2.2.1 u hu)
 have H5 := hid (fun u (hu : Still w u) => HI.out c.sn HC.out.2.2.2.2.2.1 u hu)
 have H6 := hid (fun u (hu : Still w u) => HI.out c.gt HC.out.2.2.2.2.2.2.1 u hu)
 have H7 := hid (fun u (hu : Still w u) => HI.out c.rf HC.out.2.2.2.2.2.2.2.1 u hu)
 have H8 := hid (fun u (hu : Still w u) => HI.out c.ac HC.out.2.2.2.2.2.2.2.2 u hu)
 rw [ex0] at H0 X0 HZ
 rw [ex1] at H1 X1 HZ
 rw [ex2] at H2 X2 HZ
 rw [ex3] at H3 X3 HZ
 rw [ex4] at H4 X4 HZ
 rw [ex5] at H5 X5 HZ
 rw [ex6] at H6 X6 HZ
 rw [ex7] at H7 X7 HZ
 rw [ex8] at H8 X8 HZ
 obtain ⟨y1, f1, z1, s1⟩ := cat_ex (a := ⟨#[116, 105, 99, 107, 115, 32]⟩) (b := x0) (m := 6) (n := 21) (by decide) X0 (by decide)
 obtain ⟨y2, f2, z2, s2⟩ := cat_ex (a := y1) (b := ⟨#[32, 115, 116, 97, 108, 108, 115, 32]⟩) (m := 27) (n := 8) z1 (by decide) (by decide)
 obtain ⟨y3, f3, z3, s3⟩ := cat_ex (a := y2) (b := x1) (m := 35) (n := 21) z2 X1 (by decide)
 obtain ⟨y4, f4, z4, s4⟩ := cat_ex (a := y3) (b := ⟨#[32, 115, 116, 101, 112, 115, 32]⟩) (m := 56) (n := 7) z3 (by decide) (by decide)
 obtain ⟨y5, f5, z5, s5⟩ := cat_ex (a := y4) (b := x2) (m := 63) (n := 21) z4 X2 (by decide)
 obtain ⟨y6, f6, z6, s6⟩ := cat_ex (a := y5) (b := ⟨#[32, 99, 111, 112, 105, 101, 115, 32]⟩) (m := 84) (n := 8) z5 (by decide) (by decide)
 obtain ⟨y7, f7, z7, s7⟩ := cat_ex (a := y6) (b := x3) (m := 92) (n := 21) z6 X3 (by decide)
 obtain ⟨y8, f8, z8, s8⟩ := cat_ex (a := y7) (b := ⟨#[32, 108, 97, 116, 101, 32]⟩) (m := 113) (n := 6) z7 (by decide) (by decide)
 obtain ⟨y9, f9, z9, s9⟩ := cat_ex (a := y8) (b := x4) (m := 119) (n := 21) z8 X4 (by decide)
 obtain ⟨y10, f10, z10, s10⟩ := cat_ex (a := y9) (b := ⟨#[32, 115, 101, 110, 116, 32]⟩) (m := 140) (n := 6) z9 (by decide) (by decide)
 obtain ⟨y11, f11, z11, s11⟩ := cat_ex (a := y10) (b := x5) (m := 146) (n := 21) z10 X5 (by decide)
 obtain ⟨y12, f12, z12, s12⟩ := cat_ex (a := y11) (b := ⟨#[32, 103, 111, 116, 32]⟩) (m := 167) (n := 5) z11 (by decide) (by decide)
 obtain ⟨y13, f13, z13, s13⟩ := cat_ex (a := y12) (b := x6) (m := 172) (n := 21) z12 X6 (by decide)
 obtain ⟨y14, f14, z14, s14⟩ := cat_ex (a := y13) (b := ⟨#[32, 114, 101, 102, 117, 115, 101, 100, 32]⟩) (m := 193) (n := 9) z13 (by decide) (by decide)
 obtain ⟨y15, f15, z15, s15⟩ := cat_ex (a := y14) (b := x7) (m := 202) (n := 21) z14 X7 (by decide)
 obtain ⟨y16, f16, z16, s16⟩ := cat_ex (a := y15) (b := ⟨#[32, 97, 99, 99, 101, 112, 116, 101, 100, 32]⟩) (m := 223) (n := 10) z15 (by decide) (by decide)
 obtain ⟨y17, f17, z17, s17⟩ := cat_ex (a := y16) (b := x8) (m := 233) (n := 21) z16 X8 (by decide)
 have HPS : Hid (PS = y17) := hid (by rw [HZ.out, f1, f2, f3, f4, f5, f6, f7, f8, f9, f10, f11, f12, f13, f14, f15, f16, f17])
 clear A0 p0 hc HI HC eS HZ ex0 X0 ex1 X1 ex2 X2 ex3 X3 ex4 X4 ex5 X5 ex6 X6 ex7 X7 ex8 X8 f1 z1 f2 z2 f3 z3 f4 z4 f5 z5 f6 z6 f7 z7 f8 z8 f9 z9 f10 z10 f11 z11 f12 z12 f13 z13 f14 z14 f15 z15 f16 z16 f17 z17
 go_enter Tryd.func17, Tryd.ntmps17
 go_upto_region 1 with fail
 clear eW0
 obtain ⟨k0, k1, k2, k3, k4, k5, k6, k7, k8⟩ := HP0.out.cl
 have hne := Aft.here W0
 have G0 := hid (fun z : Aft W0 => H0.out z.u (HS0.out.trans z.s))
 have G1 := hid (fun z : Aft W0 => H1.out z.u (HS0.out.trans z.s))
 have G2 := hid (fun z : Aft W0 => H2.out z.u (HS0.out.trans z.s))
 refine region_all (by kernel_rfl) (by kernel_rfl) ?_
 repeat (go_big_quiet_step ((first | (go_at_call 25; with_reducible exact Calls.cl (G0.out _)) | (go_at_call 25; with_reducible exact Calls.cl (G1.out _)) | (go_at_call 25; with_reducible exact Calls.cl (G2.out _)))))
 refine wpQuiet_nil ?_
 intro W1 h1
 have HS1 := hid (HS0.out.trans h1)
 have HP1 := hid (HP0.out.still h1)
 clear h1 hne k0 k1 k2 k3 k4 k5 k6 k7 k8 G0 G1 G2 HS0 HP0
 go_upto_region 2 with fail
 obtain ⟨k0, k1, k2, k3, k4, k5, k6, k7, k8⟩ := HP1.out.cl
 have hne := Aft.here W1
 have G3 := hid (fun z : Aft W1 => H3.out z.u (HS1.out.trans z.s))
 have G4 := hid (fun z : Aft W1 => H4.out z.u (HS1.out.trans z.s))
 have G5 := hid (fun z : Aft W1 => H5.out z.u (HS1.out.trans z.s))
 refine region_all (by kernel_rfl) (by kernel_rfl) ?_
 repeat (go_big_quiet_step ((first | (go_at_call 25; with_reducible exact Calls.cl (G3.out _)) | (go_at_call 25; with_reducible exact Calls.cl (G4.out _)) | (go_at_call 25; with_reducible exact Calls.cl (G5.out _)))))
 refine wpQuiet_nil ?_
 intro W2 h2
 have HS2 := hid (HS1.out.trans h2)
 have HP2 := hid (HP1.out.still h2)
 clear h2 hne k0 k1 k2 k3 k4 k5 k6 k7 k8 G3 G4 G5 HS1 HP1
 go_upto_region 3 with fail
 obtain ⟨k0, k1, k2, k3, k4, k5, k6, k7, k8⟩ := HP2.out.cl
 have hne := Aft.here W2
 have G6 := hid (fun z : Aft W2 => H6.out z.u (HS2.out.trans z.s))
 have G7 := hid (fun z : Aft W2 => H7.out z.u (HS2.out.trans z.s))
 have G8 := hid (fun z : Aft W2 => H8.out z.u (HS2.out.trans z.s))
 refine region_all (by kernel_rfl) (by kernel_rfl) ?_
 repeat (go_big_quiet_step ((first | (go_at_call 25; with_reducible exact Calls.cl (G6.out _)) | (go_at_call 25; with_reducible exact Calls.cl (G7.out _)) | (go_at_call 25; with_reducible exact Calls.cl (G8.out _)))))
 refine wpQuiet_nil ?_
 intro W3 h3
 have HS3 := hid (HS2.out.trans h3)
 have HP3 := hid (HP2.out.still h3)
 clear h3 hne k0 k1 k2 k3 k4 k5 k6 k7 k8 G6 G7 G8 HS2 HP2
 go_wp2_with fail
 go_ret
 rw [HPS.out]
 exact ⟨rfl, HS3.out⟩
end Go.Proofs.YtdljmpjfiggdiaaDoor
namespace Go.Proofs.YtdljmpjfiggdiaaDoor
open Go.RowKit
set_option maxRecDepth 100000
def ltS (s : Nat) : ByteArray := ⟨#[UInt8.ofNat (65 + s)]⟩
def seatB (n : Int) : Bool := decide (0 <= n /\ n <= 5)
def kindB (n : Int) : Bool := decide (1 <= n /\ n <= 3)
def thgS (n : Int) : ByteArray := if n = 1 then ⟨#[104, 101, 97, 108]⟩ else if n = 2 then ⟨#[99, 104, 97, 114, 103, 101]⟩ else ⟨#[112, 114, 105, 122, 101]⟩
theorem ltS_sz (s : Nat) : (ltS s).size <= 1 := Nat.le_refl 1
theorem thgS_sz (n : Int) : (thgS n).size <= 6 := by
 unfold thgS
 split
 ·decide
 ·split <;> decide
theorem seatB_iff {n : Int} : seatB n = true ↔ 0 <= n /\ n <= 5 := decide_eq_true_iff
theorem kindB_iff {n : Int} : kindB n = true ↔ 1 <= n /\ n <= 3 := decide_eq_true_iff
theorem rletter_any (n : Int) (h : seatB n = true) (w : World) : Calls Tryd.prog 29 #[.int .i64 n] w fun e w' => e = .returned (.string (ltS n.toNat)) /\ Still w w' := by
 have h1 := seatB_iff.1 h
 obtain ⟨k, rfl⟩ : ∃ k : Nat, n = (k : Int) := ⟨n.toNat, by omega⟩
 have hk : k < 6 := by omega
 clear h h1
 match k, hk with
 | 0, _ | 1, _ | 2, _ | 3, _ | 4, _ | 5, _ =>
  go_enter Tryd.func29, Tryd.ntmps29
  go_wp2_with fail
  go_ret
  exact ⟨rfl, Fr.refl _ _⟩
theorem rseat_any (n : Int) (w : World) : Calls Tryd.prog 44 #[.int .i64 n] w fun e w' => e = .returned (.bool (seatB n)) /\ w' = w := by
 by_cases h1 : 0 <= n
 ·by_cases h2 : n <= 5
  ·have e : seatB n = true := seatB_iff.2 ⟨h1, h2⟩
   go_enter Tryd.func44, Tryd.ntmps44
   go_wp2_with fail
   go_ret
   exact ⟨by first | rfl | (rw [e]; rfl), rfl⟩
  ·have e : seatB n = false := by unfold seatB; simp; omega
   go_enter Tryd.func44, Tryd.ntmps44
   go_wp2_with fail
   go_ret
   exact ⟨by first | rfl | (rw [e]; rfl), rfl⟩
 ·have e : seatB n = false := by unfold seatB; simp; omega
  go_enter Tryd.func44, Tryd.ntmps44
  go_wp2_with fail
  go_ret
  exact ⟨by first | rfl | (rw [e]; rfl), rfl⟩
theorem rkind_any (n : Int) (w : World) : Calls Tryd.prog 45 #[.int .i64 n] w fun e w' => e = .returned (.bool (kindB n)) /\ w' = w := by
 by_cases h1 : 1 <= n
 ·by_cases h2 : n <= 3
  ·have e : kindB n = true := kindB_iff.2 ⟨h1, h2⟩
   go_enter Tryd.func45, Tryd.ntmps45
   go_wp2_with fail
   go_ret
   exact ⟨by first | rfl | (rw [e]; rfl), rfl⟩
  ·have e : kindB n = false := by unfold kindB; simp; omega
   go_enter Tryd.func45, Tryd.ntmps45
   go_wp2_with fail
   go_ret
   exact ⟨by first | rfl | (rw [e]; rfl), rfl⟩
 ·have e : kindB n = false := by unfold kindB; simp; omega
  go_enter Tryd.func45, Tryd.ntmps45
  go_wp2_with fail
  go_ret
  exact ⟨by first | rfl | (rw [e]; rfl), rfl⟩
theorem rthing_any (n : Int) (w : World) : Calls Tryd.prog 46 #[.int .i64 n] w fun e w' => e = .returned (.string (thgS n)) /\ Still w w' := by
 by_cases h1 : n = 1
 ·subst h1
  go_enter Tryd.func46, Tryd.ntmps46
  go_wp2_with fail
  go_ret
  exact ⟨rfl, Fr.refl _ _⟩
 ·by_cases h2 : n = 2
  ·subst h2
   go_enter Tryd.func46, Tryd.ntmps46
   go_wp2_with fail
   go_ret
   exact ⟨rfl, Fr.refl _ _⟩
  ·have b1 : (n == 1) = false := by simpa using h1
   have b2 : (n == 2) = false := by simpa using h2
   have e : thgS n = ⟨#[112, 114, 105, 122, 101]⟩ := by unfold thgS; rw [if_neg h1, if_neg h2]
   rw [e]
   clear e h1 h2
   go_enter Tryd.func46, Tryd.ntmps46
   go_wp2_with fail
   go_ret
   exact ⟨rfl, Fr.refl _ _⟩
structure Nv where
 k : Int
 a : Int
 b : Int
def okN (x : Nv) : Bool := (x.k == 1 && seatB x.a) || (x.k == 2 && (seatB x.a && seatB x.b)) || (x.k == 3 && (seatB x.a && seatB x.b)) || (x.k == 4 && seatB x.a) || (x.k == 5 && (seatB x.a && kindB x.b)) || (x.k == 6 && kindB x.b) || (x.k == 7 && (seatB x.a && seatB x.b)) || (x.k == 8 && seatB x.a)
def lnS (x : Nv) : ByteArray :=
 if x.k = 1 then (ltS x.a.toNat ++ ⟨#[32, 102, 105, 114, 101, 100, 32]⟩) ++ itS x.b
 else if x.k = 2 then (ltS x.a.toNat ++ ⟨#[32, 104, 105, 116, 32, 98, 121, 32]⟩) ++ ltS x.b.toNat
 else if x.k = 3 then (ltS x.a.toNat ++ ⟨#[32, 111, 117, 116, 32, 98, 121, 32]⟩) ++ ltS x.b.toNat
 else if x.k = 4 then ltS x.a.toNat ++ ⟨#[32, 98, 97, 99, 107]⟩
 else if x.k = 5 then (ltS x.a.toNat ++ ⟨#[32, 116, 111, 111, 107, 32]⟩) ++ thgS x.b
 else if x.k = 6 then ((⟨#[115, 112, 111, 116, 32]⟩ ++ itS x.a) ++ ⟨#[32]⟩) ++ thgS x.b
 else if x.k = 7 then (ltS x.a.toNat ++ ⟨#[32, 98, 111, 117, 110, 99, 101, 115, 32]⟩) ++ ltS x.b.toNat
 else (ltS x.a.toNat ++ ⟨#[32, 115, 97, 121, 115, 32]⟩) ++ itS x.b
abbrev nvcs (x : Nv) : Array Value := #[.int .i64 x.k, .int .i64 x.a, .int .i64 x.b]
def Nvb (w : World) (g : Nat) (x : Nv) : Prop := w.heap[g]? = some (.cells (nvcs x) 50 (0, 0))
theorem Nvb.still {w w' : World} {g : Nat} {x : Nv} (h : Nvb w g x) (hs : Still w w') : Nvb w' g x := hs.kept_still h
theorem Nvb.cells {w : World} {g : Nat} {x : Nv} (h : Nvb w g x) : w.cell? ⟨g, 0, none⟩ = some (.int .i64 x.k) /\ w.cell? ⟨g, 1, none⟩ = some (.int .i64 x.a) /\ w.cell? ⟨g, 2, none⟩ = some (.int .i64 x.b) /\ ∀ o, w.frozen? ⟨g, o, none⟩ = false := by
 refine ⟨?_, ?_, ?_, fun o => frozen_of_row w g o _ _ h⟩ <;> (rw [cell_of_row _ _ _ _ _ _ h]; rfl)
end Go.Proofs.YtdljmpjfiggdiaaDoor
namespace Go.Proofs.YtdljmpjfiggdiaaDoor
open Go.RowKit
set_option maxRecDepth 100000
set_option maxHeartbeats 16000000 in
theorem rline_no (k a b : Int) (h : okN ⟨k, a, b⟩ = false) (w : World) : Calls Tryd.prog 23 #[.agg #[.int .i64 k, .int .i64 a, .int .i64 b]] w fun e w' => e = .returned (.tuple #[.string ByteArray.empty, .bool false]) /\ Still w w' := by
  have A0 := Still.alloc w (.cells #[.int .i64 k, .int .i64 a, .int .i64 b] 50)
  have p0 : Nvb (w.alloc (.cells #[.int .i64 k, .int .i64 a, .int .i64 b] 50)) w.heap.size ⟨k, a, b⟩ := heap_alloc_new w _
  have HS0 := hid A0
  have HP0 := hid p0
  obtain ⟨W0, eW0⟩ : ∃ X, w.alloc (.cells #[.int .i64 k, .int .i64 a, .int .i64 b] 50) = X := ⟨_, rfl⟩
  rw [eW0] at HS0 HP0
  obtain ⟨c0, c1, c2, cf⟩ := HP0.out.cells
  clear A0 p0
  rcases (show k = 1 \/ k = 2 \/ k = 3 \/ k = 4 \/ k = 5 \/ k = 6 \/ k = 7 \/ k = 8 \/ ((k == 1) = false /\ (k == 2) = false /\ (k == 3) = false /\ (k == 4) = false /\ (k == 5) = false /\ (k == 6) = false /\ (k == 7) = false /\ (k == 8) = false) by simp only [beq_eq_false_iff_ne]; omega) with rfl | rfl | rfl | rfl | rfl | rfl | rfl | rfl | ⟨b1, b2, b3, b4, b5, b6, b7, b8⟩ <;> cases hA : seatB a <;> cases hB : seatB b <;> cases hK : kindB b <;> (first
    | (exfalso; revert h; simp [okN, hA, hB, hK]; done)
    | (clear h
       go_enter Tryd.func23, Tryd.ntmps23
       go_wp2_with (first | (go_at_call 44; refine (rseat_any _ _).mono ?_; rintro e' w' ⟨he', hw'⟩; rw [he', hw']; clear he' hw' e' w') | (go_at_call 45; refine (rkind_any _ _).mono ?_; rintro e' w' ⟨he', hw'⟩; rw [he', hw']; clear he' hw' e' w'))
       go_ret2
       exact ⟨rfl, HS0.out⟩))
set_option maxHeartbeats 4000000 in
theorem rline_1 (a b : Int) (hA : seatB a = true) (hb : I64 b) (w : World) (ht : PTabV w) : Calls Tryd.prog 23 #[.agg #[.int .i64 1, .int .i64 a, .int .i64 b]] w fun e w' => e = .returned (.tuple #[.string ((ltS a.toNat ++ ⟨#[32, 102, 105, 114, 101, 100, 32]⟩) ++ itS b), .bool true]) /\ Still w w' := by
  have ht0 := ht
  have A0 := Still.alloc w (.cells #[.int .i64 1, .int .i64 a, .int .i64 b] 50)
  have p0 : Nvb (w.alloc (.cells #[.int .i64 1, .int .i64 a, .int .i64 b] 50)) w.heap.size ⟨1, a, b⟩ := heap_alloc_new w _
  have HS0 := hid A0
  have HP0 := hid p0
  have HT := hid ht
  obtain ⟨W0, eW0⟩ : ∃ X, w.alloc (.cells #[.int .i64 1, .int .i64 a, .int .i64 b] 50) = X := ⟨_, rfl⟩
  rw [eW0] at HS0 HP0
  obtain ⟨c0, c1, c2, cf⟩ := HP0.out.cells
  clear A0 p0 ht ht0
  have H1 := hid (fun u => rletter_any a hA u)
  obtain ⟨x1, ex1⟩ : ∃ x, ltS a.toNat = x := ⟨_, rfl⟩
  have X1 := ltS_sz a.toNat
  rw [ex1] at H1 X1 ⊢
  have H2 := hid (fun u (hu : Still w u) => itoaV_any b hb u (HT.out.still hu))
  obtain ⟨x2, ex2⟩ : ∃ x, itS b = x := ⟨_, rfl⟩
  have X2 := itS_sz hb
  rw [ex2] at H2 X2 ⊢
  obtain ⟨y1, f1, z1, s1⟩ := cat_ex (a := x1) (b := ⟨#[32, 102, 105, 114, 101, 100, 32]⟩) (m := 1) (n := 7) X1 (by decide) (by decide)
  obtain ⟨y2, f2, z2, s2⟩ := cat_ex (a := y1) (b := x2) (m := 8) (n := 21) z1 X2 (by decide)
  rw [f1, f2]
  clear f1 f2 z1 z2 ex1 ex2 X1 X2
  cases hB' : seatB b <;> cases hK' : kindB b <;> (first
    | (exfalso; simp_all; done)
    | (go_enter Tryd.func23, Tryd.ntmps23
       go_upto_region 4 with (first | (go_at_call 44; refine (rseat_any _ _).mono ?_; rintro e' w' ⟨he', hw'⟩; rw [he', hw']; clear he' hw' e' w') | (go_at_call 45; refine (rkind_any _ _).mono ?_; rintro e' w' ⟨he', hw'⟩; rw [he', hw']; clear he' hw' e' w'))
       (try clear eW0)
       have k0 := Cl.cell c0
       have k1 := Cl.cell c1
       have k2 := Cl.cell c2
       have hne := Aft.here W0
       have G1 := hid (fun z : Aft W0 => H1.out z.u)
       have G2 := hid (fun z : Aft W0 => H2.out z.u (HS0.out.trans z.s))
       clear c0 c1 c2
       refine region_all (by kernel_rfl) (by kernel_rfl) ?_
       repeat (go_big_quiet_step ((first | (go_at_call 29; with_reducible exact Calls.cl (G1.out _)) | (go_at_call 25; with_reducible exact Calls.cl (G2.out _)))))
       refine wpQuiet_nil ?_
       intro W1 h1
       have HS1 := hid (HS0.out.trans h1)
       clear h1 hne k0 k1 k2 G1 G2
       go_wp2_with fail
       go_ret2
       exact ⟨rfl, HS1.out⟩))
set_option maxHeartbeats 4000000 in
theorem rline_2 (a b : Int) (hA : seatB a = true) (hB : seatB b = true) (w : World) (ht : PTabV w) : Calls Tryd.prog 23 #[.agg #[.int .i64 2, .int .i64 a, .int .i64 b]] w fun e w' => e = .returned (.tuple #[.string ((ltS a.toNat ++ ⟨#[32, 104, 105, 116, 32, 98, 121, 32]⟩) ++ ltS b.toNat), .bool true]) /\ Still w w' := by
  have ht0 := ht
  have A0 := Still.alloc w (.cells #[.int .i64 2, .int .i64 a, .int .i64 b] 50)
  have p0 : Nvb (w.alloc (.cells #[.int .i64 2, .int .i64 a, .int .i64 b] 50)) w.heap.size ⟨2, a, b⟩ := heap_alloc_new w _
  have HS0 := hid A0
  have HP0 := hid p0
  have HT := hid ht
  obtain ⟨W0, eW0⟩ : ∃ X, w.alloc (.cells #[.int .i64 2, .int .i64 a, .int .i64 b] 50) = X := ⟨_, rfl⟩
  rw [eW0] at HS0 HP0
  obtain ⟨c0, c1, c2, cf⟩ := HP0.out.cells
  clear A0 p0 ht ht0
  have H1 := hid (fun u => rletter_any a hA u)
  obtain ⟨x1, ex1⟩ : ∃ x, ltS a.toNat = x := ⟨_, rfl⟩
  have X1 := ltS_sz a.toNat
  rw [ex1] at H1 X1 ⊢
  have H2 := hid (fun u (_ : Still w u) => rletter_any b hB u)
  obtain ⟨x2, ex2⟩ : ∃ x, ltS b.toNat = x := ⟨_, rfl⟩
  have X2 := ltS_sz b.toNat
  rw [ex2] at H2 X2 ⊢
  obtain ⟨y1, f1, z1, s1⟩ := cat_ex (a := x1) (b := ⟨#[32, 104, 105, 116, 32, 98, 121, 32]⟩) (m := 1) (n := 8) X1 (by decide) (by decide)
  obtain ⟨y2, f2, z2, s2⟩ := cat_ex (a := y1) (b := x2) (m := 9) (n := 1) z1 X2 (by decide)
  rw [f1, f2]
  clear f1 f2 z1 z2 ex1 ex2 X1 X2
  cases hB' : seatB b <;> cases hK' : kindB b <;> (first
    | (exfalso; simp_all; done)
    | (go_enter Tryd.func23, Tryd.ntmps23
       go_upto_region 6 with (first | (go_at_call 44; refine (rseat_any _ _).mono ?_; rintro e' w' ⟨he', hw'⟩; rw [he', hw']; clear he' hw' e' w') | (go_at_call 45; refine (rkind_any _ _).mono ?_; rintro e' w' ⟨he', hw'⟩; rw [he', hw']; clear he' hw' e' w'))
       (try clear eW0)
       have k0 := Cl.cell c0
       have k1 := Cl.cell c1
       have k2 := Cl.cell c2
       have hne := Aft.here W0
       have G1 := hid (fun z : Aft W0 => H1.out z.u)
       have G2 := hid (fun z : Aft W0 => H2.out z.u (HS0.out.trans z.s))
       clear c0 c1 c2
       refine region_all (by kernel_rfl) (by kernel_rfl) ?_
       repeat (go_big_quiet_step ((first | (go_at_call 29; with_reducible exact Calls.cl (G1.out _)) | (go_at_call 29; with_reducible exact Calls.cl (G2.out _)))))
       refine wpQuiet_nil ?_
       intro W1 h1
       have HS1 := hid (HS0.out.trans h1)
       clear h1 hne k0 k1 k2 G1 G2
       go_wp2_with fail
       go_ret2
       exact ⟨rfl, HS1.out⟩))
set_option maxHeartbeats 4000000 in
theorem rline_3 (a b : Int) (hA : seatB a = true) (hB : seatB b = true) (w : World) (ht : PTabV w) : Calls Tryd.prog 23 #[.agg #[.int .i64 3, .int .i64 a, .int .i64 b]] w fun e w' => e = .returned (.tuple #[.string ((ltS a.toNat ++ ⟨#[32, 111, 117, 116, 32, 98, 121, 32]⟩) ++ ltS b.toNat), .bool true]) /\ Still w w' := by
  have ht0 := ht
  have A0 := Still.alloc w (.cells #[.int .i64 3, .int .i64 a, .int .i64 b] 50)
  have p0 : Nvb (w.alloc (.cells #[.int .i64 3, .int .i64 a, .int .i64 b] 50)) w.heap.size ⟨3, a, b⟩ := heap_alloc_new w _
  have HS0 := hid A0
  have HP0 := hid p0
  have HT := hid ht
  obtain ⟨W0, eW0⟩ : ∃ X, w.alloc (.cells #[.int .i64 3, .int .i64 a, .int .i64 b] 50) = X := ⟨_, rfl⟩
  rw [eW0] at HS0 HP0
  obtain ⟨c0, c1, c2, cf⟩ := HP0.out.cells
  clear A0 p0 ht ht0
  have H1 := hid (fun u => rletter_any a hA u)
  obtain ⟨x1, ex1⟩ : ∃ x, ltS a.toNat = x := ⟨_, rfl⟩
  have X1 := ltS_sz a.toNat
  rw [ex1] at H1 X1 ⊢
  have H2 := hid (fun u (_ : Still w u) => rletter_any b hB u)
  obtain ⟨x2, ex2⟩ : ∃ x, ltS b.toNat = x := ⟨_, rfl⟩
  have X2 := ltS_sz b.toNat
  rw [ex2] at H2 X2 ⊢
  obtain ⟨y1, f1, z1, s1⟩ := cat_ex (a := x1) (b := ⟨#[32, 111, 117, 116, 32, 98, 121, 32]⟩) (m := 1) (n := 8) X1 (by decide) (by decide)
  obtain ⟨y2, f2, z2, s2⟩ := cat_ex (a := y1) (b := x2) (m := 9) (n := 1) z1 X2 (by decide)
  rw [f1, f2]
  clear f1 f2 z1 z2 ex1 ex2 X1 X2
  cases hB' : seatB b <;> cases hK' : kindB b <;> (first
    | (exfalso; simp_all; done)
    | (go_enter Tryd.func23, Tryd.ntmps23
       go_upto_region 8 with (first | (go_at_call 44; refine (rseat_any _ _).mono ?_; rintro e' w' ⟨he', hw'⟩; rw [he', hw']; clear he' hw' e' w') | (go_at_call 45; refine (rkind_any _ _).mono ?_; rintro e' w' ⟨he', hw'⟩; rw [he', hw']; clear he' hw' e' w'))
       (try clear eW0)
       have k0 := Cl.cell c0
       have k1 := Cl.cell c1
       have k2 := Cl.cell c2
       have hne := Aft.here W0
       have G1 := hid (fun z : Aft W0 => H1.out z.u)
       have G2 := hid (fun z : Aft W0 => H2.out z.u (HS0.out.trans z.s))
       clear c0 c1 c2
       refine region_all (by kernel_rfl) (by kernel_rfl) ?_
       repeat (go_big_quiet_step ((first | (go_at_call 29; with_reducible exact Calls.cl (G1.out _)) | (go_at_call 29; with_reducible exact Calls.cl (G2.out _)))))
       refine wpQuiet_nil ?_
       intro W1 h1
       have HS1 := hid (HS0.out.trans h1)
       clear h1 hne k0 k1 k2 G1 G2
       go_wp2_with fail
       go_ret2
       exact ⟨rfl, HS1.out⟩))
set_option maxHeartbeats 4000000 in
theorem rline_4 (a b : Int) (hA : seatB a = true) (w : World) (ht : PTabV w) : Calls Tryd.prog 23 #[.agg #[.int .i64 4, .int .i64 a, .int .i64 b]] w fun e w' => e = .returned (.tuple #[.string (ltS a.toNat ++ ⟨#[32, 98, 97, 99, 107]⟩), .bool true]) /\ Still w w' := by
  have ht0 := ht
  have A0 := Still.alloc w (.cells #[.int .i64 4, .int .i64 a, .int .i64 b] 50)
  have p0 : Nvb (w.alloc (.cells #[.int .i64 4, .int .i64 a, .int .i64 b] 50)) w.heap.size ⟨4, a, b⟩ := heap_alloc_new w _
  have HS0 := hid A0
  have HP0 := hid p0
  have HT := hid ht
  obtain ⟨W0, eW0⟩ : ∃ X, w.alloc (.cells #[.int .i64 4, .int .i64 a, .int .i64 b] 50) = X := ⟨_, rfl⟩
  rw [eW0] at HS0 HP0
  obtain ⟨c0, c1, c2, cf⟩ := HP0.out.cells
  clear A0 p0 ht ht0
  have H1 := hid (fun u => rletter_any a hA u)
  obtain ⟨x1, ex1⟩ : ∃ x, ltS a.toNat = x := ⟨_, rfl⟩
  have X1 := ltS_sz a.toNat
  rw [ex1] at H1 X1 ⊢
  obtain ⟨y1, f1, z1, s1⟩ := cat_ex (a := x1) (b := ⟨#[32, 98, 97, 99, 107]⟩) (m := 1) (n := 5) X1 (by decide) (by decide)
  rw [f1]
  clear f1 z1 ex1 X1
  cases hB' : seatB b <;> cases hK' : kindB b <;> (first
    | (exfalso; simp_all; done)
    | (go_enter Tryd.func23, Tryd.ntmps23
       go_upto_region 10 with (first | (go_at_call 44; refine (rseat_any _ _).mono ?_; rintro e' w' ⟨he', hw'⟩; rw [he', hw']; clear he' hw' e' w') | (go_at_call 45; refine (rkind_any _ _).mono ?_; rintro e' w' ⟨he', hw'⟩; rw [he', hw']; clear he' hw' e' w'))
       go_wp2_with fail
       refine (H1.out _).mono ?_
       rintro e W1 ⟨rfl, h1⟩
       have HS1 := hid (HS0.out.trans h1)
       clear h1
       go_wp2_with fail
       go_ret2
       exact ⟨rfl, HS1.out⟩))
set_option maxHeartbeats 4000000 in
theorem rline_5 (a b : Int) (hA : seatB a = true) (hK : kindB b = true) (w : World) (ht : PTabV w) : Calls Tryd.prog 23 #[.agg #[.int .i64 5, .int .i64 a, .int .i64 b]] w fun e w' => e = .returned (.tuple #[.string ((ltS a.toNat ++ ⟨#[32, 116, 111, 111, 107, 32]⟩) ++ thgS b), .bool true]) /\ Still w w' := by
  have ht0 := ht
  have A0 := Still.alloc w (.cells #[.int .i64 5, .int .i64 a, .int .i64 b] 50)
  have p0 : Nvb (w.alloc (.cells #[.int .i64 5, .int .i64 a, .int .i64 b] 50)) w.heap.size ⟨5, a, b⟩ := heap_alloc_new w _
  have HS0 := hid A0
  have HP0 := hid p0
  have HT := hid ht
  obtain ⟨W0, eW0⟩ : ∃ X, w.alloc (.cells #[.int .i64 5, .int .i64 a, .int .i64 b] 50) = X := ⟨_, rfl⟩
  rw [eW0] at HS0 HP0
  obtain ⟨c0, c1, c2, cf⟩ := HP0.out.cells
  clear A0 p0 ht ht0
  have H1 := hid (fun u => rletter_any a hA u)
  obtain ⟨x1, ex1⟩ : ∃ x, ltS a.toNat = x := ⟨_, rfl⟩
  have X1 := ltS_sz a.toNat
  rw [ex1] at H1 X1 ⊢
  have H2 := hid (fun u (_ : Still w u) => rthing_any b u)
  obtain ⟨x2, ex2⟩ : ∃ x, thgS b = x := ⟨_, rfl⟩
  have X2 := thgS_sz b
  rw [ex2] at H2 X2 ⊢
  obtain ⟨y1, f1, z1, s1⟩ := cat_ex (a := x1) (b := ⟨#[32, 116, 111, 111, 107, 32]⟩) (m := 1) (n := 6) X1 (by decide) (by decide)
  obtain ⟨y2, f2, z2, s2⟩ := cat_ex (a := y1) (b := x2) (m := 7) (n := 6) z1 X2 (by decide)
  rw [f1, f2]
  clear f1 f2 z1 z2 ex1 ex2 X1 X2
  cases hB' : seatB b <;> cases hK' : kindB b <;> (first
    | (exfalso; simp_all; done)
    | (go_enter Tryd.func23, Tryd.ntmps23
       go_upto_region 12 with (first | (go_at_call 44; refine (rseat_any _ _).mono ?_; rintro e' w' ⟨he', hw'⟩; rw [he', hw']; clear he' hw' e' w') | (go_at_call 45; refine (rkind_any _ _).mono ?_; rintro e' w' ⟨he', hw'⟩; rw [he', hw']; clear he' hw' e' w'))
       (try clear eW0)
       have k0 := Cl.cell c0
       have k1 := Cl.cell c1
       have k2 := Cl.cell c2
       have hne := Aft.here W0
       have G1 := hid (fun z : Aft W0 => H1.out z.u)
       have G2 := hid (fun z : Aft W0 => H2.out z.u (HS0.out.trans z.s))
       clear c0 c1 c2
       refine region_all (by kernel_rfl) (by kernel_rfl) ?_
       repeat (go_big_quiet_step ((first | (go_at_call 29; with_reducible exact Calls.cl (G1.out _)) | (go_at_call 46; with_reducible exact Calls.cl (G2.out _)))))
       refine wpQuiet_nil ?_
       intro W1 h1
       have HS1 := hid (HS0.out.trans h1)
       clear h1 hne k0 k1 k2 G1 G2
       go_wp2_with fail
       go_ret2
       exact ⟨rfl, HS1.out⟩))
set_option maxHeartbeats 4000000 in
theorem rline_7 (a b : Int) (hA : seatB a = true) (hB : seatB b = true) (w : World) (ht : PTabV w) : Calls Tryd.prog 23 #[.agg #[.int .i64 7, .int .i64 a, .int .i64 b]] w fun e w' => e = .returned (.tuple #[.string ((ltS a.toNat ++ ⟨#[32, 98, 111, 117, 110, 99, 101, 115, 32]⟩) ++ ltS b.toNat), .bool true]) /\ Still w w' := by
  have ht0 := ht
  have A0 := Still.alloc w (.cells #[.int .i64 7, .int .i64 a, .int .i64 b] 50)
  have p0 : Nvb (w.alloc (.cells #[.int .i64 7, .int .i64 a, .int .i64 b] 50)) w.heap.size ⟨7, a, b⟩ := heap_alloc_new w _
  have HS0 := hid A0
  have HP0 := hid p0
  have HT := hid ht
  obtain ⟨W0, eW0⟩ : ∃ X, w.alloc (.cells #[.int .i64 7, .int .i64 a, .int .i64 b] 50) = X := ⟨_, rfl⟩
  rw [eW0] at HS0 HP0
  obtain ⟨c0, c1, c2, cf⟩ := HP0.out.cells
  clear A0 p0 ht ht0
  have H1 := hid (fun u => rletter_any a hA u)
  obtain ⟨x1, ex1⟩ : ∃ x, ltS a.toNat = x := ⟨_, rfl⟩
  have X1 := ltS_sz a.toNat
  rw [ex1] at H1 X1 ⊢
  have H2 := hid (fun u (_ : Still w u) => rletter_any b hB u)
  obtain ⟨x2, ex2⟩ : ∃ x, ltS b.toNat = x := ⟨_, rfl⟩
  have X2 := ltS_sz b.toNat
  rw [ex2] at H2 X2 ⊢
  obtain ⟨y1, f1, z1, s1⟩ := cat_ex (a := x1) (b := ⟨#[32, 98, 111, 117, 110, 99, 101, 115, 32]⟩) (m := 1) (n := 9) X1 (by decide) (by decide)
  obtain ⟨y2, f2, z2, s2⟩ := cat_ex (a := y1) (b := x2) (m := 10) (n := 1) z1 X2 (by decide)
  rw [f1, f2]
  clear f1 f2 z1 z2 ex1 ex2 X1 X2
  cases hB' : seatB b <;> cases hK' : kindB b <;> (first
    | (exfalso; simp_all; done)
    | (go_enter Tryd.func23, Tryd.ntmps23
       go_upto_region 16 with (first | (go_at_call 44; refine (rseat_any _ _).mono ?_; rintro e' w' ⟨he', hw'⟩; rw [he', hw']; clear he' hw' e' w') | (go_at_call 45; refine (rkind_any _ _).mono ?_; rintro e' w' ⟨he', hw'⟩; rw [he', hw']; clear he' hw' e' w'))
       (try clear eW0)
       have k0 := Cl.cell c0
       have k1 := Cl.cell c1
       have k2 := Cl.cell c2
       have hne := Aft.here W0
       have G1 := hid (fun z : Aft W0 => H1.out z.u)
       have G2 := hid (fun z : Aft W0 => H2.out z.u (HS0.out.trans z.s))
       clear c0 c1 c2
       refine region_all (by kernel_rfl) (by kernel_rfl) ?_
       repeat (go_big_quiet_step ((first | (go_at_call 29; with_reducible exact Calls.cl (G1.out _)) | (go_at_call 29; with_reducible exact Calls.cl (G2.out _)))))
       refine wpQuiet_nil ?_
       intro W1 h1
       have HS1 := hid (HS0.out.trans h1)
       clear h1 hne k0 k1 k2 G1 G2
       go_wp2_with fail
       go_ret2
       exact ⟨rfl, HS1.out⟩))
set_option maxHeartbeats 4000000 in
theorem rline_8 (a b : Int) (hA : seatB a = true) (hb : I64 b) (w : World) (ht : PTabV w) : Calls Tryd.prog 23 #[.agg #[.int .i64 8, .int .i64 a, .int .i64 b]] w fun e w' => e = .returned (.tuple #[.string ((ltS a.toNat ++ ⟨#[32, 115, 97, 121, 115, 32]⟩) ++ itS b), .bool true]) /\ Still w w' := by
  have ht0 := ht
  have A0 := Still.alloc w (.cells #[.int .i64 8, .int .i64 a, .int .i64 b] 50)
  have p0 : Nvb (w.alloc (.cells #[.int .i64 8, .int .i64 a, .int .i64 b] 50)) w.heap.size ⟨8, a, b⟩ := heap_alloc_new w _
  have HS0 := hid A0
  have HP0 := hid p0
  have HT := hid ht
  obtain ⟨W0, eW0⟩ : ∃ X, w.alloc (.cells #[.int .i64 8, .int .i64 a, .int .i64 b] 50) = X := ⟨_, rfl⟩
  rw [eW0] at HS0 HP0
  obtain ⟨c0, c1, c2, cf⟩ := HP0.out.cells
  clear A0 p0 ht ht0
  have H1 := hid (fun u => rletter_any a hA u)
  obtain ⟨x1, ex1⟩ : ∃ x, ltS a.toNat = x := ⟨_, rfl⟩
  have X1 := ltS_sz a.toNat
  rw [ex1] at H1 X1 ⊢
  have H2 := hid (fun u (hu : Still w u) => itoaV_any b hb u (HT.out.still hu))
  obtain ⟨x2, ex2⟩ : ∃ x, itS b = x := ⟨_, rfl⟩
  have X2 := itS_sz hb
  rw [ex2] at H2 X2 ⊢
  obtain ⟨y1, f1, z1, s1⟩ := cat_ex (a := x1) (b := ⟨#[32, 115, 97, 121, 115, 32]⟩) (m := 1) (n := 6) X1 (by decide) (by decide)
  obtain ⟨y2, f2, z2, s2⟩ := cat_ex (a := y1) (b := x2) (m := 7) (n := 21) z1 X2 (by decide)
  rw [f1, f2]
  clear f1 f2 z1 z2 ex1 ex2 X1 X2
  cases hB' : seatB b <;> cases hK' : kindB b <;> (first
    | (exfalso; simp_all; done)
    | (go_enter Tryd.func23, Tryd.ntmps23
       go_upto_region 18 with (first | (go_at_call 44; refine (rseat_any _ _).mono ?_; rintro e' w' ⟨he', hw'⟩; rw [he', hw']; clear he' hw' e' w') | (go_at_call 45; refine (rkind_any _ _).mono ?_; rintro e' w' ⟨he', hw'⟩; rw [he', hw']; clear he' hw' e' w'))
       (try clear eW0)
       have k0 := Cl.cell c0
       have k1 := Cl.cell c1
       have k2 := Cl.cell c2
       have hne := Aft.here W0
       have G1 := hid (fun z : Aft W0 => H1.out z.u)
       have G2 := hid (fun z : Aft W0 => H2.out z.u (HS0.out.trans z.s))
       clear c0 c1 c2
       refine region_all (by kernel_rfl) (by kernel_rfl) ?_
       repeat (go_big_quiet_step ((first | (go_at_call 29; with_reducible exact Calls.cl (G1.out _)) | (go_at_call 25; with_reducible exact Calls.cl (G2.out _)))))
       refine wpQuiet_nil ?_
       intro W1 h1
       have HS1 := hid (HS0.out.trans h1)
       clear h1 hne k0 k1 k2 G1 G2
       go_wp2_with fail
       go_ret2
       exact ⟨rfl, HS1.out⟩))
set_option maxHeartbeats 4000000 in
theorem rline_6 (a b : Int) (hK : kindB b = true) (ha : I64 a) (w : World) (ht : PTabV w) : Calls Tryd.prog 23 #[.agg #[.int .i64 6, .int .i64 a, .int .i64 b]] w fun e w' => e = .returned (.tuple #[.string (((⟨#[115, 112, 111, 116, 32]⟩ ++ itS a) ++ ⟨#[32]⟩) ++ thgS b), .bool true]) /\ Still w w' := by
 have ht0 := ht
 have A0 := Still.alloc w (.cells #[.int .i64 6, .int .i64 a, .int .i64 b] 50)
 have p0 : Nvb (w.alloc (.cells #[.int .i64 6, .int .i64 a, .int .i64 b] 50)) w.heap.size ⟨6, a, b⟩ := heap_alloc_new w _
 have HS0 := hid A0
 have HP0 := hid p0
 have HT := hid ht
 obtain ⟨W0, eW0⟩ : ∃ X, w.alloc (.cells #[.int .i64 6, .int .i64 a, .int .i64 b] 50) = X := ⟨_, rfl⟩
 rw [eW0] at HS0 HP0
 obtain ⟨c0, c1, c2, cf⟩ := HP0.out.cells
 clear A0 p0 ht ht0
 have H1 := hid (fun u (hu : Still w u) => itoaV_any a ha u (HT.out.still hu))
 obtain ⟨x1, ex1⟩ : ∃ x, itS a = x := ⟨_, rfl⟩
 have X1 := itS_sz ha
 rw [ex1] at H1 X1 ⊢
 have H2 := hid (fun u => rthing_any b u)
 obtain ⟨x2, ex2⟩ : ∃ x, thgS b = x := ⟨_, rfl⟩
 have X2 := thgS_sz b
 rw [ex2] at H2 X2 ⊢
 obtain ⟨y1, f1, z1, s1⟩ := cat_ex (a := ⟨#[115, 112, 111, 116, 32]⟩) (b := x1) (m := 5) (n := 21) (by decide) X1 (by decide)
 obtain ⟨y2, f2, z2, s2⟩ := cat_ex (a := y1) (b := ⟨#[32]⟩) (m := 26) (n := 1) z1 (by decide) (by decide)
 obtain ⟨y3, f3, z3, s3⟩ := cat_ex (a := y2) (b := x2) (m := 27) (n := 6) z2 X2 (by decide)
 rw [f1, f2, f3]
 clear f1 f2 f3 z1 z2 z3 ex1 ex2 X1 X2
 cases hA' : seatB a <;> cases hB' : seatB b <;> (
  go_enter Tryd.func23, Tryd.ntmps23
  go_upto_region 14 with (first | (go_at_call 44; refine (rseat_any _ _).mono ?_; rintro e' w' ⟨he', hw'⟩; rw [he', hw']; clear he' hw' e' w') | (go_at_call 45; refine (rkind_any _ _).mono ?_; rintro e' w' ⟨he', hw'⟩; rw [he', hw']; clear he' hw' e' w'))
  (try clear eW0)
  have k0 := Cl.cell c0
  have k1 := Cl.cell c1
  have k2 := Cl.cell c2
  have hne := Aft.here W0
  have G1 := hid (fun z : Aft W0 => H1.out z.u (HS0.out.trans z.s))
  have G2 := hid (fun z : Aft W0 => H2.out z.u)
  clear c0 c1 c2
  refine region_all (by kernel_rfl) (by kernel_rfl) ?_
  repeat (go_big_quiet_step ((first | (go_at_call 25; with_reducible exact Calls.cl (G1.out _)) | (go_at_call 46; with_reducible exact Calls.cl (G2.out _)))))
  refine wpQuiet_nil ?_
  intro W1 h1
  have HS1 := hid (HS0.out.trans h1)
  clear h1 hne k0 k1 k2 G1 G2
  go_wp2_with fail
  go_ret2
  exact ⟨rfl, HS1.out⟩)
theorem rline_any (x : Nv) (ha : I64 x.a) (hb : I64 x.b) (w : World) (ht : PTabV w) : Calls Tryd.prog 23 #[.agg (nvcs x)] w fun e w' => e = .returned (.tuple #[.string (if okN x then lnS x else ByteArray.empty), .bool (okN x)]) /\ Still w w' := by
 obtain ⟨k, a, b⟩ := x
 cases h : okN ⟨k, a, b⟩ with
 | false => exact rline_no k a b h w
 | true =>
  have h' := h
  unfold okN at h'
  simp only [Bool.or_eq_true, Bool.and_eq_true, beq_iff_eq] at h'
  rcases h' with (((((((⟨rfl, h1⟩ | ⟨rfl, h1, h2⟩) | ⟨rfl, h1, h2⟩) | ⟨rfl, h1⟩) | ⟨rfl, h1, h2⟩) | ⟨rfl, h2⟩) | ⟨rfl, h1, h2⟩) | ⟨rfl, h1⟩)
  ·exact rline_1 a b h1 hb w ht
  ·exact rline_2 a b h1 h2 w ht
  ·exact rline_3 a b h1 h2 w ht
  ·exact rline_4 a b h1 w ht
  ·exact rline_5 a b h1 h2 w ht
  ·exact rline_6 a b h2 ha w ht
  ·exact rline_7 a b h1 h2 w ht
  ·exact rline_8 a b h1 hb w ht
end Go.Proofs.YtdljmpjfiggdiaaDoor
