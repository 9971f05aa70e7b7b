/- Parts of the proof, laid end to end. -/
import Derived.Test.YthcjckgmdokmdaaGreatDoorXS01
import Derived.Test.YthcjckgmdokmdaaGreatDoorXS37
import Derived.Test.YthcjckgmdokmdaaGreatDoorXS36
import Derived.Test.YthcjckgmdokmdaaGreatDoorXS34
import Derived.Deep.DeepCutAuto
import Derived.Test.YthcjckgmdokmdaaGreatDoorXS24
namespace Go.Proofs.YthcjckgmdokmdaaGreatDoor
open Go.RowKit
open Pu Gp Np Za Ka Ja Ea Ha
set_option maxRecDepth 100000
theorem add_st {o : Oper} {ρ : Operand -> Value} {x y : Operand} {a b c : ByteArray} (ho : o.op = .binOp .add 9 x y 9) (hx : ρ x = .string a) (hy : ρ y = .string b) (hs : Op.stringOp .add a b = pure (.string c)) (u : World) : (execOp ρ o).run Tryz.prog u = .ok (.value (.string c)) u := by
 unfold execOp
 rw [ho]
 simp only [hx, hy]
 go_simp
theorem bs_nm3 {o : Oper} {ρ : Operand -> Value} {x y z : Operand} {a b c : Nmd} (ho : o.op = .buildSlice 163 3 #[(0, x), (1, y), (2, z)]) (hx : ρ x = .agg (nmcs a)) (hy : ρ y = .agg (nmcs b)) (hz : ρ z = .agg (nmcs c)) (u : World) : (execOp ρ o).run Tryz.prog u = .ok (.value (.slice (some ⟨u.heap.size, 0, none⟩) 3 3)) (u.alloc (.cells #[.string a.wd, .int .i64 a.n, .string b.wd, .int .i64 b.n, .string c.wd, .int .i64 c.n] 97)) := by
 unfold execOp
 rw [ho]
 simp only [List.map_toArray, List.map_cons, List.map_nil, hx, hy, hz]
 go_simp
 try rfl
def nmL (a : Mv) (x : Scr) : List Nmd := [⟨⟨#[104, 101, 97, 108, 116, 104]⟩, a.hl⟩, ⟨⟨#[101, 110, 101, 114, 103, 121]⟩, a.en⟩, ⟨⟨#[112, 111, 105, 110, 116, 115]⟩, x.p⟩]
def sl0 (i : Nat) (a : Mv) (x : Scr) : ByteArray := (((((ltS i ++ ⟨#[32, 97, 116, 32]⟩) ++ itS a.ax) ++ ⟨#[44]⟩) ++ itS a.ay) ++ ⟨#[32]⟩) ++ jnS (nmL a x)
def slS (i : Nat) (a : Mv) (x : Scr) : ByteArray := l4S (l3S (sl0 i a x) a.sh) a.ou
set_option maxHeartbeats 8000000 in
theorem seatLine_any (i : Nat) (hi : i < 6) (a : Mv) (x : Scr) (hx : Num6 a x) (w : World) (ht : PTabV w) : Calls Tryz.prog 17 #[.int .i64 (i : Int), mv a, cv x] w fun e w' => e = .returned (.string (slS i a x)) /\ Still w w' := by
 have A0 := Still.alloc w (.cells (mcs a) 56)
 have A1 := Still.alloc (w.alloc (.cells (mcs a) 56)) (.cells (ccs x) 61)
 have p0 : Mb (w.alloc (.cells (mcs a) 56)) w.heap.size a := heap_alloc_new w _
 have q0 : Cb ((w.alloc (.cells (mcs a) 56)).alloc (.cells (ccs x) 61)) (w.alloc (.cells (mcs a) 56)).heap.size x := heap_alloc_new _ _
 rw [size_alloc] at q0
 have HP0 := hid (p0.still A1)
 have HQ0 := hid q0
 have HS0 := hid (A0.trans A1)
 have HT := hid ht
 obtain ⟨n1, n2, n3, n4, n5, n6⟩ := hx
 have HL := hid (fun u => vletter_any (i : Int) (seatB_iff.2 ⟨by omega, by omega⟩) u)
 rw [Int.toNat_natCast] at HL
 have H1 := hid (fun u (hu : Still w u) => itoaV_any a.ax n1 u (HT.out.still hu))
 have H2 := hid (fun u (hu : Still w u) => itoaV_any a.ay n2 u (HT.out.still hu))
 have H3 := hid (fun u (hu : Still w u) => itoaV_any a.ou n5 u (HT.out.still hu))
 have hNm : ∀ y ∈ nmL a x, I64 y.n /\ y.wd.size <= 21 := by
  intro y hy
  simp only [nmL, List.mem_cons, List.not_mem_nil, or_false] at hy
  rcases hy with rfl | rfl | rfl
  ·exact ⟨n3, Nat.le_of_ble_eq_true rfl⟩
  ·exact ⟨n4, Nat.le_of_ble_eq_true rfl⟩
  ·exact ⟨n6, Nat.le_of_ble_eq_true rfl⟩
 have HJ := hid (fun (u : World) (hu : Still w u) (b : Nat) (hb : u.heap[b]? = some (.cells #[.string ⟨#[104, 101, 97, 108, 116, 104]⟩, .int .i64 a.hl, .string ⟨#[101, 110, 101, 114, 103, 121]⟩, .int .i64 a.en, .string ⟨#[112, 111, 105, 110, 116, 115]⟩, .int .i64 x.p] 97 (0, 0))) => joinedV_any (nmL a x) hNm (by show 3 <= 9; omega) (by show 0 < 3; omega) (some ⟨b, 0, none⟩) 3 3 u (rd_blk hb (nmL a x) rfl (Nat.le_of_ble_eq_true rfl)) (HT.out.still hu))
 have X0 := ltS_sz i
 have X1 := itS_sz n1
 have X2 := itS_sz n2
 have X3 := itS_sz n5
 have X4 : (jnS (nmL a x)).size <= 1000 := jn_le hNm (by show 3 <= 9; omega)
 have HZ : Hid (sl0 i a x = (((((ltS i ++ ⟨#[32, 97, 116, 32]⟩) ++ itS a.ax) ++ ⟨#[44]⟩) ++ itS a.ay) ++ ⟨#[32]⟩) ++ jnS (nmL a x)) := hid rfl
 obtain ⟨x0, ex0⟩ : ∃ z, ltS i = z := ⟨_, rfl⟩
 obtain ⟨x1, ex1⟩ : ∃ z, itS a.ax = z := ⟨_, rfl⟩
 obtain ⟨x2, ex2⟩ : ∃ z, itS a.ay = z := ⟨_, rfl⟩
 obtain ⟨x4, ex4⟩ : ∃ z, jnS (nmL a x) = z := ⟨_, rfl⟩
 rw [ex0] at HL X0 HZ
 rw [ex1] at H1 X1 HZ
 rw [ex2] at H2 X2 HZ
 rw [ex4] at HJ X4 HZ
 obtain ⟨y1, f1, z1, s1⟩ := cat_ex (a := x0) (b := ⟨#[32, 97, 116, 32]⟩) (m := 1) (n := 4) X0 (by decide) (by decide)
 obtain ⟨y2, f2, z2, s2⟩ := cat_ex (a := y1) (b := x1) (m := 5) (n := 21) z1 X1 (by decide)
 obtain ⟨y3, f3, z3, s3⟩ := cat_ex (a := y2) (b := ⟨#[44]⟩) (m := 26) (n := 1) z2 (by decide) (by decide)
 obtain ⟨y4, f4, z4, s4⟩ := cat_ex (a := y3) (b := x2) (m := 27) (n := 21) z3 X2 (by decide)
 obtain ⟨y5, f5, z5, s5⟩ := cat_ex (a := y4) (b := ⟨#[32]⟩) (m := 48) (n := 1) z4 (by decide) (by decide)
 obtain ⟨y6, f6, z6, s6⟩ := cat_ex (a := y5) (b := x4) (m := 49) (n := 1000) z5 X4 (by decide)
 rw [f1, f2, f3, f4, f5, f6] at HZ
 obtain ⟨y7, f7, z7, s7⟩ := cat_ex (a := y6) (b := ⟨#[32, 115, 104, 105, 101, 108, 100]⟩) (m := 1049) (n := 7) z6 (by decide) (by decide)
 obtain ⟨x3, ex3⟩ : ∃ z, itS a.ou = z := ⟨_, rfl⟩
 rw [ex3] at H3 X3
 obtain ⟨y8, f8, z8, s8⟩ := cat_ex (a := ⟨#[32, 111, 117, 116, 32]⟩) (b := x3) (m := 5) (n := 21) (by decide) X3 (by decide)
 obtain ⟨y9, f9, z9, s9⟩ := cat_ex (a := y6) (b := y8) (m := 1049) (n := 26) z6 z8 (by decide)
 obtain ⟨yA, fA, zA, sA⟩ := cat_ex (a := y7) (b := y8) (m := 1056) (n := 26) z7 z8 (by decide)
 have HF : Hid (∀ b : Bool, slS i a x = l4S (l3S y6 a.sh) a.ou) := hid (fun _ => by unfold slS; rw [HZ.out])
 have HF7 : Hid (y6 ++ ⟨#[32, 115, 104, 105, 101, 108, 100]⟩ = y7) := hid f7
 have HF8 : Hid (∀ z : ByteArray, (z ++ ⟨#[32, 111, 117, 116, 32]⟩) ++ itS a.ou = z ++ y8) := hid (fun z => by rw [ex3, ByteArray.append_assoc, f8])
 have HF9 := hid f9
 have HFA := hid fA
 obtain ⟨W0, eW0⟩ : ∃ X, ((w.alloc (.cells (mcs a) 56)).alloc (.cells (ccs x) 61)) = X := ⟨_, rfl⟩
 rw [eW0] at HP0 HQ0 HS0
 rw [HF.out true]
 obtain ⟨T, eT⟩ : ∃ T, l4S (l3S y6 a.sh) a.ou = T := ⟨_, rfl⟩
 rw [eT]
 have HTT := hid eT
 clear A0 A1 p0 q0 ht n1 n2 n3 n4 n5 n6 hNm X0 X1 X2 X3 X4 ex0 ex1 ex2 ex3 ex4 f1 z1 f2 z2 f3 z3 f4 z4 f5 z5 f6 z6 f7 z7 f8 z8 f9 z9 fA zA HF HZ hi eT
 go_enter Tryz.func17, Tryz.ntmps17
 go_upto_region 1 with fail
 (try rw [eW0])
 clear eW0
 refine region_flow 24 [2, 7, 8, 13, 14] (by kernel_rfl) (by kernel_rfl) (by kernel_rfl) ?_
 apply Exists.intro
 refine And.intro ?_ (And.intro ?_ ?_)
 ·intro u hu
  obtain ⟨m0, m1, m2, m3, m4, m5, m6, m7, m8, m9, m10, m11, m12, mf⟩ := (HP0.out.still hu).cells
  obtain ⟨d0, d1, d2, d3, df⟩ := (HQ0.out.still hu).cells
  have k0 := Cl.cell m0
  have k1 := Cl.cell m1
  have k2 := Cl.cell m7
  have k3 := Cl.cell m8
  have k4 := Cl.cell d0
  have hne := Aft.here u
  have G0 := hid (fun z : Aft u => HL.out z.u)
  have G1 := hid (fun z : Aft u => H1.out z.u (HS0.out.trans (hu.trans z.s)))
  have G2 := hid (fun z : Aft u => H2.out z.u (HS0.out.trans (hu.trans z.s)))
  clear m0 m1 m2 m3 m4 m5 m6 m7 m8 m9 m10 m11 m12 mf d0 d1 d2 d3 df
  simp only [List.take_succ_cons, List.take_zero]
  repeat (go_big_quiet_step ((first | (go_at_call 47; with_reducible exact Calls.cl (G0.out _)) | (go_at_call 23; with_reducible exact Calls.cl (G1.out _)) | (go_at_call 23; with_reducible exact Calls.cl (G2.out _)))))
  exact wpQuiet_nil rfl
 ·intro j o t hj hx ho hd u
  have hjj : j = 2 \/ j = 7 \/ j = 8 \/ j = 13 \/ j = 14 := by simpa using hx
  rcases hjj with rfl | rfl | rfl | rfl | rfl
  ·obtain rfl := Option.some.inj ho
   obtain rfl := Option.some.inj hd
   exact add_st rfl rfl rfl s1 u
  ·obtain rfl := Option.some.inj ho
   obtain rfl := Option.some.inj hd
   exact add_st rfl rfl rfl s2 u
  ·obtain rfl := Option.some.inj ho
   obtain rfl := Option.some.inj hd
   exact add_st rfl rfl rfl s3 u
  ·obtain rfl := Option.some.inj ho
   obtain rfl := Option.some.inj hd
   exact add_st rfl rfl rfl s4 u
  ·obtain rfl := Option.some.inj ho
   obtain rfl := Option.some.inj hd
   exact add_st rfl rfl rfl s5 u
 intro o ho u hu
 obtain rfl := Option.some.inj ho
 refine ⟨_, _, bs_nm3 (a := ⟨⟨#[104, 101, 97, 108, 116, 104]⟩, a.hl⟩) (b := ⟨⟨#[101, 110, 101, 114, 103, 121]⟩, a.en⟩) (c := ⟨⟨#[112, 111, 105, 110, 116, 115]⟩, x.p⟩) rfl rfl rfl rfl u, Still.alloc u _, ?_⟩
 intro u2 h2
 have hS2 := HS0.out.trans (hu.trans ((Still.alloc u _).trans h2))
 have HC := hid (HJ.out u2 hS2 u.heap.size (h2.kept_still (heap_alloc_new u _)))
 have HS2 := hid hS2
 have HP2 := hid (HP0.out.still (hu.trans ((Still.alloc u _).trans h2)))
 simp only [Act.put, List.setIfInBounds_toArray, List.set_cons_succ, List.set_cons_zero, List.drop_succ_cons, List.drop_zero]
 clear hS2 h2 hu HJ HP0 HQ0 HS0 HL H1 H2 s1 s2 s3 s4 s5
 go_wp2_with fail
 refine HC.out.mono ?_
 rintro e u3 ⟨rfl, h3⟩
 have HS3 := hid (HS2.out.trans h3)
 have HP3 := hid (HP2.out.still h3)
 clear h3 HC HP2 HS2
 obtain ⟨m0, m1, m2, m3, m4, m5, m6, m7, m8, m9, m10, m11, m12, mf⟩ := HP3.out.cells
 go_wp2_with fail
 refine ⟨rfl, ?_⟩
 cases bS : a.sh with
 | true =>
  rw [bS] at m9
  by_cases bO : 0 < a.ou
  ·have bG : a.ou > 0 := bO
   have HE : Hid (T = yA) := hid (by rw [<- HTT.out, bS]; unfold l4S l3S; rw [if_pos rfl, if_pos bO, HF7.out, HF8.out, HFA.out])
   have HI := hid (H3.out u3 HS3.out)
   clear HF7 HF8 HF9 HFA H3 bS HTT
   go_wp2_with fail
   refine HI.out.mono ?_
   rintro e u4 ⟨rfl, h4⟩
   have HS4 := hid (HS3.out.trans h4)
   clear h4 HI m0 m1 m2 m3 m4 m5 m6 m7 m8 m9 m10 m11 m12 mf
   go_wp2_with fail
   go_ret
   exact ⟨by rw [HE.out]; try rfl, HS4.out⟩
  ·have bG : ¬ a.ou > 0 := bO
   have HE : Hid (T = y7) := hid (by rw [<- HTT.out, bS]; unfold l4S l3S; rw [if_pos rfl, if_neg bO, HF7.out])
   clear HF7 HF8 HF9 HFA H3 bS HTT
   go_wp2_with fail
   go_ret
   exact ⟨by rw [HE.out]; try rfl, HS3.out⟩
 | false =>
  rw [bS] at m9
  by_cases bO : 0 < a.ou
  ·have bG : a.ou > 0 := bO
   have HE : Hid (T = y9) := hid (by rw [<- HTT.out, bS]; unfold l4S l3S; rw [if_neg (show ¬ (false = true) by decide), if_pos bO, HF8.out, HF9.out])
   have HI := hid (H3.out u3 HS3.out)
   clear HF7 HF8 HF9 HFA H3 bS HTT
   go_wp2_with fail
   refine HI.out.mono ?_
   rintro e u4 ⟨rfl, h4⟩
   have HS4 := hid (HS3.out.trans h4)
   clear h4 HI m0 m1 m2 m3 m4 m5 m6 m7 m8 m9 m10 m11 m12 mf
   go_wp2_with fail
   go_ret
   exact ⟨by rw [HE.out]; try rfl, HS4.out⟩
  ·have bG : ¬ a.ou > 0 := bO
   have HE : Hid (T = y6) := hid (by rw [<- HTT.out, bS]; unfold l4S l3S; rw [if_neg (show ¬ (false = true) by decide), if_neg bO])
   clear HF7 HF8 HF9 HFA H3 bS HTT
   go_wp2_with fail
   go_ret
   exact ⟨by rw [HE.out]; try rfl, HS3.out⟩
end Go.Proofs.YthcjckgmdokmdaaGreatDoor
namespace Go.Proofs.YthcjckgmdokmdaaGreatDoor
open Go.RowKit
open Pu Gp Np Za Ka Ja Ea Ha
set_option maxRecDepth 100000
theorem sc_put {w : World} {g : Nat} {z0 z1 z2 z3 z4 z5 z6 z7 z8 z9 : Value} (h : w.heap[g]? = some (.cells #[z0, z1, z2, z3, z4, z5, z6, z7, z8, z9] 106 (0, 0))) (v0 v1 v2 v3 v4 v5 v6 v7 v8 v9 : Value) : ((((((((((w.setCell ⟨g, 0, none⟩ v0).setCell ⟨g, 1, none⟩ v1).setCell ⟨g, 2, none⟩ v2).setCell ⟨g, 3, none⟩ v3).setCell ⟨g, 4, none⟩ v4).setCell ⟨g, 5, none⟩ v5).setCell ⟨g, 6, none⟩ v6).setCell ⟨g, 7, none⟩ v7).setCell ⟨g, 8, none⟩ v8).setCell ⟨g, 9, none⟩ v9).heap[g]? = some (.cells #[v0, v1, v2, v3, v4, v5, v6, v7, v8, v9] 106 (0, 0)) := by
 have h0 : (w.setCell ⟨g, 0, none⟩ v0).heap[g]? = some (.cells #[v0, z1, z2, z3, z4, z5, z6, z7, z8, z9] 106 (0, 0)) := (heap_setCell_same w g 0 _ _ v0 h).trans (by kernel_rfl)
 have h1 : ((w.setCell ⟨g, 0, none⟩ v0).setCell ⟨g, 1, none⟩ v1).heap[g]? = some (.cells #[v0, v1, z2, z3, z4, z5, z6, z7, z8, z9] 106 (0, 0)) := (heap_setCell_same (w.setCell ⟨g, 0, none⟩ v0) g 1 _ _ v1 h0).trans (by kernel_rfl)
 have h2 : (((w.setCell ⟨g, 0, none⟩ v0).setCell ⟨g, 1, none⟩ v1).setCell ⟨g, 2, none⟩ v2).heap[g]? = some (.cells #[v0, v1, v2, z3, z4, z5, z6, z7, z8, z9] 106 (0, 0)) := (heap_setCell_same ((w.setCell ⟨g, 0, none⟩ v0).setCell ⟨g, 1, none⟩ v1) g 2 _ _ v2 h1).trans (by kernel_rfl)
 have h3 : ((((w.setCell ⟨g, 0, none⟩ v0).setCell ⟨g, 1, none⟩ v1).setCell ⟨g, 2, none⟩ v2).setCell ⟨g, 3, none⟩ v3).heap[g]? = some (.cells #[v0, v1, v2, v3, z4, z5, z6, z7, z8, z9] 106 (0, 0)) := (heap_setCell_same (((w.setCell ⟨g, 0, none⟩ v0).setCell ⟨g, 1, none⟩ v1).setCell ⟨g, 2, none⟩ v2) g 3 _ _ v3 h2).trans (by kernel_rfl)
 have h4 : (((((w.setCell ⟨g, 0, none⟩ v0).setCell ⟨g, 1, none⟩ v1).setCell ⟨g, 2, none⟩ v2).setCell ⟨g, 3, none⟩ v3).setCell ⟨g, 4, none⟩ v4).heap[g]? = some (.cells #[v0, v1, v2, v3, v4, z5, z6, z7, z8, z9] 106 (0, 0)) := (heap_setCell_same ((((w.setCell ⟨g, 0, none⟩ v0).setCell ⟨g, 1, none⟩ v1).setCell ⟨g, 2, none⟩ v2).setCell ⟨g, 3, none⟩ v3) g 4 _ _ v4 h3).trans (by kernel_rfl)
 have h5 : ((((((w.setCell ⟨g, 0, none⟩ v0).setCell ⟨g, 1, none⟩ v1).setCell ⟨g, 2, none⟩ v2).setCell ⟨g, 3, none⟩ v3).setCell ⟨g, 4, none⟩ v4).setCell ⟨g, 5, none⟩ v5).heap[g]? = some (.cells #[v0, v1, v2, v3, v4, v5, z6, z7, z8, z9] 106 (0, 0)) := (heap_setCell_same (((((w.setCell ⟨g, 0, none⟩ v0).setCell ⟨g, 1, none⟩ v1).setCell ⟨g, 2, none⟩ v2).setCell ⟨g, 3, none⟩ v3).setCell ⟨g, 4, none⟩ v4) g 5 _ _ v5 h4).trans (by kernel_rfl)
 have h6 : (((((((w.setCell ⟨g, 0, none⟩ v0).setCell ⟨g, 1, none⟩ v1).setCell ⟨g, 2, none⟩ v2).setCell ⟨g, 3, none⟩ v3).setCell ⟨g, 4, none⟩ v4).setCell ⟨g, 5, none⟩ v5).setCell ⟨g, 6, none⟩ v6).heap[g]? = some (.cells #[v0, v1, v2, v3, v4, v5, v6, z7, z8, z9] 106 (0, 0)) := (heap_setCell_same ((((((w.setCell ⟨g, 0, none⟩ v0).setCell ⟨g, 1, none⟩ v1).setCell ⟨g, 2, none⟩ v2).setCell ⟨g, 3, none⟩ v3).setCell ⟨g, 4, none⟩ v4).setCell ⟨g, 5, none⟩ v5) g 6 _ _ v6 h5).trans (by kernel_rfl)
 have h7 : ((((((((w.setCell ⟨g, 0, none⟩ v0).setCell ⟨g, 1, none⟩ v1).setCell ⟨g, 2, none⟩ v2).setCell ⟨g, 3, none⟩ v3).setCell ⟨g, 4, none⟩ v4).setCell ⟨g, 5, none⟩ v5).setCell ⟨g, 6, none⟩ v6).setCell ⟨g, 7, none⟩ v7).heap[g]? = some (.cells #[v0, v1, v2, v3, v4, v5, v6, v7, z8, z9] 106 (0, 0)) := (heap_setCell_same (((((((w.setCell ⟨g, 0, none⟩ v0).setCell ⟨g, 1, none⟩ v1).setCell ⟨g, 2, none⟩ v2).setCell ⟨g, 3, none⟩ v3).setCell ⟨g, 4, none⟩ v4).setCell ⟨g, 5, none⟩ v5).setCell ⟨g, 6, none⟩ v6) g 7 _ _ v7 h6).trans (by kernel_rfl)
 have h8 : (((((((((w.setCell ⟨g, 0, none⟩ v0).setCell ⟨g, 1, none⟩ v1).setCell ⟨g, 2, none⟩ v2).setCell ⟨g, 3, none⟩ v3).setCell ⟨g, 4, none⟩ v4).setCell ⟨g, 5, none⟩ v5).setCell ⟨g, 6, none⟩ v6).setCell ⟨g, 7, none⟩ v7).setCell ⟨g, 8, none⟩ v8).heap[g]? = some (.cells #[v0, v1, v2, v3, v4, v5, v6, v7, v8, z9] 106 (0, 0)) := (heap_setCell_same ((((((((w.setCell ⟨g, 0, none⟩ v0).setCell ⟨g, 1, none⟩ v1).setCell ⟨g, 2, none⟩ v2).setCell ⟨g, 3, none⟩ v3).setCell ⟨g, 4, none⟩ v4).setCell ⟨g, 5, none⟩ v5).setCell ⟨g, 6, none⟩ v6).setCell ⟨g, 7, none⟩ v7) g 8 _ _ v8 h7).trans (by kernel_rfl)
 have h9 : ((((((((((w.setCell ⟨g, 0, none⟩ v0).setCell ⟨g, 1, none⟩ v1).setCell ⟨g, 2, none⟩ v2).setCell ⟨g, 3, none⟩ v3).setCell ⟨g, 4, none⟩ v4).setCell ⟨g, 5, none⟩ v5).setCell ⟨g, 6, none⟩ v6).setCell ⟨g, 7, none⟩ v7).setCell ⟨g, 8, none⟩ v8).setCell ⟨g, 9, none⟩ v9).heap[g]? = some (.cells #[v0, v1, v2, v3, v4, v5, v6, v7, v8, v9] 106 (0, 0)) := (heap_setCell_same (((((((((w.setCell ⟨g, 0, none⟩ v0).setCell ⟨g, 1, none⟩ v1).setCell ⟨g, 2, none⟩ v2).setCell ⟨g, 3, none⟩ v3).setCell ⟨g, 4, none⟩ v4).setCell ⟨g, 5, none⟩ v5).setCell ⟨g, 6, none⟩ v6).setCell ⟨g, 7, none⟩ v7).setCell ⟨g, 8, none⟩ v8) g 9 _ _ v9 h8).trans (by kernel_rfl)
 exact h9
theorem sc_still {x w : World} {g : Nat} (h : Still x w) (hg : x.heap.size <= g) (v0 v1 v2 v3 v4 v5 v6 v7 v8 v9 : Value) : Still x ((((((((((w.setCell ⟨g, 0, none⟩ v0).setCell ⟨g, 1, none⟩ v1).setCell ⟨g, 2, none⟩ v2).setCell ⟨g, 3, none⟩ v3).setCell ⟨g, 4, none⟩ v4).setCell ⟨g, 5, none⟩ v5).setCell ⟨g, 6, none⟩ v6).setCell ⟨g, 7, none⟩ v7).setCell ⟨g, 8, none⟩ v8).setCell ⟨g, 9, none⟩ v9) := (Fr.setCell (Fr.setCell (Fr.setCell (Fr.setCell (Fr.setCell (Fr.setCell (Fr.setCell (Fr.setCell (Fr.setCell (Fr.setCell h _ v0 (.inr hg)) _ v1 (.inr hg)) _ v2 (.inr hg)) _ v3 (.inr hg)) _ v4 (.inr hg)) _ v5 (.inr hg)) _ v6 (.inr hg)) _ v7 (.inr hg)) _ v8 (.inr hg)) _ v9 (.inr hg))
theorem sc_fr (w : World) (g : Nat) (v0 v1 v2 v3 v4 v5 v6 v7 v8 v9 : Value) : Fr (fun k => k = g) w ((((((((((w.setCell ⟨g, 0, none⟩ v0).setCell ⟨g, 1, none⟩ v1).setCell ⟨g, 2, none⟩ v2).setCell ⟨g, 3, none⟩ v3).setCell ⟨g, 4, none⟩ v4).setCell ⟨g, 5, none⟩ v5).setCell ⟨g, 6, none⟩ v6).setCell ⟨g, 7, none⟩ v7).setCell ⟨g, 8, none⟩ v8).setCell ⟨g, 9, none⟩ v9) := (Fr.setCell (Fr.setCell (Fr.setCell (Fr.setCell (Fr.setCell (Fr.setCell (Fr.setCell (Fr.setCell (Fr.setCell (Fr.setCell (Fr.refl (fun k => k = g) w) _ v0 (.inl rfl)) _ v1 (.inl rfl)) _ v2 (.inl rfl)) _ v3 (.inl rfl)) _ v4 (.inl rfl)) _ v5 (.inl rfl)) _ v6 (.inl rfl)) _ v7 (.inl rfl)) _ v8 (.inl rfl)) _ v9 (.inl rfl))
theorem sc_own {α : Type} {K : Kd α} {e : TypeId} {w : World} {B g : Nat} {v : Value} {L : List α} {cur : Array Value} (h : OwG K e w B v L) (hg : w.heap[g]? = some (.cells cur 106 (0, 0))) (ht : e ≠ 106) (v0 v1 v2 v3 v4 v5 v6 v7 v8 v9 : Value) : OwG K e ((((((((((w.setCell ⟨g, 0, none⟩ v0).setCell ⟨g, 1, none⟩ v1).setCell ⟨g, 2, none⟩ v2).setCell ⟨g, 3, none⟩ v3).setCell ⟨g, 4, none⟩ v4).setCell ⟨g, 5, none⟩ v5).setCell ⟨g, 6, none⟩ v6).setCell ⟨g, 7, none⟩ v7).setCell ⟨g, 8, none⟩ v8).setCell ⟨g, 9, none⟩ v9) B v L :=
 h.keep (sc_fr w g v0 v1 v2 v3 v4 v5 v6 v7 v8 v9) (fun k hk e' => by
  subst hk
  obtain ⟨cur', hc⟩ := ow_ty h e'
  exact ty_ne hc hg ht rfl)
theorem sc_cells {w : World} {g : Nat} {z0 z1 z2 z3 z4 z5 z6 z7 z8 z9 : Value} (h : w.heap[g]? = some (.cells #[z0, z1, z2, z3, z4, z5, z6, z7, z8, z9] 106 (0, 0))) : w.cell? ⟨g, 0, none⟩ = some z0 /\ w.cell? ⟨g, 1, none⟩ = some z1 /\ w.cell? ⟨g, 2, none⟩ = some z2 /\ w.cell? ⟨g, 3, none⟩ = some z3 /\ w.cell? ⟨g, 4, none⟩ = some z4 /\ w.cell? ⟨g, 5, none⟩ = some z5 /\ w.cell? ⟨g, 6, none⟩ = some z6 /\ w.cell? ⟨g, 7, none⟩ = some z7 /\ w.cell? ⟨g, 8, none⟩ = some z8 /\ w.cell? ⟨g, 9, none⟩ = some z9 /\ ∀ o, w.frozen? ⟨g, o, none⟩ = false := by
 refine ⟨?_, ?_, ?_, ?_, ?_, ?_, ?_, ?_, ?_, ?_, fun o => frozen_of_row w g o _ _ h⟩ <;> (rw [cell_of_row _ _ _ _ _ _ h]; rfl)
def rowS (g : Nat -> Nat -> ByteArray) (C r : Nat) : ByteArray := rwS g ByteArray.empty r C
def mpL (g : Nat -> Nat -> ByteArray) (C : Nat) : Nat -> List ByteArray
 | 0 => []
 | r + 1 => mpL g C r ++ [rowS g C r]
theorem mpL_len (g : Nat -> Nat -> ByteArray) (C : Nat) : ∀ r, (mpL g C r).length = r
 | 0 => rfl
 | r + 1 => by rw [mpL, List.length_append, mpL_len g C r]; rfl
theorem rwS_from (g : Nat -> Nat -> ByteArray) (s : ByteArray) (r : Nat) : ∀ c, rwS g s r c = s ++ rwS g ByteArray.empty r c
 | 0 => by simp [rwS]
 | c + 1 => by rw [rwS, rwS, rwS_from g s r c, ByteArray.append_assoc]
set_option maxHeartbeats 16000000 in
theorem vmap_any (Cn Rn : Nat) (hC : Cn <= 32) (hR : Rn <= 24) (s : ByteArray) (fr nx : Int) (ao bo co xo : Option Addr) (ac bn bc cc xc : Nat) (M : List Mv) (H : List Sh) (K : List Pk) (sp : List (Int × Int)) (n m k : Nat) (hz : s.size <= 281474976710656) (w : World) (hM : RdG KM w ao n M) (hn : n <= 6) (hH : RdG KS w co m H) (hK : RdG KQ w xo k K) (hsl : sp.length <= 281474976710656) (hk : ∀ i, i < k -> 0 <= (Ka.pk K i).sp /\ (Ka.pk K i).sp < (sp.length : Int) /\ 1 <= (Ka.pk K i).kd /\ (Ka.pk K i).kd <= 3)
    (q1 : ∀ i, i < n -> Plc62 (mm M i).ax /\ Plc62 (mm M i).ay) (q2 : ∀ i, i < m -> Plc62 (ss H i).ax /\ Plc62 (ss H i).ay) (q3 : ∀ i, i < sp.length -> Plc62 (pp sp i).1 /\ Plc62 (pp sp i).2) (ht : KTab w)
    (hsp : ∀ u, Calls Tryz.prog 43 #[ar (Cn : Int) (Rn : Int) s] u fun e w' => ∃ a, e = .returned a /\ OwG KT 54 w' u.heap.size a sp /\ Still u w')
    (gg : Nat -> Nat -> ByteArray) (hgg : ∀ c r, gg c r = sgS (solB (Cn : Int) (Rn : Int) s (c : Int) (r : Int)) (mvP M c r) (shP H c r) (pkP K sp c r) (fun i => (Ka.pk K i).kd) n m k) :
    Calls Tryz.prog 16 #[ar (Cn : Int) (Rn : Int) s, .agg (wdcs fr nx (.slice ao n ac) (.slice bo bn bc) (.slice co m cc) (.slice xo k xc))] w fun e w' => ∃ v, e = .returned v /\ OwG KSt 9 w' w.heap.size v (mpL gg Cn Rn) /\ Still w w' := by
  have A0 := Still.alloc w (.cells #[.int .i64 (Cn : Int), .int .i64 (Rn : Int), .string s] 24)
  have A1 := Still.alloc (w.alloc (.cells #[.int .i64 (Cn : Int), .int .i64 (Rn : Int), .string s] 24)) (.cells (wdcs fr nx (.slice ao n ac) (.slice bo bn bc) (.slice co m cc) (.slice xo k xc)) 33)
  have p0 : Ab (w.alloc (.cells #[.int .i64 (Cn : Int), .int .i64 (Rn : Int), .string s] 24)) w.heap.size (Cn : Int) (Rn : Int) s := heap_alloc_new w _
  have b0 := newWd_wb (w.alloc (.cells #[.int .i64 (Cn : Int), .int .i64 (Rn : Int), .string s] 24)) fr nx (.slice ao n ac) (.slice bo bn bc) (.slice co m cc) (.slice xo k xc)
  rw [size_alloc] at b0
  have HS0 := hid (A0.trans A1)
  have HP0 := hid (p0.still A1)
  have HQ0 : Hid (Wdb ((w.alloc (.cells #[.int .i64 (Cn : Int), .int .i64 (Rn : Int), .string s] 24)).alloc (.cells (wdcs fr nx (.slice ao n ac) (.slice bo bn bc) (.slice co m cc) (.slice xo k xc)) 33)) (w.heap.size + 1) fr nx (.slice ao n ac) (.slice bo bn bc) (.slice co m cc) (.slice xo k xc)) := hid b0
  have HM := hid hM
  have HH := hid hH
  have HK := hid hK
  have HKd := hid hk
  have H1 := hid q1
  have H2 := hid q2
  have H3 := hid q3
  have HTb := hid ht
  have HSl := hid hsl
  have Hz := hid hz
  have Hn := hid hn
  have HG := hid hgg
  have Hg1 : Hid (∀ c r, (gg c r).size <= 1) := hid (fun c r => by rw [hgg]; exact sgS_sz _ _ _ _ _ _ _ _)
  have HSp := hid (fun u (hu : Still w u) => (hsp u).mono (fun e w' (h : ∃ a, e = .returned a /\ OwG KT 54 w' u.heap.size a sp /\ Still u w') => (show ∃ a, e = .returned a /\ OwG KT 54 w' w.heap.size a sp /\ Still u w' by obtain ⟨a, h1, h2, h3⟩ := h; exact ⟨a, h1, h2.less hu.size, h3⟩)))
  obtain ⟨W0, eW0⟩ : ∃ X, ((w.alloc (.cells #[.int .i64 (Cn : Int), .int .i64 (Rn : Int), .string s] 24)).alloc (.cells (wdcs fr nx (.slice ao n ac) (.slice bo bn bc) (.slice co m cc) (.slice xo k xc)) 33)) = X := ⟨_, rfl⟩
  rw [eW0] at HS0 HP0 HQ0
  obtain ⟨c0, c1, c2, cf⟩ := HP0.out.cells
  obtain ⟨d0, d1, d2, d3, d4, d5, df⟩ := HQ0.out.cells
  obtain ⟨sn, en⟩ : ∃ x, sp.length = x := ⟨_, rfl⟩
  have HN := hid en
  have nn : w.heap.size + 1 < W0.heap.size := block_lt HQ0.out
  have k1 : W0.heap.size ≠ w.heap.size := by omega
  have k2 : W0.heap.size ≠ w.heap.size + 1 := by omega
  clear A0 A1 p0 b0 hM hn hH hK hsl hk q1 q2 q3 ht hsp hgg hz en nn
  go_enter Tryz.func16, Tryz.ntmps16
  go_upto_region 1 with fail
  (try rw [eW0])
  clear eW0
  go_cut [5] (fun v5 wx => ∃ g po pc, v5 = .pointer (some ⟨g, 0, none⟩) /\ wx.heap[g]? = some (.cells #[.int .i64 (Cn : Int), .int .i64 (Rn : Int), .string s, .slice po sn pc, .int .i64 fr, .slice ao n ac, .slice bo bn bc, .slice co m cc, .slice xo k xc, .int .i64 nx] 106 (0, 0)) /\ OwG KT 54 wx w.heap.size (.slice po sn pc) sp /\ Still W0 wx)
  case first =>
    go_region_held3 (fun w' => w'.cell? ⟨w.heap.size, 0, none⟩ = some (.int .i64 (Cn : Int)) /\ w'.cell? ⟨w.heap.size, 1, none⟩ = some (.int .i64 (Rn : Int)) /\ w'.cell? ⟨w.heap.size, 2, none⟩ = some (.string s) /\ w'.cell? ⟨w.heap.size + 1, 0, none⟩ = some (.int .i64 fr) /\ w'.cell? ⟨w.heap.size + 1, 1, none⟩ = some (.slice ao n ac) /\ w'.cell? ⟨w.heap.size + 1, 2, none⟩ = some (.slice bo bn bc) /\ w'.cell? ⟨w.heap.size + 1, 3, none⟩ = some (.slice co m cc) /\ w'.cell? ⟨w.heap.size + 1, 4, none⟩ = some (.slice xo k xc) /\ w'.cell? ⟨w.heap.size + 1, 5, none⟩ = some (.int .i64 nx)) (go_keep)
      (first
        | (go_at_call 43
           refine (HSp.out _ (by repeat (first | exact HS0.out | refine Fr.drew ?_ | refine Fr.alloc ?_ _))).mono ?_
           rintro e x1 ⟨v1, rfl, o1, g1⟩
           obtain ⟨po, pc, hv, _⟩ := o1.slice
           rw [HN.out] at hv
           subst hv
           have HX1 : Hid (Still W0 x1) := hid (by
             refine Still.trans ?_ g1
             repeat (first | exact Fr.refl _ _ | refine Fr.drew ?_ | refine Fr.alloc ?_ _))
           obtain ⟨e0, e1, e2, ef⟩ := (HP0.out.still HX1.out).cells
           obtain ⟨f0, f1, f2, f3, f4, f5, ff⟩ := (HQ0.out.still HX1.out).cells
           have HO1 := hid o1
           try (have z1 : x1.heap[W0.heap.size]? = some (.cells #[.int .i64 0, .int .i64 0, .string ByteArray.empty, .slice none 0 0, .int .i64 0, .slice none 0 0, .slice none 0 0, .slice none 0 0, .slice none 0 0, .int .i64 0] 106 (0, 0)) := Fr.kept_still (Still.undrew g1) (heap_alloc_new W0 _); obtain ⟨u0, u1, u2, u3, u4, u5, u6, u7, u8, u9, uf⟩ := sc_cells z1)
           clear o1))
    · go_wp2_with fail
      go_meet
      have hA := Still.alloc x1 (.cells #[.int .i64 (Cn : Int), .int .i64 (Rn : Int), .string s, .slice po sn pc, .int .i64 fr, .slice ao n ac, .slice bo bn bc, .slice co m cc, .slice xo k xc, .int .i64 nx] 106)
      exact ⟨x1.heap.size, po, pc, rfl, heap_alloc_new x1 _, HO1.out.still hA, HX1.out.trans hA⟩
    · go_wp2_with fail
      go_meet
      exact ⟨W0.heap.size, po, pc, rfl, sc_put z1 _ _ _ _ _ _ _ _ _ _, sc_own HO1.out z1 (by decide) _ _ _ _ _ _ _ _ _ _, sc_still HX1.out (Nat.le_refl _) _ _ _ _ _ _ _ _ _ _⟩
  case rest =>
    obtain ⟨g, po, pc, rfl, hg, ho, hs⟩ := hcut
    have HGb : Hid (Scb wc g (Cn : Int) (Rn : Int) s (.slice po sn pc) fr nx (.slice ao n ac) (.slice bo bn bc) (.slice co m cc) (.slice xo k xc)) := hid hg
    have HSc := hid (HS0.out.trans hs)
    have HPc := hid (HP0.out.still hs)
    have HSo := hid (show RdG KT wc po sn sp by
      have h := OwG.rd (L := sp) (M := []) (n := sn) (by rw [List.append_nil]; exact ho) HSl.out
      rwa [HN.out] at h)
    have HSg := hid (fun (u : World) (hu : Still wc u) (c r : Nat) => vsgn_any (Cn : Int) (Rn : Int) s fr nx ao bo co xo po ac bn bc cc xc pc M H K sp n m k sn c r Hz.out u (HM.out.still (HSc.out.trans hu)) Hn.out (HH.out.still (HSc.out.trans hu)) (HK.out.still (HSc.out.trans hu)) (HSo.out.still hu) (by rw [<- HN.out]; exact HKd.out) H1.out H2.out (by rw [<- HN.out]; exact H3.out) (HTb.out.still (HSc.out.trans hu)))
    have HSg2 : Hid (∀ (u : World), Still wc u -> ∀ c r : Nat, Calls Tryz.prog 45 #[.agg #[.int .i64 (Cn : Int), .int .i64 (Rn : Int), .string s, .slice po sn pc, .int .i64 fr, .slice ao n ac, .slice bo bn bc, .slice co m cc, .slice xo k xc, .int .i64 nx], .agg #[.int .i64 (c : Int), .int .i64 (r : Int)]] u fun e w' => e = .returned (.string (gg c r)) /\ Still u w') := hid (fun u hu c r => by rw [HG.out c r]; exact HSg.out u hu c r)
    clear c0 c1 c2 cf d0 d1 d2 d3 d4 d5 df k1 k2 hg ho hs HSg HM HH HK HKd H1 H2 H3 HTb HSl Hz Hn HG HSp HQ0 HP0 HS0 HSo HN
    obtain ⟨c0, c1, c2, cf⟩ := HPc.out.cells
    go_wp2_with fail
    clear c0 c1 c2 cf
    go_loopw [6, 17] (fun v u wr => ∃ i : Nat, i <= Rn /\ u = .int .i64 (i : Int) /\ OwG KSt 9 wr wc.heap.size v (mpL gg Cn i) /\ Still wc wr) (fun _ u _ => Rn - (intOf u).toNat)
    case atStart => exact ⟨0, by omega, rfl, OwG.nil _ _, Fr.refl _ _⟩
    case round =>
      obtain ⟨i, hi, rfl, ho, hs⟩ := hrel
      have HO := hid ho
      have HS := hid hs
      obtain ⟨lo, lcp, rfl, hlo⟩ := ho.slice
      have HLe := hid (mpL_len gg Cn i)
      by_cases hin : i < Rn
      · have hlt : (i : Int) < (Rn : Int) := by omega
        have HStp : Hid (mpL gg Cn (i + 1) = mpL gg Cn i ++ [rwS gg ByteArray.empty i Cn]) := hid rfl
        obtain ⟨LL, eLL⟩ : ∃ x, mpL gg Cn i = x := ⟨_, rfl⟩
        rw [eLL] at HO HStp HLe
        rw [eLL]
        obtain ⟨z0, ez0⟩ : ∃ x, wr.heap.size = x := ⟨_, rfl⟩
        have A2 := Still.alloc wr (.cells #[.pointer none, .slice none 0 0] 110)
        have b2 := BldV.fresh wr
        have HS2 := hid A2
        have hP2 := (HPc.out.still hs).still A2
        obtain ⟨c0, c1, c2, cf⟩ := hP2.cells
        have HGw := hid (hs)
        clear eLL ho hs hlo hP2 A2
        rw [ez0] at b2
        obtain ⟨Wqa, eWqa⟩ : ∃ x, wr = x := ⟨_, rfl⟩
        rw [eWqa] at HO HS HS2 HGw b2 c0 c1 c2 cf ez0
        rw [eWqa]
        go_wp2_with fail
        (try rw [ez0])
        clear c0 c1 c2 cf
        go_loopw [22] (fun u wr2 => ∃ j : Nat, j <= Cn /\ u = .int .i64 (j : Int) /\ BldV wr2 z0 z0 (rwS gg ByteArray.empty i j) /\ Still Wqa wr2) (fun u _ => Cn - (intOf u).toNat)
        case atStart => exact ⟨0, by omega, rfl, b2, HS2.out⟩
        case round =>
          obtain ⟨j, hj, rfl, b3, hs3⟩ := hrel
          have HS3 := hid hs3
          have S1 : (rwS gg ByteArray.empty i j).size <= 0 + j := rwS_sz Hg1.out (s := ByteArray.empty) (m := 0) (Nat.le_refl _) i j
          have HNx : Hid (rwS gg ByteArray.empty i (j + 1) = rwS gg ByteArray.empty i j ++ gg j i) := hid rfl
          have S2 := Hg1.out j i
          clear b2 HS2
          by_cases hjn : j < Cn
          · have hlt2 : (j : Int) < (Cn : Int) := by omega
            have HSi := hid (HSg2.out wr (HGw.out.trans hs3) j i)
            obtain ⟨d0, d1, d2, d3, d4, d5, d6, d7, d8, d9⟩ := (HGb.out.still (HGw.out.trans hs3)).cells
            obtain ⟨x, ex⟩ : ∃ x, gg j i = x := ⟨_, rfl⟩
            rw [ex] at HSi HNx S2
            obtain ⟨Tx, eT⟩ : ∃ x, rwS gg ByteArray.empty i j = x := ⟨_, rfl⟩
            rw [eT] at b3 HNx S1
            have HZ := hid (And.intro S1 S2)
            clear ex eT hs3 S1 S2
            go_wp2_with fail
            refine HSi.out.mono ?_
            rintro e w4 ⟨rfl, h4⟩
            have HS4 := hid (HS3.out.trans h4)
            have b4 := b3.still h4
            clear h4 b3 HSi d0 d1 d2 d3 d4 d5 d6 d7 d8 d9 HS3
            go_wp2_with fail
            refine (writeV_any _ _ Tx x _ b4 (by have := HZ.out; omega)).mono ?_
            rintro e w5 ⟨rfl, b5, h5⟩
            have HS5 := hid (still_belowV HS4.out h5 (Nat.le_of_eq ez0))
            rw [<- HNx.out] at b5
            clear h5 b4 HS4
            go_wp2_with fail
            go_roundw
            case rel => exact ⟨j + 1, by omega, by go_num, b5, HS5.out⟩
            case measure => first | (simp [intOf]; done) | (simp [intOf]; omega)
          · have hge2 : ¬ (j : Int) < (Cn : Int) := by omega
            obtain rfl : j = Cn := by omega
            obtain ⟨Tx, eT⟩ : ∃ x, rwS gg ByteArray.empty i j = x := ⟨_, rfl⟩
            rw [eT] at b3 HStp
            clear hs3 hjn S1 S2 HNx eT
            go_wp2_with fail
            refine (stringV_any _ _ _ _ b3).mono ?_
            rintro e w4 ⟨rfl, h4⟩
            have HS4 := hid (still_belowV HS3.out h4 (Nat.le_of_eq ez0))
            clear h4 b3 HS3
            have A6 := Still.alloc w4 (.cells #[.string Tx] 9)
            have HO6 := hid (HO.out.still (HS4.out.trans A6))
            have HS6 := hid (HGw.out.trans (HS4.out.trans A6))
            have HY6 := hid (sr_st1 (show (w4.alloc (.cells #[.string Tx] 9)).heap[w4.heap.size]? = some (.cells #[.string Tx] 9 (0, 0)) from heap_alloc_new w4 _))
            have HB6 : Hid (wc.heap.size <= (w4.alloc (.cells #[.string Tx] 9)).heap.size) := hid HS6.out.size
            have HL4 : Hid ((LL.length + [Tx].length) * 16 <= 140737488355328) := hid (by have := HLe.out; simp only [List.length_cons, List.length_nil]; omega)
            have HL5 : Hid (LL.length + [Tx].length <= 281474976710656) := hid (by have := HLe.out; simp only [List.length_cons, List.length_nil]; omega)
            clear A6
            go_wp2_with (
              at_builtin
              refine wpList_appMG KSt _ rfl _ _ 66 rfl Tryz.underlying66 16 (.string ⟨#[]⟩) rfl infoSt wc.heap.size (.slice lo LL.length lcp) LL [Tx] (some ⟨w4.heap.size, 0, none⟩) 1 1 rfl rfl rfl HO6.out HY6.out HL4.out HL5.out HB6.out ?_
              intro v' w' ho' hf'
              have HO9 := hid ho'
              have HF9 := hid hf'
              clear ho' hf')
            go_roundw
            case rel => exact ⟨i + 1, by omega, by go_num, by rw [HStp.out]; exact HO9.out, still_appG HS6.out HO6.out HF9.out (Nat.le_refl _)⟩
            case measure => first | (simp [intOf]; done) | (simp [intOf]; omega)
      · have hge : ¬ (i : Int) < (Rn : Int) := by omega
        obtain rfl : i = Rn := by omega
        have HS9 := hid (HSc.out.trans hs)
        clear hs ho hin hlo
        go_wp2_with fail
        go_ret
        exact ⟨_, rfl, HO.out.less HSc.out.size, HS9.out⟩
end Go.Proofs.YthcjckgmdokmdaaGreatDoor
namespace Go.Proofs.YthcjckgmdokmdaaGreatDoor
open Go.RowKit
open Pu Gp Ap Vp Np Za Ka Ja Ea Ha Hg Hi
set_option maxRecDepth 100000
theorem pre3 (s t : ByteArray) (b : Bool) : s ++ l3S t b = l3S (s ++ t) b := by
 unfold l3S
 cases b
 ·rfl
 ·rw [if_pos rfl, if_pos rfl, ByteArray.append_assoc]
theorem pre4 (s t : ByteArray) (o : Int) : s ++ l4S t o = l4S (s ++ t) o := by
 unfold l4S
 by_cases h : 0 < o
 ·rw [if_pos h, if_pos h, ByteArray.append_assoc, ByteArray.append_assoc, ByteArray.append_assoc]
 ·rw [if_neg h, if_neg h]
theorem pre0 (s : ByteArray) (i : Nat) (a : Mv) (x : Scr) : s ++ sl0 i a x = l2S (l1S s i a) a x := by
 unfold sl0 l2S l1S jnS jnW nmL
 simp only [List.flatMap_cons, List.flatMap_nil, List.cons_append, List.nil_append]
 generalize itS a.ax = x0
 generalize itS a.ay = x1
 generalize itS a.hl = x2
 generalize itS a.en = x3
 generalize itS x.p = x4
 generalize ltS i = x5
 apply ByteArray.ext
 apply Array.toList_inj.1
 simp [Lib.join_cons, Lib.joinTail]
theorem pre_sl (s : ByteArray) (i : Nat) (a : Mv) (x : Scr) : s ++ slS i a x = l4S (l3S (l2S (l1S s i a) a x) a.sh) a.ou := by
 unfold slS
 rw [pre4, pre3, pre0]
def slR (M : List Mv) (S : List Scr) : Nat -> List ByteArray
 | 0 => []
 | i + 1 => slR M S i ++ [slS i (mm M i) (sc S i)]
theorem slR_len (M : List Mv) (S : List Scr) : ∀ i, (slR M S i).length = i
 | 0 => rfl
 | i + 1 => by rw [slR, List.length_append, slR_len M S i]; rfl
abbrev enF : ByteArray -> ByteArray -> ByteArray := fun s x => (s ++ x) ++ ⟨#[10]⟩
theorem en_map (g : Nat -> Nat -> ByteArray) (C : Nat) (s : ByteArray) : ∀ r, (mpL g C r).foldl enF s = mpS g C s r
 | 0 => rfl
 | r + 1 => by
  rw [mpL, List.foldl_append, en_map g C s r]
  show (mpS g C s r ++ rowS g C r) ++ ⟨#[10]⟩ = mpS g C s (r + 1)
  unfold rowS
  rw [<- rwS_from]
  rfl
theorem en_ls (M : List Mv) (S : List Scr) (s : ByteArray) : ∀ i, (slR M S i).foldl enF s = lsS M S s i
 | 0 => rfl
 | i + 1 => by
  rw [slR, List.foldl_append, en_ls M S s i]
  show (lsS M S s i ++ slS i (mm M i) (sc S i)) ++ ⟨#[10]⟩ = lsS M S s (i + 1)
  rw [pre_sl]
  rfl
def shL (g : Nat -> Nat -> ByteArray) (hd : ByteArray) (C R : Nat) (M : List Mv) (S : List Scr) (i : Nat) : List ByteArray := ([hd] ++ mpL g C R) ++ slR M S i
theorem en_sh (g : Nat -> Nat -> ByteArray) (fr : Int) (C R : Nat) (M : List Mv) (S : List Scr) (n : Nat) : enS (shL g (⟨#[102, 114, 97, 109, 101, 32]⟩ ++ itS fr) C R M S n) = shwS g fr C R M S n := by
 unfold enS shL shwS
 rw [List.foldl_append, List.foldl_append]
 show (slR M S n).foldl enF ((mpL g C R).foldl enF (enF ByteArray.empty (⟨#[102, 114, 97, 109, 101, 32]⟩ ++ itS fr))) = _
 rw [en_map, en_ls]
 unfold enF
 rw [ByteArray.empty_append]
theorem ow_st1 {w : World} {g B : Nat} {s : ByteArray} (h : w.heap[g]? = some (.cells #[.string s] 9 (0, 0))) (hB : B <= g) : OwG KSt 9 w B (.slice (some ⟨g, 0, none⟩) 1 1) [s] :=
 ⟨rfl, .inr ⟨g, 1, #[.string s], rfl, hB, h, Nat.le_refl _, by unfold maxLen; omega, rfl, rfl⟩⟩
set_option maxHeartbeats 16000000 in
theorem vshow_yes (q : Int) (Cn Rn : Nat) (s : ByteArray) (fr nx : Int) (lo ao bo co xo : Option Addr) (ln lc ac bc cc xc : Nat) (M : List Mv) (S : List Scr) (H : List Sh) (K : List Pk) (sp : List (Int × Int)) (n m k : Nat) (hC : Cn <= 32) (hR : Rn <= 24) (hz : s.size <= 281474976710656) (w : World) (hM : RdG KM w ao n M) (hB : RdG KC w bo n S) (hn : n <= 6) (hH : RdG KS w co m H) (hK : RdG KQ w xo k K) (hsl : sp.length <= 281474976710656) (hk : ∀ i, i < k -> 0 <= (Ka.pk K i).sp /\ (Ka.pk K i).sp < (sp.length : Int) /\ 1 <= (Ka.pk K i).kd /\ (Ka.pk K i).kd <= 3) (hf : I64 fr) (hN : ∀ i, i < n -> Num6 (mm M i) (sc S i)) (ht : PTabV w) (hkt : KTab w)
  (q1 : ∀ i, i < n -> Plc62 (mm M i).ax /\ Plc62 (mm M i).ay) (q2 : ∀ i, i < m -> Plc62 (ss H i).ax /\ Plc62 (ss H i).ay) (q3 : ∀ i, i < sp.length -> Plc62 (pp sp i).1 /\ Plc62 (pp sp i).2)
  (hck : ∀ u, Still w u -> Calls Tryz.prog 14 #[.agg #[.int .i64 (n : Int), .int .u64 q, .int .i64 (Cn : Int), .int .i64 (Rn : Int), .string s, .slice lo ln lc], .agg (wdcs fr nx (.slice ao n ac) (.slice bo n bc) (.slice co m cc) (.slice xo k xc))] u fun e w' => e = .returned (.int .i64 0) /\ Still u w')
  (hsp : ∀ u, Calls Tryz.prog 43 #[ar (Cn : Int) (Rn : Int) s] u fun e w' => ∃ a, e = .returned a /\ OwG KT 54 w' u.heap.size a sp /\ Still u w')
  (gg : Nat -> Nat -> ByteArray) (hgg : ∀ c r, gg c r = sgS (solB (Cn : Int) (Rn : Int) s (c : Int) (r : Int)) (mvP M c r) (shP H c r) (pkP K sp c r) (fun i => (Ka.pk K i).kd) n m k) :
  Calls Tryz.prog 6 #[.agg #[.int .i64 (n : Int), .int .u64 q, .int .i64 (Cn : Int), .int .i64 (Rn : Int), .string s, .slice lo ln lc], .agg (wdcs fr nx (.slice ao n ac) (.slice bo n bc) (.slice co m cc) (.slice xo k xc))] w fun e w' => e = .returned (.tuple #[.string (shwS gg fr Cn Rn M S n), .int .i64 0]) /\ Still w w' := by
 have A0 := Still.alloc w (.cells #[.int .i64 (n : Int), .int .u64 q, .int .i64 (Cn : Int), .int .i64 (Rn : Int), .string s, .slice lo ln lc] 27)
 have A1 := Still.alloc (w.alloc (.cells #[.int .i64 (n : Int), .int .u64 q, .int .i64 (Cn : Int), .int .i64 (Rn : Int), .string s, .slice lo ln lc] 27)) (.cells (wdcs fr nx (.slice ao n ac) (.slice bo n bc) (.slice co m cc) (.slice xo k xc)) 33)
 have a0 := newCf_cb w ⟨(n : Int), q, (Cn : Int), (Rn : Int), s, .slice lo ln lc⟩
 have b0 := newWd_wb (w.alloc (.cells #[.int .i64 (n : Int), .int .u64 q, .int .i64 (Cn : Int), .int .i64 (Rn : Int), .string s, .slice lo ln lc] 27)) fr nx (.slice ao n ac) (.slice bo n bc) (.slice co m cc) (.slice xo k xc)
 rw [size_alloc] at b0
 have HS0 := hid (A0.trans A1)
 have HP0 : Hid (Cfb ((w.alloc (.cells #[.int .i64 (n : Int), .int .u64 q, .int .i64 (Cn : Int), .int .i64 (Rn : Int), .string s, .slice lo ln lc] 27)).alloc (.cells (wdcs fr nx (.slice ao n ac) (.slice bo n bc) (.slice co m cc) (.slice xo k xc)) 33)) w.heap.size ⟨(n : Int), q, (Cn : Int), (Rn : Int), s, .slice lo ln lc⟩) := hid (a0.still A1)
 have HQ0 : Hid (Wdb ((w.alloc (.cells #[.int .i64 (n : Int), .int .u64 q, .int .i64 (Cn : Int), .int .i64 (Rn : Int), .string s, .slice lo ln lc] 27)).alloc (.cells (wdcs fr nx (.slice ao n ac) (.slice bo n bc) (.slice co m cc) (.slice xo k xc)) 33)) (w.heap.size + 1) fr nx (.slice ao n ac) (.slice bo n bc) (.slice co m cc) (.slice xo k xc)) := hid b0
 have Hg1 : ∀ c r, (gg c r).size <= 1 := fun c r => by rw [hgg]; exact sgS_sz _ _ _ _ _ _ _ _
 have HSz : Hid ((shwS gg fr Cn Rn M S n).size <= 140737488355328) := hid (by
  have h1 := mpS_sz Hg1 hC (s := (⟨#[102, 114, 97, 109, 101, 32]⟩ ++ itS fr) ++ ⟨#[10]⟩) (cat_sq (cat_sq (show ((⟨#[102, 114, 97, 109, 101, 32]⟩ : ByteArray)).size <= 6 by decide) (itS_sz hf)) (show ((⟨#[10]⟩ : ByteArray)).size <= 1 by decide)) Rn
  have h2 := lsS_sz (M := M) (C := S) h1 hN n (Nat.le_refl _)
  unfold shwS
  omega)
 have HMp := hid (fun (u : World) (hu : Still w u) => vmap_any Cn Rn hC hR s fr nx ao bo co xo ac n bc cc xc M H K sp n m k hz u (hM.still hu) hn (hH.still hu) (hK.still hu) hsl hk q1 q2 q3 (hkt.still hu) hsp gg hgg)
 have HFo := hid (fun (u : World) (hu : Still w u) => formV_any fr hf u (ht.still hu))
 have HSt := hid (fun (i : Nat) (hi : i < n) (u : World) (hu : Still w u) => seatLine_any i (by omega) (mm M i) (sc S i) (hN i hi) u (ht.still hu))
 have HM := hid hM
 have HB := hid hB
 have HCk := hid hck
 have Hn := hid hn
 have X1 := itS_sz hf
 obtain ⟨x1, ex1⟩ : ∃ x, itS fr = x := ⟨_, rfl⟩
 have HE := hid (en_sh gg fr Cn Rn M S n)
 rw [ex1] at HFo X1 HE
 obtain ⟨y1, f1, z1, s1⟩ := cat_ex (a := ⟨#[102, 114, 97, 109, 101, 32]⟩) (b := x1) (m := 6) (n := 21) (by decide) X1 (by decide)
 rw [f1] at HE
 obtain ⟨T, eT⟩ : ∃ T, shwS gg fr Cn Rn M S n = T := ⟨_, rfl⟩
 rw [eT] at HE HSz
 rw [eT]
 have HRn := hid hR
 obtain ⟨W0, eW0⟩ : ∃ X, ((w.alloc (.cells #[.int .i64 (n : Int), .int .u64 q, .int .i64 (Cn : Int), .int .i64 (Rn : Int), .string s, .slice lo ln lc] 27)).alloc (.cells (wdcs fr nx (.slice ao n ac) (.slice bo n bc) (.slice co m cc) (.slice xo k xc)) 33)) = X := ⟨_, rfl⟩
 rw [eW0] at HS0 HP0 HQ0
 obtain ⟨c0, c1, c2, c3, c4, c5, cf⟩ := HP0.out.cells
 dsimp only at c0 c1 c2 c3 c4 c5
 obtain ⟨d0, d1, d2, d3, d4, d5, df⟩ := HQ0.out.cells
 clear A0 A1 a0 b0 hM hB hH hK hsl hk q1 q2 q3 ht hkt hck hsp hgg hz hf hN Hg1 X1 ex1 f1 z1 eT hC
 go_enter Tryz.func6, Tryz.ntmps6
 go_wp2_with fail
 (try rw [eW0])
 clear eW0
 refine (HCk.out _ HS0.out).mono ?_
 rintro e w1 ⟨rfl, h1⟩
 have HS1 := hid (HS0.out.trans h1)
 have HP1 := hid (HP0.out.still h1)
 have HQ1 := hid (HQ0.out.still h1)
 clear h1 c0 c1 c2 c3 c4 c5 cf d0 d1 d2 d3 d4 d5 df HCk HP0 HQ0 HS0
 obtain ⟨d0, d1, d2, d3, d4, d5, df⟩ := HQ1.out.cells
 go_wp2_with fail
 refine (HFo.out _ HS1.out).mono ?_
 rintro e w2 ⟨rfl, h2⟩
 have A3 := Still.alloc w2 (.cells #[.string y1] 9)
 have HS3 := hid (h2.trans A3)
 have HO3 := hid (ow_st1 (B := w1.heap.size) (show (w2.alloc (.cells #[.string y1] 9)).heap[w2.heap.size]? = some (.cells #[.string y1] 9 (0, 0)) from heap_alloc_new w2 _) h2.size)
 have HC3 := hid (HMp.out (w2.alloc (.cells #[.string y1] 9)) (HS1.out.trans (h2.trans A3)))
 obtain ⟨c0, c1, c2, c3, c4, c5, cf⟩ := (HP1.out.still (h2.trans A3)).cells
 dsimp only at c0 c1 c2 c3 c4 c5
 clear d0 d1 d2 d3 d4 d5 df
 obtain ⟨d0, d1, d2, d3, d4, d5, df⟩ := (HQ1.out.still (h2.trans A3)).cells
 obtain ⟨W3, eW3⟩ : ∃ X, w2.alloc (.cells #[.string y1] 9) = X := ⟨_, rfl⟩
 rw [eW3] at HS3 HO3 HC3 c0 c1 c2 c3 c4 c5 cf d0 d1 d2 d3 d4 d5 df
 obtain ⟨z2, ez2⟩ : ∃ x, w2.heap.size = x := ⟨_, rfl⟩
 rw [ez2] at HO3
 clear h2 A3 HFo HMp
 go_wp2_with fail
 (try rw [eW3])
 (try rw [ez2])
 clear eW3 ez2
 refine HC3.out.mono ?_
 rintro e w4 ⟨v4, rfl, o4, h4⟩
 obtain ⟨mo, mc, rfl, _⟩ := o4.slice
 have hml := mpL_len gg Cn Rn
 have HS4 := hid (HS3.out.trans h4)
 have HO4 := hid (HO3.out.still h4)
 have HY4 := hid (SrG.own o4 (by rw [hml]; omega))
 have HB4 : Hid (w1.heap.size <= w4.heap.size) := hid HS4.out.size
 have HL4 : Hid (([y1].length + (mpL gg Cn Rn).length) * 16 <= 140737488355328) := hid (by rw [hml]; simp only [List.length_cons, List.length_nil]; omega)
 have HL5 : Hid ([y1].length + (mpL gg Cn Rn).length <= 281474976710656) := hid (by rw [hml]; simp only [List.length_cons, List.length_nil]; omega)
 have HLm := hid hml
 obtain ⟨ML, eML⟩ : ∃ x, mpL gg Cn Rn = x := ⟨_, rfl⟩
 have HML := hid eML
 rw [eML] at HY4 HL4 HL5 HLm
 rw [eML]
 clear c0 c1 c2 c3 c4 c5 cf d0 d1 d2 d3 d4 d5 df h4 o4 HC3 HS3 HO3 hml eML
 go_wp2_with (
  at_builtin
  refine wpList_appMG KSt _ rfl _ _ 66 rfl Tryz.underlying66 16 (.string ⟨#[]⟩) rfl infoSt w1.heap.size (.slice (some ⟨z2, 0, none⟩) 1 1) [y1] ML mo ML.length mc rfl rfl rfl HO4.out HY4.out HL4.out HL5.out HB4.out ?_
  intro v5 w5 ho5 hf5
  have HS5 := hid (still_appG HS4.out HO4.out hf5 (Nat.le_refl _))
  have HO5 := hid ho5
  obtain ⟨c0, c1, c2, c3, c4, c5, cf⟩ := (HP1.out.still (still_appG HS4.out HO4.out hf5 (Nat.le_refl _))).cells
  dsimp only at c0 c1 c2 c3 c4 c5
  clear ho5 hf5)
 clear c0 c1 c2 c3 c4 c5 cf
 go_loopw [6, 25] (fun v u wr => ∃ i : Nat, i <= n /\ u = .int .i64 (i : Int) /\ OwG KSt 9 wr w1.heap.size v (([y1] ++ ML) ++ slR M S i) /\ Still w1 wr) (fun _ u _ => n - (intOf u).toNat)
 case atStart => exact ⟨0, by omega, rfl, by rw [show slR M S 0 = [] from rfl, List.append_nil]; exact HO5.out, HS5.out⟩
 case round =>
  obtain ⟨i, hi, rfl, ho, hs⟩ := hrel
  have HO := hid ho
  have HS := hid hs
  obtain ⟨lo', lcp, rfl, hlo⟩ := ho.slice
  have HLe : Hid ((([y1] ++ ML) ++ slR M S i).length = 1 + Rn + i) := hid (by rw [List.length_append, List.length_append, slR_len, HLm.out]; rfl)
  by_cases hin : i < n
  ·have hlt : (i : Int) < (n : Int) := by omega
   have hr1 := HM.out.still (HS1.out.trans hs)
   have hr2 := HB.out.still (HS1.out.trans hs)
   obtain ⟨B1, o1, rfl⟩ := hr1.at (by omega)
   obtain ⟨B2, o2, rfl⟩ := hr2.at (by omega)
   have HR1 := hid (fun u (hu : Still wr u) => rdM (hr1.still hu) hin)
   have HR2 := hid (fun u (hu : Still wr u) => rdC (hr2.still hu) hin)
   have HSi := hid (fun u (hu : Still w u) => HSt.out i hin u hu)
   have HStp : Hid (([y1] ++ ML) ++ slR M S (i + 1) = (([y1] ++ ML) ++ slR M S i) ++ [slS i (mm M i) (sc S i)]) := hid (List.append_assoc ([y1] ++ ML) (slR M S i) _).symm
   obtain ⟨a, ea⟩ : ∃ x, mm M i = x := ⟨_, rfl⟩
   obtain ⟨t, et⟩ : ∃ x, sc S i = x := ⟨_, rfl⟩
   rw [ea] at HR1 HSi HStp
   rw [et] at HR2 HSi HStp
   obtain ⟨l, el⟩ : ∃ x, slS i a t = x := ⟨_, rfl⟩
   rw [el] at HSi HStp
   obtain ⟨LL, eLL⟩ : ∃ x, ([y1] ++ ML) ++ slR M S i = x := ⟨_, rfl⟩
   rw [eLL] at HO HStp HLe
   rw [eLL]
   have HQr := hid (HQ1.out.still hs)
   have HSw := hid (HS1.out.trans hs)
   clear ea et el eLL hr1 hr2 ho hs hlo
   go_upto_region 8 with fail
   refine region_laid 13 1 (by kernel_rfl) (by kernel_rfl) (by kernel_rfl) ?_
   apply Exists.intro
   refine And.intro ?_ (And.intro ?_ ?_)
   ·intro u hu
    obtain ⟨d0, d1, d2, d3, d4, d5, df⟩ := (HQr.out.still hu).cells
    obtain ⟨m0, m1, m2, m3, m4, m5, m6, m7, m8, m9, m10, m11, m12⟩ := HR1.out u hu
    obtain ⟨n0, n1, n2, n3⟩ := HR2.out u hu
    have k1 := Cl.cell d1
    have k2 := Cl.cell d2
    have y0' := Cl.cell m0
    have y1' := Cl.cell m1
    have y2' := Cl.cell m2
    have y3' := Cl.cell m3
    have y4' := Cl.cell m4
    have y5' := Cl.cell m5
    have y6' := Cl.cell m6
    have y7' := Cl.cell m7
    have y8' := Cl.cell m8
    have y9' := Cl.cell m9
    have y10' := Cl.cell m10
    have y11' := Cl.cell m11
    have y12' := Cl.cell m12
    have z0' := Cl.cell n0
    have z1' := Cl.cell n1
    have z2' := Cl.cell n2
    have z3' := Cl.cell n3
    have hne := Aft.here u
    have G := hid (fun z : Aft u => HSi.out z.u (HSw.out.trans (hu.trans z.s)))
    clear d0 d1 d2 d3 d4 d5 df m0 m1 m2 m3 m4 m5 m6 m7 m8 m9 m10 m11 m12 n0 n1 n2 n3
    simp only [List.take_succ_cons, List.take_zero]
    repeat (go_big_quiet_step ((first | (go_at_call 17; with_reducible exact Calls.cl (G.out _)))))
    exact wpQuiet_nil rfl
   ·intro _ o ho u hu
    obtain rfl := Option.some.inj ho
    exact ⟨_, _, bs_st1 rfl rfl u, Still.alloc u _⟩
   intro w6 h6
   simp only [List.drop_succ_cons, List.drop_zero]
   have A7 := Still.alloc w6 (.cells #[.string l] 9)
   have HO7 := hid (HO.out.still (h6.trans A7))
   have HS7 := hid (HS.out.trans (h6.trans A7))
   have HY7 := hid (sr_st1 (show (w6.alloc (.cells #[.string l] 9)).heap[w6.heap.size]? = some (.cells #[.string l] 9 (0, 0)) from heap_alloc_new w6 _))
   have HB7 : Hid (w1.heap.size <= (w6.alloc (.cells #[.string l] 9)).heap.size) := hid HS7.out.size
   have HL7 : Hid ((LL.length + [l].length) * 16 <= 140737488355328) := hid (by have := HLe.out; have := HRn.out; have := Hn.out; simp only [List.length_cons, List.length_nil]; omega)
   have HL8 : Hid (LL.length + [l].length <= 281474976710656) := hid (by have := HLe.out; have := HRn.out; have := Hn.out; simp only [List.length_cons, List.length_nil]; omega)
   clear A7 h6 HR1 HR2 HSi HQr HSw
   go_wp2_with (
    at_builtin
    refine wpList_appMG KSt _ rfl _ _ 66 rfl Tryz.underlying66 16 (.string ⟨#[]⟩) rfl infoSt w1.heap.size (.slice lo' LL.length lcp) LL [l] (some ⟨w6.heap.size, 0, none⟩) 1 1 rfl rfl rfl HO7.out HY7.out HL7.out HL8.out HB7.out ?_
    intro v' w' ho' hf'
    have HO9 := hid ho'
    have HF9 := hid hf'
    clear ho' hf')
   refine ⟨rfl, ?_⟩
   go_wp2_with fail
   go_roundw
   case rel => exact ⟨i + 1, by omega, by go_num, by rw [HStp.out]; exact HO9.out, still_appG HS7.out HO7.out HF9.out (Nat.le_refl _)⟩
   case measure => first | (simp [intOf]; done) | (simp [intOf]; omega)
  ·have hge : ¬ (i : Int) < (n : Int) := by omega
   obtain rfl : i = n := by omega
   have hLL : shL gg y1 Cn Rn M S i = ([y1] ++ ML) ++ slR M S i := by unfold shL; rw [HML.out]
   have HEn := HE.out
   rw [hLL] at HEn
   have HC := hid (ended_any (([y1] ++ ML) ++ slR M S i) (by rw [HEn]; exact HSz.out) lo' (1 + Rn + i) lcp wr (by
    have h := OwG.rd (L := ([y1] ++ ML) ++ slR M S i) (M := []) (by rw [List.append_nil]; exact HO.out) (by rw [HLe.out]; have := HRn.out; have := Hn.out; omega)
    rwa [HLe.out] at h))
   rw [HEn] at HC
   rw [HLe.out]
   have HSw := hid (HS1.out.trans hs)
   clear hs ho hlo hin hLL HEn
   go_wp2_with fail
   refine HC.out.mono ?_
   rintro e w6 ⟨rfl, h6⟩
   have HS6 := hid (HSw.out.trans h6)
   clear h6 HC
   go_wp2_with fail
   go_ret2
   exact ⟨rfl, HS6.out⟩
end Go.Proofs.YthcjckgmdokmdaaGreatDoor
namespace Go.Proofs.YthcjckgmdokmdaaGreatDoor
open Go.RowKit
open Pu Gp Ap Vp Np Za Ka Ja Ea Ha Hg Hi
set_option maxRecDepth 100000
set_option maxHeartbeats 4000000 in
theorem vshow_no (p q C R : Int) (s : ByteArray) (fr nx : Int) (lo ao bo co xo : Option Addr) (ln lc ac bc cc xc n1 n2 m k : Nat) (er : Int) (her : er = 130 \/ er = 131) (w : World) (hck : ∀ u, Still w u -> Calls Tryz.prog 14 #[.agg #[.int .i64 p, .int .u64 q, .int .i64 C, .int .i64 R, .string s, .slice lo ln lc], .agg (wdcs fr nx (.slice ao n1 ac) (.slice bo n2 bc) (.slice co m cc) (.slice xo k xc))] u fun e w' => e = .returned (.int .i64 er) /\ Still u w') :
  Calls Tryz.prog 6 #[.agg #[.int .i64 p, .int .u64 q, .int .i64 C, .int .i64 R, .string s, .slice lo ln lc], .agg (wdcs fr nx (.slice ao n1 ac) (.slice bo n2 bc) (.slice co m cc) (.slice xo k xc))] w fun e w' => e = .returned (.tuple #[.string ByteArray.empty, .int .i64 230]) /\ Still w w' := by
 have A0 := Still.alloc w (.cells #[.int .i64 p, .int .u64 q, .int .i64 C, .int .i64 R, .string s, .slice lo ln lc] 27)
 have A1 := Still.alloc (w.alloc (.cells #[.int .i64 p, .int .u64 q, .int .i64 C, .int .i64 R, .string s, .slice lo ln lc] 27)) (.cells (wdcs fr nx (.slice ao n1 ac) (.slice bo n2 bc) (.slice co m cc) (.slice xo k xc)) 33)
 have b0 := newWd_wb (w.alloc (.cells #[.int .i64 p, .int .u64 q, .int .i64 C, .int .i64 R, .string s, .slice lo ln lc] 27)) fr nx (.slice ao n1 ac) (.slice bo n2 bc) (.slice co m cc) (.slice xo k xc)
 rw [size_alloc] at b0
 have a0 := newCf_cb w ⟨p, q, C, R, s, .slice lo ln lc⟩
 have HS0 : Hid (Still w ((w.alloc (.cells #[.int .i64 p, .int .u64 q, .int .i64 C, .int .i64 R, .string s, .slice lo ln lc] 27)).alloc (.cells (wdcs fr nx (.slice ao n1 ac) (.slice bo n2 bc) (.slice co m cc) (.slice xo k xc)) 33))) := hid (A0.trans A1)
 have HP0 : Hid (Cfb ((w.alloc (.cells #[.int .i64 p, .int .u64 q, .int .i64 C, .int .i64 R, .string s, .slice lo ln lc] 27)).alloc (.cells (wdcs fr nx (.slice ao n1 ac) (.slice bo n2 bc) (.slice co m cc) (.slice xo k xc)) 33)) w.heap.size ⟨p, q, C, R, s, .slice lo ln lc⟩) := hid (a0.still A1)
 have HQ0 : Hid (Wdb ((w.alloc (.cells #[.int .i64 p, .int .u64 q, .int .i64 C, .int .i64 R, .string s, .slice lo ln lc] 27)).alloc (.cells (wdcs fr nx (.slice ao n1 ac) (.slice bo n2 bc) (.slice co m cc) (.slice xo k xc)) 33)) (w.heap.size + 1) fr nx (.slice ao n1 ac) (.slice bo n2 bc) (.slice co m cc) (.slice xo k xc)) := hid b0
 obtain ⟨W0, eW0⟩ : ∃ X, ((w.alloc (.cells #[.int .i64 p, .int .u64 q, .int .i64 C, .int .i64 R, .string s, .slice lo ln lc] 27)).alloc (.cells (wdcs fr nx (.slice ao n1 ac) (.slice bo n2 bc) (.slice co m cc) (.slice xo k xc)) 33)) = X := ⟨_, rfl⟩
 rw [eW0] at HS0 HP0 HQ0
 obtain ⟨c0, c1, c2, c3, c4, c5, cf⟩ := HP0.out.cells
 dsimp only at c0 c1 c2 c3 c4 c5
 obtain ⟨d0, d1, d2, d3, d4, d5, df⟩ := HQ0.out.cells
 have HCk := hid (hck W0 HS0.out)
 clear A0 A1 b0 a0 hck HP0 HQ0
 rcases her with rfl | rfl <;> (
  go_enter Tryz.func6, Tryz.ntmps6
  go_wp2_with fail
  (try rw [eW0])
  clear eW0
  refine HCk.out.mono ?_
  rintro e w1 ⟨rfl, h1⟩
  have HS1 := hid (HS0.out.trans h1)
  clear h1 c0 c1 c2 c3 c4 c5 cf d0 d1 d2 d3 d4 d5 df
  go_wp2_with fail
  go_ret2
  exact ⟨rfl, HS1.out⟩)
set_option maxHeartbeats 2000000 in
theorem vshow_any (p q C R : Int) (s : ByteArray) (lo : Option Addr) (ln lc : Nat) (E : Env) (l : List Int) (w : World) (v0 : Int) (hv0 : ChkV C R s v0) (A : ∀ u, Q13 u ⟨p, q, C, R, s, .slice lo ln lc⟩ v0 E.st E.sp) (hpl : ∀ i, i < E.sp.length -> Plc62 (pp E.sp i).1 /\ Plc62 (pp E.sp i).2) (hr : RdI w lo ln lc l) (W : Wd) (v : Value) (hv : RdW w v W) (ht : PTabV w) (hkt : KTab w) :
  Calls Tryz.prog 6 #[.agg #[.int .i64 p, .int .u64 q, .int .i64 C, .int .i64 R, .string s, .slice lo ln lc], v] w fun e w' => ∃ t er, e = .returned (.tuple #[.string t, .int .i64 er]) /\ ShQ C R s E W (CfgP p v0 E.st.length l /\ Fits p E W) t er /\ Still w w' := by
 have hW := hv
 obtain ⟨a, b, c, d, rfl, ⟨xa, ya, rfl, l1, ha, hra⟩, ⟨xb, yb, rfl, l2, hb, hrb⟩, ⟨xc, yc, rfl, l3, hc0, hrc⟩, ⟨xd, yd, rfl, l4, hd0, hrd⟩⟩ := hv
 by_cases hc : CfgP p v0 E.st.length l
 ·obtain ⟨N, rfl⟩ : ∃ N : Nat, p = (N : Int) := ⟨p.toNat, by have := hc.1; omega⟩
  by_cases hF : Fits (N : Int) E W
  ·have hvz : v0 = 0 := hc.2.2.1
   subst hvz
   obtain ⟨q1, q2, q3, q4, q5, q6⟩ := form_shape (chkV_ok hv0)
   obtain ⟨Cn, rfl⟩ : ∃ k : Nat, C = (k : Int) := ⟨C.toNat, by omega⟩
   obtain ⟨Rn, rfl⟩ : ∃ k : Nat, R = (k : Int) := ⟨R.toNat, by omega⟩
   have hG := hF.1
   rw [Int.toNat_natCast] at hG
   obtain ⟨⟨g1, g2, g3, g4⟩, g5, g6, g7, g8⟩ := hG
   have hN6 : N <= 6 := by have := hc.2.1; omega
   have e2 : W.cs.length = W.ms.length := by omega
   rw [e2] at hrb
   obtain rfl : N = W.ms.length := by omega
   have hB48 := g5.1
   have key := vshow_yes q Cn Rn s W.fr W.nx lo xa xb xc xd ln lc ya yb yc yd W.ms W.cs W.hs W.ks E.sp W.ms.length W.hs.length W.ks.length (by omega) (by omega) (by omega) w hra hrb (by omega) hrc hrd (by have := g7.1; omega) (fun i hi => by have := g7.2.2 i hi; exact ⟨this.2.2.1.1, this.2.2.1.2, this.2.2.2.1.1, this.2.2.2.1.2⟩) (by have := hF.2; unfold I64; omega) (fun i hi => num6_of (g2 i (by omega)) (g4 i (by omega))) ht hkt (fun i hi => by
    have := (g2 i (by omega)).1
    unfold Plc62
    omega) (fun i hi => by
    have := (maySB_iff.1 (g5.2 i hi).1).2.2.2.1
    unfold Plc62
    omega) hpl (fun u hu => by
    have h := wchk_yes W.ms.length q (Cn : Int) (Rn : Int) s lo ln lc E l u 0 (A u) (hr.still hu) hc W _ (hW.still hu)
    rw [chkW_yes hF, e2] at h
    exact h) (fun u => (A u).sps u (Fr.refl _ _)) (sgW (Cn : Int) (Rn : Int) s E.sp W) (fun _ _ => rfl)
   rw [e2]
   refine key.mono ?_
   rintro e w' ⟨rfl, h⟩
   exact ⟨_, _, rfl, ⟨fun _ => ⟨by rw [Int.toNat_natCast, Int.toNat_natCast], rfl⟩, fun o => absurd ⟨hc, hF⟩ o⟩, h⟩
  ·refine (vshow_no (N : Int) q C R s W.fr W.nx lo xa xb xc xd ln lc ya yb yc yd W.ms.length W.cs.length W.hs.length W.ks.length 131 (.inr rfl) w (fun u hu => ?_)).mono ?_
   ·have h := wchk_yes N q C R s lo ln lc E l u v0 (A u) (hr.still hu) hc W _ (hW.still hu)
    rw [chkW_no hF] at h
    exact h
   ·rintro e w' ⟨rfl, h⟩
    exact ⟨_, _, rfl, ⟨fun o => absurd o.2 hF, fun _ => ⟨rfl, rfl⟩⟩, h⟩
 ·refine (vshow_no p q C R s W.fr W.nx lo xa xb xc xd ln lc ya yb yc yd W.ms.length W.cs.length W.hs.length W.ks.length 130 (.inl rfl) w (fun u hu => wchk_no p q C R s lo ln lc E l u v0 (A u) (hr.still hu) hc W _ (hW.still hu))).mono ?_
  rintro e w' ⟨rfl, h⟩
  exact ⟨_, _, rfl, ⟨fun o => absurd o.1 hc, fun _ => ⟨rfl, rfl⟩⟩, h⟩
theorem sp_plc (C : Nat) (s : ByteArray) : ∀ n, n <= 281474976710656 -> ∀ x ∈ spP C s n, Plc62 x.1 /\ Plc62 x.2
 | 0, _, x, hx => by simp [spP] at hx
 | n + 1, h, x, hx => by
  rw [spP, List.mem_append] at hx
  rcases hx with hx | hx
  ·exact sp_plc C s n (by omega) x hx
  ·split at hx
   ·simp at hx
    subst hx
    have key : ∀ a : Nat, a <= n -> Plc62 ((a : Int) * 4096 + 2048) := fun a ha => by
     unfold Plc62
     omega
    exact ⟨key _ (Nat.mod_le n C), key _ (Nat.div_le_self n C)⟩
   ·simp at hx
theorem spV_plc (C : Int) (s : ByteArray) (hz : s.size <= 281474976710656) (v : Int) : ∀ i, i < (spV C s v).length -> Plc62 (pp (spV C s v) i).1 /\ Plc62 (pp (spV C s v) i).2 := fun i hi => by
 unfold spV at hi ⊢
 split at hi
 ·rename_i h
  rw [if_pos h]
  have := sp_plc C.toNat s s.size hz _ (List.getElem_mem hi)
  unfold pp
  rwa [List.getD_eq_getElem?_getD, List.getElem?_eq_getElem hi]
 ·simp at hi
end Go.Proofs.YthcjckgmdokmdaaGreatDoor
