/- The chapter's examples, as awake has them. -/
import Derived.Test.YtnoaomocdmkigabSa
import Derived.Test.YtnoaomocdmkigabSs
import Derived.Test.YtnoaomocdmkigabSx
namespace Go.Proofs.Ytnoaomocdmkigab
open Go.RowKit
open Pu Gp Ap

theorem aw_st : stV 8 std3 0 = [(6144, 6144), (26624, 6144), (6144, 18432), (26624, 18432)] := by kernel_rfl
theorem aw_sp : spV 8 std3 0 = [(14336, 10240), (18432, 10240)] := by kernel_rfl
theorem aw_sol : solB 8 6 std3 0 0 = true := by kernel_rfl
theorem aw_11 : solB 8 6 std3 1 1 = false := by kernel_rfl
theorem aw_tou : touB 8 6 std3 4095 4096 4100 4100 = true := by kernel_rfl
theorem aw_body {x y : Int} (x0 : 5376 ≤ x) (x1 : x ≤ 6911) (y0 : 5376 ≤ y) (y1 : y ≤ 6911) : bdy (solB 8 6 std3) 1280 x y = false := by
  have e : bnd 1280 = 1280 := by decide
  refine anyC_false fun i j h1 h2 h3 h4 => ?_
  unfold subf at h1 h3
  unfold addf at h2 h4
  rw [e, bnd_id (n := x) (by omega) (by omega), bnd_id (n := x - 1280) (by omega) (by omega)] at h1
  rw [e, bnd_id (n := x) (by omega) (by omega), bnd_id (n := x + 1280) (by omega) (by omega)] at h2
  rw [e, bnd_id (n := y) (by omega) (by omega), bnd_id (n := y - 1280) (by omega) (by omega)] at h3
  rw [e, bnd_id (n := y) (by omega) (by omega), bnd_id (n := y + 1280) (by omega) (by omega)] at h4
  unfold dn at h1 h2 h3 h4
  rw [show i = 1 by omega, show j = 1 by omega]
  exact aw_11
theorem aw_kX : kX (solB 8 6 std3) 1280 6144 6144 (-2048) = 768 := by
  refine go_one (by decide) (fun j h1 h2 => ?_) (fun _ => by kernel_rfl)
  show bdy (solB 8 6 std3) 1280 (addf 6144 (-1 * (j : Int))) (addf 6144 (0 * (j : Int))) = false
  rw [Int.zero_mul, addf_small (x := 6144) (v := -1 * (j : Int)) (by unfold inB2; omega) (by omega) (by omega), addf_zero (x := 6144) (by unfold inB2; omega), bnd_id (by omega) (by omega)]
  exact aw_body (by omega) (by omega) (by omega) (by omega)
theorem aw_kY : kY (solB 8 6 std3) 1280 5376 6144 100 = 100 := by
  refine go_one (by decide) (fun j h1 h2 => ?_) (fun h => by have : (100 : Int).natAbs = 100 := rfl; omega)
  show bdy (solB 8 6 std3) 1280 (addf 5376 (0 * (j : Int))) (addf 6144 (1 * (j : Int))) = false
  rw [Int.zero_mul, addf_small (x := 6144) (v := 1 * (j : Int)) (by unfold inB2; omega) (by omega) (by omega), addf_zero (x := 5376) (by unfold inB2; omega), bnd_id (by omega) (by omega)]
  exact aw_body (by omega) (by omega) (by omega) (by omega)
theorem aw_ray : go (rayT (solB 8 6 std3) 4096 6144 (-2048) 0 32) 32 = 0 := go_one (by omega) (fun j h1 h2 => by omega) (fun _ => by kernel_rfl)
theorem aw_slide (w : World) : Calls Try.prog 12 #[ar 8 6 std3, pt 6144 6144, pt (-2048) 100, .int .i64 1280] w fun e w' => e = .returned (.tuple #[pt 5376 6244, .int .i64 1]) ∧ Still w w' :=
  slide_any 8 6 6144 6144 (-2048) 100 1280 std3 (by decide +kernel) 6144 6144 (-2048) 100 1280 5376 6144 5376 6244 768 100 (by decide) (by decide) (by decide) (by decide) (by decide) aw_kX (by decide) (by decide) aw_kY (by decide) (by decide) w
theorem aw_rayc (w : World) : Calls Try.prog 17 #[ar 8 6 std3, pt 4096 6144, pt (-2048) 0] w fun e w' => e = .returned (.tuple #[pt 4096 6144, .bool true]) ∧ Still w w' :=
  ray_any 8 6 4096 6144 (-2048) 0 std3 (by decide +kernel) 4096 6144 (-2048) 0 32 0 (by decide) (by decide) (by decide) (by decide) (by decide) aw_ray w
theorem aw_starts (w : World) : Calls Try.prog 19 #[ar 8 6 std3] w fun e w' => ∃ v, e = .returned v ∧ OwP w' w.heap.size v [(6144, 6144), (26624, 6144), (6144, 18432), (26624, 18432)] ∧ Still w w' := by
  refine (starts_any 8 6 std3 w).mono ?_
  rintro e w1 ⟨v, u, rfl, hu, ho, h1⟩
  obtain rfl := chkV_one hu std3_ok
  rw [aw_st] at ho
  exact ⟨v, rfl, ho, h1⟩
theorem aw_spots (w : World) : Calls Try.prog 20 #[ar 8 6 std3] w fun e w' => ∃ v, e = .returned v ∧ OwP w' w.heap.size v [(14336, 10240), (18432, 10240)] ∧ Still w w' := by
  refine (spots_any 8 6 std3 w).mono ?_
  rintro e w1 ⟨v, u, rfl, hu, ho, h1⟩
  obtain rfl := chkV_one hu std3_ok
  rw [aw_sp] at ho
  exact ⟨v, rfl, ho, h1⟩
theorem aw_solid (w : World) : Calls Try.prog 21 #[ar 8 6 std3, .int .i64 0, .int .i64 0] w fun e w' => e = .returned (.bool true) ∧ Still w w' := solid_is 8 6 0 0 std3 (by decide +kernel) aw_sol w
theorem aw_touch (w : World) : Calls Try.prog 13 #[ar 8 6 std3, bx 4095 4096 4100 4100] w fun e w' => e = .returned (.bool true) ∧ Still w w' := by
  have h := touches_any 8 6 4095 4096 4100 4100 std3 (by decide +kernel) w
  rw [aw_tou] at h
  exact h
set_option maxHeartbeats 4000000 in
set_option maxRecDepth 100000 in
theorem awake_any (w : World) : Calls Try.prog 6 #[] w fun e w' => e = .returned (.bool true) ∧ Still w w' := by
  have HST := hid aw_starts
  have HSP := hid aw_spots
  have HSL := hid aw_slide
  have HRA := hid aw_rayc
  have HSO := hid aw_solid
  have HTO := hid aw_touch
  have HSD := hid astd_3
  obtain ⟨S, eS⟩ : ∃ S, std3 = S := ⟨_, rfl⟩
  rw [eS] at HST HSP HSL HRA HSO HTO HSD
  clear eS
  go_enter Try.func6, Try.ntmps6
  go_wp2_with fail
  refine (HSD.out _).mono ?_
  rintro e w1 ⟨rfl, h1⟩
  have A2 := Still.alloc w1 (.cells #[.int .i64 8, .int .i64 6, .string S] 23)
  have a2 := newA_ab w1 8 6 S
  have HS2 := hid (h1.trans A2)
  clear h1 A2 HSD
  obtain ⟨c0, c1, c2, cf⟩ := a2.cells
  go_wp2_with fail
  refine (HST.out _).mono ?_
  rintro e w3 ⟨vl, rfl, ol, h3⟩
  have a3 := a2.still h3
  have HS3 := hid (HS2.out.trans h3)
  clear a2 HS2 h3 c0 c1 c2 cf HST
  obtain ⟨c0, c1, c2, cf⟩ := a3.cells
  go_wp2_with fail
  refine (HSP.out _).mono ?_
  rintro e w4 ⟨vs, rfl, os, h4⟩
  have a4 := a3.still h4
  have ol4 := ol.still h4
  have HS4 := hid (HS3.out.trans h4)
  clear a3 ol HS3 h4 c0 c1 c2 cf HSP
  obtain ⟨c0, c1, c2, cf⟩ := a4.cells
  go_wp2_with fail
  refine (HSL.out _).mono ?_
  rintro e w5 ⟨rfl, h5⟩
  have A5 := Still.alloc w5 (.cells #[.int .i64 5376, .int .i64 6244] 32)
  have a5 := (a4.still h5).still A5
  have ol5 := (ol4.still h5).still A5
  have os5 := (os.still h5).still A5
  have b5 := newP_pb w5 5376 6244
  have HS5 := hid ((HS4.out.trans h5).trans A5)
  clear a4 ol4 os HS4 h5 A5 c0 c1 c2 cf HSL
  obtain ⟨c0, c1, c2, cf⟩ := a5.cells
  go_wp2_with fail
  refine (HRA.out _).mono ?_
  rintro e w6 ⟨rfl, h6⟩
  have A6 := Still.alloc w6 (.cells #[.int .i64 4096, .int .i64 6144] 32)
  have a6 := (a5.still h6).still A6
  have ol6 := (ol5.still h6).still A6
  have os6 := (os5.still h6).still A6
  have b6 := (b5.still h6).still A6
  have d6 := newP_pb w6 4096 6144
  have HS6 := hid ((HS5.out.trans h6).trans A6)
  clear a5 ol5 os5 b5 HS5 h6 A6 c0 c1 c2 cf HRA
  obtain ⟨c0, c1, c2, cf⟩ := a6.cells
  go_wp2_with fail
  refine (HSO.out _).mono ?_
  rintro e w7 ⟨rfl, h7⟩
  have a7 := a6.still h7
  have ol7 := ol6.still h7
  have os7 := os6.still h7
  have b7 := b6.still h7
  have d7 := d6.still h7
  have HS7 := hid (HS6.out.trans h7)
  clear a6 ol6 os6 b6 d6 HS6 h7 c0 c1 c2 cf HSO
  obtain ⟨c0, c1, c2, cf⟩ := a7.cells
  go_wp2_with fail
  refine (HTO.out _).mono ?_
  rintro e w8 ⟨rfl, h8⟩
  have a8 := a7.still h8
  have ol8 := ol7.still h8
  have os8 := os7.still h8
  have b8 := b7.still h8
  have d8 := d7.still h8
  have HS8 := hid (HS7.out.trans h8)
  clear a7 ol7 os7 b7 d7 HS7 h8 c0 c1 c2 cf HTO
  obtain ⟨g, cap, rfl, _, _⟩ := ol8.head (by decide)
  obtain ⟨g2, cap2, rfl, _, _⟩ := os8.head (by decide)
  obtain ⟨f0, f1, ff⟩ := ol8.cell 0 (by decide)
  simp only [List.length_cons, List.length_nil, List.getElem_cons_zero, Nat.zero_mul, Nat.zero_add] at f0 f1 ⊢
  obtain ⟨c0, c1, c2, cf⟩ := a8.cells
  obtain ⟨m0, m1, mf⟩ := b8.cells
  obtain ⟨o0, o1, of⟩ := d8.cells
  clear ol8 os8
  have k1 := eql_pt_t (x := 6144) (y := 6144) (z := 6144) (u := 6144) rfl rfl
  have k2 := eql_pt_t (x := 5376) (y := 6244) (z := 5376) (u := 6244) rfl rfl
  have k3 := eql_pt_t (x := 4096) (y := 6144) (z := 4096) (u := 6144) rfl rfl
  have g1 := guard_pt
  go_wp2_with fail
  go_ret
  exact ⟨rfl, HS8.out⟩
end Go.Proofs.Ytnoaomocdmkigab
