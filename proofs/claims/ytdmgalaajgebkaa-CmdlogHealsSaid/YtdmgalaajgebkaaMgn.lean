/- The law's awake and played. -/
import Derived.Test.YtdmgalaajgebkaaMgm
import Derived.Test.YtdmgalaajgebkaaQuy
namespace Go.Proofs.Ytdmgalaajgebkaa
open Go.RowKit
set_option maxRecDepth 100000

theorem cm_new_yes {a b : Int} (h : 2 ≤ a ∧ a ≤ 6 ∧ 2 ≤ b ∧ b ≤ 5) (w : World) : Calls Try.prog 21 #[.int .i64 a, .int .i64 b] w fun e w' => e = .returned (.tuple #[.pointer (some ⟨w.heap.size, 0, none⟩), .int .i64 0]) ∧ Lm w' w.heap.size w.heap.size ⟨a, b, 0, []⟩ zV ∧ Still w w' := by
  refine (cm_new a b w).mono ?_
  rintro e w' (⟨_, he, hw⟩ | ⟨hf, _, _⟩)
  · rw [hw]
    exact ⟨he, lm_new w h, Still.alloc w _⟩
  · exact absurd h (of_decide_eq_false hf)
def k19 : En := ⟨1, 1, 1, 0, 0, 0, 0, 0⟩
theorem aw_put : putC ⟨2, 3, 0, []⟩ k19 1 = 0 ∧ putA ⟨2, 3, 0, []⟩ k19 1 = ⟨2, 3, 0, [stM k19 1]⟩ := by
  refine ⟨by decide, ?_⟩
  unfold putA
  rw [if_pos (by decide)]
  rfl
theorem aw_mis : misA ⟨2, 3, 0, [stM k19 1]⟩ 0 = [k19] ∧ misA ⟨2, 3, 0, [stM k19 1]⟩ 1 = [] := ⟨rfl, rfl⟩
set_option maxHeartbeats 4000000 in
theorem awake19_any (w : World) : Calls Try.prog 10 #[] w fun e w' => e = .returned (.bool true) ∧ Still w w' := by
  have HN := hid (fun w => cm_new_yes (a := 2) (b := 3) (by omega) w)
  go_enter Try.func10, Try.ntmps10
  go_wp2_with fail
  refine (HN.out _).mono ?_
  rintro e w1 ⟨he, h1, hs1⟩
  rw [he]
  have HL1 := hid h1
  have HS1 := hid hs1
  obtain ⟨p, ep⟩ : ∃ p, w.heap.size = p := ⟨_, rfl⟩
  rw [ep] at HL1 ⊢
  have HP := hid ep
  clear he h1 hs1 HN ep
  have A2 := Still.alloc w1 (.cells (hcs k19) cmT)
  have HL2 := hid (HL1.out.still A2)
  have HX2 : Hid (Cb19 (w1.alloc (.cells (hcs k19) cmT)) w1.heap.size k19) := hid (heap_alloc_new w1 _)
  have HS2 := hid (HS1.out.trans A2)
  obtain ⟨W2, eW2⟩ : ∃ W, w1.alloc (.cells (hcs k19) cmT) = W := ⟨_, rfl⟩
  obtain ⟨g, eg⟩ : ∃ g, w1.heap.size = g := ⟨_, rfl⟩
  rw [eW2] at HL2 HX2 HS2
  rw [eg] at HX2
  obtain ⟨c0, c1, c2, c3, c4, c5, c6⟩ := HX2.out.cells
  have HC := hid (cm_put ⟨2, 3, 0, []⟩ p p zV k19 1 W2 (by have := HL2.out.lt; omega) HL2.out)
  rw [aw_put.1, aw_put.2] at HC
  simp only [hcs, k19] at eW2 c0 c1 c2 c3 c4 c5 c6
  have HGl : Hid (g < W2.heap.size ∧ W2.heap.size = W2.heap.size) := hid ⟨block_lt HX2.out, rfl⟩
  have HEW := hid eW2
  clear A2 HL1 HS1 eW2
  go_upto_region 5 with fail
  rw [HEW.out]
  clear HEW
  go_wp2_with fail
  clear eg
  refine HC.out.mono ?_
  rintro e w3 ⟨he, hp⟩
  rw [he]
  obtain ⟨⟨vs3, hL3, _⟩, hf3⟩ := hp
  have hgp : g ≠ p := fun e => by
    have h1 := HX2.out
    unfold Cb19 at h1
    rw [e, HL2.out.bk] at h1
    injection h1 with h1
    injection h1 with _ h2 _
    exact absurd h2 (by decide)
  have HX3 : Hid (Cb19 w3 g k19) := hid (hf3.kept HX2.out hgp)
  have HS3 : Hid (Still w w3) := hid (Fr.trans HS2.out hf3 (fun k hk e => by have := HP.out; omega))
  have HL3 := hid hL3
  have HM := hid (cm_missed _ p p vs3 0 w3 hL3)
  rw [aw_mis.1] at HM
  clear he hf3 hL3 HC HL2 HX2 HS2 c0 c1 c2 c3 c4 c5 c6
  go_wp2_with fail
  refine HM.out.mono ?_
  rintro e w4 ⟨v4, he, ho4, hs4⟩
  rw [he]
  obtain ⟨g4, cap4, ev4, _, _⟩ := ho4.head (by decide)
  subst ev4
  have HO4 := hid ho4
  have HX4 := hid (HX3.out.still hs4)
  have HS4 := hid (HS3.out.trans hs4)
  have HM2 := hid (cm_missed _ p p vs3 1 w4 (HL3.out.still hs4))
  rw [aw_mis.2] at HM2
  clear he ho4 hs4 HM HX3 HS3
  go_wp2_with fail
  refine HM2.out.mono ?_
  rintro e w5 ⟨v5, he, ho5, hs5⟩
  rw [he]
  obtain ⟨ao5, cap5, ev5, _⟩ := ho5.slice
  subst ev5
  have HS5 := hid (HS4.out.trans hs5)
  have ho4 := HO4.out.still hs5
  have hr4 : RdG KC w5 (some ⟨g4, 0, none⟩) 1 [k19] := OwG.rd (M := []) ho4 (by decide)
  obtain ⟨d0, d1, d2, d3, d4, d5, d6⟩ : w5.cell? ⟨g4, 0, none⟩ = some (.int .i64 1) ∧ w5.cell? ⟨g4, 1, none⟩ = some (.int .i64 1) ∧ w5.cell? ⟨g4, 2, none⟩ = some (.int .i64 1) ∧ w5.cell? ⟨g4, 3, none⟩ = some (.int .i64 0) ∧ w5.cell? ⟨g4, 4, none⟩ = some (.int .i64 0) ∧ w5.cell? ⟨g4, 5, none⟩ = some (.int .i64 0) ∧ w5.cell? ⟨g4, 6, none⟩ = some (.int .i64 0) := rdC19 hr4 (i := 0) (by omega)
  obtain ⟨c0, c1, c2, c3, c4, c5, c6⟩ := (HX4.out.still hs5).cells
  simp only [k19] at c0 c1 c2 c3 c4 c5 c6
  have k0 := Cl.cell d0
  have k1 := Cl.cell d1
  have k2 := Cl.cell d2
  have k3 := Cl.cell d3
  have k4 := Cl.cell d4
  have k5 := Cl.cell d5
  have k6 := Cl.cell d6
  have l0 := Cl.cell c0
  have l1 := Cl.cell c1
  have l2 := Cl.cell c2
  have l3 := Cl.cell c3
  have l4 := Cl.cell c4
  have l5 := Cl.cell c5
  have l6 := Cl.cell c6
  have hne := Aft.here w5
  have hg := fun a b w => guard_hc .eql a b (hcs k19) (hcs k19) w
  have hq := fun w => eql_hc_t k19 w
  simp only [hcs, k19] at hg hq
  clear he ho5 hs5 HM2 ho4 hr4 d0 d1 d2 d3 d4 d5 d6 c0 c1 c2 c3 c4 c5 c6 HX4 HS4
  go_upto_region 9 with fail
  refine region_all (by kernel_rfl) (by kernel_rfl) ?_
  repeat (go_big_quiet_step (rfl))
  refine wpQuiet_nil ?_
  intro w6 h6
  have HS6 := hid (HS5.out.trans h6)
  clear h6
  go_wp2_with fail
  go_ret
  exact ⟨rfl, HS6.out⟩
end Go.Proofs.Ytdmgalaajgebkaa
