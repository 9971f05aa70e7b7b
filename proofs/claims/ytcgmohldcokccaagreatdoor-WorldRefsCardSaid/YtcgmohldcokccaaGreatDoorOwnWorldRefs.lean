/- P13.4 of package world, the game from its seed on: for every session, every frame's number and every list of commands that are handed in (whatever they hold, in any order), the law WorldRefs answers true and leaves them as they were: the program's Ref hands back the document's world and the document's error (the session refused, the frame out of its bounds, the commands refused, or none), and the commands, with another one behind them, stay as they were given. Conditions: the package-level variables that the program and the document read hold what the program's text lays; each string and slice takes at most 2^47 - 4096 bytes. -/
import Derived.Test.YtcgmohldcokccaaGreatDoorXR42
import Derived.Test.YtcgmohldcokccaaGreatDoorXR45
import Derived.Test.YtcgmohldcokccaaGreatDoorCards
import Derived.Test.YtcgmohldcokccaaGreatDoorTie
import Derived.OpenShut
import Derived.Carry
import Derived.ProofKit
import Derived.SizedLaws
import Derived.SevenTiedAt
namespace Go.Proofs.YtcgmohldcokccaaGreatDoor.worldRefs
open Go.ChangeShapes Go.WideShapes Go.ChangeAt Go.RowKit Go.Deep
open Go.ChangeMaps (open_string shut_string)
set_option linter.unusedVariables false

theorem own : ownKnob Tryz.prog.godebug = none := by kernel_rfl
set_option maxRecDepth 100000 in
theorem tabs {W : World} (hL : laidMetH Tryz.prog Rows.worldRefsRow.laid W) : (Tab W ∧ DTab W) ∧ OTab W ∧ RTab W := by
  rw [MakeChecks.laidMetH_plain _ _ _ (by kernel_rfl)] at hL
  have hL2 : laidMet Tryz.prog [("echelon/echelonref05.unitX", Rows.laid_echelon_echelonref05_unitX), ("echelon/echelonref05.unitY", Rows.laid_echelon_echelonref05_unitY), ("echelon/echelonref07.first", Rows.laid_echelon_echelonref07_first), ("echelon/echelonref07.least", Rows.laid_echelon_echelonref07_least), ("echelon/echelonref07.most", Rows.laid_echelon_echelonref07_most), ("echelon/digest.factors", Rows.laid_echelon_digest_factors), ("echelon/geom.units", Rows.laid_echelon_geom_units)] W := hL
  exact tabsR hL2

set_option maxRecDepth 100000 in
theorem lifted (os : Os) (started : os.Started) (H : Type) (enc : TypeId × Value → H) :
    ReturnsInHanded {} Tryz.checked os 5 .any (fun w args => (Rows.worldRefsSpec.pre enc Tryz.prog Tryz.f5 [] false w args ∧ laidMetH Tryz.prog Rows.worldRefsRow.laid w) ∧ sizedMet enc Tryz.prog Tryz.f5 (OpenSpec.ofChange Rows.worldRefsSpec) false w args)
      (Rows.worldRefsSpec.post enc Tryz.prog Tryz.f5 false true false false) := by
  refine returnsInHanded_of_change_and (C := Tryz.checked) (X := fun w _ => laidMetH Tryz.prog Rows.worldRefsRow.laid w) (fun _ _ _ hh h => h.of_heap hh) own started (by kernel_rfl) Tryz.func5
    (ChangeSpec.witness_shaped (enc := enc) (C := Tryz.checked) (os := os) (X := fun w _ => laidMetH Tryz.prog Rows.worldRefsRow.laid w) false (World.laidAll Tryz.prog os Rows.worldRefsRow.laid) #[.agg #[.int .i64 0, .int .u64 0, .int .i64 0, .int .i64 0, .string ByteArray.empty, .slice none 0 0], .int .i64 0, .slice none 0 0] 8 (World.laidAll_os _ _ _)
      (World.shaped_of_ZipB (by kernel_rfl) (by kernel_rfl)) (by kernel_rfl) (by kernel_rfl) (by kernel_rfl)
      (by rw [MakeChecks.laidMetH_plain _ _ _ (by kernel_rfl)]; exact laidMet_laidAll _ (by kernel_rfl) (by kernel_rfl))) ?_
  intro W base args ds gs before hval0 hW _ hsz0 hL _
  have hsz : (DataW.weightsEach Tryz.prog (Tryz.f5.params.toList ++ Rows.worldRefsSpec.plain.varTypes Tryz.prog) (ds ++ gs)).all (· ≤ reachBytes) = true := hsz0
  have hval : ∀ (j : Nat) t v, Tryz.f5.params[j]? = some t → args[j]? = some v → Value.okWide Tryz.prog W .any base t v := hval0
  have hW' := hW
  obtain ⟨p, q, hA0, hV, rfl, hfz, hnd⟩ := hW
  have hA : DataW.TrodAll enc Tryz.prog W 0 (fun _ => true) true Tryz.f5.params.toList args.toList ds p := hA0
  rw [Tryz.params5] at hA hval hsz
  obtain ⟨v0, vs0, d0, ds0, pl0, ql0, hargs, rfl, rfl, h0, r0⟩ := trodAll_cons hA
  obtain ⟨v1, vs1, d1, ds1, p1, ql1, rfl, rfl, rfl, h1, r1⟩ := trodAll_cons r0
  obtain ⟨v2, vs2, d2, ds2, pl2, ql2, rfl, rfl, rfl, h2, r2⟩ := trodAll_cons r1
  obtain ⟨rfl, rfl, rfl⟩ := trodAll_nil r2
  obtain rfl : args = #[v0, v1, v2] := by cases args; simp_all
  obtain ⟨rfl, rfl⟩ := trodVars_none hV
  simp only [List.append_nil] at hW'
  have h0k := h0
  have hlt0 : ∀ x ∈ pl0, x.block < W.heap.size := fun x hx => by simpa using hW'.lt x (by simp [hx])
  obtain ⟨p0, q0, C0, R0, s0, o0, n0, c0, l0, rfl, hr0, hz0, hC0⟩ := open_cfg (hval 0 27 v0 rfl rfl) h0 (weights_all hsz (j := 0) (t := 27) rfl rfl)
  obtain ⟨a1, rfl, rfl, rfl, w1⟩ := open_int Tryz.underlying2 (hval 1 2 v1 rfl rfl) h1
  obtain ⟨o2, n2, c2, rfl⟩ := okWide_slice Tryz.underlying34 (hval 2 34 v2 rfl rfl)
  have h2k := h2
  have hlt2 : ∀ x ∈ pl2, x.block < W.heap.size := fun x hx => by simpa using hW'.lt x (by simp [hx])
  obtain ⟨fuel2, hf2⟩ := h2
  obtain ⟨bo2, bl2, bc2, hcs, hn2, hks2, hc2, hsl2⟩ := open_cs hf2
  simp [Value.cells] at hcs
  obtain ⟨rfl, rfl, rfl⟩ := hcs
  have g2 : 56 * n2 ≤ 140737488351232 := by
    rcases hsl2 with h | ⟨es, sp, h, h1⟩
    · omega
    · dsimp only at h
      subst h
      have := sized_slice hsz (j := 2) (t := 34) (e := 63) rfl rfl Tryz.underlying34
      rw [show Tryz.prog.bytesOf 63 = 56 by kernel_rfl] at this
      have hr : reachBytes = 140737488351232 := rfl
      omega
  obtain ⟨L2, hr2, hp2⟩ := hks2 (by omega)
  clear hA0 hval0 hsz0
  refine (refs13_law p0 q0 C0 R0 s0 o0 n0 c0 l0 hz0 hC0 a1 o2 n2 c2 L2 g2 W (tabs hL).1.1 (tabs hL).1.2 (tabs hL).2.1 (tabs hL).2.2 hr0 hr2).mono fun e W' ⟨he, hs⟩ => ?_
  subst he
  have hb := hs.below
  exact ⟨_, rfl, _, _, _, [], _, [], hW', trodAll_cons_mk (shut_bool Tryz.underlying4 _) trodAll_mk0, (trodAll_cons_mk (Below.trod laidOutG (by kernel_rfl) (of_decide_eq_true (by kernel_rfl)) h0k hb hlt0) (trodAll_cons_mk (shut_int Tryz.underlying2 w1) (trodAll_cons_mk (Below.trod laidOutG (by kernel_rfl) (of_decide_eq_true (by kernel_rfl)) h2k hb hlt2) trodAll_mk0))), rfl, hb.frame _, fun h => by cases h⟩

theorem j1 : (Rows.worldRefsRow.inPlace == Tryz.prog.inPlace 5) = true := by kernel_rfl
theorem j2 : (Rows.worldRefsRow.unfollowed == Tryz.prog.unfollowed 5) = true := by kernel_rfl
theorem j3 : (Rows.worldRefsRow.recurses == Tryz.prog.recurses 5) = true := by kernel_rfl
theorem j4 : (Rows.worldRefsRow.named == Tryz.prog.varsNamed 5) = true := by kernel_rfl
theorem h2 : false = Rows.worldRefsRow.goesBy Tryz.prog := by kernel_rfl
theorem h3 : false = Tryz.prog.looks [] := by kernel_rfl
theorem closed : joinedFacts Tryz.prog 5 Tryz.f5 Rows.worldRefsSpec Rows.worldRefsRow = true := by
  unfold joinedFacts
  rw [j1, j2, j3, j4]
  kernel_rfl
theorem over : Rows.WorldRefsSaid :=
  OpenClaim.holds_of_wide 5 Tryz.f5 rfl rfl rfl rfl rfl rfl rfl ⟨rfl, rfl, rfl, rfl, rfl⟩ rfl rfl rfl rfl rfl (by kernel_rfl) Tryz.func5 closed
    (of_decide_eq_true (by kernel_rfl)) (by unfold Func.isWrapper; first | (rw [if_pos (by decide +kernel)]; kernel_rfl) | (rw [if_neg (by decide +kernel)]; exact ⟨rfl, rfl⟩))
    (fun os started H enc _ => lifted os started H enc)

end Go.Proofs.YtcgmohldcokccaaGreatDoor.worldRefs
namespace Go.Proofs.YtcgmohldcokccaaGreatDoor
open Go
theorem worldRefs_card : Rows.WorldRefsCardSaid :=
  Claim7.holds_tied_plain_at .later [] [.data, .data, .data, .data, .data, .data, .data] true (true, "b79cc6cad5296935730c5bffab9284bd2e4dea2fc6a2947c628f26c1b2191912") false
    worldRefs.over (fun _ h => by cases h) (by kernel_rfl) (fun _ h => by cases h) worldRefs_row_tie rfl ⟨rfl, rfl⟩ (by kernel_rfl) rfl
    (fun f fn hf hfn => by
      obtain rfl : f = 5 := Option.some.inj ((show Tryz.prog.funcNamed Rows.worldRefsRow.func = some 5 by kernel_rfl).symm.trans hf) |>.symm
      obtain rfl : fn = Tryz.f5 := (Option.some.inj (Tryz.func5.symm.trans hfn)).symm
      exact ⟨worldRefs.h3, fun j t ht => by
        rw [Tryz.params5] at ht
        have hm : t ∈ [27, 2, 34] := by simpa using Array.mem_of_getElem? ht
        have hall : ([27, 2, 34].all fun u => !Tryz.prog.wantsStandIn u) = true := by kernel_rfl
        exact (show Tryz.prog.wantsStandIn t = false by simpa using List.all_eq_true.1 hall t hm)⟩)
    worldRefs.h2
#print axioms worldRefs_card
end Go.Proofs.YtcgmohldcokccaaGreatDoor
