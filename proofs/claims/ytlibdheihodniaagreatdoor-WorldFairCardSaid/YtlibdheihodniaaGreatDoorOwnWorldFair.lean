/- P13.6 of package world: for every session that is handed in, every number of frames and every list of commands (whatever they hold), the law WorldFair answers true and leaves them as they were: where New refuses the session, it answers so; from the first world on, for as many frames as asked (300 at most) and until Step refuses, a player's health goes down only in a frame that tells of a hit on it, points go up only where a hit by it or a prize is told and down only where it is told that it is out, it is out as often as told, and no shot has the number of a pickup. Conditions: the package-level variables digest.factors and geom.units hold what the program's text lays; each string and slice takes at most 2^47 - 4096 bytes. -/
import Derived.Test.YtlibdheihodniaaGreatDoorYF28
import Derived.Test.YtlibdheihodniaaGreatDoorYF31
import Derived.Test.YtlibdheihodniaaGreatDoorCards
import Derived.Test.YtlibdheihodniaaGreatDoorTie
import Derived.OpenShut
import Derived.Carry
import Derived.ProofKit
import Derived.SizedLaws
import Derived.SevenTiedAt
namespace Go.Proofs.YtlibdheihodniaaGreatDoor.worldFair
open Go.ChangeShapes Go.WideShapes Go.ChangeAt Go.RowKit Go.Deep
open Go.ChangeMaps (open_string shut_string)
set_option linter.unusedVariables false

theorem own : ownKnob Tryz.prog.godebug = none := by kernel_rfl
set_option maxRecDepth 100000 in
theorem tabs {W : World} (hL : laidMetH Tryz.prog Rows.worldFairRow.laid W) : Tab W ∧ DTab W := by
  rw [MakeChecks.laidMetH_plain _ _ _ (by kernel_rfl)] at hL
  have hL2 : laidMet Tryz.prog [("echelon/digest.factors", Rows.laid_echelon_digest_factors), ("echelon/geom.units", Rows.laid_echelon_geom_units)] W := hL
  exact tabsW hL2

set_option maxRecDepth 100000 in
theorem lifted (os : Os) (started : os.Started) (H : Type) (enc : TypeId × Value → H) :
    ReturnsInHanded {} Tryz.checked os 3 .any (fun w args => (Rows.worldFairSpec.pre enc Tryz.prog Tryz.f3 [] false w args ∧ laidMetH Tryz.prog Rows.worldFairRow.laid w) ∧ sizedMet enc Tryz.prog Tryz.f3 (OpenSpec.ofChange Rows.worldFairSpec) false w args)
      (Rows.worldFairSpec.post enc Tryz.prog Tryz.f3 false true false false) := by
  refine returnsInHanded_of_change_and (C := Tryz.checked) (X := fun w _ => laidMetH Tryz.prog Rows.worldFairRow.laid w) (fun _ _ _ hh h => h.of_heap hh) own started (by kernel_rfl) Tryz.func3
    (ChangeSpec.witness_shaped (enc := enc) (C := Tryz.checked) (os := os) (X := fun w _ => laidMetH Tryz.prog Rows.worldFairRow.laid w) false (World.laidAll Tryz.prog os Rows.worldFairRow.laid) #[.agg #[.int .i64 0, .int .u64 0, .int .i64 0, .int .i64 0, .string ByteArray.empty, .slice none 0 0], .int .i64 0, .slice none 0 0] 8 (World.laidAll_os _ _ _)
      (World.shaped_of_ZipB (by kernel_rfl) (by kernel_rfl)) (by kernel_rfl) (by kernel_rfl) (by kernel_rfl)
      (by rw [MakeChecks.laidMetH_plain _ _ _ (by kernel_rfl)]; exact laidMet_laidAll _ (by kernel_rfl) (by kernel_rfl))) ?_
  intro W base args ds gs before hval0 hW _ hsz0 hL _
  have hsz : (DataW.weightsEach Tryz.prog (Tryz.f3.params.toList ++ Rows.worldFairSpec.plain.varTypes Tryz.prog) (ds ++ gs)).all (· ≤ reachBytes) = true := hsz0
  have hval : ∀ (j : Nat) t v, Tryz.f3.params[j]? = some t → args[j]? = some v → Value.okWide Tryz.prog W .any base t v := hval0
  have hW' := hW
  obtain ⟨p, q, hA0, hV, rfl, hfz, hnd⟩ := hW
  have hA : DataW.TrodAll enc Tryz.prog W 0 (fun _ => true) true Tryz.f3.params.toList args.toList ds p := hA0
  rw [Tryz.params3] at hA hval hsz
  obtain ⟨v0, vs0, d0, ds0, pl0, ql0, hargs, rfl, rfl, h0, r0⟩ := trodAll_cons hA
  obtain ⟨v1, vs1, d1, ds1, p1, ql1, rfl, rfl, rfl, h1, r1⟩ := trodAll_cons r0
  obtain ⟨v2, vs2, d2, ds2, pl2, ql2, rfl, rfl, rfl, h2, r2⟩ := trodAll_cons r1
  obtain ⟨rfl, rfl, rfl⟩ := trodAll_nil r2
  obtain rfl : args = #[v0, v1, v2] := by cases args; simp_all
  obtain ⟨rfl, rfl⟩ := trodVars_none hV
  simp only [List.append_nil] at hW'
  have h0k := h0
  have hlt0 : ∀ x ∈ pl0, x.block < W.heap.size := fun x hx => by simpa using hW'.lt x (by simp [hx])
  obtain ⟨p0, q0, C0, R0, s0, o0, n0, c0, l0, rfl, hr0, hz0, hC0⟩ := open_cfg (hval 0 27 v0 rfl rfl) h0 (weights_all hsz (j := 0) (t := 27) rfl rfl)
  obtain ⟨a1, rfl, rfl, rfl, w1⟩ := open_int Tryz.underlying3 (hval 1 3 v1 rfl rfl) h1
  obtain ⟨o2, n2, c2, rfl⟩ := okWide_slice Tryz.underlying28 (hval 2 28 v2 rfl rfl)
  have h2k := h2
  have hlt2 : ∀ x ∈ pl2, x.block < W.heap.size := fun x hx => by simpa using hW'.lt x (by simp [hx])
  obtain ⟨fuel2, hf2⟩ := h2
  obtain ⟨bo2, bl2, bc2, hcs, hn2, hks2, hc2, hsl2⟩ := open_cs hf2
  simp [Value.cells] at hcs
  obtain ⟨rfl, rfl, rfl⟩ := hcs
  have g2 : 56 * n2 ≤ 140737488351232 := by
    rcases hsl2 with h | ⟨es, sp, h, h1⟩
    · omega
    · dsimp only at h
      subst h
      have := sized_slice hsz (j := 2) (t := 28) (e := 60) rfl rfl Tryz.underlying28
      rw [show Tryz.prog.bytesOf 60 = 56 by kernel_rfl] at this
      have hr : reachBytes = 140737488351232 := rfl
      omega
  obtain ⟨L2, hr2, hp2⟩ := hks2 (by omega)
  clear hA0 hval0 hsz0
  refine (fair_law p0 q0 C0 R0 s0 o0 n0 c0 l0 hz0 a1 o2 n2 c2 L2 g2 W (tabs hL).1 (tabs hL).2 hr0 hr2).mono fun e W' ⟨he, hs⟩ => ?_
  subst he
  have hb := hs.below
  exact ⟨_, rfl, _, _, _, [], _, [], hW', trodAll_cons_mk (shut_bool Tryz.underlying4 _) trodAll_mk0, (trodAll_cons_mk (Below.trod laidOutG (by kernel_rfl) (of_decide_eq_true (by kernel_rfl)) h0k hb hlt0) (trodAll_cons_mk (shut_int Tryz.underlying3 w1) (trodAll_cons_mk (Below.trod laidOutG (by kernel_rfl) (of_decide_eq_true (by kernel_rfl)) h2k hb hlt2) trodAll_mk0))), rfl, hb.frame _, fun h => by cases h⟩

theorem over : Rows.WorldFairSaid :=
  OpenClaim.holds_of_wide 3 Tryz.f3 rfl rfl rfl rfl rfl rfl rfl ⟨rfl, rfl, rfl, rfl, rfl⟩ rfl rfl rfl rfl rfl (by kernel_rfl) Tryz.func3 (by kernel_rfl)
    (of_decide_eq_true (by kernel_rfl)) (by unfold Func.isWrapper; first | (rw [if_pos (by decide +kernel)]; kernel_rfl) | (rw [if_neg (by decide +kernel)]; exact ⟨rfl, rfl⟩))
    (fun os started H enc _ => lifted os started H enc)

end Go.Proofs.YtlibdheihodniaaGreatDoor.worldFair
namespace Go.Proofs.YtlibdheihodniaaGreatDoor
open Go
theorem worldFair_card : Rows.WorldFairCardSaid :=
  Claim7.holds_tied_plain_at .later [] [.data, .data] true (true, "24ea1f86284f5429127cbf3e39f30df34d3183b37d01e6442caf470ed96fb448") false
    worldFair.over (fun _ h => by cases h) (by kernel_rfl) (fun _ h => by cases h) worldFair_row_tie rfl ⟨rfl, rfl⟩ (by kernel_rfl) rfl
    (fun f fn hf hfn => by
      obtain rfl : f = 3 := Option.some.inj ((show Tryz.prog.funcNamed Rows.worldFairRow.func = some 3 by kernel_rfl).symm.trans hf) |>.symm
      obtain rfl : fn = Tryz.f3 := (Option.some.inj (Tryz.func3.symm.trans hfn)).symm
      exact ⟨by kernel_rfl, fun j t ht => by
        rw [Tryz.params3] at ht
        have hm : t ∈ [27, 3, 28] := by simpa using Array.mem_of_getElem? ht
        have hall : ([27, 3, 28].all fun u => !Tryz.prog.wantsStandIn u) = true := by kernel_rfl
        exact (show Tryz.prog.wantsStandIn t = false by simpa using List.all_eq_true.1 hall t hm)⟩)
    (by kernel_rfl)
#print axioms worldFair_card
end Go.Proofs.YtlibdheihodniaaGreatDoor
