/- ViewPlays is true for any session, any number of frames and any commands: each world of a game that the document plays is shown, as the document shows it, the same again, and what is shown changes nothing. Conditions: that the arguments lie in memory as the model lays them, and that the listed package variables hold what the program's text lays in them. -/
import Derived.Test.YthcjckgmdokmdaaGreatDoorXQ49
import Derived.Test.YthcjckgmdokmdaaGreatDoorXQ52
import Derived.Test.YthcjckgmdokmdaaGreatDoorXQ53
import Derived.Test.YthcjckgmdokmdaaGreatDoorCards
import Derived.Test.YthcjckgmdokmdaaGreatDoorTie
import Derived.OpenShut
import Derived.Carry
import Derived.ProofKit
import Derived.SizedLaws
import Derived.SevenTiedAt
namespace Go.Proofs.YthcjckgmdokmdaaGreatDoor.viewPlays
open Go.ChangeShapes Go.WideShapes Go.ChangeAt Go.RowKit Go.Deep
open Go.ChangeMaps (open_string shut_string)
set_option linter.unusedVariables false

theorem own : ownKnob Tryz.prog.godebug = none := by kernel_rfl
set_option maxRecDepth 100000 in
theorem tabs {W : World} (hL : laidMetH Tryz.prog Rows.viewPlaysRow.laid W) : (PTabV W ∧ KTab W) ∧ (OTab W ∧ RTab W) := by
  rw [MakeChecks.laidMetH_plain _ _ _ (by kernel_rfl)] at hL
  have hL2 : laidMet Tryz.prog [("echelon/echelonref05.unitX", Rows.laid_echelon_echelonref05_unitX), ("echelon/echelonref05.unitY", Rows.laid_echelon_echelonref05_unitY), ("echelon/echelonref07.first", Rows.laid_echelon_echelonref07_first), ("echelon/echelonref07.least", Rows.laid_echelon_echelonref07_least), ("echelon/echelonref07.most", Rows.laid_echelon_echelonref07_most), ("math/bits.deBruijn32tab", Rows.laid_math_bits_deBruijn32tab), ("math/bits.deBruijn64tab", Rows.laid_math_bits_deBruijn64tab), ("internal/strconv.uint64pow10", Rows.laid_internal_strconv_uint64pow10), ("echelon/view.pickupKinds", Rows.laid_echelon_view_pickupKinds)] W := hL
  have hL3 := hL2
  rw [kds_same] at hL3
  have hM : laidMet Tryz.prog [("echelon/echelonref05.unitX", Rows.laid_echelon_echelonref05_unitX), ("echelon/echelonref05.unitY", Rows.laid_echelon_echelonref05_unitY), ("echelon/echelonref07.first", Rows.laid_echelon_echelonref07_first), ("echelon/echelonref07.least", Rows.laid_echelon_echelonref07_least), ("echelon/echelonref07.most", Rows.laid_echelon_echelonref07_most), ("math/bits.deBruijn32tab", Rows.laid_math_bits_deBruijn32tab), ("math/bits.deBruijn64tab", Rows.laid_math_bits_deBruijn64tab), ("internal/strconv.uint64pow10", Lib.tabData .u64 Lib.pow10Tab), ("echelon/view.pickupKinds", kdsV)] W := hL3
  exact ⟨⟨ptabV_of (laidMet.tail (laidMet.tail (laidMet.tail (laidMet.tail (laidMet.tail (laidMet.tail (laidMet.tail hM))))))), ktab_reads (Lib.laidMet.reads (laidMet.tail (laidMet.tail (laidMet.tail (laidMet.tail (laidMet.tail hM))))) (.tail _ (.tail _ (.tail _ (.head _)))))⟩, tabsP hL2⟩

set_option maxRecDepth 100000 in
theorem lifted (os : Os) (started : os.Started) (H : Type) (enc : TypeId × Value → H) :
    ReturnsInHanded {} Tryz.checked os 4 .any (fun w args => (Rows.viewPlaysSpec.pre enc Tryz.prog Tryz.f4 [] false w args ∧ laidMetH Tryz.prog Rows.viewPlaysRow.laid w) ∧ sizedMet enc Tryz.prog Tryz.f4 (OpenSpec.ofChange Rows.viewPlaysSpec) false w args)
      (Rows.viewPlaysSpec.post enc Tryz.prog Tryz.f4 false true false false) := by
  refine returnsInHanded_of_change_and (C := Tryz.checked) (X := fun w _ => laidMetH Tryz.prog Rows.viewPlaysRow.laid w) (fun _ _ _ hh h => h.of_heap hh) own started (by kernel_rfl) Tryz.func4
    (ChangeSpec.witness_shaped (enc := enc) (C := Tryz.checked) (os := os) (X := fun w _ => laidMetH Tryz.prog Rows.viewPlaysRow.laid w) false (World.laidAll Tryz.prog os Rows.viewPlaysRow.laid) #[.agg #[.int .i64 0, .int .u64 0, .int .i64 0, .int .i64 0, .string ByteArray.empty, .slice none 0 0], .int .i64 0, .slice none 0 0] 8 (World.laidAll_os _ _ _)
      (World.shaped_of_ZipB (by kernel_rfl) (by kernel_rfl)) (by kernel_rfl) (by kernel_rfl) (by kernel_rfl)
      (by rw [MakeChecks.laidMetH_plain _ _ _ (by kernel_rfl)]; exact laidMet_laidAll _ (by kernel_rfl) (by kernel_rfl))) ?_
  intro W base args ds gs before hval0 hW _ hsz0 hL _
  have hsz : (DataW.weightsEach Tryz.prog (Tryz.f4.params.toList ++ Rows.viewPlaysSpec.plain.varTypes Tryz.prog) (ds ++ gs)).all (· ≤ reachBytes) = true := hsz0
  have hval : ∀ (j : Nat) t v, Tryz.f4.params[j]? = some t → args[j]? = some v → Value.okWide Tryz.prog W .any base t v := hval0
  have hW' := hW
  obtain ⟨p, q, hA0, hV, rfl, hfz, hnd⟩ := hW
  have hA : DataW.TrodAll enc Tryz.prog W 0 (fun _ => true) true Tryz.f4.params.toList args.toList ds p := hA0
  rw [Tryz.params4] at hA hval hsz
  obtain ⟨v0, vs0, d0, ds0, pl0, ql0, hargs, rfl, rfl, h0, r0⟩ := trodAll_cons hA
  obtain ⟨v1, vs1, d1, ds1, p1, ql1, rfl, rfl, rfl, h1, r1⟩ := trodAll_cons r0
  obtain ⟨v2, vs2, d2, ds2, pl2, ql2, rfl, rfl, rfl, h2, r2⟩ := trodAll_cons r1
  obtain ⟨rfl, rfl, rfl⟩ := trodAll_nil r2
  obtain rfl : args = #[v0, v1, v2] := by cases args; simp_all
  obtain ⟨rfl, rfl⟩ := trodVars_none hV
  simp only [List.append_nil] at hW'
  have h0k := h0
  have hlt0 : ∀ x ∈ pl0, x.block < W.heap.size := fun x hx => by simpa using hW'.lt x (by simp [hx])
  obtain ⟨p0, q0, C0, R0, s0, o0, n0, c0, l0, rfl, hr0, hz0, hC0⟩ := open_cfg (hval 0 27 v0 rfl rfl) h0 (weights_all hsz (j := 0) (t := 27) rfl rfl)
  obtain ⟨a1, rfl, rfl, rfl, w1⟩ := open_int Tryz.underlying3 (hval 1 3 v1 rfl rfl) h1
  obtain ⟨o2, n2, c2, rfl⟩ := okWide_slice Tryz.underlying39 (hval 2 39 v2 rfl rfl)
  have h2k := h2
  have hlt2 : ∀ x ∈ pl2, x.block < W.heap.size := fun x hx => by simpa using hW'.lt x (by simp [hx])
  obtain ⟨fuel2, hf2⟩ := h2
  obtain ⟨bo2, bl2, bc2, hcs, hn2, hks2, hc2, hsl2⟩ := open_cs hf2
  simp [Value.cells] at hcs
  obtain ⟨rfl, rfl, rfl⟩ := hcs
  have g2 : 56 * n2 ≤ 140737488351232 := by
    rcases hsl2 with h | ⟨es, sp, h, h1⟩
    · omega
    · dsimp only at h
      subst h
      have := sized_slice hsz (j := 2) (t := 39) (e := 85) rfl rfl Tryz.underlying39
      rw [show Tryz.prog.bytesOf 85 = 56 by kernel_rfl] at this
      have hr : reachBytes = 140737488351232 := rfl
      omega
  obtain ⟨L2, hr2, hp2⟩ := hks2 (by omega)
  clear hA0 hval0 hsz0
  refine (plays23_law p0 q0 C0 R0 s0 o0 n0 c0 l0 hz0 hC0 a1 o2 n2 c2 L2 g2 W (tabs hL).1.1 (tabs hL).1.2 (tabs hL).2.1 (tabs hL).2.2 hr0 hr2).mono fun e W' ⟨he, hs⟩ => ?_
  subst he
  have hb := hs.below
  exact ⟨_, rfl, _, _, _, [], _, [], hW', trodAll_cons_mk (shut_bool Tryz.underlying4 _) trodAll_mk0, (trodAll_cons_mk (Below.trod laidOutG (by kernel_rfl) (of_decide_eq_true (by kernel_rfl)) h0k hb hlt0) (trodAll_cons_mk (shut_int Tryz.underlying3 w1) (trodAll_cons_mk (Below.trod laidOutG (by kernel_rfl) (of_decide_eq_true (by kernel_rfl)) h2k hb hlt2) trodAll_mk0))), rfl, hb.frame _, fun h => by cases h⟩

theorem over : Rows.ViewPlaysSaid :=
  OpenClaim.holds_of_wide 4 Tryz.f4 rfl rfl rfl rfl rfl rfl rfl ⟨rfl, rfl, rfl, rfl, rfl⟩ rfl rfl rfl rfl rfl (by kernel_rfl) Tryz.func4 (by kernel_rfl)
    (of_decide_eq_true (by kernel_rfl)) (by unfold Func.isWrapper; first | (rw [if_pos (by decide +kernel)]; kernel_rfl) | (rw [if_neg (by decide +kernel)]; exact ⟨rfl, rfl⟩))
    (fun os started H enc _ => lifted os started H enc)

end Go.Proofs.YthcjckgmdokmdaaGreatDoor.viewPlays
namespace Go.Proofs.YthcjckgmdokmdaaGreatDoor
open Go
theorem viewPlays_card : Rows.ViewPlaysCardSaid :=
  Claim7.holds_tied_plain_at .later [] [.data, .data, .data, .data, .data, .data, .data, .data, .data] true (true, "cec0e2e100c3635a28802a63a10ac9c1d603ecc7e16ef2b04aadee3f964a1d10") false
    viewPlays.over (fun _ h => by cases h) (by kernel_rfl) (fun _ h => by cases h) viewPlays_row_tie rfl ⟨rfl, rfl⟩ (by kernel_rfl) rfl
    (fun f fn hf hfn => by
      obtain rfl : f = 4 := Option.some.inj ((show Tryz.prog.funcNamed Rows.viewPlaysRow.func = some 4 by kernel_rfl).symm.trans hf) |>.symm
      obtain rfl : fn = Tryz.f4 := (Option.some.inj (Tryz.func4.symm.trans hfn)).symm
      exact ⟨by kernel_rfl, fun j t ht => by
        rw [Tryz.params4] at ht
        have hm : t ∈ [27, 3, 39] := by simpa using Array.mem_of_getElem? ht
        have hall : ([27, 3, 39].all fun u => !Tryz.prog.wantsStandIn u) = true := by kernel_rfl
        exact (show Tryz.prog.wantsStandIn t = false by simpa using List.all_eq_true.1 hall t hm)⟩)
    (by kernel_rfl)
#print axioms viewPlays_card
end Go.Proofs.YthcjckgmdokmdaaGreatDoor
