/- The program's reader of a whole datagram. -/
import Derived.Test.YtaaongbdincimaaGreatDoorWrh
namespace Go.Proofs.YtaaongbdincimaaGreatDoor
open Go.RowKit
open Wp Vp
set_option maxRecDepth 100000
set_option linter.unusedVariables false
set_option linter.unusedSimpArgs false

/-- what stands behind the head: the state, and two variables -/
def Cut16 (W wx : World) (q p : Nat) (ef : Addr) (S : Rs) (g2 g3 : Nat) (xk ss xf xt : Int) : Prop := Tz W wx q p ef S ∧ Dgb wx g2 zD none 0 0 ∧ Dgb wx g3 ⟨xk, ss, xf, xt, 0, 0, [], 0⟩ none 0 0 ∧ W.heap.size ≤ g3
theorem cut16 {W w : World} {q p : Nat} {ef : Addr} {S : Rs} {g2 g3 : Nat} (hT : Tz W w q p ef S) (hG : Dgb w g2 zD none 0 0) (hD : Dgb w g3 zD none 0 0) (hg2 : g2 < W.heap.size) (hq : q < W.heap.size ∧ p < W.heap.size) (hr : 0 < W.heap.size ∧ ¬ RF q p g2) (hge : W.heap.size ≤ g3) (xk ss xf xt : Int) : Cut16 W (setDg w g3 ⟨xk, ss, xf, xt, 0, 0, [], 0⟩ none 0 0) q p ef S g2 g3 xk ss xf xt := by
  have hf := setDg_fr (Fr.refl (fun k => k = g3) w) g3 ⟨xk, ss, xf, xt, 0, 0, [], 0⟩ none 0 0 (.inl rfl)
  exact ⟨hT.dput hge hq hr.1 hD hf, hG.other (by omega) hf, hD.set _ _ _ _, hge⟩
theorem cut16n {W w : World} {q p : Nat} {ef : Addr} {S : Rs} {g2 : Nat} (hT : Tz W w q p ef S) (hG : Dgb w g2 zD none 0 0) (hq : q < W.heap.size ∧ p < W.heap.size) (xk ss xf xt : Int) : Cut16 W (newDg w ⟨xk, ss, xf, xt, 0, 0, [], 0⟩ none 0 0) q p ef S g2 w.heap.size xk ss xf xt := by
  have A := Still.alloc w (.cells (dgc ⟨xk, ss, xf, xt, 0, 0, [], 0⟩ none 0 0) 25)
  exact ⟨hT.still A, hG.still A, newDg_b w _ _ _ _, hT.f.size⟩
set_option maxHeartbeats 4000000 in
theorem ydg_any (q p : Nat) (ef : Addr) (s : Rs) (w : World) (h : Rz w q p ef s) :
    Calls Tryz.prog 47 #[.pointer (some ⟨q, 0, none⟩)] w fun r w' => ∃ co cn cp, r = .returned (dgv (dgM s).1 co cn cp) ∧ OwG KCc 42 w' w.heap.size (.slice co cn cp) (dgM s).1.cs ∧ Tz w w' q p ef (dgM s).2 := by
  have A0 := Still.alloc w (.cells #[.int .i64 0, .int .u64 0, .int .i64 0, .int .i64 0, .int .i64 0, .int .i64 0, .slice none 0 0, .int .i64 0] 25)
  have B0 : Dgb (w.alloc (.cells #[.int .i64 0, .int .u64 0, .int .i64 0, .int .i64 0, .int .i64 0, .int .i64 0, .slice none 0 0, .int .i64 0] 25)) w.heap.size zD none 0 0 := newDg_b w zD none 0 0
  have h0 := h.still A0
  have hlt := h.lt
  have herr := World.block_lt_of_cell? w _ h.er
  have HSw : Hid (q < w.heap.size ∧ p < w.heap.size) := hid hlt
  obtain ⟨W, eW⟩ : ∃ W, w.alloc (.cells #[.int .i64 0, .int .u64 0, .int .i64 0, .int .i64 0, .int .i64 0, .int .i64 0, .slice none 0 0, .int .i64 0] 25) = W := ⟨_, rfl⟩
  obtain ⟨g2, eg2⟩ : ∃ g, w.heap.size = g := ⟨_, rfl⟩
  have hWs : W.heap.size = g2 + 1 := by rw [← eW, size_alloc, eg2]
  rw [eW] at A0 B0 h0
  rw [eg2] at B0 hlt herr
  have HWs := hid hWs
  have HSz : Hid (g2 < W.heap.size ∧ (q < W.heap.size ∧ p < W.heap.size) ∧ (0 < W.heap.size ∧ ¬ RF q p g2)) := hid ⟨by omega, by omega, by
    have : 0 < g2 := herr
    omega, fun e => by rcases e with e | e <;> omega⟩
  have HEr2 : Hid (0 < g2) := hid herr
  have HA := hid A0
  have HG := hid B0
  have HGs := hid eg2
  have c0 := h0.ptr
  have HC := hid (ybyte_any q p ef s W h0)
  have HE : Hid (dgM s = (mB (mG ((byM s).1 == 101)) fun _ => mB byM fun k => mB (fuM 8 0 0) fun ss => mB byM fun f => mB byM fun t => tlM k ss (nm f) (nm t)) (byM s).2) := hid rfl
  obtain ⟨c, S, ec⟩ : ∃ c S, byM s = (c, S) := ⟨_, _, rfl⟩
  rw [ec] at HC HE
  dsimp only at HC HE
  have hc8 := c.toNat_lt
  have HQ : Hid ((nm c == 101) = (c == 101)) := hid (by
    rw [Bool.eq_iff_iff]
    simp only [beq_iff_eq]
    unfold nm
    constructor
    · intro h
      apply UInt8.toNat_inj.1
      show c.toNat = 101
      omega
    · rintro rfl
      rfl)
  obtain ⟨b, eb⟩ : ∃ b, (c == 101) = b := ⟨_, rfl⟩
  rw [eb] at HQ HE
  obtain ⟨x, ex⟩ : ∃ x, nm c = x := ⟨_, rfl⟩
  rw [ex] at HC HQ
  have hq := HQ.out
  have HE1 : Hid (dgM s = (mB byM fun k => mB (fuM 8 0 0) fun ss => mB byM fun f => mB byM fun t => tlM k ss (nm f) (nm t)) (mG b S).2) := hid HE.out
  obtain ⟨S1, eS1⟩ : ∃ S', (mG b S).2 = S' := ⟨_, rfl⟩
  rw [eS1] at HE1
  obtain ⟨ck, S2, e2⟩ : ∃ a b, byM S1 = (a, b) := ⟨_, _, rfl⟩
  obtain ⟨sn, S3, e3⟩ : ∃ a b, fuM 8 0 0 S2 = (a, b) := ⟨_, _, rfl⟩
  obtain ⟨cf, S4, e4⟩ : ∃ a b, byM S3 = (a, b) := ⟨_, _, rfl⟩
  obtain ⟨ct, S5, e5⟩ : ∃ a b, byM S4 = (a, b) := ⟨_, _, rfl⟩
  have HE5 : Hid (dgM s = tlM ck sn (nm cf) (nm ct) S5) := hid (by
    rw [HE1.out]
    show tlM (byM S1).1 (fuM 8 0 0 (byM S1).2).1 (nm (byM (fuM 8 0 0 (byM S1).2).2).1) (nm (byM (byM (fuM 8 0 0 (byM S1).2).2).2).1) (byM (byM (fuM 8 0 0 (byM S1).2).2).2).2 = _
    rw [e2, e3, e4, e5])
  obtain ⟨xk, exk⟩ : ∃ x, nm ck = x := ⟨_, rfl⟩
  obtain ⟨xf, exf⟩ : ∃ x, nm cf = x := ⟨_, rfl⟩
  obtain ⟨xt, ext⟩ : ∃ x, nm ct = x := ⟨_, rfl⟩
  obtain ⟨ss, ess⟩ : ∃ x : Int, (sn : Int) = x := ⟨_, rfl⟩
  have by256 : ∀ c : UInt8, IntKind.i64.wrap (nm c) = nm c := fun c => wr64 (by unfold nm; omega) (by have := c.toNat_lt; unfold nm; omega)
  have wk := by256 ck
  have wf := by256 cf
  have wt := by256 ct
  rw [exf, ext, ess] at HE5
  have HC0 : Hid (∀ u, Rz u q p ef S1 → Calls Tryz.prog 68 #[.pointer (some ⟨p, 0, none⟩)] u fun r w' => r = .returned (.int .u8 xk) ∧ Tz u w' q p ef S2) := hid (fun u hu => by
    have := ybyte_any q p ef S1 u hu
    rw [e2, exk] at this
    exact this)
  have HC1 : Hid (∀ u, Rz u q p ef S2 → Calls Tryz.prog 46 #[.pointer (some ⟨q, 0, none⟩)] u fun r w' => r = .returned (.int .u64 ss) ∧ Tz u w' q p ef S3) := hid (fun u hu => by
    have := yfull_any q p ef S2 u hu
    rw [e3, ess] at this
    exact this)
  have HC2 : Hid (∀ u, Rz u q p ef S3 → Calls Tryz.prog 68 #[.pointer (some ⟨p, 0, none⟩)] u fun r w' => r = .returned (.int .u8 xf) ∧ Tz u w' q p ef S4) := hid (fun u hu => by
    have := ybyte_any q p ef S3 u hu
    rw [e4, exf] at this
    exact this)
  have HC3 : Hid (∀ u, Rz u q p ef S4 → Calls Tryz.prog 68 #[.pointer (some ⟨p, 0, none⟩)] u fun r w' => r = .returned (.int .u8 xt) ∧ Tz u w' q p ef S5) := hid (fun u hu => by
    have := ybyte_any q p ef S4 u hu
    rw [e5, ext] at this
    exact this)
  rw [exk] at wk
  rw [exf] at wf
  rw [ext] at wt
  have HXk := hid exk
  clear A0 B0 h h0 ec ex eb HQ e2 e3 e4 e5 exk exf ext ess HE HE1 hlt herr hWs by256
  go_enter Tryz.func47, Tryz.ntmps47
  go_wp2_with fail
  refine HC.out.mono ?_
  rintro e w1 ⟨he, h1⟩
  rw [he]
  have HM := hid (must_any q p ef S b w1 h1.r)
  have HT1 := hid h1
  have HG1 := hid (HG.out.to HSz.out.2.2.2 h1)
  clear he h1 HC HG c0 eW eg2
  go_wp2_with fail
  refine HM.out.mono ?_
  rintro e w2 ⟨he, h2⟩
  rw [he]
  rw [eS1] at h2
  have HTd := hid ((HT1.out.trans h2).still ((Fr.refl _ w2).drew))
  have HGd := hid ((HG1.out.to HSz.out.2.2.2 h2).still ((Fr.refl _ w2).drew))
  clear he h2 hq HM HT1 HG1 eS1
  go_upto_region 2 with fail
  go_cut [3] (fun v wx => ∃ g3, v = .pointer (some ⟨g3, 0, none⟩) ∧ Hid (Cut16 W wx q p ef S5 g2 g3 xk ss xf xt))
  case first =>
    refine region_I (fun u => u.cell? ⟨q, 0, none⟩ = some (.pointer (some ⟨p, 0, none⟩))) (by kernel_rfl) ?_
    refine wpAnyI_take (i := 0) (v := ?tv1) rfl rfl (by kernel_rfl) (by kernel_rfl) (by kernel_rfl) (fun _ _ _ h => h) (fun u hu => ?ty1) ?tk1
    case ty1 => (go_simp; try rfl)
    refine wpAnyI_take (i := 1) (v := ?tv2) rfl rfl (by kernel_rfl) (by kernel_rfl) (by kernel_rfl) (fun _ _ _ h => h) (fun u hu => ?ty2) ?tk2
    case ty2 => (go_simp; try rfl)
    refine wpAnyI_take (i := 2) (v := ?tv3) rfl rfl (by kernel_rfl) (by kernel_rfl) (by kernel_rfl) (fun _ _ _ h => h) (fun u hu => ?ty3) ?tk3
    case ty3 => (go_simp; try rfl)
    refine wpAnyI_take (i := 3) (v := ?tv4) rfl rfl (by kernel_rfl) (by kernel_rfl) (by kernel_rfl) (fun _ _ _ h => h) (fun u hu => ?ty4) ?tk4
    case ty4 => (go_simp; try rfl)
    refine wpAnyI_take (i := 6) (v := ?tv5) rfl rfl (by kernel_rfl) (by kernel_rfl) (by kernel_rfl) (fun _ _ _ h => h) (fun u hu => ?ty5) ?tk5
    case ty5 => (go_simp; try rfl)
    refine wpAnyI_take (i := 8) (v := ?tv6) rfl rfl (by kernel_rfl) (by kernel_rfl) (by kernel_rfl) (fun _ _ _ h => h) (fun u hu => ?ty6) ?tk6
    case ty6 => (go_simp; try rfl)
    refine wpAnyI_take (i := 9) (v := ?tv7) rfl rfl (by kernel_rfl) (by kernel_rfl) (by kernel_rfl) (fun _ _ _ h => h) (fun u hu => ?ty7) ?tk7
    case ty7 => (go_simp; try rfl)
    refine wpAnyI_take (i := 10) (v := ?tv8) rfl rfl (by kernel_rfl) (by kernel_rfl) (by kernel_rfl) (fun _ _ _ h => h) (fun u hu => ?ty8) ?tk8
    case ty8 => (go_simp; try rfl)
    refine wpAnyI_take (i := 11) (v := ?tv9) rfl rfl (by kernel_rfl) (by kernel_rfl) (by kernel_rfl) (fun _ _ _ h => h) (fun u hu => ?ty9) ?tk9
    case ty9 => (go_simp; try rfl)
    refine wpAnyI_take (i := 14) (v := ?tv10) rfl rfl (by kernel_rfl) (by kernel_rfl) (by kernel_rfl) (fun _ _ _ h => h) (fun u hu => ?ty10) ?tk10
    case ty10 => (go_simp; try rfl)
    refine wpAnyI_take (i := 15) (v := ?tv11) rfl rfl (by kernel_rfl) (by kernel_rfl) (by kernel_rfl) (fun _ _ _ h => h) (fun u hu => ?ty11) ?tk11
    case ty11 => (go_simp; try rfl)
    refine wpAnyI_take (i := 16) (v := ?tv12) rfl rfl (by kernel_rfl) (by kernel_rfl) (by kernel_rfl) (fun _ _ _ h => h) (fun u hu => ?ty12) ?tk12
    case ty12 => (go_simp; try rfl)
    refine wpAnyI_take (i := 17) (v := ?tv13) rfl rfl (by kernel_rfl) (by kernel_rfl) (by kernel_rfl) (fun _ _ _ h => h) (fun u hu => ?ty13) ?tk13
    case ty13 => (go_simp; try rfl)
    refine wpAnyI_ready (HTd.out.r.ptr) (rs := [4, 21]) (by kernel_rfl) (by simp) ?_
    refine AllI.cons rfl rfl (fun K hK => ?_) (AllI.cons rfl rfl (fun K hK => ?_) AllI.nil)
    · go_simp
      refine (HC0.out _ HTd.out.r).mono ?_
      rintro e w14 ⟨he, h14⟩
      rw [he]
      have HT14 := hid (HTd.out.trans h14)
      have HG14 := hid (HGd.out.to HSz.out.2.2.2 h14)
      clear he h14
      refine hK _ _ ?_
      clear hK K
      refine wpAnyI_take (i := 5) (v := ?tv15) rfl rfl (by kernel_rfl) (by kernel_rfl) (by kernel_rfl) (fun _ _ _ h => h) (fun u hu => ?ty15) ?tk15
      case ty15 => (go_simp; try rfl)
      refine wpAnyI_ready (HT14.out.r.ptr) (rs := [7, 21]) (by kernel_rfl) (by simp) ?_
      refine AllI.cons rfl rfl (fun K hK => ?_) (AllI.cons rfl rfl (fun K hK => ?_) AllI.nil)
      · go_simp
        refine (HC1.out _ HT14.out.r).mono ?_
        rintro e w16 ⟨he, h16⟩
        rw [he]
        have HT16 := hid (HT14.out.trans h16)
        have HG16 := hid (HG14.out.to HSz.out.2.2.2 h16)
        clear he h16
        refine hK _ _ ?_
        clear hK K
        refine wpAnyI_ready (HT16.out.r.ptr) (rs := [12, 21]) (by kernel_rfl) (by simp) ?_
        refine AllI.cons rfl rfl (fun K hK => ?_) (AllI.cons rfl rfl (fun K hK => ?_) AllI.nil)
        · go_simp
          refine (HC2.out _ HT16.out.r).mono ?_
          rintro e w17 ⟨he, h17⟩
          rw [he]
          have HT17 := hid (HT16.out.trans h17)
          have HG17 := hid (HG16.out.to HSz.out.2.2.2 h17)
          clear he h17
          refine hK _ _ ?_
          clear hK K
          refine wpAnyI_take (i := 13) (v := ?tv18) rfl rfl (by kernel_rfl) (by kernel_rfl) (by kernel_rfl) (fun _ _ _ h => h) (fun u hu => ?ty18) ?tk18
          case ty18 => (go_simp; try rfl)
          refine wpAnyI_ready (HT17.out.r.ptr) (rs := [18, 21]) (by kernel_rfl) (by simp) ?_
          refine AllI.cons rfl rfl (fun K hK => ?_) (AllI.cons rfl rfl (fun K hK => ?_) AllI.nil)
          · go_simp
            refine (HC3.out _ HT17.out.r).mono ?_
            rintro e w19 ⟨he, h19⟩
            rw [he]
            have HT19 := hid (HT17.out.trans h19)
            have HG19 := hid (HG17.out.to HSz.out.2.2.2 h19)
            clear he h19
            refine hK _ _ ?_
            clear hK K
            refine wpAnyI_take (i := 19) (v := ?tv20) rfl rfl (by kernel_rfl) (by kernel_rfl) (by kernel_rfl) (fun _ _ _ h => h) (fun u hu => ?ty20) ?tk20
            case ty20 => (go_simp; try rfl)
            refine wpAnyI_take (i := 20) (v := ?tv21) rfl rfl (by kernel_rfl) (by kernel_rfl) (by kernel_rfl) (fun _ _ _ h => h) (fun u hu => ?ty21) ?tk21
            case ty21 => (go_simp; try rfl)
            refine wpAnyI_ready (HT19.out.r.ptr) (rs := [21]) (by kernel_rfl) (by simp) ?_
            refine AllI.cons rfl rfl (fun K hK => ?_) AllI.nil
            have A22 := Still.alloc w19 (.cells (dgc zD none 0 0) 25)
            have HT22 := hid (HT19.out.still A22)
            have HG22 := hid (HG19.out.still A22)
            have HD22 : Hid (Dgb (newDg w19 zD none 0 0) w19.heap.size zD none 0 0) := hid (newDg_b w19 zD none 0 0)
            have HZ22 : Hid (W.heap.size ≤ w19.heap.size) := hid HT19.out.f.size
            clear A22
            go_simp
            refine hK _ _ ?_
            clear hK K
            refine wpAnyI_ready (HT22.out.r.ptr) (rs := [22]) (by kernel_rfl) (by simp) ?_
            refine AllI.cons rfl rfl (fun K hK => ?_) AllI.nil
            obtain ⟨f0, f1, f2, f3, f4, f5, f6, f7, ff⟩ := HD22.out.cells
            have j0 := ff 0
            have j1 := ff 1
            have j2 := ff 2
            have j3 := ff 3
            have j4 := ff 4
            have j5 := ff 5
            have j6 := ff 6
            have j7 := ff 7
            go_simp
            have HF23 := hid (cut16n HT19.out HG19.out HSz.out.2.1 xk ss xf xt)
            clear f0 f1 f2 f3 f4 f5 f6 f7 ff j0 j1 j2 j3 j4 j5 j6 j7
            refine hK _ _ ?_
            clear hK K
            refine wpAnyI_done HF23.out.1.r.ptr (by kernel_rfl) ?_ _
            go_wp2_with fail
            go_meet
            exact ⟨_, rfl, hid HF23.out⟩
          · have A24 := Still.alloc w17 (.cells (dgc zD none 0 0) 25)
            have HT24 := hid (HT17.out.still A24)
            have HG24 := hid (HG17.out.still A24)
            have HD24 : Hid (Dgb (newDg w17 zD none 0 0) w17.heap.size zD none 0 0) := hid (newDg_b w17 zD none 0 0)
            have HZ24 : Hid (W.heap.size ≤ w17.heap.size) := hid HT17.out.f.size
            clear A24
            go_simp
            refine hK _ _ ?_
            clear hK K
            refine wpAnyI_ready (HT24.out.r.ptr) (rs := [18]) (by kernel_rfl) (by simp) ?_
            refine AllI.cons rfl rfl (fun K hK => ?_) AllI.nil
            go_simp
            refine (HC3.out _ HT24.out.r).mono ?_
            rintro e w25 ⟨he, h25⟩
            rw [he]
            have HT25 := hid (HT24.out.trans h25)
            have HG25 := hid (HG24.out.to HSz.out.2.2.2 h25)
            have HD25 := hid (HD24.out.to (fun e => by have h1 := HSz.out.2.1; have h2 := HZ24.out; rcases e with e | e <;> omega) h25)
            clear he h25
            refine hK _ _ ?_
            clear hK K
            refine wpAnyI_take (i := 19) (v := ?tv26) rfl rfl (by kernel_rfl) (by kernel_rfl) (by kernel_rfl) (fun _ _ _ h => h) (fun u hu => ?ty26) ?tk26
            case ty26 => (go_simp; try rfl)
            refine wpAnyI_take (i := 20) (v := ?tv27) rfl rfl (by kernel_rfl) (by kernel_rfl) (by kernel_rfl) (fun _ _ _ h => h) (fun u hu => ?ty27) ?tk27
            case ty27 => (go_simp; try rfl)
            refine wpAnyI_ready (HT25.out.r.ptr) (rs := [22]) (by kernel_rfl) (by simp) ?_
            refine AllI.cons rfl rfl (fun K hK => ?_) AllI.nil
            obtain ⟨f0, f1, f2, f3, f4, f5, f6, f7, ff⟩ := HD25.out.cells
            have j0 := ff 0
            have j1 := ff 1
            have j2 := ff 2
            have j3 := ff 3
            have j4 := ff 4
            have j5 := ff 5
            have j6 := ff 6
            have j7 := ff 7
            go_simp
            have HF28 := hid (cut16 HT25.out HG25.out HD25.out HSz.out.1 HSz.out.2.1 HSz.out.2.2 (HZ24.out) xk ss xf xt)
            clear f0 f1 f2 f3 f4 f5 f6 f7 ff j0 j1 j2 j3 j4 j5 j6 j7
            refine hK _ _ ?_
            clear hK K
            refine wpAnyI_done HF28.out.1.r.ptr (by kernel_rfl) ?_ _
            go_wp2_with fail
            go_meet
            exact ⟨_, rfl, hid HF28.out⟩
        · have A29 := Still.alloc w16 (.cells (dgc zD none 0 0) 25)
          have HT29 := hid (HT16.out.still A29)
          have HG29 := hid (HG16.out.still A29)
          have HD29 : Hid (Dgb (newDg w16 zD none 0 0) w16.heap.size zD none 0 0) := hid (newDg_b w16 zD none 0 0)
          have HZ29 : Hid (W.heap.size ≤ w16.heap.size) := hid HT16.out.f.size
          clear A29
          go_simp
          refine hK _ _ ?_
          clear hK K
          refine wpAnyI_ready (HT29.out.r.ptr) (rs := [12]) (by kernel_rfl) (by simp) ?_
          refine AllI.cons rfl rfl (fun K hK => ?_) AllI.nil
          go_simp
          refine (HC2.out _ HT29.out.r).mono ?_
          rintro e w30 ⟨he, h30⟩
          rw [he]
          have HT30 := hid (HT29.out.trans h30)
          have HG30 := hid (HG29.out.to HSz.out.2.2.2 h30)
          have HD30 := hid (HD29.out.to (fun e => by have h1 := HSz.out.2.1; have h2 := HZ29.out; rcases e with e | e <;> omega) h30)
          clear he h30
          refine hK _ _ ?_
          clear hK K
          refine wpAnyI_take (i := 13) (v := ?tv31) rfl rfl (by kernel_rfl) (by kernel_rfl) (by kernel_rfl) (fun _ _ _ h => h) (fun u hu => ?ty31) ?tk31
          case ty31 => (go_simp; try rfl)
          refine wpAnyI_ready (HT30.out.r.ptr) (rs := [18]) (by kernel_rfl) (by simp) ?_
          refine AllI.cons rfl rfl (fun K hK => ?_) AllI.nil
          go_simp
          refine (HC3.out _ HT30.out.r).mono ?_
          rintro e w32 ⟨he, h32⟩
          rw [he]
          have HT32 := hid (HT30.out.trans h32)
          have HG32 := hid (HG30.out.to HSz.out.2.2.2 h32)
          have HD32 := hid (HD30.out.to (fun e => by have h1 := HSz.out.2.1; have h2 := HZ29.out; rcases e with e | e <;> omega) h32)
          clear he h32
          refine hK _ _ ?_
          clear hK K
          refine wpAnyI_take (i := 19) (v := ?tv33) rfl rfl (by kernel_rfl) (by kernel_rfl) (by kernel_rfl) (fun _ _ _ h => h) (fun u hu => ?ty33) ?tk33
          case ty33 => (go_simp; try rfl)
          refine wpAnyI_take (i := 20) (v := ?tv34) rfl rfl (by kernel_rfl) (by kernel_rfl) (by kernel_rfl) (fun _ _ _ h => h) (fun u hu => ?ty34) ?tk34
          case ty34 => (go_simp; try rfl)
          refine wpAnyI_ready (HT32.out.r.ptr) (rs := [22]) (by kernel_rfl) (by simp) ?_
          refine AllI.cons rfl rfl (fun K hK => ?_) AllI.nil
          obtain ⟨f0, f1, f2, f3, f4, f5, f6, f7, ff⟩ := HD32.out.cells
          have j0 := ff 0
          have j1 := ff 1
          have j2 := ff 2
          have j3 := ff 3
          have j4 := ff 4
          have j5 := ff 5
          have j6 := ff 6
          have j7 := ff 7
          go_simp
          have HF35 := hid (cut16 HT32.out HG32.out HD32.out HSz.out.1 HSz.out.2.1 HSz.out.2.2 (HZ29.out) xk ss xf xt)
          clear f0 f1 f2 f3 f4 f5 f6 f7 ff j0 j1 j2 j3 j4 j5 j6 j7
          refine hK _ _ ?_
          clear hK K
          refine wpAnyI_done HF35.out.1.r.ptr (by kernel_rfl) ?_ _
          go_wp2_with fail
          go_meet
          exact ⟨_, rfl, hid HF35.out⟩
      · have A36 := Still.alloc w14 (.cells (dgc zD none 0 0) 25)
        have HT36 := hid (HT14.out.still A36)
        have HG36 := hid (HG14.out.still A36)
        have HD36 : Hid (Dgb (newDg w14 zD none 0 0) w14.heap.size zD none 0 0) := hid (newDg_b w14 zD none 0 0)
        have HZ36 : Hid (W.heap.size ≤ w14.heap.size) := hid HT14.out.f.size
        clear A36
        go_simp
        refine hK _ _ ?_
        clear hK K
        refine wpAnyI_ready (HT36.out.r.ptr) (rs := [7]) (by kernel_rfl) (by simp) ?_
        refine AllI.cons rfl rfl (fun K hK => ?_) AllI.nil
        go_simp
        refine (HC1.out _ HT36.out.r).mono ?_
        rintro e w37 ⟨he, h37⟩
        rw [he]
        have HT37 := hid (HT36.out.trans h37)
        have HG37 := hid (HG36.out.to HSz.out.2.2.2 h37)
        have HD37 := hid (HD36.out.to (fun e => by have h1 := HSz.out.2.1; have h2 := HZ36.out; rcases e with e | e <;> omega) h37)
        clear he h37
        refine hK _ _ ?_
        clear hK K
        refine wpAnyI_ready (HT37.out.r.ptr) (rs := [12]) (by kernel_rfl) (by simp) ?_
        refine AllI.cons rfl rfl (fun K hK => ?_) AllI.nil
        go_simp
        refine (HC2.out _ HT37.out.r).mono ?_
        rintro e w38 ⟨he, h38⟩
        rw [he]
        have HT38 := hid (HT37.out.trans h38)
        have HG38 := hid (HG37.out.to HSz.out.2.2.2 h38)
        have HD38 := hid (HD37.out.to (fun e => by have h1 := HSz.out.2.1; have h2 := HZ36.out; rcases e with e | e <;> omega) h38)
        clear he h38
        refine hK _ _ ?_
        clear hK K
        refine wpAnyI_take (i := 13) (v := ?tv39) rfl rfl (by kernel_rfl) (by kernel_rfl) (by kernel_rfl) (fun _ _ _ h => h) (fun u hu => ?ty39) ?tk39
        case ty39 => (go_simp; try rfl)
        refine wpAnyI_ready (HT38.out.r.ptr) (rs := [18]) (by kernel_rfl) (by simp) ?_
        refine AllI.cons rfl rfl (fun K hK => ?_) AllI.nil
        go_simp
        refine (HC3.out _ HT38.out.r).mono ?_
        rintro e w40 ⟨he, h40⟩
        rw [he]
        have HT40 := hid (HT38.out.trans h40)
        have HG40 := hid (HG38.out.to HSz.out.2.2.2 h40)
        have HD40 := hid (HD38.out.to (fun e => by have h1 := HSz.out.2.1; have h2 := HZ36.out; rcases e with e | e <;> omega) h40)
        clear he h40
        refine hK _ _ ?_
        clear hK K
        refine wpAnyI_take (i := 19) (v := ?tv41) rfl rfl (by kernel_rfl) (by kernel_rfl) (by kernel_rfl) (fun _ _ _ h => h) (fun u hu => ?ty41) ?tk41
        case ty41 => (go_simp; try rfl)
        refine wpAnyI_take (i := 20) (v := ?tv42) rfl rfl (by kernel_rfl) (by kernel_rfl) (by kernel_rfl) (fun _ _ _ h => h) (fun u hu => ?ty42) ?tk42
        case ty42 => (go_simp; try rfl)
        refine wpAnyI_ready (HT40.out.r.ptr) (rs := [22]) (by kernel_rfl) (by simp) ?_
        refine AllI.cons rfl rfl (fun K hK => ?_) AllI.nil
        obtain ⟨f0, f1, f2, f3, f4, f5, f6, f7, ff⟩ := HD40.out.cells
        have j0 := ff 0
        have j1 := ff 1
        have j2 := ff 2
        have j3 := ff 3
        have j4 := ff 4
        have j5 := ff 5
        have j6 := ff 6
        have j7 := ff 7
        go_simp
        have HF43 := hid (cut16 HT40.out HG40.out HD40.out HSz.out.1 HSz.out.2.1 HSz.out.2.2 (HZ36.out) xk ss xf xt)
        clear f0 f1 f2 f3 f4 f5 f6 f7 ff j0 j1 j2 j3 j4 j5 j6 j7
        refine hK _ _ ?_
        clear hK K
        refine wpAnyI_done HF43.out.1.r.ptr (by kernel_rfl) ?_ _
        go_wp2_with fail
        go_meet
        exact ⟨_, rfl, hid HF43.out⟩
    · have A44 := Still.alloc w2.drew (.cells (dgc zD none 0 0) 25)
      have HT44 := hid (HTd.out.still A44)
      have HG44 := hid (HGd.out.still A44)
      have HD44 : Hid (Dgb (newDg w2.drew zD none 0 0) w2.heap.size zD none 0 0) := hid (newDg_b w2.drew zD none 0 0)
      have HZ44 : Hid (W.heap.size ≤ w2.heap.size) := hid HTd.out.f.size
      clear A44
      go_simp
      refine hK _ _ ?_
      clear hK K
      refine wpAnyI_ready (HT44.out.r.ptr) (rs := [4]) (by kernel_rfl) (by simp) ?_
      refine AllI.cons rfl rfl (fun K hK => ?_) AllI.nil
      go_simp
      refine (HC0.out _ HT44.out.r).mono ?_
      rintro e w45 ⟨he, h45⟩
      rw [he]
      have HT45 := hid (HT44.out.trans h45)
      have HG45 := hid (HG44.out.to HSz.out.2.2.2 h45)
      have HD45 := hid (HD44.out.to (fun e => by have h1 := HSz.out.2.1; have h2 := HZ44.out; rcases e with e | e <;> omega) h45)
      clear he h45
      refine hK _ _ ?_
      clear hK K
      refine wpAnyI_take (i := 5) (v := ?tv46) rfl rfl (by kernel_rfl) (by kernel_rfl) (by kernel_rfl) (fun _ _ _ h => h) (fun u hu => ?ty46) ?tk46
      case ty46 => (go_simp; try rfl)
      refine wpAnyI_ready (HT45.out.r.ptr) (rs := [7]) (by kernel_rfl) (by simp) ?_
      refine AllI.cons rfl rfl (fun K hK => ?_) AllI.nil
      go_simp
      refine (HC1.out _ HT45.out.r).mono ?_
      rintro e w47 ⟨he, h47⟩
      rw [he]
      have HT47 := hid (HT45.out.trans h47)
      have HG47 := hid (HG45.out.to HSz.out.2.2.2 h47)
      have HD47 := hid (HD45.out.to (fun e => by have h1 := HSz.out.2.1; have h2 := HZ44.out; rcases e with e | e <;> omega) h47)
      clear he h47
      refine hK _ _ ?_
      clear hK K
      refine wpAnyI_ready (HT47.out.r.ptr) (rs := [12]) (by kernel_rfl) (by simp) ?_
      refine AllI.cons rfl rfl (fun K hK => ?_) AllI.nil
      go_simp
      refine (HC2.out _ HT47.out.r).mono ?_
      rintro e w48 ⟨he, h48⟩
      rw [he]
      have HT48 := hid (HT47.out.trans h48)
      have HG48 := hid (HG47.out.to HSz.out.2.2.2 h48)
      have HD48 := hid (HD47.out.to (fun e => by have h1 := HSz.out.2.1; have h2 := HZ44.out; rcases e with e | e <;> omega) h48)
      clear he h48
      refine hK _ _ ?_
      clear hK K
      refine wpAnyI_take (i := 13) (v := ?tv49) rfl rfl (by kernel_rfl) (by kernel_rfl) (by kernel_rfl) (fun _ _ _ h => h) (fun u hu => ?ty49) ?tk49
      case ty49 => (go_simp; try rfl)
      refine wpAnyI_ready (HT48.out.r.ptr) (rs := [18]) (by kernel_rfl) (by simp) ?_
      refine AllI.cons rfl rfl (fun K hK => ?_) AllI.nil
      go_simp
      refine (HC3.out _ HT48.out.r).mono ?_
      rintro e w50 ⟨he, h50⟩
      rw [he]
      have HT50 := hid (HT48.out.trans h50)
      have HG50 := hid (HG48.out.to HSz.out.2.2.2 h50)
      have HD50 := hid (HD48.out.to (fun e => by have h1 := HSz.out.2.1; have h2 := HZ44.out; rcases e with e | e <;> omega) h50)
      clear he h50
      refine hK _ _ ?_
      clear hK K
      refine wpAnyI_take (i := 19) (v := ?tv51) rfl rfl (by kernel_rfl) (by kernel_rfl) (by kernel_rfl) (fun _ _ _ h => h) (fun u hu => ?ty51) ?tk51
      case ty51 => (go_simp; try rfl)
      refine wpAnyI_take (i := 20) (v := ?tv52) rfl rfl (by kernel_rfl) (by kernel_rfl) (by kernel_rfl) (fun _ _ _ h => h) (fun u hu => ?ty52) ?tk52
      case ty52 => (go_simp; try rfl)
      refine wpAnyI_ready (HT50.out.r.ptr) (rs := [22]) (by kernel_rfl) (by simp) ?_
      refine AllI.cons rfl rfl (fun K hK => ?_) AllI.nil
      obtain ⟨f0, f1, f2, f3, f4, f5, f6, f7, ff⟩ := HD50.out.cells
      have j0 := ff 0
      have j1 := ff 1
      have j2 := ff 2
      have j3 := ff 3
      have j4 := ff 4
      have j5 := ff 5
      have j6 := ff 6
      have j7 := ff 7
      go_simp
      have HF53 := hid (cut16 HT50.out HG50.out HD50.out HSz.out.1 HSz.out.2.1 HSz.out.2.2 (HZ44.out) xk ss xf xt)
      clear f0 f1 f2 f3 f4 f5 f6 f7 ff j0 j1 j2 j3 j4 j5 j6 j7
      refine hK _ _ ?_
      clear hK K
      refine wpAnyI_done HF53.out.1.r.ptr (by kernel_rfl) ?_ _
      go_wp2_with fail
      go_meet
      exact ⟨_, rfl, hid HF53.out⟩
  case rest =>
    obtain ⟨g3, rfl, HK⟩ := hcut
    clear HTd HGd HC0 HC1 HC2 HC3
    have HN3 : Hid (¬ RF q p g3) := hid (fun e => by have h1 := HSz.out.2.1; have h2 := HK.out.2.2.2; rcases e with e | e <;> omega)
    have HTL : Hid (tlM ck ss xf xt S5 = tlM ck ss xf xt S5) := hid rfl
    by_cases k1 : xk = 1
    · subst k1
      obtain ⟨mk, S6, e1⟩ : ∃ a b, upM 1099511627776 S5 = (a, b) := ⟨_, _, rfl⟩
      obtain ⟨fi, S7, e2⟩ : ∃ a b, upM 1099511627776 S6 = (a, b) := ⟨_, _, rfl⟩
      have hfi : fi ≤ 1099511627776 := by have := upM_le 1099511627776 S6; rw [e2] at this; exact this
      have hmk : mk ≤ 1099511627776 := by have := upM_le 1099511627776 S5; rw [e1] at this; exact this
      obtain ⟨L, S9, e3⟩ : ∃ a b, csM (mk : Int) xf (fi : Int) (upM 336 S7).1 0 (upM 336 S7).2 = (a, b) := ⟨_, _, rfl⟩
      obtain ⟨ak, S10, e4⟩ : ∃ a b, upM 1099511627776 S9 = (a, b) := ⟨_, _, rfl⟩
      have HEq : Hid (dgM s = (⟨1, ss, xf, xt, mk, fi, L, ak⟩, S10)) := hid (by
        rw [HE5.out]
        unfold tlM
        rw [if_pos HXk.out]
        unfold mB mR
        dsimp only
        rw [e1]
        dsimp only
        rw [e2]
        dsimp only
        rw [e3]
        dsimp only
        rw [e4])
      have w1 : IntKind.i64.wrap (mk : Int) = (mk : Int) := wr64 (by omega) (by omega)
      have w2' : IntKind.i64.wrap (fi : Int) = (fi : Int) := wr64 (by omega) (by omega)
      have HT0 : Hid (Tz W wc q p ef S5) := hid HK.out.1
      have HG0 : Hid (Dgb wc g2 zD none 0 0) := hid HK.out.2.1
      have HD0 : Hid (Dgb wc g3 ⟨1, ss, xf, xt, 0, 0, [], 0⟩ none 0 0) := hid HK.out.2.2.1
      have HU1 := hid (upto_any q p ef S5 1099511627776 (by omega) wc HT0.out.r)
      rw [e1] at HU1
      dsimp only at HU1
      obtain ⟨f0, f1, f2, f3, f4, f5, f6, f7, ff⟩ := HD0.out.cells
      have j4 := ff 4
      have j5 := ff 5
      have j6 := ff 6
      have j7 := ff 7
      go_wp2_with fail
      refine HU1.out.mono ?_
      rintro e v1 ⟨he, hh1⟩
      rw [he]
      have Dk1 := HD0.out.to HN3.out hh1
      have Tk1 := HT0.out.trans hh1
      have Gk1 := HG0.out.to HSz.out.2.2.2 hh1
      have HDa1 := hid Dk1
      clear f0 f1 f2 f3 f4 f5 f6 f7 ff j4 j5 j6 j7
      obtain ⟨f0, f1, f2, f3, f4, f5, f6, f7, ff⟩ := HDa1.out.cells
      have j4 := ff 4
      have j5 := ff 5
      have j6 := ff 6
      have j7 := ff 7
      have HTb1 : Hid (Tz W (v1.setCell ⟨g3, 4, none⟩ (.int .i64 (mk : Int))) q p ef S6) := hid (Tk1.dput HK.out.2.2.2 HSz.out.2.1 HSz.out.2.2.1 Dk1 (setF _ _ _ _))
      have HGb1 : Hid (Dgb (v1.setCell ⟨g3, 4, none⟩ (.int .i64 (mk : Int))) g2 zD none 0 0) := hid (Gk1.other (by have h1 := HSz.out.1; have h2 := HK.out.2.2.2; omega) (setF _ _ _ _))
      have HDb1 := hid (dset4 Dk1 (mk : Int))
      dsimp only at HDb1
      clear he hh1 Dk1 Tk1 Gk1 HU1
      have HU2 := hid (upto_any q p ef S6 1099511627776 (by omega) (v1.setCell ⟨g3, 4, none⟩ (.int .i64 (mk : Int))) HTb1.out.r)
      rw [e2] at HU2
      dsimp only at HU2
      go_wp2_with fail
      refine HU2.out.mono ?_
      rintro e v2 ⟨he, hh2⟩
      rw [he]
      have Dk2 := HDb1.out.to HN3.out hh2
      have Tk2 := HTb1.out.trans hh2
      have Gk2 := HGb1.out.to HSz.out.2.2.2 hh2
      have HDa2 := hid Dk2
      clear f0 f1 f2 f3 f4 f5 f6 f7 ff j4 j5 j6 j7
      obtain ⟨f0, f1, f2, f3, f4, f5, f6, f7, ff⟩ := HDa2.out.cells
      have j4 := ff 4
      have j5 := ff 5
      have j6 := ff 6
      have j7 := ff 7
      have HTb2 : Hid (Tz W (v2.setCell ⟨g3, 5, none⟩ (.int .i64 (fi : Int))) q p ef S7) := hid (Tk2.dput HK.out.2.2.2 HSz.out.2.1 HSz.out.2.2.1 Dk2 (setF _ _ _ _))
      have HGb2 : Hid (Dgb (v2.setCell ⟨g3, 5, none⟩ (.int .i64 (fi : Int))) g2 zD none 0 0) := hid (Gk2.other (by have h1 := HSz.out.1; have h2 := HK.out.2.2.2; omega) (setF _ _ _ _))
      have HDb2 := hid (dset5 Dk2 (fi : Int))
      dsimp only at HDb2
      clear he hh2 Dk2 Tk2 Gk2 HU2
      have HCm := hid (ycmds_any q p ef S7 ⟨1, ss, xf, xt, mk, fi, [], 0⟩ none 0 0 ⟨by dsimp only; omega, by dsimp only; omega⟩ (v2.setCell ⟨g3, 5, none⟩ (.int .i64 (fi : Int))) HTb2.out.r)
      dsimp only at HCm
      rw [e3] at HCm
      dsimp only at HCm
      have HBs : Hid (g3 < (v2.setCell ⟨g3, 5, none⟩ (.int .i64 (fi : Int))).heap.size ∧ W.heap.size ≤ (v2.setCell ⟨g3, 5, none⟩ (.int .i64 (fi : Int))).heap.size) := hid ⟨block_lt HDb2.out, HTb2.out.f.size⟩
      obtain ⟨sz, esz⟩ : ∃ sz, (v2.setCell ⟨g3, 5, none⟩ (.int .i64 (fi : Int))).heap.size = sz := ⟨_, rfl⟩
      rw [esz] at HBs HCm
      clear esz
      go_wp2_with fail
      refine HCm.out.mono ?_
      rintro e v3 ⟨vv, he, ho3, hh3⟩
      rw [he]
      obtain ⟨co, cp, ev, _⟩ := ho3.slice
      subst ev
      have Dk3 := HDb2.out.to HN3.out hh3
      have Tk3 := HTb2.out.trans hh3
      have Gk3 := HGb2.out.to HSz.out.2.2.2 hh3
      have HDa3 := hid Dk3
      clear f0 f1 f2 f3 f4 f5 f6 f7 ff j4 j5 j6 j7
      obtain ⟨f0, f1, f2, f3, f4, f5, f6, f7, ff⟩ := HDa3.out.cells
      have j4 := ff 4
      have j5 := ff 5
      have j6 := ff 6
      have j7 := ff 7
      have HTb3 : Hid (Tz W (v3.setCell ⟨g3, 6, none⟩ (.slice co L.length cp)) q p ef S9) := hid (Tk3.dput HK.out.2.2.2 HSz.out.2.1 HSz.out.2.2.1 Dk3 (setF _ _ _ _))
      have HGb3 : Hid (Dgb (v3.setCell ⟨g3, 6, none⟩ (.slice co L.length cp)) g2 zD none 0 0) := hid (Gk3.other (by have h1 := HSz.out.1; have h2 := HK.out.2.2.2; omega) (setF _ _ _ _))
      have HDb3 := hid (dset6 Dk3 L co L.length cp)
      dsimp only at HDb3
      have HOb3 : Hid (OwG KCc 42 (v3.setCell ⟨g3, 6, none⟩ (.slice co L.length cp)) sz (.slice co L.length cp) L) := hid (ho3.keep (setF _ _ _ _) (fun k hk e => by
        have h1 := (ho3.block e).1
        have h3 := HBs.out
        omega))
      clear he hh3 ho3 Dk3 Tk3 Gk3 HCm
      have hak : ak ≤ 1099511627776 := by have := upM_le 1099511627776 S9; rw [e4] at this; exact this
      have w3' : IntKind.i64.wrap (ak : Int) = (ak : Int) := wr64 (by omega) (by omega)
      have HU4 := hid (upto_any q p ef S9 1099511627776 (by omega) (v3.setCell ⟨g3, 6, none⟩ (.slice co L.length cp)) HTb3.out.r)
      rw [e4] at HU4
      dsimp only at HU4
      go_wp2_with fail
      refine HU4.out.mono ?_
      rintro e v4 ⟨he, hh4⟩
      rw [he]
      have Dk4 := HDb3.out.to HN3.out hh4
      have Tk4 := HTb3.out.trans hh4
      have Gk4 := HGb3.out.to HSz.out.2.2.2 hh4
      have HDa4 := hid Dk4
      clear f0 f1 f2 f3 f4 f5 f6 f7 ff j4 j5 j6 j7
      obtain ⟨f0, f1, f2, f3, f4, f5, f6, f7, ff⟩ := HDa4.out.cells
      have j4 := ff 4
      have j5 := ff 5
      have j6 := ff 6
      have j7 := ff 7
      have HTb4 : Hid (Tz W (v4.setCell ⟨g3, 7, none⟩ (.int .i64 (ak : Int))) q p ef S10) := hid (Tk4.dput HK.out.2.2.2 HSz.out.2.1 HSz.out.2.2.1 Dk4 (setF _ _ _ _))
      have HGb4 : Hid (Dgb (v4.setCell ⟨g3, 7, none⟩ (.int .i64 (ak : Int))) g2 zD none 0 0) := hid (Gk4.other (by have h1 := HSz.out.1; have h2 := HK.out.2.2.2; omega) (setF _ _ _ _))
      have HDb4 := hid (dset7 Dk4 (ak : Int))
      dsimp only at HDb4
      have HOb4 : Hid (OwG KCc 42 (v4.setCell ⟨g3, 7, none⟩ (.int .i64 (ak : Int))) sz (.slice co L.length cp) L) := hid ((HOb3.out.keep hh4.f (fun k hk e => by
        have h1 := (HOb3.out.block e).1
        have h2 := HSz.out.2.1
        have h3 := HBs.out
        rcases hk with hk | hk <;> omega)).keep (setF _ _ _ _) (fun k hk e => by
        have h1 := (HOb3.out.block e).1
        have h3 := HBs.out
        omega))
      clear he hh4 Dk4 Tk4 Gk4 HU4
      obtain ⟨q0, q1, q2, q3, q4, q5, q6, q7, _⟩ := HDb4.out.cells
      obtain ⟨p0, p1, p2, p3, p4, p5, p6, p7, pf⟩ := HGb4.out.cells
      have i0 := pf 0
      have i1 := pf 1
      have i2 := pf 2
      have i3 := pf 3
      have i4 := pf 4
      have i5 := pf 5
      have i6 := pf 6
      have i7 := pf 7
      go_wp2_with fail
      have hff : Fr (fun k => k = g2) (v4.setCell ⟨g3, 7, none⟩ (.int .i64 (ak : Int))) (setDg (v4.setCell ⟨g3, 7, none⟩ (.int .i64 (ak : Int))) g2 ⟨1, ss, xf, xt, mk, fi, L, ak⟩ co L.length cp) := setDg_fr (Fr.refl _ _) g2 ⟨1, ss, xf, xt, mk, fi, L, ak⟩ co L.length cp (.inl rfl)
      have hR : Rz (setDg (v4.setCell ⟨g3, 7, none⟩ (.int .i64 (ak : Int))) g2 ⟨1, ss, xf, xt, mk, fi, L, ak⟩ co L.length cp) q p ef S10 := HTb4.out.r.put HSz.out.2.2.2 HGb4.out (by decide) (by have h1 := HSz.out.2.2.1; have h2 := HEr2.out; omega) hff
      refine bodyPost_ret ((HGb4.out.set ⟨1, ss, xf, xt, mk, fi, L, ak⟩ co L.length cp).res rfl _ rfl) rfl ⟨_, _, _, by rw [HEq.out], ?_, ?_⟩
      · rw [HEq.out]
        exact (HOb4.out.keep hff (fun k hk e => by
            have h1 := (HOb4.out.block e).1
            have h2 := HSz.out.1
            have h3 := HBs.out
            omega)).less (by have h1 := HGs.out; have h2 := HSz.out.1; have h3 := HBs.out; omega)
      · rw [HEq.out]
        exact ⟨hR, (HA.out.to.trans HTb4.out.f (fun _ _ h => h)).trans hff (fun k hk e => by have h1 := HGs.out; omega)⟩
    · have k1' : (xk == 1) = false := by simpa using k1
      by_cases k2 : xk = 2
      · subst k2
        obtain ⟨ak, S10, e1⟩ : ∃ a b, upM 1099511627776 S5 = (a, b) := ⟨_, _, rfl⟩
        have HEq : Hid (dgM s = (⟨2, ss, xf, xt, 0, 0, [], ak⟩, S10)) := hid (by
          rw [HE5.out]
          unfold tlM
          rw [if_neg (by rw [HXk.out]; decide), if_pos HXk.out]
          unfold mB mR
          dsimp only
          rw [e1])
        have hak : ak ≤ 1099511627776 := by have := upM_le 1099511627776 S5; rw [e1] at this; exact this
        have w3' : IntKind.i64.wrap (ak : Int) = (ak : Int) := wr64 (by omega) (by omega)
        have HT0 : Hid (Tz W wc q p ef S5) := hid HK.out.1
        have HG0 : Hid (Dgb wc g2 zD none 0 0) := hid HK.out.2.1
        have HD0 : Hid (Dgb wc g3 ⟨2, ss, xf, xt, 0, 0, [], 0⟩ none 0 0) := hid HK.out.2.2.1
        have HU1 := hid (upto_any q p ef S5 1099511627776 (by omega) wc HT0.out.r)
        rw [e1] at HU1
        dsimp only at HU1
        obtain ⟨f0, f1, f2, f3, f4, f5, f6, f7, ff⟩ := HD0.out.cells
        have j4 := ff 4
        have j5 := ff 5
        have j6 := ff 6
        have j7 := ff 7
        go_wp2_with fail
        refine HU1.out.mono ?_
        rintro e v1 ⟨he, hh1⟩
        rw [he]
        have Dk1 := HD0.out.to HN3.out hh1
        have Tk1 := HT0.out.trans hh1
        have Gk1 := HG0.out.to HSz.out.2.2.2 hh1
        have HDa1 := hid Dk1
        clear f0 f1 f2 f3 f4 f5 f6 f7 ff j4 j5 j6 j7
        obtain ⟨f0, f1, f2, f3, f4, f5, f6, f7, ff⟩ := HDa1.out.cells
        have j4 := ff 4
        have j5 := ff 5
        have j6 := ff 6
        have j7 := ff 7
        have HTb1 : Hid (Tz W (v1.setCell ⟨g3, 7, none⟩ (.int .i64 (ak : Int))) q p ef S10) := hid (Tk1.dput HK.out.2.2.2 HSz.out.2.1 HSz.out.2.2.1 Dk1 (setF _ _ _ _))
        have HGb1 : Hid (Dgb (v1.setCell ⟨g3, 7, none⟩ (.int .i64 (ak : Int))) g2 zD none 0 0) := hid (Gk1.other (by have h1 := HSz.out.1; have h2 := HK.out.2.2.2; omega) (setF _ _ _ _))
        have HDb1 := hid (dset7 Dk1 (ak : Int))
        dsimp only at HDb1
        clear he hh1 Dk1 Tk1 Gk1 HU1
        obtain ⟨q0, q1, q2, q3, q4, q5, q6, q7, _⟩ := HDb1.out.cells
        obtain ⟨p0, p1, p2, p3, p4, p5, p6, p7, pf⟩ := HGb1.out.cells
        have i0 := pf 0
        have i1 := pf 1
        have i2 := pf 2
        have i3 := pf 3
        have i4 := pf 4
        have i5 := pf 5
        have i6 := pf 6
        have i7 := pf 7
        go_wp2_with fail
        have hff : Fr (fun k => k = g2) (v1.setCell ⟨g3, 7, none⟩ (.int .i64 (ak : Int))) (setDg (v1.setCell ⟨g3, 7, none⟩ (.int .i64 (ak : Int))) g2 ⟨2, ss, xf, xt, 0, 0, [], ak⟩ none 0 0) := setDg_fr (Fr.refl _ _) g2 ⟨2, ss, xf, xt, 0, 0, [], ak⟩ none 0 0 (.inl rfl)
        have hR : Rz (setDg (v1.setCell ⟨g3, 7, none⟩ (.int .i64 (ak : Int))) g2 ⟨2, ss, xf, xt, 0, 0, [], ak⟩ none 0 0) q p ef S10 := HTb1.out.r.put HSz.out.2.2.2 HGb1.out (by decide) (by have h1 := HSz.out.2.2.1; have h2 := HEr2.out; omega) hff
        refine bodyPost_ret ((HGb1.out.set ⟨2, ss, xf, xt, 0, 0, [], ak⟩ none 0 0).res rfl _ rfl) rfl ⟨_, _, _, by rw [HEq.out], ?_, ?_⟩
        · rw [HEq.out]
          exact OwG.nil _ _
        · rw [HEq.out]
          exact ⟨hR, (HA.out.to.trans HTb1.out.f (fun _ _ h => h)).trans hff (fun k hk e => by have h1 := HGs.out; omega)⟩
      · have k2' : (xk == 2) = false := by simpa using k2
        have HEq : Hid (dgM s = (⟨xk, ss, xf, xt, 0, 0, [], 0⟩, (mG false S5).2)) := hid (by
          rw [HE5.out]
          unfold tlM
          rw [if_neg (by rw [HXk.out]; exact k1), if_neg (by rw [HXk.out]; exact k2), HXk.out]
          rfl)
        have HM := hid (must_any q p ef S5 false wc HK.out.1.r)
        have HT0 : Hid (Tz W wc q p ef S5) := hid HK.out.1
        have HG0 : Hid (Dgb wc g2 zD none 0 0) := hid HK.out.2.1
        have HD0 : Hid (Dgb wc g3 ⟨xk, ss, xf, xt, 0, 0, [], 0⟩ none 0 0) := hid HK.out.2.2.1
        obtain ⟨f0, f1, f2, f3, f4, f5, f6, f7, ff⟩ := HD0.out.cells
        have j4 := ff 4
        have j5 := ff 5
        have j6 := ff 6
        have j7 := ff 7
        go_wp2_with fail
        refine HM.out.mono ?_
        rintro e v1 ⟨he, hh1⟩
        rw [he]
        have HTb1 := hid (HT0.out.trans hh1)
        have HGb1 := hid (HG0.out.to HSz.out.2.2.2 hh1)
        have HDb1 := hid (HD0.out.to HN3.out hh1)
        clear he hh1 HM
        clear f0 f1 f2 f3 f4 f5 f6 f7 ff j4 j5 j6 j7
        obtain ⟨q0, q1, q2, q3, q4, q5, q6, q7, _⟩ := HDb1.out.cells
        obtain ⟨p0, p1, p2, p3, p4, p5, p6, p7, pf⟩ := HGb1.out.cells
        have i0 := pf 0
        have i1 := pf 1
        have i2 := pf 2
        have i3 := pf 3
        have i4 := pf 4
        have i5 := pf 5
        have i6 := pf 6
        have i7 := pf 7
        go_wp2_with fail
        have hff : Fr (fun k => k = g2) v1 (setDg v1 g2 ⟨xk, ss, xf, xt, 0, 0, [], 0⟩ none 0 0) := setDg_fr (Fr.refl _ _) g2 ⟨xk, ss, xf, xt, 0, 0, [], 0⟩ none 0 0 (.inl rfl)
        have hR : Rz (setDg v1 g2 ⟨xk, ss, xf, xt, 0, 0, [], 0⟩ none 0 0) q p ef (mG false S5).2 := HTb1.out.r.put HSz.out.2.2.2 HGb1.out (by decide) (by have h1 := HSz.out.2.2.1; have h2 := HEr2.out; omega) hff
        refine bodyPost_ret ((HGb1.out.set ⟨xk, ss, xf, xt, 0, 0, [], 0⟩ none 0 0).res rfl _ rfl) rfl ⟨_, _, _, by rw [HEq.out], ?_, ?_⟩
        · rw [HEq.out]
          exact OwG.nil _ _
        · rw [HEq.out]
          exact ⟨hR, (HA.out.to.trans HTb1.out.f (fun _ _ h => h)).trans hff (fun k hk e => by have h1 := HGs.out; omega)⟩
end Go.Proofs.YtaaongbdincimaaGreatDoor
