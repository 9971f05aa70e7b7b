/- QueueFills: the walk. -/
import Derived.Test.YtgpmjlibanoapaaQuy
namespace Go.Proofs.Ytgpmjlibanoapaa
open Go.RowKit
set_option maxRecDepth 100000

theorem bs_E2 {o : Oper} {ρ : Operand → Value} {s : Operand} {x : En} (ho : o.op = .buildSlice 27 1 #[(0, s)]) (hs : ρ s = ev x) (u : World) : (execOp ρ o).run Try.prog u = .ok (.value (.slice (some ⟨u.heap.size, 0, none⟩) 1 1)) (newE u x) := by
  unfold execOp
  rw [ho]
  simp only [List.map_toArray, List.map_cons, List.map_nil, hs]
  go_simp
set_option maxHeartbeats 8000000 in
theorem fills_law (a : Int) (x : En) (ha : -9223372036854775808 ≤ a ∧ a ≤ 9223372036854775807) (w : World) : Calls Try.prog 6 #[.int .i64 a, ev x] w fun e w' => e = .returned (.bool true) ∧ Still w w' := by
  have HA := hid (fun w => awake_any w)
  have HN := hid (fun w => qnew_any w)
  have hr := pk_in a 1000 (by omega)
  obtain ⟨r, er⟩ : ∃ r, pk a 1000 = r := ⟨_, rfl⟩
  have HRd := hid er
  rw [er] at hr
  obtain ⟨hr0, hr1⟩ := hr
  clear er
  have A0 := Still.alloc w (.cells (ecs x) 38)
  obtain ⟨W0, eW0⟩ : ∃ W, newE w x = W := ⟨_, rfl⟩
  obtain ⟨bm, ebm⟩ : ∃ g, w.heap.size = g := ⟨_, rfl⟩
  have HS0 : Hid (Still w W0) := hid (by rw [← eW0]; exact A0)
  have HX0 : Hid (Eb W0 bm x) := hid (by rw [← eW0, ← ebm]; exact newE_eb w x)
  clear A0
  go_enter Try.func6, Try.ntmps6
  go_wp2_with fail
  refine (HA.out _).mono ?_
  rintro e w1 ⟨he, h1⟩
  rw [he]
  have HS1 := hid h1
  clear he h1 HA eW0 ebm
  go_wp2_with fail
  refine (HN.out _).mono ?_
  rintro e w2 ⟨he, hw⟩
  rw [he, hw]
  clear he hw w2 HN
  obtain ⟨p, ep⟩ : ∃ p, w1.heap.size = p := ⟨_, rfl⟩
  obtain ⟨W, eW⟩ : ∃ W, newQ w1 = W := ⟨_, rfl⟩
  have hq1 : Qk W W0.heap.size p (.slice none 0 0) [] := by rw [← eW, ← ep]; exact newQ_qk w1 W0.heap.size HS1.out.size
  have hs1 : Still W0 W := by rw [← eW]; exact HS1.out.trans (Still.alloc w1 _)
  rw [ep, eW]
  clear ep eW HS1
  have A2 := Still.alloc W (.cells #[.slice none 0 0] 29)
  obtain ⟨W2, eW2⟩ : ∃ X, W.alloc (.cells #[.slice none 0 0] 29) = X := ⟨_, rfl⟩
  obtain ⟨yb, eyb⟩ : ∃ g, W.heap.size = g := ⟨_, rfl⟩
  have HT0 : Hid (Fil W0 W2 p (.slice none 0 0) [] yb (.slice none 0 0) []) := hid (by
    rw [← eW2, ← eyb]
    exact ⟨⟨hq1.still A2, OwG.nil _ _, Qu.nil, hs1.trans A2, fun k h => by cases h⟩, heap_alloc_new W _, hs1.size⟩)
  clear hq1 hs1 A2
  go_wp2_with fail
  clear eW2 eyb
  go_loopw [8] (fun u8 wr => ∃ (i : Nat) (v u : Value) (M : List En), i ≤ 4096 ∧ u8 = .int .i64 (i : Int) ∧ Hid (Fil W0 wr p v M yb u (fk r i) ∧ M.Perm (fk r i))) (fun u8 _ => 4096 - (intOf u8).toNat)
  case atStart => exact ⟨0, _, _, [], by omega, rfl, hid ⟨HT0.out, List.Perm.refl _⟩⟩
  case round =>
    clear HT0
    obtain ⟨i, v, u, M, hi, rfl, HT⟩ := hrel
    by_cases hin : i < 4096
    · have hlt : (i : Int) < 4096 := by omega
      have HPk := hid (fun w => pick_any a 1000 ha (by omega) (by omega) w)
      rw [HRd.out] at HPk
      have HEk := hid (fun w => qent_any ((i : Int) % 7) (r + (i : Int)) 5 w)
      rw [show ken ((i : Int) % 7) (r + (i : Int)) 5 = fe r i by simp [fe, ken]] at HEk
      have HPs := hid (fun w' (h : Still wr w') => qPush_any (fe r i) M W0.heap.size p v HT.out.1.t.m w' (HT.out.1.t.s.trans h).size (HT.out.1.t.q.still h))
      have HNw := hid (fk_new r i)
      have HKn := hid (show fk r (i + 1) = fk r i ++ [fe r i] from rfl)
      obtain ⟨z, ez⟩ : ∃ z, fe r i = z := ⟨_, rfl⟩
      rw [ez] at HEk HPs HNw HKn
      clear ez
      go_wp2_with fail
      refine (HPk.out _).mono ?_
      rintro e w2 ⟨he, hw⟩
      rw [he, hw]
      clear he hw w2 HPk
      go_wp2_with fail
      refine (HEk.out _).mono ?_
      rintro e w2 ⟨he, h2⟩
      rw [he]
      have HT2 := hid (HT.out.1.still h2)
      have HC := hid (HPs.out w2 h2)
      clear he h2 HPs
      go_wp2_with fail
      refine HC.out.mono ?_
      rintro e w3 ⟨cc, v3, M3, he, hp3, hq3, hf3, hb3⟩
      rw [he]
      obtain ⟨rfl, hQ3, hP3⟩ := hp3.new HT.out.2 HNw.out (by rw [fk_len]; exact hin)
      have HT3 := hid (HT2.out.call hq3 hQ3 hf3 hb3)
      have HP3 : Hid (M3.Perm (fk r (i + 1))) := hid (by rw [HKn.out]; exact hP3)
      have hIl : (fk r i).length ≤ 4096 := by rw [fk_len]; exact hi
      clear he HC hp3 hq3 hf3 hb3 hQ3 hP3 HT HT2 HNw
      obtain ⟨au, cu, eu, _⟩ := HT3.out.t.o.slice
      subst eu
      go_upto_region 13 with fail
      refine region_laid 9 1 (by kernel_rfl) (by kernel_rfl) (by kernel_rfl) ?_
      apply Exists.intro
      refine And.intro ?_ (And.intro ?_ ?_)
      · intro u hu
        have q0 := Cl.cell (HT3.out.still hu).cell.1
        have hne := Aft.here u
        simp only [List.take_succ_cons, List.take_zero]
        repeat (go_big_quiet_step ((first | (go_at_call 18; with_reducible exact Calls.cl (HEk.out _)) | rfl)))
        exact wpQuiet_nil rfl
      · intro _ o ho u hu
        obtain rfl := Option.some.inj ho
        exact ⟨_, _, bs_E2 rfl rfl u, Still.alloc u _⟩
      intro w4 h4
      simp only [List.drop_succ_cons, List.drop_zero]
      have A5 := Still.alloc w4 (.cells (ecs z) 38)
      have HT5 := hid ((HT3.out.still h4).still A5)
      have HX5 : Hid ((newE w4 z).heap[w4.heap.size]? = some (.cells (KE.f z).toArray 38 (0, 0))) := hid (newE_eb w4 z)
      have HL5 := hid (show ((fk r i).length + 1) * 64 ≤ 140737488355328 ∧ (fk r i).length ≤ 281474976710656 by omega)
      have HB5 : Hid (W0.heap.size ≤ (newE w4 z).heap.size) := hid HT5.out.t.s.size
      clear A5 h4 HT3
      go_wp2_with (
        at_builtin
        refine wpList_appQ KE _ rfl _ _ _ rfl rfl 64 infoE W0.heap.size w4.heap.size (.slice au (fk r i).length cu) (fk r i) z rfl rfl HT5.out.t.o HX5.out HL5.out.1 HL5.out.2 HB5.out ?_
        intro u6 w6 ho6 hf6 hb6
        have HT6 := hid (HT5.out.app ho6 hf6 hb6)
        have hy6 : w6.heap[yb]? = some (.cells #[.slice au (fk r i).length cu] 29 (0, 0)) := hf6.kept HT5.out.y (fun e => ow_ne_t HT5.out.t.o HT5.out.y (by decide) e)
        have c0 : w6.cell? ⟨yb, 0, none⟩ = some (.slice au (fk r i).length cu) := by rw [cell_of_row _ _ _ _ _ _ hy6]; rfl
        have cf : ∀ o, w6.frozen? ⟨yb, o, none⟩ = false := fun o => frozen_of_row w6 yb o _ _ hy6
        obtain ⟨g6, cap6, rfl, _, _⟩ := ho6.head (by simp)
        clear ho6 hf6 hb6 hy6)
      refine ⟨rfl, ?_⟩
      rw [show (fk r i ++ [z]).length = (fk r i).length + 1 by simp] at HT6
      clear c0 cf HT5 HX5
      go_wp2_with fail
      go_roundw
      case rel => exact ⟨i + 1, v3, _, M3, by omega, by go_num, hid ⟨by rw [HKn.out]; exact HT6.out, HP3.out⟩⟩
      case measure => simp [intOf]; omega
    · obtain rfl : i = 4096 := by omega
      have hKl : (fk r 4096).length = 4096 := fk_len r 4096
      have HKL := hid (fk_least r (i := 4096))
      have HK0 : Hid (fe r 0 ∈ fk r 4096) := hid (by
        have := att_mem (L := fk r 4096) (k := 0) (by omega)
        rw [fk_att r (by omega)] at this
        exact this)
      obtain ⟨K, eK⟩ : ∃ K, fk r 4096 = K := ⟨_, rfl⟩
      rw [eK] at HT hKl HKL HK0
      clear eK
      have HXm : Hid (Eb wr bm x) := hid (HX0.out.still HT.out.1.t.s)
      obtain ⟨gu, cu, hgu, _, _⟩ := HT.out.1.t.o.head (by omega)
      subst hgu
      rw [hKl] at HT
      go_wp2_with fail
      obtain ⟨wA, ewA⟩ : ∃ W, wr = W := ⟨_, rfl⟩
      rw [ewA] at HT HXm ⊢
      clear ewA
      go_loopw [11, 12] (fun u11 u12 wr => ∃ i : Nat, i ≤ 4096 ∧ u12 = .int .i64 (i : Int) ∧ u11 = .bool (twc x K i) ∧ Hid (Still wA wr)) (fun _ u12 _ => 4096 - (intOf u12).toNat)
      case atStart => exact ⟨0, by omega, rfl, by simp [twc], hid (Fr.refl _ _)⟩
      case round =>
        obtain ⟨i, hi, rfl, rfl, HSA⟩ := hrel
        have c0 := (HT.out.1.still HSA.out).cell.1
        by_cases hin : i < 4096
        · have hlt : (i : Int) < 4096 := by omega
          have HTs := hid (twc_step x (L := K) (i := i) (by omega))
          cases hb : twc x K i with
          | true =>
            rw [hb] at HTs
            have hne := Aft.here wr
            clear hb
            go_upto_region 18 with fail
            clear c0
            refine region_all (by kernel_rfl) (by kernel_rfl) ?_
            repeat (go_big_quiet_step (rfl))
            refine wpQuiet_nil ?_
            intro w6 h6
            have HS6 := hid (HSA.out.trans h6)
            clear h6 hne HSA
            go_wp2_with fail
            go_roundw
            case rel => exact ⟨i + 1, by omega, by go_num, by rw [HTs.out]; rfl, HS6⟩
            case measure => simp [intOf]; omega
          | false =>
            rw [hb] at HTs
            have HOr := hid (fun w => rord_any (att K i) x w)
            have q0 := Cl.cell c0
            obtain ⟨d0, d1, d2, d3, d4, d5, d6, d7, _⟩ := owE (HT.out.1.still HSA.out).t.o (i := i) (by omega)
            obtain ⟨b0, b1, b2, b3, b4, b5, b6, b7, _⟩ := (HXm.out.still HSA.out).cells
            obtain ⟨z, ez⟩ : ∃ z, att K i = z := ⟨_, rfl⟩
            rw [ez] at d0 d1 d2 d3 d4 d5 d6 d7 HOr HTs
            clear ez hb
            have k0 := Cl.cell d0
            have k1 := Cl.cell d1
            have k2 := Cl.cell d2
            have k3 := Cl.cell d3
            have k4 := Cl.cell d4
            have k5 := Cl.cell d5
            have k6 := Cl.cell d6
            have k7 := Cl.cell d7
            have l0 := Cl.cell b0
            have l1 := Cl.cell b1
            have l2 := Cl.cell b2
            have l3 := Cl.cell b3
            have l4 := Cl.cell b4
            have l5 := Cl.cell b5
            have l6 := Cl.cell b6
            have l7 := Cl.cell b7
            have hne := Aft.here wr
            obtain ⟨rr, err⟩ : ∃ r, kc z x = r := ⟨_, rfl⟩
            rw [err] at HOr HTs
            clear d0 d1 d2 d3 d4 d5 d6 d7 b0 b1 b2 b3 b4 b5 b6 b7 err
            by_cases hrr : rr = 0
            · subst hrr
              go_upto_region 18 with fail
              clear c0
              refine region_all (by kernel_rfl) (by kernel_rfl) ?_
              repeat (go_big_quiet_step ((first | (go_at_call 16; with_reducible exact Calls.cl (HOr.out _)) | rfl)))
              refine wpQuiet_nil ?_
              intro w6 h6
              have HS6 := hid (HSA.out.trans h6)
              clear h6 hne HSA q0 k0 k1 k2 k3 k4 k5 k6 k7 l0 l1 l2 l3 l4 l5 l6 l7
              go_wp2_with fail
              go_roundw
              case rel => exact ⟨i + 1, by omega, by go_num, by rw [HTs.out]; rfl, HS6⟩
              case measure => simp [intOf]; omega
            · have hrr' : (rr == 0) = false := beq_eq_false_iff_ne.2 hrr
              rw [decide_eq_false hrr] at HTs
              clear hrr
              go_upto_region 18 with fail
              clear c0
              refine region_all (by kernel_rfl) (by kernel_rfl) ?_
              repeat (go_big_quiet_step ((first | (go_at_call 16; with_reducible exact Calls.cl (HOr.out _)) | rfl)))
              refine wpQuiet_nil ?_
              intro w6 h6
              have HS6 := hid (HSA.out.trans h6)
              clear h6 hne HSA q0 k0 k1 k2 k3 k4 k5 k6 k7 l0 l1 l2 l3 l4 l5 l6 l7
              go_wp2_with fail
              go_roundw
              case rel => exact ⟨i + 1, by omega, by go_num, by rw [HTs.out]; rfl, HS6⟩
              case measure => simp [intOf]; omega
        · obtain rfl : i = 4096 := by omega
          have HTw : Hid (twc x K 4096 = hasK x K) := hid (by have := twc_all x K; rw [hKl] at this; exact this)
          have hTB := HT.out.1.still HSA.out
          have HXB := hid (HXm.out.still HSA.out)
          have HC := hid (qPush_any x M W0.heap.size p v hTB.t.m wr hTB.t.s.size hTB.t.q)
          have HTB := hid (And.intro hTB HT.out.2)
          obtain ⟨b0, b1, b2, b3, b4, b5, b6, b7, _⟩ := HXB.out.cells
          clear hTB HSA HT HXm
          cases hb : hasK x K with
          | true =>
            rw [HTw.out, hb]
            have HB := hid hb
            clear hb
            go_wp2_with fail
            refine HC.out.mono ?_
            rintro e w8 ⟨cc, v3, M3, he, hp3, hq3, hf3, hb3⟩
            rw [he]
            obtain ⟨rfl, rfl⟩ := hp3.old HTB.out.2 HB.out
            have HT8 : Hid (Fil W0 w8 p v3 M3 yb (.slice (some ⟨gu, 0, none⟩) 4096 cu) K ∧ M3.Perm K) := hid ⟨HTB.out.1.call hq3 hp3.1 hf3 hb3, HTB.out.2⟩
            clear c0 b0 b1 b2 b3 b4 b5 b6 b7 he HC hp3 hq3 hf3 hb3 HTB HXB
            have HT9 := HT8
            clear HT8
            obtain ⟨c0, cf⟩ := HT9.out.1.cell
            obtain ⟨d0, d1, d2, d3, d4, d5, d6, d7, _⟩ := owE HT9.out.1.t.o (i := 9) (by omega)
            have HC := hid (qPush_any (att K 9) M3 W0.heap.size p v3 HT9.out.1.t.m w8 HT9.out.1.t.s.size HT9.out.1.t.q)
            have HOld := hid (hasK_mem (att_mem (L := K) (k := 9) (by omega)))
            obtain ⟨z, ez⟩ : ∃ z, att K 9 = z := ⟨_, rfl⟩
            rw [ez] at d0 d1 d2 d3 d4 d5 d6 d7 HC HOld
            simp only [Nat.reduceMul, Nat.reduceAdd] at d0 d1 d2 d3 d4 d5 d6 d7
            clear ez
            go_wp2_with fail
            refine HC.out.mono ?_
            rintro e w10 ⟨cc, v10, M10, he, hp10, hq10, hf10, hb10⟩
            rw [he]
            obtain ⟨rfl, rfl⟩ := hp10.old HT9.out.2 HOld.out
            have HT10 : Hid (Fil W0 w10 p v10 M10 yb (.slice (some ⟨gu, 0, none⟩) 4096 cu) K ∧ M10.Perm K) := hid ⟨HT9.out.1.call hq10 hp10.1 hf10 hb10, HT9.out.2⟩
            have hMl : M10.length = 4096 := by rw [HT9.out.2.length_eq]; exact hKl
            clear he HC HOld hp10 hq10 hf10 hb10 HT9 c0 cf d0 d1 d2 d3 d4 d5 d6 d7
            have HLn := hid (qLen_any W0.heap.size p v10 M10 w10 HT10.out.1.t.q)
            rw [hMl] at HLn
            go_wp2_with fail
            refine HLn.out.mono ?_
            rintro e w11 ⟨he, hw⟩
            rw [he, hw]
            clear he hw w11 HLn
            have hl0 : att M10 0 = fe r 0 := qu_is HT10.out.1.t.m HT10.out.2 (x := fe r 0) HK0.out HKL.out
            have HC := hid (qPop_some M10 W0.heap.size p v10 HT10.out.1.t.m (by omega) w10 HT10.out.1.t.q)
            rw [hl0] at HC
            clear hl0
            have HF0 := hid (show ken 0 r 5 = fe r 0 by simp [fe, ken])
            obtain ⟨z, ez⟩ : ∃ z, fe r 0 = z := ⟨_, rfl⟩
            rw [ez] at HC HF0
            clear ez
            go_wp2_with fail
            refine HC.out.mono ?_
            rintro e w12 ⟨he, v12, M12, hp12, hu12, hq12, hf12, hb12⟩
            rw [he]
            have hT12 := HT10.out.1.call hq12 hu12 hf12 (fun k hk => .inl (by rw [← hb12]; exact hk))
            have hM12 : M12.length = 4095 := by have := hp12.length_eq; simp at this; omega
            have hnk : hasK z M12 = false := by
              cases hb : hasK z M12 with
              | false => rfl
              | true =>
                exfalso
                obtain ⟨y, hy, h⟩ := List.any_eq_true.1 hb
                exact (List.pairwise_cons.1 (HT10.out.1.t.m.un.perm hp12)).1 y hy (of_decide_eq_true h)
            have A13 := Still.alloc w12 (.cells (ecs z) 38)
            obtain ⟨W13, eW13⟩ : ∃ W, newE w12 z = W := ⟨_, rfl⟩
            obtain ⟨gz, egz⟩ : ∃ g, w12.heap.size = g := ⟨_, rfl⟩
            have hT13 : Fil W0 W13 p v12 M12 yb (.slice (some ⟨gu, 0, none⟩) 4096 cu) K := by rw [← eW13]; exact hT12.still A13
            have hX13 : Eb W13 gz z := by rw [← eW13, ← egz]; exact newE_eb w12 z
            have HGZ : Hid (gz ≠ p ∧ v12.ownBlock ≠ some gz) := hid ⟨by have := block_lt hT12.t.q.bk; omega, fun e => by have := (hT12.t.q.ow.block e).2; omega⟩
            have HC := hid (qPush_any z M12 W0.heap.size p v12 hT13.t.m W13 hT13.t.s.size hT13.t.q)
            have HNK := hid hnk
            obtain ⟨c0, c1, c2, c3, c4, c5, c6, c7, _⟩ := hX13.cells
            have HT13 := hid hT13
            have HX13 := hid hX13
            clear he hp12 hu12 hq12 hf12 hb12 hT12 A13 HT10 hT13 hX13 hnk
            go_wp2_with fail
            refine HC.out.mono ?_
            rintro e w14 ⟨cc, v14, M14, he, hp14, hq14, hf14, hb14⟩
            rw [he]
            obtain ⟨rfl, _, _⟩ := hp14.new (List.Perm.refl _) HNK.out (by omega)
            have HS14 := hid ((HT13.out.call hq14 hp14.1 hf14 hb14).t.s)
            have hX14 := HX13.out.fr HT13.out.t.q HGZ.out.1 HGZ.out.2 hf14
            clear eW13 egz c0 c1 c2 c3 c4 c5 c6 c7 he HC hp14 hq14 hf14 hb14 HT13 HX13
            have HEk := hid (fun w => qent_any 0 r 5 w)
            rw [HF0.out] at HEk
            have HPk := hid (fun w => pick_any a 1000 ha (by omega) (by omega) w)
            rw [HRd.out] at HPk
            go_upto_region 25 with fail
            obtain ⟨c0, c1, c2, c3, c4, c5, c6, c7, _⟩ := hX14.cells
            have k0 := Cl.cell c0
            have k1 := Cl.cell c1
            have k2 := Cl.cell c2
            have k3 := Cl.cell c3
            have k4 := Cl.cell c4
            have k5 := Cl.cell c5
            have k6 := Cl.cell c6
            have k7 := Cl.cell c7
            have hne := Aft.here w14
            have hg := fun a b xs ys w => guard_ev .eql a b xs ys w
            have hq := fun w => eql_ev_t z w
            clear c0 c1 c2 c3 c4 c5 c6 c7 hX14
            refine region_all (by kernel_rfl) (by kernel_rfl) ?_
            repeat (go_big_quiet_step ((first | (go_at_call 9; with_reducible exact Calls.cl_same (HPk.out _)) | (go_at_call 18; with_reducible exact Calls.cl (HEk.out _)) | rfl)))
            refine wpQuiet_nil ?_
            intro w15 h15
            have HS15 := hid ((HS0.out.trans HS14.out).trans h15)
            clear h15 hne hg hq k0 k1 k2 k3 k4 k5 k6 k7
            go_wp2_with fail
            (try simp only [Exit.inBlock, Exit.then])
            go_ret
            exact ⟨rfl, HS15.out⟩
          | false =>
            rw [HTw.out, hb]
            have HB := hid hb
            clear hb
            go_wp2_with fail
            refine HC.out.mono ?_
            rintro e w8 ⟨cc, v3, M3, he, hp3, hq3, hf3, hb3⟩
            rw [he]
            obtain ⟨rfl, rfl⟩ := hp3.full HTB.out.2 HB.out (by omega)
            have HT8 : Hid (Fil W0 w8 p v3 M3 yb (.slice (some ⟨gu, 0, none⟩) 4096 cu) K ∧ M3.Perm K) := hid ⟨HTB.out.1.call hq3 hp3.1 hf3 hb3, HTB.out.2⟩
            clear c0 b0 b1 b2 b3 b4 b5 b6 b7 he HC hp3 hq3 hf3 hb3 HTB HXB
            have HT9 := HT8
            clear HT8
            obtain ⟨c0, cf⟩ := HT9.out.1.cell
            obtain ⟨d0, d1, d2, d3, d4, d5, d6, d7, _⟩ := owE HT9.out.1.t.o (i := 9) (by omega)
            have HC := hid (qPush_any (att K 9) M3 W0.heap.size p v3 HT9.out.1.t.m w8 HT9.out.1.t.s.size HT9.out.1.t.q)
            have HOld := hid (hasK_mem (att_mem (L := K) (k := 9) (by omega)))
            obtain ⟨z, ez⟩ : ∃ z, att K 9 = z := ⟨_, rfl⟩
            rw [ez] at d0 d1 d2 d3 d4 d5 d6 d7 HC HOld
            simp only [Nat.reduceMul, Nat.reduceAdd] at d0 d1 d2 d3 d4 d5 d6 d7
            clear ez
            go_wp2_with fail
            refine HC.out.mono ?_
            rintro e w10 ⟨cc, v10, M10, he, hp10, hq10, hf10, hb10⟩
            rw [he]
            obtain ⟨rfl, rfl⟩ := hp10.old HT9.out.2 HOld.out
            have HT10 : Hid (Fil W0 w10 p v10 M10 yb (.slice (some ⟨gu, 0, none⟩) 4096 cu) K ∧ M10.Perm K) := hid ⟨HT9.out.1.call hq10 hp10.1 hf10 hb10, HT9.out.2⟩
            have hMl : M10.length = 4096 := by rw [HT9.out.2.length_eq]; exact hKl
            clear he HC HOld hp10 hq10 hf10 hb10 HT9 c0 cf d0 d1 d2 d3 d4 d5 d6 d7
            have HLn := hid (qLen_any W0.heap.size p v10 M10 w10 HT10.out.1.t.q)
            rw [hMl] at HLn
            go_wp2_with fail
            refine HLn.out.mono ?_
            rintro e w11 ⟨he, hw⟩
            rw [he, hw]
            clear he hw w11 HLn
            have hl0 : att M10 0 = fe r 0 := qu_is HT10.out.1.t.m HT10.out.2 (x := fe r 0) HK0.out HKL.out
            have HC := hid (qPop_some M10 W0.heap.size p v10 HT10.out.1.t.m (by omega) w10 HT10.out.1.t.q)
            rw [hl0] at HC
            clear hl0
            have HF0 := hid (show ken 0 r 5 = fe r 0 by simp [fe, ken])
            obtain ⟨z, ez⟩ : ∃ z, fe r 0 = z := ⟨_, rfl⟩
            rw [ez] at HC HF0
            clear ez
            go_wp2_with fail
            refine HC.out.mono ?_
            rintro e w12 ⟨he, v12, M12, hp12, hu12, hq12, hf12, hb12⟩
            rw [he]
            have hT12 := HT10.out.1.call hq12 hu12 hf12 (fun k hk => .inl (by rw [← hb12]; exact hk))
            have hM12 : M12.length = 4095 := by have := hp12.length_eq; simp at this; omega
            have hnk : hasK z M12 = false := by
              cases hb : hasK z M12 with
              | false => rfl
              | true =>
                exfalso
                obtain ⟨y, hy, h⟩ := List.any_eq_true.1 hb
                exact (List.pairwise_cons.1 (HT10.out.1.t.m.un.perm hp12)).1 y hy (of_decide_eq_true h)
            have A13 := Still.alloc w12 (.cells (ecs z) 38)
            obtain ⟨W13, eW13⟩ : ∃ W, newE w12 z = W := ⟨_, rfl⟩
            obtain ⟨gz, egz⟩ : ∃ g, w12.heap.size = g := ⟨_, rfl⟩
            have hT13 : Fil W0 W13 p v12 M12 yb (.slice (some ⟨gu, 0, none⟩) 4096 cu) K := by rw [← eW13]; exact hT12.still A13
            have hX13 : Eb W13 gz z := by rw [← eW13, ← egz]; exact newE_eb w12 z
            have HGZ : Hid (gz ≠ p ∧ v12.ownBlock ≠ some gz) := hid ⟨by have := block_lt hT12.t.q.bk; omega, fun e => by have := (hT12.t.q.ow.block e).2; omega⟩
            have HC := hid (qPush_any z M12 W0.heap.size p v12 hT13.t.m W13 hT13.t.s.size hT13.t.q)
            have HNK := hid hnk
            obtain ⟨c0, c1, c2, c3, c4, c5, c6, c7, _⟩ := hX13.cells
            have HT13 := hid hT13
            have HX13 := hid hX13
            clear he hp12 hu12 hq12 hf12 hb12 hT12 A13 HT10 hT13 hX13 hnk
            go_wp2_with fail
            refine HC.out.mono ?_
            rintro e w14 ⟨cc, v14, M14, he, hp14, hq14, hf14, hb14⟩
            rw [he]
            obtain ⟨rfl, _, _⟩ := hp14.new (List.Perm.refl _) HNK.out (by omega)
            have HS14 := hid ((HT13.out.call hq14 hp14.1 hf14 hb14).t.s)
            have hX14 := HX13.out.fr HT13.out.t.q HGZ.out.1 HGZ.out.2 hf14
            clear eW13 egz c0 c1 c2 c3 c4 c5 c6 c7 he HC hp14 hq14 hf14 hb14 HT13 HX13
            have HEk := hid (fun w => qent_any 0 r 5 w)
            rw [HF0.out] at HEk
            have HPk := hid (fun w => pick_any a 1000 ha (by omega) (by omega) w)
            rw [HRd.out] at HPk
            go_upto_region 25 with fail
            obtain ⟨c0, c1, c2, c3, c4, c5, c6, c7, _⟩ := hX14.cells
            have k0 := Cl.cell c0
            have k1 := Cl.cell c1
            have k2 := Cl.cell c2
            have k3 := Cl.cell c3
            have k4 := Cl.cell c4
            have k5 := Cl.cell c5
            have k6 := Cl.cell c6
            have k7 := Cl.cell c7
            have hne := Aft.here w14
            have hg := fun a b xs ys w => guard_ev .eql a b xs ys w
            have hq := fun w => eql_ev_t z w
            clear c0 c1 c2 c3 c4 c5 c6 c7 hX14
            refine region_all (by kernel_rfl) (by kernel_rfl) ?_
            repeat (go_big_quiet_step ((first | (go_at_call 9; with_reducible exact Calls.cl_same (HPk.out _)) | (go_at_call 18; with_reducible exact Calls.cl (HEk.out _)) | rfl)))
            refine wpQuiet_nil ?_
            intro w15 h15
            have HS15 := hid ((HS0.out.trans HS14.out).trans h15)
            clear h15 hne hg hq k0 k1 k2 k3 k4 k5 k6 k7
            go_wp2_with fail
            (try simp only [Exit.inBlock, Exit.then])
            go_ret
            exact ⟨rfl, HS15.out⟩
end Go.Proofs.Ytgpmjlibanoapaa
