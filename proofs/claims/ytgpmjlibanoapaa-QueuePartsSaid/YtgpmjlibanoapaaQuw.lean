/- QueueParts: the walk. -/
import Derived.Test.YtgpmjlibanoapaaQut
namespace Go.Proofs.Ytgpmjlibanoapaa
open Go.RowKit
set_option maxRecDepth 100000

set_option maxHeartbeats 8000000 in
theorem parts_law (so : Option Addr) (n c : Nat) (L : List En) (f : Int) (w : World) (hr : RdG KE w so n L) : Calls Try.prog 5 #[.slice so n c, .int .i64 f] w fun e w' => e = .returned (.bool true) ∧ Still w w' := by
  have hl := hr.1
  have h47 := hr.2.1
  have HR := hid hr
  have HA := hid (fun w => awake_any w)
  have HN := hid (fun w => qnew_any w)
  clear hr
  go_enter Try.func5, Try.ntmps5
  go_wp2_with fail
  refine (HA.out _).mono ?_
  rintro e w1 ⟨he, h1⟩
  rw [he]
  have HS1 := hid h1
  clear he h1 HA
  go_wp2_with fail
  refine (HN.out _).mono ?_
  rintro e w2 ⟨he, hw⟩
  rw [he, hw]
  clear he hw w2 HN
  obtain ⟨p, ep⟩ : ∃ p, w1.heap.size = p := ⟨_, rfl⟩
  obtain ⟨W, eW⟩ : ∃ W, newQ w1 = W := ⟨_, rfl⟩
  have HT0 : Hid (Qk W w.heap.size p (.slice none 0 0) [] ∧ Still w W) := hid (by
    rw [← eW, ← ep]
    exact ⟨newQ_qk w1 w.heap.size HS1.out.size, HS1.out.trans (Still.alloc w1 _)⟩)
  rw [ep, eW]
  clear ep eW HS1
  go_wp2_with fail
  go_loopw [7] (fun u7 wr => ∃ (i : Nat) (v : Value) (M : List En), i ≤ n ∧ u7 = .int .i64 (i : Int) ∧ Hid (Qk wr w.heap.size p v M ∧ Qu M ∧ Still w wr)) (fun u7 _ => n - (intOf u7).toNat)
  case atStart => exact ⟨0, _, [], by omega, rfl, hid ⟨HT0.out.1, Qu.nil, HT0.out.2⟩⟩
  case round =>
    obtain ⟨i, v, M, hi, rfl, HT⟩ := hrel
    clear HT0
    by_cases hin : i < n
    · have hlt : (i : Int) < (n : Int) := by omega
      obtain ⟨B, o, rfl⟩ := HR.out.at (by omega)
      obtain ⟨c0, c1, c2, c3, c4, c5, c6, c7⟩ := rdE (HR.out.still HT.out.2.2) hin
      have HC := hid (qPush_any (att L i) M w.heap.size p v HT.out.2.1 wr HT.out.2.2.size HT.out.1)
      obtain ⟨x, ex⟩ : ∃ x, att L i = x := ⟨_, rfl⟩
      rw [ex] at c0 c1 c2 c3 c4 c5 c6 c7 HC
      clear ex
      go_wp2_with fail
      refine HC.out.mono ?_
      rintro e w2 ⟨cc, v2, M2, he, hp2, hq2, hf2, hb2⟩
      rw [he]
      have HT2 : Hid (Qk w2 w.heap.size p v2 M2 ∧ Qu M2 ∧ Still w w2) := hid ⟨hq2, hp2.1, HT.out.1.stl HT.out.2.2 (Nat.le_refl _) hf2⟩
      clear he HC hq2 hf2 hb2 hp2 c0 c1 c2 c3 c4 c5 c6 c7 HT
      go_wp2_with fail
      go_roundw
      case rel => exact ⟨i + 1, v2, M2, by omega, by go_num, HT2⟩
      case measure => simp [intOf]; omega
    · have hge : ¬ (i : Int) < (n : Int) := by omega
      have HC := hid (qClone_any M w.heap.size p v HT.out.2.1.le wr HT.out.1)
      go_wp2_with fail
      refine HC.out.mono ?_
      rintro e w3 ⟨pc, vc, he, hq3, hs3⟩
      rw [he]
      have HTq : Hid (Tq w w3 wr.heap.size w3.heap.size p v M pc vc M) := hid ⟨HT.out.1.still hs3, hq3, block_lt HT.out.1.bk, fun k hk => (HT.out.1.ow.block hk).2, block_lt hq3.bk, fun k hk => (hq3.ow.block hk).2, HT.out.2.1, HT.out.2.1, HT.out.2.2.trans hs3, HT.out.2.2.size⟩
      have hs12 : wr.heap.size ≤ w3.heap.size := hs3.size
      obtain ⟨s1, es1⟩ : ∃ s, wr.heap.size = s := ⟨_, rfl⟩
      obtain ⟨s2, es2⟩ : ∃ s, w3.heap.size = s := ⟨_, rfl⟩
      rw [es1, es2] at HTq hs12
      have HC := hid (qBelow_any M f w.heap.size p v HT.out.2.1 w3 HTq.out.q)
      rw [es2] at HC
      have HMQ := hid HT.out.2.1
      clear he hq3 hs3 es1 es2 HT
      go_wp2_with fail
      refine HC.out.mono ?_
      rintro e w4 ⟨ov, v4, O, M2, he, ho4, hc4, hf41, hf42, hu4, hq4, hf4, hb4⟩
      rw [he]
      have HT4 := hid (HTq.out.first hq4 hu4 hf4 hb4)
      have HO4 := hid ho4
      have HC4 := hid hc4
      have HF4 := hid (And.intro hf41 hf42)
      obtain ⟨aoO, capO, eO, _⟩ := ho4.slice
      have hOl : O.length ≤ 4096 := by have := hc4.pm.length_eq; rw [List.length_append] at this; have := HMQ.out.le; omega
      clear he HC ho4 hc4 hf41 hf42 hu4 hq4 hf4 hb4 HTq
      subst eO
      go_wp2_with fail
      go_loopw [10] (fun u10 wr => ∃ (i : Nat) (vc : Value) (A X : List En), i ≤ O.length ∧ u10 = .int .i64 (i : Int) ∧ A.length = i ∧ Hid (Tq w wr s1 s2 p v4 M2 pc vc X ∧ OwG KE 38 wr s2 (.slice aoO O.length capO) O ∧ Cm M A X)) (fun u10 _ => O.length - (intOf u10).toNat)
      case atStart => exact ⟨0, vc, [], M, by omega, rfl, rfl, hid ⟨HT4.out, HO4.out, Cm.start M⟩⟩
      case round =>
        clear HT4 HO4
        obtain ⟨i, vc, A, X, hi, rfl, hA, HT⟩ := hrel
        have hlen : A.length + X.length = O.length + M2.length := by
          have h1 := HT.out.2.2.pm.length_eq
          have h2 := HC4.out.pm.length_eq
          rw [List.length_append] at h1 h2
          omega
        by_cases hin : i < O.length
        · have hlt : (i : Int) < (O.length : Int) := by omega
          have hX0 : 0 < X.length := by omega
          have HC := hid (qPop_some X s1 pc vc HT.out.1.m' hX0 wr HT.out.1.c)
          have HNX := hid (fun X' (hp : X.Perm (att X 0 :: X')) => cm_next HC4.out HT.out.2.2 hp (HT.out.1.m'.ahead hp) (by omega))
          have HST := hid (fun X' (hp : X.Perm (att X 0 :: X')) => HT.out.2.2.step hp (HT.out.1.m'.ahead hp))
          obtain ⟨x, ex⟩ : ∃ x, att X 0 = x := ⟨_, rfl⟩
          rw [ex] at HC HNX HST
          clear ex
          go_wp2_with fail
          refine HC.out.mono ?_
          rintro e w5 ⟨he, v5, X5, hp5, hu5, hq5, hf5, hb5⟩
          rw [he]
          have hxO : x = att O i := by rw [← hA]; exact HNX.out X5 hp5
          have hfx : x.fr ≤ f := by rw [hxO]; exact HF4.out.1 _ (att_mem hin)
          have HST5 := hid (HST.out X5 hp5)
          have hT5 := HT.out.1.second hq5 hu5 hf5 hb5
          have hO5 := HT.out.1.row2 HT.out.2.1 hf5
          have A6 := Still.alloc w5 (.cells (ecs x) 38)
          obtain ⟨W6, eW6⟩ : ∃ W, newE w5 x = W := ⟨_, rfl⟩
          obtain ⟨ge, ege⟩ : ∃ g, w5.heap.size = g := ⟨_, rfl⟩
          have HT6 : Hid (Tq w W6 s1 s2 p v4 M2 pc v5 X5 ∧ OwG KE 38 W6 s2 (.slice aoO O.length capO) O) := hid ⟨by rw [← eW6]; exact hT5.still A6, by rw [← eW6]; exact hO5.still A6⟩
          have HX6 : Hid (Eb W6 ge x) := hid (by rw [← eW6, ← ege]; exact newE_eb w5 x)
          have hfx' : ¬ f < x.fr := by omega
          have HXO := hid hxO
          clear he HC HNX HST hp5 hu5 hq5 hf5 hb5 hT5 hO5 A6 HT hxO
          go_upto_region 17 with fail
          clear eW6 ege
          obtain ⟨gO, cO, hgO, _, _⟩ := HT6.out.2.head (by omega)
          cases hgO
          obtain ⟨c0, c1, c2, c3, c4, c5, c6, c7, _⟩ := owE HT6.out.2 (i := i) hin
          obtain ⟨d0, d1, d2, d3, d4, d5, d6, d7, _⟩ := HX6.out.cells
          rw [← HXO.out] at c0 c1 c2 c3 c4 c5 c6 c7
          have k0 := Cl.cell c0
          have k1 := Cl.cell c1
          have k2 := Cl.cell c2
          have k3 := Cl.cell c3
          have k4 := Cl.cell c4
          have k5 := Cl.cell c5
          have k6 := Cl.cell c6
          have k7 := Cl.cell c7
          have l0 := Cl.cell d0
          have l1 := Cl.cell d1
          have l2 := Cl.cell d2
          have l3 := Cl.cell d3
          have l4 := Cl.cell d4
          have l5 := Cl.cell d5
          have l6 := Cl.cell d6
          have l7 := Cl.cell d7
          have hne := Aft.here W6
          have hg := fun a b xs ys w => guard_ev .neq a b xs ys w
          have hq := fun w => neq_ev_f x w
          clear c0 c1 c2 c3 c4 c5 c6 c7 d0 d1 d2 d3 d4 d5 d6 d7
          refine region_all (by kernel_rfl) (by kernel_rfl) ?_
          repeat (go_big_quiet_step (rfl))
          refine wpQuiet_nil ?_
          intro w7 h7
          have HT7 : Hid (Tq w w7 s1 s2 p v4 M2 pc v5 X5 ∧ OwG KE 38 w7 s2 (.slice (some ⟨gO, 0, none⟩) O.length capO) O ∧ Cm M (A ++ [x]) X5) := hid ⟨HT6.out.1.still h7, HT6.out.2.still h7, HST5.out⟩
          clear h7 hne hg hq k0 k1 k2 k3 k4 k5 k6 k7 l0 l1 l2 l3 l4 l5 l6 l7 HT6 HX6 HST5
          go_wp2_with fail
          go_roundw
          case rel => exact ⟨i + 1, v5, A ++ [x], X5, by omega, by go_num, by simp; omega, HT7⟩
          case measure => simp [intOf]; omega
        · have hge2 : ¬ (i : Int) < (O.length : Int) := by omega
          have HXY := hid (cm_rest HC4.out HT.out.2.2 (by omega))
          have hXl : X.length ≤ 4096 := HT.out.1.m'.le
          have HLn := hid (qLen_any s1 pc vc X wr HT.out.1.c)
          have HT8 := hid HT.out.1
          clear HT HC4
          go_wp2_with fail
          refine HLn.out.mono ?_
          rintro e w8 ⟨he, hw⟩
          rw [he, hw]
          clear he hw w8 HLn
          obtain ⟨N, eN⟩ : ∃ N, X.length = N := ⟨_, rfl⟩
          have HNl := hid eN
          rw [eN] at hXl ⊢
          clear eN
          go_wp2_with fail
          go_loopw [14] (fun u14 wr => ∃ (i : Nat) (v : Value) (vc : Value) (Y Z : List En), i ≤ N + 1 ∧ u14 = .int .i64 (i : Int) ∧ Y.length = N - i ∧ Hid (Tq w wr s1 s2 p v Y pc vc Z ∧ Z.Perm Y ∧ ∀ y ∈ Y, f < y.fr)) (fun u14 _ => N + 1 - (intOf u14).toNat)
          case atStart => exact ⟨0, v4, vc, M2, X, by omega, rfl, by have := HXY.out.length_eq; have := HNl.out; omega, hid ⟨HT8.out, HXY.out, HF4.out.2⟩⟩
          case round =>
            clear HT8 HXY HNl HF4
            obtain ⟨i, v1, v2, Y, Z, hi, rfl, hY, HT⟩ := hrel
            have hZ : Z.length = Y.length := HT.out.2.1.length_eq
            by_cases hle : i ≤ N
            · have hle' : (i : Int) ≤ (N : Int) := by omega
              by_cases hin2 : i < N
              · have hlt : (i : Int) < (N : Int) := by omega
                have hY0 : 0 < Y.length := by omega
                have HC := hid (qPop_some Y w.heap.size p v1 HT.out.1.m hY0 wr HT.out.1.q)
                have hab : att Z 0 = att Y 0 := qu_is HT.out.1.m' HT.out.2.1 (qu_mem0 hY0) (fun y hy => by
                  obtain ⟨k, hk, e⟩ := List.getElem_of_mem hy
                  have h1 := HT.out.1.m.hp.least k hk
                  have e2 : att Y k = y := by unfold att; rw [List.getD_eq_getElem?_getD, List.getElem?_eq_getElem hk, e]; rfl
                  rw [e2] at h1
                  exact h1)
                have hfa := HT.out.2.2 _ (qu_mem0 hY0)
                have HAB := hid hab
                obtain ⟨x, ex⟩ : ∃ x, att Y 0 = x := ⟨_, rfl⟩
                rw [ex] at HC hfa HAB
                clear ex hab
                go_wp2_with fail
                refine HC.out.mono ?_
                rintro e w5 ⟨he, v5, Y5, hp5, hu5, hq5, hf5, hb5⟩
                rw [he]
                have hT5 := HT.out.1.first hq5 hu5 hf5 hb5
                have HPY := hid hp5
                have HFF := hid HT.out.2.2
                have HZY := hid HT.out.2.1
                have A6 := Still.alloc w5 (.cells (ecs x) 38)
                obtain ⟨W6, eW6⟩ : ∃ W, newE w5 x = W := ⟨_, rfl⟩
                obtain ⟨ga, ega⟩ : ∃ g, w5.heap.size = g := ⟨_, rfl⟩
                have hT6 : Tq w W6 s1 s2 p v5 Y5 pc v2 Z := by rw [← eW6]; exact hT5.still A6
                have HX6 : Hid (Eb W6 ga x) := hid (by rw [← eW6, ← ega]; exact newE_eb w5 x)
                have HGA : Hid (ga ≠ pc ∧ v2.ownBlock ≠ some ga) := hid ⟨by have := block_lt hT5.c.bk; omega, fun e => by have := (hT5.c.ow.block e).2; omega⟩
                have HC := hid (qPop_some Z s1 pc v2 hT6.m' (by omega) W6 hT6.c)
                rw [HAB.out] at HC
                have HT6 := hid hT6
                clear he hp5 hu5 hq5 hf5 hb5 hT5 A6 HT hT6
                go_wp2_with fail
                refine HC.out.mono ?_
                rintro e w7 ⟨he, v7, Z7, hp7, hu7, hq7, hf7, hb7⟩
                rw [he]
                have hT7 := HT6.out.second hq7 hu7 hf7 hb7
                have hX7 := HX6.out.fr HT6.out.c HGA.out.1 HGA.out.2 hf7
                have HPZ : Hid (Z7.Perm Y5) := hid ((hp7.symm.trans (HZY.out.trans HPY.out)).cons_inv)
                have HYF : Hid (∀ y ∈ Y5, f < y.fr) := hid (fun y hy => HFF.out y (HPY.out.mem_iff.2 (List.mem_cons_of_mem _ hy)))
                have hY5 : Y5.length = N - (i + 1) := by have := HPY.out.length_eq; simp at this; omega
                have A8 := Still.alloc w7 (.cells (ecs x) 38)
                obtain ⟨W8, eW8⟩ : ∃ W, newE w7 x = W := ⟨_, rfl⟩
                have HT8 : Hid (Tq w W8 s1 s2 p v5 Y5 pc v7 Z7) := hid (by rw [← eW8]; exact hT7.still A8)
                obtain ⟨c0, c1, c2, c3, c4, c5, c6, c7, _⟩ := (show Eb W8 ga x by rw [← eW8]; exact hX7.still A8).cells
                obtain ⟨gb, egb⟩ : ∃ g, w7.heap.size = g := ⟨_, rfl⟩
                obtain ⟨d0, d1, d2, d3, d4, d5, d6, d7, _⟩ := (show Eb W8 gb x by rw [← eW8, ← egb]; exact newE_eb w7 x).cells
                have hg := fun a b xs ys w => guard_ev .neq a b xs ys w
                have hq := fun w => neq_ev_f x w
                have hfa' : ¬ x.fr ≤ f := by omega
                clear he HC hp7 hu7 hq7 hf7 hb7 hT7 hX7 A8 HT6 HX6 HPY HFF HZY eW6 ega
                go_wp2_with fail
                go_roundw
                case rel => exact ⟨i + 1, v5, v7, Y5, Z7, by omega, by go_num, hY5, hid ⟨HT8.out, HPZ.out, HYF.out⟩⟩
                case measure => simp [intOf]; omega
              · obtain rfl : i = N := by omega
                obtain rfl : Y = [] := List.eq_nil_of_length_eq_zero (by omega)
                obtain rfl : Z = [] := List.eq_nil_of_length_eq_zero (by simpa using hZ)
                have HC := hid (qPop_nil w.heap.size p v1 wr HT.out.1.q)
                go_wp2_with fail
                refine HC.out.mono ?_
                rintro e w5 ⟨he, h5⟩
                rw [he]
                have A6 := Still.alloc w5 (.cells (ecs zE) 38)
                obtain ⟨W6, eW6⟩ : ∃ W, newE w5 zE = W := ⟨_, rfl⟩
                obtain ⟨ga, ega⟩ : ∃ g, w5.heap.size = g := ⟨_, rfl⟩
                have HT6 : Hid (Tq w W6 s1 s2 p v1 [] pc v2 []) := hid (by rw [← eW6]; exact (HT.out.1.still h5).still A6)
                have HX6 : Hid (Eb W6 ga zE) := hid (by rw [← eW6, ← ega]; exact newE_eb w5 zE)
                have HC := hid (qPop_nil s1 pc v2 W6 HT6.out.c)
                clear he h5 A6 HT
                go_wp2_with fail
                refine HC.out.mono ?_
                rintro e w7 ⟨he, h7⟩
                rw [he]
                have A8 := Still.alloc w7 (.cells (ecs zE) 38)
                obtain ⟨W8, eW8⟩ : ∃ W, newE w7 zE = W := ⟨_, rfl⟩
                have HT8 : Hid (Tq w W8 s1 s2 p v1 [] pc v2 []) := hid (by rw [← eW8]; exact (HT6.out.still h7).still A8)
                obtain ⟨c0, c1, c2, c3, c4, c5, c6, c7, _⟩ := (show Eb W8 ga zE by rw [← eW8]; exact (HX6.out.still h7).still A8).cells
                obtain ⟨gb, egb⟩ : ∃ g, w7.heap.size = g := ⟨_, rfl⟩
                obtain ⟨d0, d1, d2, d3, d4, d5, d6, d7, _⟩ := (show Eb W8 gb zE by rw [← eW8, ← egb]; exact newE_eb w7 zE).cells
                have hg := fun a b xs ys w => guard_ev .neq a b xs ys w
                have hq := fun w => neq_ev_f zE w
                clear he HC h7 A8 HT6 HX6 eW6 ega
                go_wp2_with fail
                go_roundw
                case rel => exact ⟨i + 1, v1, v2, [], [], by omega, by go_num, by simp, hid ⟨HT8.out, List.Perm.refl _, fun y hy => by cases hy⟩⟩
                case measure => simp [intOf]
            · have hle' : ¬ (i : Int) ≤ (N : Int) := by omega
              have HSE := hid HT.out.1.s
              clear HT
              go_wp2_with fail
              go_ret
              exact ⟨rfl, HSE.out⟩
end Go.Proofs.Ytgpmjlibanoapaa
