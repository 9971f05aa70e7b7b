/- QueueSorts. -/
import Derived.Test.YtgpmjlibanoapaaQuq
namespace Go.Proofs.Ytgpmjlibanoapaa
open Go.RowKit
set_option maxRecDepth 100000

theorem ow_ne_q {w : World} {B p : Nat} {u v : Value} {I : List En} (ho : OwG KE 38 w B u I) (hb : w.heap[p]? = some (.cells #[v] 59 (0, 0))) : u.ownBlock ≠ some p := by
  intro e
  rcases ho.2 with ⟨rfl, _⟩ | ⟨g, cap, cur, rfl, _, hg, _⟩
  · cases e
  · simp [Value.ownBlock] at e
    subst e
    have := hg.symm.trans hb
    simp at this
/-- the queue and the list of what went in, each in memory of its own -/
structure Two (w wr : World) (p : Nat) (v : Value) (M : List En) (u : Value) (I : List En) : Prop where
  q : Qk wr w.heap.size p v M
  o : OwG KE 38 wr w.heap.size u I
  m : Qu M
  s : Still w wr
  a : ∀ k, v.ownBlock = some k → u.ownBlock ≠ some k
theorem Two.still {w wr w' : World} {p : Nat} {v u : Value} {M I : List En} (h : Two w wr p v M u I) (hs : Still wr w') : Two w w' p v M u I := ⟨h.q.still hs, h.o.still hs, h.m, h.s.trans hs, h.a⟩
theorem Two.call {w wr w' : World} {p : Nat} {v v' u : Value} {M M' I : List En} (h : Two w wr p v M u I) (hq : Qk w' w.heap.size p v' M') (hm : Qu M') (hf : Fr (fun k => k = p ∨ v.ownBlock = some k) wr w') (hb : ∀ k, v'.ownBlock = some k → v.ownBlock = some k ∨ wr.heap.size ≤ k) : Two w w' p v' M' u I := by
  refine ⟨hq, h.o.keep hf (fun k hk e => ?_), hm, h.q.stl h.s (Nat.le_refl _) hf, fun k hk e => ?_⟩
  · rcases hk with rfl | hk
    · exact ow_ne_q h.o h.q.bk e
    · exact h.a k hk e
  · rcases hb k hk with h1 | h1
    · exact h.a k h1 e
    · have := (h.o.block e).2; omega
theorem Two.app {w wr w' : World} {p : Nat} {v u u' : Value} {M I I' : List En} (h : Two w wr p v M u I) (ho : OwG KE 38 w' w.heap.size u' I') (hf : Fr (fun k => u.ownBlock = some k) wr w') (hb : ∀ k, u'.ownBlock = some k → u.ownBlock = some k ∨ wr.heap.size ≤ k) : Two w w' p v M u' I' := by
  refine ⟨h.q.keep hf (fun e => ow_ne_q h.o h.q.bk e) (fun k hk e => h.a k e hk), ho, h.m, Fr.trans h.s hf (fun k hk e => by have := (h.o.block e).1; omega), fun k hk e => ?_⟩
  rcases hb k e with h1 | h1
  · exact h.a k hk h1
  · have := (h.q.ow.block hk).2; omega
theorem Two.set {w wr w' : World} {p g : Nat} {v u : Value} {M I : List En} (h : Two w wr p v M u I) (hf : Fr (fun k => k = g) wr w') (hp : p ≠ g) (hv : v.ownBlock ≠ some g) (hu : u.ownBlock ≠ some g) (hg : w.heap.size ≤ g) : Two w w' p v M u I :=
  ⟨h.q.keep hf (fun e => hp e) (fun k hk e => hv (by rw [← hk]; exact e)), h.o.keep hf (fun k hk e => hu (by rw [← hk]; exact e)), h.m, Fr.trans h.s hf (fun k hk e => by omega), h.a⟩
set_option maxHeartbeats 8000000 in
theorem sorts_law (so : Option Addr) (n c : Nat) (L : List En) (w : World) (hr : RdG KE w so n L) : Calls Try.prog 4 #[.slice so n c] w fun e w' => e = .returned (.bool true) ∧ Still w w' := by
  have hl := hr.1
  have h47 := hr.2.1
  have HR := hid hr
  have HA := hid (fun w => awake_any w)
  have HN := hid (fun w => qnew_any w)
  clear hr
  go_enter Try.func4, Try.ntmps4
  go_wp2_with fail
  refine (HA.out _).mono ?_
  rintro e w1 ⟨he, h1⟩
  rw [he]
  have HS1 := hid h1
  clear he h1 HA
  go_wp2_with fail
  refine (HN.out _).mono ?_
  rintro e w2 ⟨he, hw⟩
  rw [he, hw]
  clear he hw w2 HN
  obtain ⟨p, ep⟩ : ∃ p, w1.heap.size = p := ⟨_, rfl⟩
  obtain ⟨W, eW⟩ : ∃ W, newQ w1 = W := ⟨_, rfl⟩
  have HT0 : Hid (Two w W p (.slice none 0 0) [] (.slice none 0 0) []) := hid (by
    rw [← eW, ← ep]
    exact ⟨newQ_qk w1 w.heap.size HS1.out.size, OwG.nil _ _, Qu.nil, HS1.out.trans (Still.alloc w1 _), fun k h => by cases h⟩)
  rw [ep, eW]
  clear ep eW HS1
  go_wp2_with fail
  go_loopw [5, 6] (fun u5 u6 wr => ∃ (i : Nat) (v : Value) (M I : List En), i ≤ n ∧ u6 = .int .i64 (i : Int) ∧ (0 < i → 0 < I.length) ∧ (i = 0 → M = []) ∧ Hid (Two w wr p v M u5 I ∧ M.Perm I)) (fun _ u6 _ => n - (intOf u6).toNat)
  case atStart => exact ⟨0, _, [], [], by omega, rfl, by omega, fun _ => rfl, hid ⟨HT0.out, List.Perm.refl _⟩⟩
  case round =>
    obtain ⟨i, v, M, I, hi, rfl, hpos, hz, HT⟩ := hrel
    clear HT0
    obtain ⟨ao5, cap5, e5, _⟩ := HT.out.1.o.slice
    subst e5
    by_cases hin : i < n
    · have hlt : (i : Int) < (n : Int) := by omega
      obtain ⟨B, o, rfl⟩ := HR.out.at (by omega)
      obtain ⟨c0, c1, c2, c3, c4, c5, c6, c7⟩ := rdE (HR.out.still HT.out.1.s) hin
      have HC := hid (qPush_any (att L i) M w.heap.size p v HT.out.1.m wr HT.out.1.s.size HT.out.1.q)
      have HRX := hid (fun w' (h : Still w w') => rdE (HR.out.still h) hin)
      obtain ⟨x, ex⟩ : ∃ x, att L i = x := ⟨_, rfl⟩
      rw [ex] at c0 c1 c2 c3 c4 c5 c6 c7 HC HRX
      clear ex
      go_wp2_with fail
      refine HC.out.mono ?_
      rintro e w2 ⟨cc, v2, M2, he, hp2, hq2, hf2, hb2⟩
      rw [he]
      have HT2 := hid (HT.out.1.call hq2 hp2.1 hf2 hb2)
      have HPm := hid HT.out.2
      have hMl : M.length = I.length := HT.out.2.length_eq
      have hM4 := HT.out.1.m.le
      clear he HC hq2 hf2 hb2 c0 c1 c2 c3 c4 c5 c6 c7 HT
      rcases hp2.2 with ⟨h1, rfl, rfl⟩ | ⟨h1, h2, rfl, rfl⟩ | ⟨h1, h2, rfl, h3⟩
      · have hi0 : 0 < i := Nat.pos_of_ne_zero (fun e => by rw [hz e] at h1; cases h1)
        clear hp2 h1
        go_wp2_with fail
        go_roundw
        case rel => exact ⟨i + 1, v2, M2, I, by omega, by go_num, fun _ => hpos hi0, fun h => by omega, hid ⟨HT2.out, HPm.out⟩⟩
        case measure => simp [intOf]; omega
      · have hi0 : 0 < i := Nat.pos_of_ne_zero (fun e => by rw [hz e] at h2; simp at h2)
        clear hp2 h1
        go_wp2_with fail
        go_roundw
        case rel => exact ⟨i + 1, v2, M2, I, by omega, by go_num, fun _ => hpos hi0, fun h => by omega, hid ⟨HT2.out, HPm.out⟩⟩
        case measure => simp [intOf]; omega
      · have HP2 : Hid (M2.Perm (I ++ [x])) := hid (h3.trans (HPm.out.append_right [x]))
        obtain ⟨c0, c1, c2, c3, c4, c5, c6, c7⟩ := HRX.out w2 HT2.out.s
        have A4 := Still.alloc w2 (.cells (ecs x) 38)
        have HT4 := hid (HT2.out.still A4)
        have HX4 : Hid ((newE w2 x).heap[w2.heap.size]? = some (.cells (KE.f x).toArray 38 (0, 0))) := hid (newE_eb w2 x)
        have HL4 := hid (show (I.length + 1) * 64 ≤ 140737488355328 ∧ I.length ≤ 281474976710656 by omega)
        have HB4 : Hid (w.heap.size ≤ (newE w2 x).heap.size) := hid HT4.out.s.size
        clear hp2 h1 h2 h3 A4 HT2 HPm
        go_wp2_with (at_builtin; refine wpList_appQ KE _ rfl _ _ _ rfl rfl 64 infoE w.heap.size w2.heap.size _ I x rfl rfl HT4.out.o HX4.out HL4.out.1 HL4.out.2 HB4.out ?_; intro u5 w5 ho5 hf5 hb5)
        have HT5 := hid (HT4.out.app ho5 hf5 hb5)
        obtain ⟨ao6, cap6, e6, _⟩ := ho5.slice
        clear ho5 hf5 hb5 HT4 HX4
        subst e6
        go_roundw
        case rel => exact ⟨i + 1, v2, M2, I ++ [x], by omega, by go_num, fun _ => by simp, fun h => by omega, hid ⟨HT5.out, HP2.out⟩⟩
        case measure => simp [intOf]; omega
    · have hge : ¬ (i : Int) < (n : Int) := by omega
      by_cases hn0 : n = 0
      · have hg0 : ¬ (0 : Int) < (n : Int) := by omega
        have hMN : M.length = I.length := HT.out.2.length_eq
        have HLn := hid (qLen_any w.heap.size p v M wr HT.out.1.q)
        rw [hMN] at HLn
        have hnn : ((I.length : Int) != (I.length : Int)) = false := by simp
        go_wp2_with fail
        refine HLn.out.mono ?_
        rintro e w8 ⟨he, hw⟩
        rw [he, hw]
        clear he hw w8 HLn
        have A9 := Still.alloc wr (.cells (ecs zE) 38)
        obtain ⟨W9, eW9⟩ : ∃ W, newE wr zE = W := ⟨_, rfl⟩
        obtain ⟨gl, egl⟩ : ∃ g, wr.heap.size = g := ⟨_, rfl⟩
        have HGL : Hid (p ≠ gl ∧ (Value.slice ao5 I.length cap5).ownBlock ≠ some gl ∧ w.heap.size ≤ gl ∧ v.ownBlock ≠ some gl) := hid ⟨by have := block_lt HT.out.1.q.bk; omega, fun e => by have := (HT.out.1.o.block e).2; omega, by have := HT.out.1.s.size; omega, fun e => by have := (HT.out.1.q.ow.block e).2; omega⟩
        have HT9 : Hid (Two w W9 p v M (.slice ao5 I.length cap5) I ∧ Eb W9 gl zE ∧ (0 < 0 → ∀ y ∈ M, kc zE y < 0) ∧ (∀ y ∈ M, y ∈ I) ∧ v.ownBlock ≠ some gl) := hid ⟨by rw [← eW9]; exact HT.out.1.still A9, by rw [← eW9, ← egl]; exact newE_eb wr zE, fun h => by omega, fun y hy => HT.out.2.mem_iff.1 hy, HGL.out.2.2.2⟩
        have hI4 : I.length ≤ 4096 := by have := HT.out.1.m.le; omega
        simp only [newE, zE] at eW9
        clear A9 HT
        go_wp2_with fail
        clear eW9
        clear egl
        go_loopw [9, 11] (fun u9 u11 wr => ∃ (k : Nat) (v : Value) (M : List En) (x : En), k ≤ I.length ∧ u11 = .int .i64 (k : Int) ∧ u9 = .int .i64 ((I.length - k : Nat) : Int) ∧ M.length = I.length - k ∧ Hid (Two w wr p v M (.slice ao5 I.length cap5) I ∧ Eb wr gl x ∧ (0 < k → ∀ y ∈ M, kc x y < 0) ∧ (∀ y ∈ M, y ∈ I) ∧ v.ownBlock ≠ some gl)) (fun _ u11 _ => I.length - (intOf u11).toNat)
        case atStart => exact ⟨0, v, M, zE, by omega, rfl, by rw [Nat.sub_zero], by omega, HT9⟩
        case round =>
          clear HT9
          obtain ⟨k, v1, M1, x, hk, rfl, rfl, hM1, HK⟩ := hrel
          by_cases hkn : k < I.length
          · have hlt : (k : Int) < (I.length : Int) := by omega
            have hM0 : 0 < M1.length := by omega
            have HC := hid (qPop_some M1 w.heap.size p v1 HK.out.1.m hM0 wr HK.out.1.q)
            have HAH := hid (fun M' (hp : M1.Perm (att M1 0 :: M')) => HK.out.1.m.ahead hp)
            have hx0 : att M1 0 ∈ M1 := qu_mem0 hM0
            have HIN := hid (HK.out.2.2.2.1 _ hx0)
            have HLT := hid (fun h : 0 < k => HK.out.2.2.1 h _ hx0)
            obtain ⟨x', ex'⟩ : ∃ x, att M1 0 = x := ⟨_, rfl⟩
            rw [ex'] at HC HAH HIN HLT
            clear ex' hx0
            go_wp2_with fail
            refine HC.out.mono ?_
            rintro e w3 ⟨he, v2, M2, hp2, hu2, hq2, hf2, hb2⟩
            rw [he]
            have hT2 := HK.out.1.call hq2 hu2 hf2 (fun k hk => .inl (by rw [← hb2]; exact hk))
            have HX3 := hid (HK.out.2.1.fr HK.out.1.q (fun e => HGL.out.1 e.symm) HK.out.2.2.2.2 hf2)
            have hM2 : M2.length = I.length - (k + 1) := by have := hp2.length_eq; simp at this; omega
            have HNE : Hid ((∀ z ∈ M2, kc x' z < 0) ∧ (∀ z ∈ M2, z ∈ I) ∧ v2.ownBlock ≠ some gl) := hid ⟨HAH.out M2 hp2, fun z hz => HK.out.2.2.2.1 z (hp2.mem_iff.2 (List.mem_cons_of_mem _ hz)), by rw [hb2]; exact HK.out.2.2.2.2⟩
            have A4 := Still.alloc w3 (.cells (ecs x') 38)
            obtain ⟨w4, ew4⟩ : ∃ W, newE w3 x' = W := ⟨_, rfl⟩
            obtain ⟨ge, ege⟩ : ∃ g, w3.heap.size = g := ⟨_, rfl⟩
            have HT4 : Hid (Two w w4 p v2 M2 (.slice ao5 I.length cap5) I ∧ Eb w4 gl x ∧ Eb w4 ge x') := hid ⟨by rw [← ew4]; exact hT2.still A4, by rw [← ew4]; exact HX3.out.still A4, by rw [← ew4, ← ege]; exact newE_eb w3 x'⟩
            have HGE : Hid (¬ ge = gl) := hid (fun e => by have := block_lt HX3.out; omega)
            clear he HC hp2 hu2 hq2 hf2 hb2 HAH HK hT2 HX3 A4
            by_cases hk0 : k = 0
            · have hkp : ¬ (0 : Int) < (k : Int) := by omega
              clear hk0
              obtain ⟨d0, d1, d2, d3, d4, d5, d6, d7, df⟩ := HT4.out.2.1.cells
              obtain ⟨c0, c1, c2, c3, c4, c5, c6, c7, _⟩ := HT4.out.2.2.cells
              go_upto_region 25 with fail
              clear ew4 ege d0 d1 d2 d3 d4 d5 d6 d7 df c0 c1 c2 c3 c4 c5 c6 c7
              have hxg := HT4.out.2.1
              have HX5 := hid (hxg.put x')
              obtain ⟨d0, d1, d2, d3, d4, d5, d6, d7, df⟩ := hxg.cells
              obtain ⟨c0, c1, c2, c3, c4, c5, c6, c7, _⟩ := HT4.out.2.2.cells
              obtain ⟨W5, eW5⟩ : ∃ W, setE w4 gl x' = W := ⟨_, rfl⟩
              have f5 : Fr (fun k => k = gl) w4 W5 := by rw [← eW5]; exact setE_fr (Fr.refl _ w4) gl x' (.inl rfl)
              have HT5 : Hid (Two w W5 p v2 M2 (.slice ao5 I.length cap5) I ∧ Eb W5 gl x' ∧ Eb W5 ge x') := hid ⟨HT4.out.1.set f5 HGL.out.1 HNE.out.2.2 HGL.out.2.1 HGL.out.2.2.1, by rw [← eW5]; exact HX5.out, f5.kept HT4.out.2.2 HGE.out⟩
              clear hxg HX5 f5
              go_wp2_with fail
              clear eW5 d0 d1 d2 d3 d4 d5 d6 d7 df c0 c1 c2 c3 c4 c5 c6 c7 HT4
              go_loopw [9, 14] (fun u9 u14 wi => ∃ j : Nat, j ≤ I.length ∧ u14 = .int .i64 (j : Int) ∧ u9 = .int .i64 ((I.length - k : Nat) : Int) ∧ Hid (Still W5 wi ∧ ∀ t, t < j → att I t ≠ x')) (fun _ u14 _ => I.length - (intOf u14).toNat)
              case atStart => exact ⟨0, by omega, rfl, rfl, hid ⟨Fr.refl _ _, fun t ht => by omega⟩⟩
              case round =>
                obtain ⟨j, hj, rfl, rfl, HJ⟩ := hrel
                by_cases hjn : j < I.length
                · have hlt : (j : Int) < (I.length : Int) := by omega
                  obtain ⟨gi, ci, hgi, _, _⟩ := HT5.out.1.o.head (by omega)
                  cases hgi
                  have hoI := HT5.out.1.o.still HJ.out.1
                  obtain ⟨c0, c1, c2, c3, c4, c5, c6, c7, _⟩ := owE hoI (i := j) hjn
                  obtain ⟨d0, d1, d2, d3, d4, d5, d6, d7, _⟩ := (HT5.out.2.2.still HJ.out.1).cells
                  have k0 := Cl.cell c0
                  have k1 := Cl.cell c1
                  have k2 := Cl.cell c2
                  have k3 := Cl.cell c3
                  have k4 := Cl.cell c4
                  have k5 := Cl.cell c5
                  have k6 := Cl.cell c6
                  have k7 := Cl.cell c7
                  have l0 := Cl.cell d0
                  have l1 := Cl.cell d1
                  have l2 := Cl.cell d2
                  have l3 := Cl.cell d3
                  have l4 := Cl.cell d4
                  have l5 := Cl.cell d5
                  have l6 := Cl.cell d6
                  have l7 := Cl.cell d7
                  have HQE := hid (fun h : att I j ≠ x' => eqE_ne h)
                  have HNX := hid (fun (h : att I j ≠ x') t (ht : t < j + 1) => show att I t ≠ x' from if e : t = j then (by rw [e]; exact h) else HJ.out.2 t (by omega))
                  obtain ⟨y, ey⟩ : ∃ y, att I j = y := ⟨_, rfl⟩
                  rw [ey] at k0 k1 k2 k3 k4 k5 k6 k7 HQE HNX
                  clear c0 c1 c2 c3 c4 c5 c6 c7 d0 d1 d2 d3 d4 d5 d6 d7 hoI ey
                  have hne := Aft.here wr
                  have hg := fun a b xs ys w => guard_ev .eql a b xs ys w
                  by_cases hy : y = x'
                  · subst hy
                    have hq := fun w => eql_ev_t y w
                    go_upto_region 29 with fail
                    refine region_all (by kernel_rfl) (by kernel_rfl) ?_
                    repeat (go_big_quiet_step (rfl))
                    refine wpQuiet_nil ?_
                    intro w6 h6
                    have HT6 : Hid (Two w w6 p v2 M2 (.slice (some ⟨gi, 0, none⟩) I.length cap5) I ∧ Eb w6 gl y ∧ (0 < k + 1 → ∀ z ∈ M2, kc y z < 0) ∧ (∀ z ∈ M2, z ∈ I) ∧ v2.ownBlock ≠ some gl) := hid ⟨HT5.out.1.still (HJ.out.1.trans h6), HT5.out.2.1.still (HJ.out.1.trans h6), fun _ => HNE.out.1, HNE.out.2.1, HNE.out.2.2⟩
                    have e9 : ((I.length - k : Nat) : Int) - 1 = ((I.length - (k + 1) : Nat) : Int) := by omega
                    clear h6 hne k0 k1 k2 k3 k4 k5 k6 k7 l0 l1 l2 l3 l4 l5 l6 l7 hg hq HJ HT5 HQE HNX HNE
                    go_wp2_with fail
                    (try simp only [Exit.inBlock, Exit.then])
                    go_wp2_with fail
                    go_roundw
                    case rel => exact ⟨k + 1, v2, M2, y, by omega, by go_num, rfl, by omega, HT6⟩
                    case measure => simp [intOf]; omega
                  · have hq := fun w => eql_ev y x' w
                    have hqf := HQE.out hy
                    rw [hqf] at hq
                    have HN2 := hid (HNX.out hy)
                    clear hqf HQE HNX hy
                    go_upto_region 29 with fail
                    refine region_all (by kernel_rfl) (by kernel_rfl) ?_
                    repeat (go_big_quiet_step (rfl))
                    refine wpQuiet_nil ?_
                    intro w6 h6
                    have HJ6 : Hid (Still W5 w6 ∧ ∀ t, t < j + 1 → att I t ≠ x') := hid ⟨HJ.out.1.trans h6, HN2.out⟩
                    clear h6 hne k0 k1 k2 k3 k4 k5 k6 k7 l0 l1 l2 l3 l4 l5 l6 l7 hg hq HJ HN2
                    go_wp2_with fail
                    go_roundw
                    case rel => exact ⟨j + 1, by omega, by go_num, rfl, HJ6⟩
                    case measure => simp [intOf]; omega
                · exfalso
                  obtain ⟨t, ht, e⟩ := List.getElem_of_mem HIN.out
                  exact HJ.out.2 t (by omega) (by unfold att; rw [List.getD_eq_getElem?_getD, List.getElem?_eq_getElem ht, e]; rfl)
            · have hkp : (0 : Int) < (k : Int) := by omega
              have hKC := HLT.out (by omega)
              have HC := hid (rord_any x x' w4)
              obtain ⟨r, er⟩ : ∃ r, kc x x' = r := ⟨_, rfl⟩
              rw [er] at hKC HC
              clear er
              have hr1 : ¬ (0 : Int) ≤ r := by omega
              obtain ⟨d0, d1, d2, d3, d4, d5, d6, d7, df⟩ := HT4.out.2.1.cells
              obtain ⟨c0, c1, c2, c3, c4, c5, c6, c7, _⟩ := HT4.out.2.2.cells
              go_wp2_with fail
              refine HC.out.mono ?_
              rintro e w41 ⟨he, h41⟩
              rw [he]
              have HT41 : Hid (Two w w41 p v2 M2 (.slice ao5 I.length cap5) I ∧ Eb w41 gl x ∧ Eb w41 ge x') := hid ⟨HT4.out.1.still h41, HT4.out.2.1.still h41, HT4.out.2.2.still h41⟩
              clear ew4 ege d0 d1 d2 d3 d4 d5 d6 d7 df c0 c1 c2 c3 c4 c5 c6 c7 HT4 HC he h41
              have HT4 := HT41
              clear HT41
              go_upto_region 25 with fail
              have hxg := HT4.out.2.1
              have HX5 := hid (hxg.put x')
              obtain ⟨d0, d1, d2, d3, d4, d5, d6, d7, df⟩ := hxg.cells
              obtain ⟨c0, c1, c2, c3, c4, c5, c6, c7, _⟩ := HT4.out.2.2.cells
              obtain ⟨W5, eW5⟩ : ∃ W, setE w41 gl x' = W := ⟨_, rfl⟩
              have f5 : Fr (fun k => k = gl) w41 W5 := by rw [← eW5]; exact setE_fr (Fr.refl _ w41) gl x' (.inl rfl)
              have HT5 : Hid (Two w W5 p v2 M2 (.slice ao5 I.length cap5) I ∧ Eb W5 gl x' ∧ Eb W5 ge x') := hid ⟨HT4.out.1.set f5 HGL.out.1 HNE.out.2.2 HGL.out.2.1 HGL.out.2.2.1, by rw [← eW5]; exact HX5.out, f5.kept HT4.out.2.2 HGE.out⟩
              clear hxg HX5 f5
              go_wp2_with fail
              clear eW5 d0 d1 d2 d3 d4 d5 d6 d7 df c0 c1 c2 c3 c4 c5 c6 c7 HT4
              go_loopw [9, 14] (fun u9 u14 wi => ∃ j : Nat, j ≤ I.length ∧ u14 = .int .i64 (j : Int) ∧ u9 = .int .i64 ((I.length - k : Nat) : Int) ∧ Hid (Still W5 wi ∧ ∀ t, t < j → att I t ≠ x')) (fun _ u14 _ => I.length - (intOf u14).toNat)
              case atStart => exact ⟨0, by omega, rfl, rfl, hid ⟨Fr.refl _ _, fun t ht => by omega⟩⟩
              case round =>
                obtain ⟨j, hj, rfl, rfl, HJ⟩ := hrel
                by_cases hjn : j < I.length
                · have hlt : (j : Int) < (I.length : Int) := by omega
                  obtain ⟨gi, ci, hgi, _, _⟩ := HT5.out.1.o.head (by omega)
                  cases hgi
                  have hoI := HT5.out.1.o.still HJ.out.1
                  obtain ⟨c0, c1, c2, c3, c4, c5, c6, c7, _⟩ := owE hoI (i := j) hjn
                  obtain ⟨d0, d1, d2, d3, d4, d5, d6, d7, _⟩ := (HT5.out.2.2.still HJ.out.1).cells
                  have k0 := Cl.cell c0
                  have k1 := Cl.cell c1
                  have k2 := Cl.cell c2
                  have k3 := Cl.cell c3
                  have k4 := Cl.cell c4
                  have k5 := Cl.cell c5
                  have k6 := Cl.cell c6
                  have k7 := Cl.cell c7
                  have l0 := Cl.cell d0
                  have l1 := Cl.cell d1
                  have l2 := Cl.cell d2
                  have l3 := Cl.cell d3
                  have l4 := Cl.cell d4
                  have l5 := Cl.cell d5
                  have l6 := Cl.cell d6
                  have l7 := Cl.cell d7
                  have HQE := hid (fun h : att I j ≠ x' => eqE_ne h)
                  have HNX := hid (fun (h : att I j ≠ x') t (ht : t < j + 1) => show att I t ≠ x' from if e : t = j then (by rw [e]; exact h) else HJ.out.2 t (by omega))
                  obtain ⟨y, ey⟩ : ∃ y, att I j = y := ⟨_, rfl⟩
                  rw [ey] at k0 k1 k2 k3 k4 k5 k6 k7 HQE HNX
                  clear c0 c1 c2 c3 c4 c5 c6 c7 d0 d1 d2 d3 d4 d5 d6 d7 hoI ey
                  have hne := Aft.here wr
                  have hg := fun a b xs ys w => guard_ev .eql a b xs ys w
                  by_cases hy : y = x'
                  · subst hy
                    have hq := fun w => eql_ev_t y w
                    go_upto_region 29 with fail
                    refine region_all (by kernel_rfl) (by kernel_rfl) ?_
                    repeat (go_big_quiet_step (rfl))
                    refine wpQuiet_nil ?_
                    intro w6 h6
                    have HT6 : Hid (Two w w6 p v2 M2 (.slice (some ⟨gi, 0, none⟩) I.length cap5) I ∧ Eb w6 gl y ∧ (0 < k + 1 → ∀ z ∈ M2, kc y z < 0) ∧ (∀ z ∈ M2, z ∈ I) ∧ v2.ownBlock ≠ some gl) := hid ⟨HT5.out.1.still (HJ.out.1.trans h6), HT5.out.2.1.still (HJ.out.1.trans h6), fun _ => HNE.out.1, HNE.out.2.1, HNE.out.2.2⟩
                    have e9 : ((I.length - k : Nat) : Int) - 1 = ((I.length - (k + 1) : Nat) : Int) := by omega
                    clear h6 hne k0 k1 k2 k3 k4 k5 k6 k7 l0 l1 l2 l3 l4 l5 l6 l7 hg hq HJ HT5 HQE HNX HNE
                    go_wp2_with fail
                    (try simp only [Exit.inBlock, Exit.then])
                    go_wp2_with fail
                    go_roundw
                    case rel => exact ⟨k + 1, v2, M2, y, by omega, by go_num, rfl, by omega, HT6⟩
                    case measure => simp [intOf]; omega
                  · have hq := fun w => eql_ev y x' w
                    have hqf := HQE.out hy
                    rw [hqf] at hq
                    have HN2 := hid (HNX.out hy)
                    clear hqf HQE HNX hy
                    go_upto_region 29 with fail
                    refine region_all (by kernel_rfl) (by kernel_rfl) ?_
                    repeat (go_big_quiet_step (rfl))
                    refine wpQuiet_nil ?_
                    intro w6 h6
                    have HJ6 : Hid (Still W5 w6 ∧ ∀ t, t < j + 1 → att I t ≠ x') := hid ⟨HJ.out.1.trans h6, HN2.out⟩
                    clear h6 hne k0 k1 k2 k3 k4 k5 k6 k7 l0 l1 l2 l3 l4 l5 l6 l7 hg hq HJ HN2
                    go_wp2_with fail
                    go_roundw
                    case rel => exact ⟨j + 1, by omega, by go_num, rfl, HJ6⟩
                    case measure => simp [intOf]; omega
                · exfalso
                  obtain ⟨t, ht, e⟩ := List.getElem_of_mem HIN.out
                  exact HJ.out.2 t (by omega) (by unfold att; rw [List.getD_eq_getElem?_getD, List.getElem?_eq_getElem ht, e]; rfl)
          · have hge : ¬ (k : Int) < (I.length : Int) := by omega
            obtain rfl : M1 = [] := List.eq_nil_of_length_eq_zero (by omega)
            have HC := hid (qPop_nil w.heap.size p v1 wr HK.out.1.q)
            have e9 : ((I.length - k : Nat) : Int) = 0 := by omega
            rw [e9]
            have HSk := hid HK.out.1.s
            clear HK
            go_wp2_with fail
            refine HC.out.mono ?_
            rintro e w3 ⟨he, h3⟩
            rw [he]
            have HS3 := hid ((HSk.out.trans h3).trans (Still.alloc w3 (.cells (ecs zE) 38)))
            clear he h3 HC HSk
            go_wp2_with fail
            go_ret
            exact ⟨rfl, HS3.out⟩
      · have hg0 : (0 : Int) < (n : Int) := by omega
        have hI0 : 0 < I.length := hpos (by omega)
        have hI1 : ((I.length : Int) == 0) = false := beq_eq_false_iff_ne.2 (by omega)
        have hMN : M.length = I.length := HT.out.2.length_eq
        have HLn := hid (qLen_any w.heap.size p v M wr HT.out.1.q)
        rw [hMN] at HLn
        have hnn : ((I.length : Int) != (I.length : Int)) = false := by simp
        go_wp2_with fail
        refine HLn.out.mono ?_
        rintro e w8 ⟨he, hw⟩
        rw [he, hw]
        clear he hw w8 HLn
        have A9 := Still.alloc wr (.cells (ecs zE) 38)
        obtain ⟨W9, eW9⟩ : ∃ W, newE wr zE = W := ⟨_, rfl⟩
        obtain ⟨gl, egl⟩ : ∃ g, wr.heap.size = g := ⟨_, rfl⟩
        have HGL : Hid (p ≠ gl ∧ (Value.slice ao5 I.length cap5).ownBlock ≠ some gl ∧ w.heap.size ≤ gl ∧ v.ownBlock ≠ some gl) := hid ⟨by have := block_lt HT.out.1.q.bk; omega, fun e => by have := (HT.out.1.o.block e).2; omega, by have := HT.out.1.s.size; omega, fun e => by have := (HT.out.1.q.ow.block e).2; omega⟩
        have HT9 : Hid (Two w W9 p v M (.slice ao5 I.length cap5) I ∧ Eb W9 gl zE ∧ (0 < 0 → ∀ y ∈ M, kc zE y < 0) ∧ (∀ y ∈ M, y ∈ I) ∧ v.ownBlock ≠ some gl) := hid ⟨by rw [← eW9]; exact HT.out.1.still A9, by rw [← eW9, ← egl]; exact newE_eb wr zE, fun h => by omega, fun y hy => HT.out.2.mem_iff.1 hy, HGL.out.2.2.2⟩
        have hI4 : I.length ≤ 4096 := by have := HT.out.1.m.le; omega
        simp only [newE, zE] at eW9
        clear A9 HT
        go_wp2_with fail
        clear eW9
        clear egl
        go_loopw [9, 11] (fun u9 u11 wr => ∃ (k : Nat) (v : Value) (M : List En) (x : En), k ≤ I.length ∧ u11 = .int .i64 (k : Int) ∧ u9 = .int .i64 ((I.length - k : Nat) : Int) ∧ M.length = I.length - k ∧ Hid (Two w wr p v M (.slice ao5 I.length cap5) I ∧ Eb wr gl x ∧ (0 < k → ∀ y ∈ M, kc x y < 0) ∧ (∀ y ∈ M, y ∈ I) ∧ v.ownBlock ≠ some gl)) (fun _ u11 _ => I.length - (intOf u11).toNat)
        case atStart => exact ⟨0, v, M, zE, by omega, rfl, by rw [Nat.sub_zero], by omega, HT9⟩
        case round =>
          clear HT9
          obtain ⟨k, v1, M1, x, hk, rfl, rfl, hM1, HK⟩ := hrel
          by_cases hkn : k < I.length
          · have hlt : (k : Int) < (I.length : Int) := by omega
            have hM0 : 0 < M1.length := by omega
            have HC := hid (qPop_some M1 w.heap.size p v1 HK.out.1.m hM0 wr HK.out.1.q)
            have HAH := hid (fun M' (hp : M1.Perm (att M1 0 :: M')) => HK.out.1.m.ahead hp)
            have hx0 : att M1 0 ∈ M1 := qu_mem0 hM0
            have HIN := hid (HK.out.2.2.2.1 _ hx0)
            have HLT := hid (fun h : 0 < k => HK.out.2.2.1 h _ hx0)
            obtain ⟨x', ex'⟩ : ∃ x, att M1 0 = x := ⟨_, rfl⟩
            rw [ex'] at HC HAH HIN HLT
            clear ex' hx0
            go_wp2_with fail
            refine HC.out.mono ?_
            rintro e w3 ⟨he, v2, M2, hp2, hu2, hq2, hf2, hb2⟩
            rw [he]
            have hT2 := HK.out.1.call hq2 hu2 hf2 (fun k hk => .inl (by rw [← hb2]; exact hk))
            have HX3 := hid (HK.out.2.1.fr HK.out.1.q (fun e => HGL.out.1 e.symm) HK.out.2.2.2.2 hf2)
            have hM2 : M2.length = I.length - (k + 1) := by have := hp2.length_eq; simp at this; omega
            have HNE : Hid ((∀ z ∈ M2, kc x' z < 0) ∧ (∀ z ∈ M2, z ∈ I) ∧ v2.ownBlock ≠ some gl) := hid ⟨HAH.out M2 hp2, fun z hz => HK.out.2.2.2.1 z (hp2.mem_iff.2 (List.mem_cons_of_mem _ hz)), by rw [hb2]; exact HK.out.2.2.2.2⟩
            have A4 := Still.alloc w3 (.cells (ecs x') 38)
            obtain ⟨w4, ew4⟩ : ∃ W, newE w3 x' = W := ⟨_, rfl⟩
            obtain ⟨ge, ege⟩ : ∃ g, w3.heap.size = g := ⟨_, rfl⟩
            have HT4 : Hid (Two w w4 p v2 M2 (.slice ao5 I.length cap5) I ∧ Eb w4 gl x ∧ Eb w4 ge x') := hid ⟨by rw [← ew4]; exact hT2.still A4, by rw [← ew4]; exact HX3.out.still A4, by rw [← ew4, ← ege]; exact newE_eb w3 x'⟩
            have HGE : Hid (¬ ge = gl) := hid (fun e => by have := block_lt HX3.out; omega)
            clear he HC hp2 hu2 hq2 hf2 hb2 HAH HK hT2 HX3 A4
            by_cases hk0 : k = 0
            · have hkp : ¬ (0 : Int) < (k : Int) := by omega
              clear hk0
              obtain ⟨d0, d1, d2, d3, d4, d5, d6, d7, df⟩ := HT4.out.2.1.cells
              obtain ⟨c0, c1, c2, c3, c4, c5, c6, c7, _⟩ := HT4.out.2.2.cells
              go_upto_region 25 with fail
              clear ew4 ege d0 d1 d2 d3 d4 d5 d6 d7 df c0 c1 c2 c3 c4 c5 c6 c7
              have hxg := HT4.out.2.1
              have HX5 := hid (hxg.put x')
              obtain ⟨d0, d1, d2, d3, d4, d5, d6, d7, df⟩ := hxg.cells
              obtain ⟨c0, c1, c2, c3, c4, c5, c6, c7, _⟩ := HT4.out.2.2.cells
              obtain ⟨W5, eW5⟩ : ∃ W, setE w4 gl x' = W := ⟨_, rfl⟩
              have f5 : Fr (fun k => k = gl) w4 W5 := by rw [← eW5]; exact setE_fr (Fr.refl _ w4) gl x' (.inl rfl)
              have HT5 : Hid (Two w W5 p v2 M2 (.slice ao5 I.length cap5) I ∧ Eb W5 gl x' ∧ Eb W5 ge x') := hid ⟨HT4.out.1.set f5 HGL.out.1 HNE.out.2.2 HGL.out.2.1 HGL.out.2.2.1, by rw [← eW5]; exact HX5.out, f5.kept HT4.out.2.2 HGE.out⟩
              clear hxg HX5 f5
              go_wp2_with fail
              clear eW5 d0 d1 d2 d3 d4 d5 d6 d7 df c0 c1 c2 c3 c4 c5 c6 c7 HT4
              go_loopw [9, 14] (fun u9 u14 wi => ∃ j : Nat, j ≤ I.length ∧ u14 = .int .i64 (j : Int) ∧ u9 = .int .i64 ((I.length - k : Nat) : Int) ∧ Hid (Still W5 wi ∧ ∀ t, t < j → att I t ≠ x')) (fun _ u14 _ => I.length - (intOf u14).toNat)
              case atStart => exact ⟨0, by omega, rfl, rfl, hid ⟨Fr.refl _ _, fun t ht => by omega⟩⟩
              case round =>
                obtain ⟨j, hj, rfl, rfl, HJ⟩ := hrel
                by_cases hjn : j < I.length
                · have hlt : (j : Int) < (I.length : Int) := by omega
                  obtain ⟨gi, ci, hgi, _, _⟩ := HT5.out.1.o.head (by omega)
                  cases hgi
                  have hoI := HT5.out.1.o.still HJ.out.1
                  obtain ⟨c0, c1, c2, c3, c4, c5, c6, c7, _⟩ := owE hoI (i := j) hjn
                  obtain ⟨d0, d1, d2, d3, d4, d5, d6, d7, _⟩ := (HT5.out.2.2.still HJ.out.1).cells
                  have k0 := Cl.cell c0
                  have k1 := Cl.cell c1
                  have k2 := Cl.cell c2
                  have k3 := Cl.cell c3
                  have k4 := Cl.cell c4
                  have k5 := Cl.cell c5
                  have k6 := Cl.cell c6
                  have k7 := Cl.cell c7
                  have l0 := Cl.cell d0
                  have l1 := Cl.cell d1
                  have l2 := Cl.cell d2
                  have l3 := Cl.cell d3
                  have l4 := Cl.cell d4
                  have l5 := Cl.cell d5
                  have l6 := Cl.cell d6
                  have l7 := Cl.cell d7
                  have HQE := hid (fun h : att I j ≠ x' => eqE_ne h)
                  have HNX := hid (fun (h : att I j ≠ x') t (ht : t < j + 1) => show att I t ≠ x' from if e : t = j then (by rw [e]; exact h) else HJ.out.2 t (by omega))
                  obtain ⟨y, ey⟩ : ∃ y, att I j = y := ⟨_, rfl⟩
                  rw [ey] at k0 k1 k2 k3 k4 k5 k6 k7 HQE HNX
                  clear c0 c1 c2 c3 c4 c5 c6 c7 d0 d1 d2 d3 d4 d5 d6 d7 hoI ey
                  have hne := Aft.here wr
                  have hg := fun a b xs ys w => guard_ev .eql a b xs ys w
                  by_cases hy : y = x'
                  · subst hy
                    have hq := fun w => eql_ev_t y w
                    go_upto_region 29 with fail
                    refine region_all (by kernel_rfl) (by kernel_rfl) ?_
                    repeat (go_big_quiet_step (rfl))
                    refine wpQuiet_nil ?_
                    intro w6 h6
                    have HT6 : Hid (Two w w6 p v2 M2 (.slice (some ⟨gi, 0, none⟩) I.length cap5) I ∧ Eb w6 gl y ∧ (0 < k + 1 → ∀ z ∈ M2, kc y z < 0) ∧ (∀ z ∈ M2, z ∈ I) ∧ v2.ownBlock ≠ some gl) := hid ⟨HT5.out.1.still (HJ.out.1.trans h6), HT5.out.2.1.still (HJ.out.1.trans h6), fun _ => HNE.out.1, HNE.out.2.1, HNE.out.2.2⟩
                    have e9 : ((I.length - k : Nat) : Int) - 1 = ((I.length - (k + 1) : Nat) : Int) := by omega
                    clear h6 hne k0 k1 k2 k3 k4 k5 k6 k7 l0 l1 l2 l3 l4 l5 l6 l7 hg hq HJ HT5 HQE HNX HNE
                    go_wp2_with fail
                    (try simp only [Exit.inBlock, Exit.then])
                    go_wp2_with fail
                    go_roundw
                    case rel => exact ⟨k + 1, v2, M2, y, by omega, by go_num, rfl, by omega, HT6⟩
                    case measure => simp [intOf]; omega
                  · have hq := fun w => eql_ev y x' w
                    have hqf := HQE.out hy
                    rw [hqf] at hq
                    have HN2 := hid (HNX.out hy)
                    clear hqf HQE HNX hy
                    go_upto_region 29 with fail
                    refine region_all (by kernel_rfl) (by kernel_rfl) ?_
                    repeat (go_big_quiet_step (rfl))
                    refine wpQuiet_nil ?_
                    intro w6 h6
                    have HJ6 : Hid (Still W5 w6 ∧ ∀ t, t < j + 1 → att I t ≠ x') := hid ⟨HJ.out.1.trans h6, HN2.out⟩
                    clear h6 hne k0 k1 k2 k3 k4 k5 k6 k7 l0 l1 l2 l3 l4 l5 l6 l7 hg hq HJ HN2
                    go_wp2_with fail
                    go_roundw
                    case rel => exact ⟨j + 1, by omega, by go_num, rfl, HJ6⟩
                    case measure => simp [intOf]; omega
                · exfalso
                  obtain ⟨t, ht, e⟩ := List.getElem_of_mem HIN.out
                  exact HJ.out.2 t (by omega) (by unfold att; rw [List.getD_eq_getElem?_getD, List.getElem?_eq_getElem ht, e]; rfl)
            · have hkp : (0 : Int) < (k : Int) := by omega
              have hKC := HLT.out (by omega)
              have HC := hid (rord_any x x' w4)
              obtain ⟨r, er⟩ : ∃ r, kc x x' = r := ⟨_, rfl⟩
              rw [er] at hKC HC
              clear er
              have hr1 : ¬ (0 : Int) ≤ r := by omega
              obtain ⟨d0, d1, d2, d3, d4, d5, d6, d7, df⟩ := HT4.out.2.1.cells
              obtain ⟨c0, c1, c2, c3, c4, c5, c6, c7, _⟩ := HT4.out.2.2.cells
              go_wp2_with fail
              refine HC.out.mono ?_
              rintro e w41 ⟨he, h41⟩
              rw [he]
              have HT41 : Hid (Two w w41 p v2 M2 (.slice ao5 I.length cap5) I ∧ Eb w41 gl x ∧ Eb w41 ge x') := hid ⟨HT4.out.1.still h41, HT4.out.2.1.still h41, HT4.out.2.2.still h41⟩
              clear ew4 ege d0 d1 d2 d3 d4 d5 d6 d7 df c0 c1 c2 c3 c4 c5 c6 c7 HT4 HC he h41
              have HT4 := HT41
              clear HT41
              go_upto_region 25 with fail
              have hxg := HT4.out.2.1
              have HX5 := hid (hxg.put x')
              obtain ⟨d0, d1, d2, d3, d4, d5, d6, d7, df⟩ := hxg.cells
              obtain ⟨c0, c1, c2, c3, c4, c5, c6, c7, _⟩ := HT4.out.2.2.cells
              obtain ⟨W5, eW5⟩ : ∃ W, setE w41 gl x' = W := ⟨_, rfl⟩
              have f5 : Fr (fun k => k = gl) w41 W5 := by rw [← eW5]; exact setE_fr (Fr.refl _ w41) gl x' (.inl rfl)
              have HT5 : Hid (Two w W5 p v2 M2 (.slice ao5 I.length cap5) I ∧ Eb W5 gl x' ∧ Eb W5 ge x') := hid ⟨HT4.out.1.set f5 HGL.out.1 HNE.out.2.2 HGL.out.2.1 HGL.out.2.2.1, by rw [← eW5]; exact HX5.out, f5.kept HT4.out.2.2 HGE.out⟩
              clear hxg HX5 f5
              go_wp2_with fail
              clear eW5 d0 d1 d2 d3 d4 d5 d6 d7 df c0 c1 c2 c3 c4 c5 c6 c7 HT4
              go_loopw [9, 14] (fun u9 u14 wi => ∃ j : Nat, j ≤ I.length ∧ u14 = .int .i64 (j : Int) ∧ u9 = .int .i64 ((I.length - k : Nat) : Int) ∧ Hid (Still W5 wi ∧ ∀ t, t < j → att I t ≠ x')) (fun _ u14 _ => I.length - (intOf u14).toNat)
              case atStart => exact ⟨0, by omega, rfl, rfl, hid ⟨Fr.refl _ _, fun t ht => by omega⟩⟩
              case round =>
                obtain ⟨j, hj, rfl, rfl, HJ⟩ := hrel
                by_cases hjn : j < I.length
                · have hlt : (j : Int) < (I.length : Int) := by omega
                  obtain ⟨gi, ci, hgi, _, _⟩ := HT5.out.1.o.head (by omega)
                  cases hgi
                  have hoI := HT5.out.1.o.still HJ.out.1
                  obtain ⟨c0, c1, c2, c3, c4, c5, c6, c7, _⟩ := owE hoI (i := j) hjn
                  obtain ⟨d0, d1, d2, d3, d4, d5, d6, d7, _⟩ := (HT5.out.2.2.still HJ.out.1).cells
                  have k0 := Cl.cell c0
                  have k1 := Cl.cell c1
                  have k2 := Cl.cell c2
                  have k3 := Cl.cell c3
                  have k4 := Cl.cell c4
                  have k5 := Cl.cell c5
                  have k6 := Cl.cell c6
                  have k7 := Cl.cell c7
                  have l0 := Cl.cell d0
                  have l1 := Cl.cell d1
                  have l2 := Cl.cell d2
                  have l3 := Cl.cell d3
                  have l4 := Cl.cell d4
                  have l5 := Cl.cell d5
                  have l6 := Cl.cell d6
                  have l7 := Cl.cell d7
                  have HQE := hid (fun h : att I j ≠ x' => eqE_ne h)
                  have HNX := hid (fun (h : att I j ≠ x') t (ht : t < j + 1) => show att I t ≠ x' from if e : t = j then (by rw [e]; exact h) else HJ.out.2 t (by omega))
                  obtain ⟨y, ey⟩ : ∃ y, att I j = y := ⟨_, rfl⟩
                  rw [ey] at k0 k1 k2 k3 k4 k5 k6 k7 HQE HNX
                  clear c0 c1 c2 c3 c4 c5 c6 c7 d0 d1 d2 d3 d4 d5 d6 d7 hoI ey
                  have hne := Aft.here wr
                  have hg := fun a b xs ys w => guard_ev .eql a b xs ys w
                  by_cases hy : y = x'
                  · subst hy
                    have hq := fun w => eql_ev_t y w
                    go_upto_region 29 with fail
                    refine region_all (by kernel_rfl) (by kernel_rfl) ?_
                    repeat (go_big_quiet_step (rfl))
                    refine wpQuiet_nil ?_
                    intro w6 h6
                    have HT6 : Hid (Two w w6 p v2 M2 (.slice (some ⟨gi, 0, none⟩) I.length cap5) I ∧ Eb w6 gl y ∧ (0 < k + 1 → ∀ z ∈ M2, kc y z < 0) ∧ (∀ z ∈ M2, z ∈ I) ∧ v2.ownBlock ≠ some gl) := hid ⟨HT5.out.1.still (HJ.out.1.trans h6), HT5.out.2.1.still (HJ.out.1.trans h6), fun _ => HNE.out.1, HNE.out.2.1, HNE.out.2.2⟩
                    have e9 : ((I.length - k : Nat) : Int) - 1 = ((I.length - (k + 1) : Nat) : Int) := by omega
                    clear h6 hne k0 k1 k2 k3 k4 k5 k6 k7 l0 l1 l2 l3 l4 l5 l6 l7 hg hq HJ HT5 HQE HNX HNE
                    go_wp2_with fail
                    (try simp only [Exit.inBlock, Exit.then])
                    go_wp2_with fail
                    go_roundw
                    case rel => exact ⟨k + 1, v2, M2, y, by omega, by go_num, rfl, by omega, HT6⟩
                    case measure => simp [intOf]; omega
                  · have hq := fun w => eql_ev y x' w
                    have hqf := HQE.out hy
                    rw [hqf] at hq
                    have HN2 := hid (HNX.out hy)
                    clear hqf HQE HNX hy
                    go_upto_region 29 with fail
                    refine region_all (by kernel_rfl) (by kernel_rfl) ?_
                    repeat (go_big_quiet_step (rfl))
                    refine wpQuiet_nil ?_
                    intro w6 h6
                    have HJ6 : Hid (Still W5 w6 ∧ ∀ t, t < j + 1 → att I t ≠ x') := hid ⟨HJ.out.1.trans h6, HN2.out⟩
                    clear h6 hne k0 k1 k2 k3 k4 k5 k6 k7 l0 l1 l2 l3 l4 l5 l6 l7 hg hq HJ HN2
                    go_wp2_with fail
                    go_roundw
                    case rel => exact ⟨j + 1, by omega, by go_num, rfl, HJ6⟩
                    case measure => simp [intOf]; omega
                · exfalso
                  obtain ⟨t, ht, e⟩ := List.getElem_of_mem HIN.out
                  exact HJ.out.2 t (by omega) (by unfold att; rw [List.getD_eq_getElem?_getD, List.getElem?_eq_getElem ht, e]; rfl)
          · have hge : ¬ (k : Int) < (I.length : Int) := by omega
            obtain rfl : M1 = [] := List.eq_nil_of_length_eq_zero (by omega)
            have HC := hid (qPop_nil w.heap.size p v1 wr HK.out.1.q)
            have e9 : ((I.length - k : Nat) : Int) = 0 := by omega
            rw [e9]
            have HSk := hid HK.out.1.s
            clear HK
            go_wp2_with fail
            refine HC.out.mono ?_
            rintro e w3 ⟨he, h3⟩
            rw [he]
            have HS3 := hid ((HSk.out.trans h3).trans (Still.alloc w3 (.cells (ecs zE) 38)))
            clear he h3 HC HSk
            go_wp2_with fail
            go_ret
            exact ⟨rfl, HS3.out⟩
end Go.Proofs.Ytgpmjlibanoapaa
