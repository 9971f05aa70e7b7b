/- The law's does: Len, Peek, Pop. -/
import Derived.Test.YtgpmjlibanoapaaQvj
namespace Go.Proofs.Ytgpmjlibanoapaa
open Go.RowKit
set_option maxRecDepth 100000

theorem srt_least {S : List En} (h : Srt S) : ∀ y ∈ S, le (att S 0) y := by
  intro y hy
  obtain ⟨t, ht, rfl⟩ := att_of_mem hy
  by_cases h0 : t = 0
  · rw [h0]; exact le_refl' _
  · exact le_of_lt (srt_at h 0 t (by omega) ht)
set_option maxHeartbeats 4000000 in
theorem does_len (B : Nat) (P : Pd) (o : Oq) (ho : -9223372036854775808 ≤ o.k ∧ o.k ≤ 9223372036854775807) (hk : pk o.k 8 = 5 ∨ pk o.k 8 = 6 ∨ pk o.k 8 = 7) (w : World) (hP : Ok B w P) : Calls Try.prog 12 #[.agg (pvs P), .agg (oqs o)] w fun e w' => e = .returned (.bool true) ∧ ∃ P', Eff B w w' P P' := by
  rcases hk with hk | hk | hk
  · have hk8 := hk
    have A0 := Still.alloc w (.cells (pvs P) 31)
    have A1 := Still.alloc (w.alloc (.cells (pvs P) 31)) (.cells (oqs o) 40)
    obtain ⟨W, eW⟩ : ∃ W, (w.alloc (.cells (pvs P) 31)).alloc (.cells (oqs o) 40) = W := ⟨_, rfl⟩
    obtain ⟨b2, eb2⟩ : ∃ g, w.heap.size = g := ⟨_, rfl⟩
    have HS0 : Hid (Still w W) := hid (by rw [← eW]; exact A0.trans A1)
    have HBx : Hid (Bx W b2 (b2 + 1) P o) := hid (by
      rw [← eW, ← eb2]
      refine ⟨A1.kept_still (heap_alloc_new w _), ?_⟩
      have := heap_alloc_new (w.alloc (.cells (pvs P) 31)) (.cells (oqs o) 40)
      rw [size_alloc] at this
      exact this)
    have HK0 := hid (hP.still HS0.out)
    have HWl : Hid (∀ k, Wt P k → k < b2) := hid (fun k hk => by rw [← eb2]; exact (hP.wlt k hk).2)
    have HBl : Hid (B ≤ w.heap.size) := hid (by have := (hP.wlt _ (.inl rfl)); omega)
    have HP := hid hP
    obtain ⟨c20, c21, c30, c32, c33, c34, c35, c36, c37, c38, c39, c310⟩ := HBx.out.cells
    have HPk := hid (fun w => pick_any o.k 8 ho (by omega) (by omega) w)
    rw [hk8] at HPk
    have HEb := hid eb2
    clear A0 A1 hP hk8
    go_enter Try.func12, Try.ntmps12
    go_wp2_with fail
    refine (HPk.out _).mono ?_
    rintro e w1 ⟨he, hw⟩
    rw [he, hw]
    clear he hw w1 HPk
    have HC := hid (qLen_any B P.p P.v P.M W HK0.out.q)
    go_wp2_with fail
    refine HC.out.mono ?_
    rintro e w2 ⟨he, hw⟩
    rw [he, hw]
    clear he hw w2 HC
    have c0 := HK0.out.y.cell.1
    have hll : P.S.length = P.M.length := HP.out.pm.length_eq.symm
    rw [hll] at c0
    go_wp2_with fail
    go_ret
    exact ⟨by simp, P, Eff.same HP.out HS0.out⟩
  · have hk8 := hk
    have A0 := Still.alloc w (.cells (pvs P) 31)
    have A1 := Still.alloc (w.alloc (.cells (pvs P) 31)) (.cells (oqs o) 40)
    obtain ⟨W, eW⟩ : ∃ W, (w.alloc (.cells (pvs P) 31)).alloc (.cells (oqs o) 40) = W := ⟨_, rfl⟩
    obtain ⟨b2, eb2⟩ : ∃ g, w.heap.size = g := ⟨_, rfl⟩
    have HS0 : Hid (Still w W) := hid (by rw [← eW]; exact A0.trans A1)
    have HBx : Hid (Bx W b2 (b2 + 1) P o) := hid (by
      rw [← eW, ← eb2]
      refine ⟨A1.kept_still (heap_alloc_new w _), ?_⟩
      have := heap_alloc_new (w.alloc (.cells (pvs P) 31)) (.cells (oqs o) 40)
      rw [size_alloc] at this
      exact this)
    have HK0 := hid (hP.still HS0.out)
    have HWl : Hid (∀ k, Wt P k → k < b2) := hid (fun k hk => by rw [← eb2]; exact (hP.wlt k hk).2)
    have HBl : Hid (B ≤ w.heap.size) := hid (by have := (hP.wlt _ (.inl rfl)); omega)
    have HP := hid hP
    obtain ⟨c20, c21, c30, c32, c33, c34, c35, c36, c37, c38, c39, c310⟩ := HBx.out.cells
    have HPk := hid (fun w => pick_any o.k 8 ho (by omega) (by omega) w)
    rw [hk8] at HPk
    have HEb := hid eb2
    clear A0 A1 hP hk8
    go_enter Try.func12, Try.ntmps12
    go_wp2_with fail
    refine (HPk.out _).mono ?_
    rintro e w1 ⟨he, hw⟩
    rw [he, hw]
    clear he hw w1 HPk
    have HC := hid (qLen_any B P.p P.v P.M W HK0.out.q)
    go_wp2_with fail
    refine HC.out.mono ?_
    rintro e w2 ⟨he, hw⟩
    rw [he, hw]
    clear he hw w2 HC
    have c0 := HK0.out.y.cell.1
    have hll : P.S.length = P.M.length := HP.out.pm.length_eq.symm
    rw [hll] at c0
    go_wp2_with fail
    go_ret
    exact ⟨by simp, P, Eff.same HP.out HS0.out⟩
  · have hk8 := hk
    have A0 := Still.alloc w (.cells (pvs P) 31)
    have A1 := Still.alloc (w.alloc (.cells (pvs P) 31)) (.cells (oqs o) 40)
    obtain ⟨W, eW⟩ : ∃ W, (w.alloc (.cells (pvs P) 31)).alloc (.cells (oqs o) 40) = W := ⟨_, rfl⟩
    obtain ⟨b2, eb2⟩ : ∃ g, w.heap.size = g := ⟨_, rfl⟩
    have HS0 : Hid (Still w W) := hid (by rw [← eW]; exact A0.trans A1)
    have HBx : Hid (Bx W b2 (b2 + 1) P o) := hid (by
      rw [← eW, ← eb2]
      refine ⟨A1.kept_still (heap_alloc_new w _), ?_⟩
      have := heap_alloc_new (w.alloc (.cells (pvs P) 31)) (.cells (oqs o) 40)
      rw [size_alloc] at this
      exact this)
    have HK0 := hid (hP.still HS0.out)
    have HWl : Hid (∀ k, Wt P k → k < b2) := hid (fun k hk => by rw [← eb2]; exact (hP.wlt k hk).2)
    have HBl : Hid (B ≤ w.heap.size) := hid (by have := (hP.wlt _ (.inl rfl)); omega)
    have HP := hid hP
    obtain ⟨c20, c21, c30, c32, c33, c34, c35, c36, c37, c38, c39, c310⟩ := HBx.out.cells
    have HPk := hid (fun w => pick_any o.k 8 ho (by omega) (by omega) w)
    rw [hk8] at HPk
    have HEb := hid eb2
    clear A0 A1 hP hk8
    go_enter Try.func12, Try.ntmps12
    go_wp2_with fail
    refine (HPk.out _).mono ?_
    rintro e w1 ⟨he, hw⟩
    rw [he, hw]
    clear he hw w1 HPk
    have HC := hid (qLen_any B P.p P.v P.M W HK0.out.q)
    go_wp2_with fail
    refine HC.out.mono ?_
    rintro e w2 ⟨he, hw⟩
    rw [he, hw]
    clear he hw w2 HC
    have c0 := HK0.out.y.cell.1
    have hll : P.S.length = P.M.length := HP.out.pm.length_eq.symm
    rw [hll] at c0
    go_wp2_with fail
    go_ret
    exact ⟨by simp, P, Eff.same HP.out HS0.out⟩
set_option maxHeartbeats 4000000 in
theorem does_peek (B : Nat) (P : Pd) (o : Oq) (ho : -9223372036854775808 ≤ o.k ∧ o.k ≤ 9223372036854775807) (hk : pk o.k 8 = 1) (w : World) (hP : Ok B w P) : Calls Try.prog 12 #[.agg (pvs P), .agg (oqs o)] w fun e w' => e = .returned (.bool true) ∧ ∃ P', Eff B w w' P P' := by
  have hk8 := hk
  have A0 := Still.alloc w (.cells (pvs P) 31)
  have A1 := Still.alloc (w.alloc (.cells (pvs P) 31)) (.cells (oqs o) 40)
  obtain ⟨W, eW⟩ : ∃ W, (w.alloc (.cells (pvs P) 31)).alloc (.cells (oqs o) 40) = W := ⟨_, rfl⟩
  obtain ⟨b2, eb2⟩ : ∃ g, w.heap.size = g := ⟨_, rfl⟩
  have HS0 : Hid (Still w W) := hid (by rw [← eW]; exact A0.trans A1)
  have HBx : Hid (Bx W b2 (b2 + 1) P o) := hid (by
    rw [← eW, ← eb2]
    refine ⟨A1.kept_still (heap_alloc_new w _), ?_⟩
    have := heap_alloc_new (w.alloc (.cells (pvs P) 31)) (.cells (oqs o) 40)
    rw [size_alloc] at this
    exact this)
  have HK0 := hid (hP.still HS0.out)
  have HWl : Hid (∀ k, Wt P k → k < b2) := hid (fun k hk => by rw [← eb2]; exact (hP.wlt k hk).2)
  have HBl : Hid (B ≤ w.heap.size) := hid (by have := (hP.wlt _ (.inl rfl)); omega)
  have HP := hid hP
  obtain ⟨c20, c21, c30, c32, c33, c34, c35, c36, c37, c38, c39, c310⟩ := HBx.out.cells
  have HPk := hid (fun w => pick_any o.k 8 ho (by omega) (by omega) w)
  rw [hk8] at HPk
  have HEb := hid eb2
  clear A0 A1 hP hk8
  go_enter Try.func12, Try.ntmps12
  go_wp2_with fail
  refine (HPk.out _).mono ?_
  rintro e w1 ⟨he, hw⟩
  rw [he, hw]
  clear he hw w1 HPk
  by_cases h0 : P.M = []
  · have hS0 : P.S = [] := by have := HP.out.pm; rw [h0] at this; exact this.nil_eq.symm
    have HC := hid (qPeek_nil B P.p P.v W (by have := HK0.out.q; rw [h0] at this; exact this))
    have c0 := HK0.out.y.cell.1
    rw [hS0] at c0
    go_wp2_with fail
    refine HC.out.mono ?_
    rintro e w2 ⟨he, h2⟩
    rw [he]
    have A3 := Still.alloc w2 (.cells (ecs zE) 38)
    obtain ⟨W3, eW3⟩ : ∃ X, newE w2 zE = X := ⟨_, rfl⟩
    obtain ⟨g3, eg3⟩ : ∃ g, w2.heap.size = g := ⟨_, rfl⟩
    have HS3 : Hid (Still w W3) := hid (by rw [← eW3]; exact (HS0.out.trans h2).trans A3)
    have HB3 : Hid (Bx W3 b2 (b2 + 1) P o) := hid (by rw [← eW3]; exact HBx.out.keep (h2.trans A3) (fun e => e) (fun e => e))
    obtain ⟨d0, d1, d2, d3, d4, d5, d6, d7, _⟩ := (show Eb W3 g3 zE by rw [← eW3, ← eg3]; exact newE_eb w2 zE).cells
    have c0' : W3.cell? ⟨P.yb, 0, none⟩ = some (.slice P.ao 0 P.cap) := by rw [← eW3]; have := (HK0.out.y.still (h2.trans A3)).cell.1; rw [hS0] at this; exact this
    obtain ⟨c20', c21', _, _, _, _, _, _, _, _, _, _⟩ := HB3.out.cells
    have hq := fun w => eql_ev_t zE w
    have hg := fun a b xs ys w => guard_ev .eql a b xs ys w
    simp only [ev, ecs, zE] at hq
    clear he h2 A3 HC c0 c20 c21 c30 c32 c33 c34 c35 c36 c37 c38 c39 c310
    go_wp2_with fail
    go_ret
    exact ⟨by simp, P, Eff.same HP.out HS3.out⟩
  · have h1 : 0 < P.M.length := List.length_pos_iff.2 h0
    have h1S : 0 < P.S.length := by rw [← HP.out.pm.length_eq]; exact h1
    have hx0 : att P.M 0 = att P.S 0 := qu_is HP.out.m HP.out.pm (qu_mem0 h1S) (srt_least HP.out.sr)
    have HC := hid (qPeek_some P.M B P.p P.v h1 W HK0.out.q)
    rw [hx0] at HC
    have c0 := HK0.out.y.cell.1
    have h1' : ((P.S.length : Int) == 0) = false := beq_eq_false_iff_ne.2 (by omega)
    have h1'' : (0 : Int) < (P.S.length : Int) := by omega
    obtain ⟨x, ex⟩ : ∃ x, att P.S 0 = x := ⟨_, rfl⟩
    rw [ex] at HC
    have HEx := hid ex
    go_wp2_with fail
    refine HC.out.mono ?_
    rintro e w2 ⟨he, h2⟩
    rw [he]
    have A3 := Still.alloc w2 (.cells (ecs x) 38)
    obtain ⟨W3, eW3⟩ : ∃ X, newE w2 x = X := ⟨_, rfl⟩
    obtain ⟨g3, eg3⟩ : ∃ g, w2.heap.size = g := ⟨_, rfl⟩
    have HS3 : Hid (Still w W3) := hid (by rw [← eW3]; exact (HS0.out.trans h2).trans A3)
    have HB3 : Hid (Bx W3 b2 (b2 + 1) P o) := hid (by rw [← eW3]; exact HBx.out.keep (h2.trans A3) (fun e => e) (fun e => e))
    have HX3 : Hid (Eb W3 g3 x) := hid (by rw [← eW3, ← eg3]; exact newE_eb w2 x)
    have HY3 : Hid (Yk W3 P.yb P.ao P.cap P.S) := hid (by rw [← eW3]; exact HK0.out.y.still (h2.trans A3))
    have c0' := HY3.out.cell.1
    obtain ⟨c20', c21', _, _, _, _, _, _, _, _, _, _⟩ := HB3.out.cells
    clear he h2 A3 HC c0 c20 c21 c30 c32 c33 c34 c35 c36 c37 c38 c39 c310
    go_upto_region 10 with fail
    clear eW3 eg3 c0' c20' c21'
    obtain ⟨Bk, ok, ea⟩ := HY3.out.sr.rd.at h1S
    have hrd := HY3.out.sr.rd
    have q0 := Cl.cell HY3.out.cell.1
    rw [ea] at hrd q0
    obtain ⟨k0, k1, k2, k3, k4, k5, k6, k7⟩ := rdE hrd (i := 0) h1S
    rw [HEx.out] at k0 k1 k2 k3 k4 k5 k6 k7
    simp only [Nat.zero_mul, Nat.add_zero] at k0 k1 k2 k3 k4 k5 k6 k7
    obtain ⟨d0, d1, d2, d3, d4, d5, d6, d7, _⟩ := HX3.out.cells
    obtain ⟨c20, c21, _, _, _, _, _, _, _, _, _, _⟩ := HB3.out.cells
    have q1 := Cl.cell c20
    have q2 := Cl.cell c21
    have m0 := Cl.cell k0
    have m1 := Cl.cell k1
    have m2 := Cl.cell k2
    have m3 := Cl.cell k3
    have m4 := Cl.cell k4
    have m5 := Cl.cell k5
    have m6 := Cl.cell k6
    have m7 := Cl.cell k7
    have n0 := Cl.cell d0
    have n1 := Cl.cell d1
    have n2 := Cl.cell d2
    have n3 := Cl.cell d3
    have n4 := Cl.cell d4
    have n5 := Cl.cell d5
    have n6 := Cl.cell d6
    have n7 := Cl.cell d7
    have hne := Aft.here W3
    have hq := fun w => eql_ev_t x w
    have hg := fun a b xs ys w => guard_ev .eql a b xs ys w
    clear c20 c21 k0 k1 k2 k3 k4 k5 k6 k7 d0 d1 d2 d3 d4 d5 d6 d7 hrd
    refine region_all (by kernel_rfl) (by kernel_rfl) ?_
    repeat (go_big_quiet_step (rfl))
    refine wpQuiet_nil ?_
    intro w4 h4
    have HS4 := hid (HS3.out.trans h4)
    clear h4 hne hq hg q0 q1 q2 m0 m1 m2 m3 m4 m5 m6 m7 n0 n1 n2 n3 n4 n5 n6 n7
    go_wp2_with fail
    (try simp only [Exit.inBlock, Exit.then])
    go_ret
    exact ⟨rfl, P, Eff.same HP.out HS4.out⟩
set_option maxHeartbeats 4000000 in
theorem does_pop (B : Nat) (P : Pd) (o : Oq) (ho : -9223372036854775808 ≤ o.k ∧ o.k ≤ 9223372036854775807) (hk : pk o.k 8 = 2) (w : World) (hP : Ok B w P) : Calls Try.prog 12 #[.agg (pvs P), .agg (oqs o)] w fun e w' => e = .returned (.bool true) ∧ ∃ P', Eff B w w' P P' := by
  have hk8 := hk
  have A0 := Still.alloc w (.cells (pvs P) 31)
  have A1 := Still.alloc (w.alloc (.cells (pvs P) 31)) (.cells (oqs o) 40)
  obtain ⟨W, eW⟩ : ∃ W, (w.alloc (.cells (pvs P) 31)).alloc (.cells (oqs o) 40) = W := ⟨_, rfl⟩
  obtain ⟨b2, eb2⟩ : ∃ g, w.heap.size = g := ⟨_, rfl⟩
  have HS0 : Hid (Still w W) := hid (by rw [← eW]; exact A0.trans A1)
  have HBx : Hid (Bx W b2 (b2 + 1) P o) := hid (by
    rw [← eW, ← eb2]
    refine ⟨A1.kept_still (heap_alloc_new w _), ?_⟩
    have := heap_alloc_new (w.alloc (.cells (pvs P) 31)) (.cells (oqs o) 40)
    rw [size_alloc] at this
    exact this)
  have HK0 := hid (hP.still HS0.out)
  have HWl : Hid (∀ k, Wt P k → k < b2) := hid (fun k hk => by rw [← eb2]; exact (hP.wlt k hk).2)
  have HBl : Hid (B ≤ w.heap.size) := hid (by have := (hP.wlt _ (.inl rfl)); omega)
  have HP := hid hP
  obtain ⟨c20, c21, c30, c32, c33, c34, c35, c36, c37, c38, c39, c310⟩ := HBx.out.cells
  have HPk := hid (fun w => pick_any o.k 8 ho (by omega) (by omega) w)
  rw [hk8] at HPk
  have HEb := hid eb2
  clear A0 A1 hP hk8
  go_enter Try.func12, Try.ntmps12
  go_wp2_with fail
  refine (HPk.out _).mono ?_
  rintro e w1 ⟨he, hw⟩
  rw [he, hw]
  clear he hw w1 HPk
  have HC := hid (qPop_any P.M B P.p P.v HK0.out.m W HK0.out.q)
  go_wp2_with fail
  refine HC.out.mono ?_
  rintro e w2 ⟨x, b, v2, M2, he, hp2, hq2, hf2, hb2⟩
  rw [he]
  have A3 := Still.alloc w2 (.cells (ecs x) 38)
  obtain ⟨W3, eW3⟩ : ∃ X, newE w2 x = X := ⟨_, rfl⟩
  obtain ⟨g3, eg3⟩ : ∃ g, w2.heap.size = g := ⟨_, rfl⟩
  have HF3 : Hid (Fr (fun k => k = P.p ∨ P.v.ownBlock = some k) w W3) := hid (by rw [← eW3]; exact Fr.trans (Fr.trans (Still.to HS0.out) hf2 (fun _ _ e => e)) A3 (fun _ _ e => e.elim))
  have HQ3 : Hid (Qk W3 B P.p v2 M2) := hid (by rw [← eW3]; exact hq2.still A3)
  have HX3 : Hid (Eb W3 g3 x) := hid (by rw [← eW3, ← eg3]; exact newE_eb w2 x)
  have hB2 := HBx.out.keep hf2 (fun e => by have := HWl.out b2 (by rcases e with e | e; exact .inl e; exact .inr (.inl e)); omega) (fun e => by have := HWl.out (b2 + 1) (by rcases e with e | e; exact .inl e; exact .inr (.inl e)); omega)
  have HB3 : Hid (Bx W3 b2 (b2 + 1) P o) := hid (by rw [← eW3]; exact hB2.keep A3 (fun e => e) (fun e => e))
  have HY3 := hid (HP.out.yk1 HF3.out)
  have HOb : Hid (∀ k, v2.ownBlock = some k → P.v.ownBlock = some k ∨ w.heap.size ≤ k) := hid (fun k hk => .inl (by rw [← hb2]; exact hk))
  have HPp := hid hp2
  have hg3 : g3 < W3.heap.size := block_lt HX3.out
  have HYG : Hid (P.yb ≠ g3) := hid (fun e => by have := HWl.out P.yb (.inr (.inr rfl)); have := HEb.out; have := hf2.size; have := HS0.out.size; omega)
  clear he hp2 hq2 hf2 hb2 A3 HC hB2 c20 c21 c30 c32 c33 c34 c35 c36 c37 c38 c39 c310
  obtain ⟨c20, c21, _, _, _, _, _, _, _, _, _, _⟩ := HB3.out.cells
  rcases HPp.out.2 with ⟨h1, h2, h3, h4⟩ | ⟨h1, h2, h3, h4⟩
  · have hS0 : P.S = [] := by have := HP.out.pm; rw [h1] at this; exact this.nil_eq.symm
    have HC := hid (rPop_nil P.yb P.cap P.ao W3 (by have := HY3.out; rw [hS0] at this; exact this))
    subst h3 h4
    go_wp2_with fail
    refine HC.out.mono ?_
    rintro e w4 ⟨he, h4⟩
    rw [he]
    have A5 := Still.alloc w4 (.cells (ecs zE) 38)
    obtain ⟨W5, eW5⟩ : ∃ X, newE w4 zE = X := ⟨_, rfl⟩
    obtain ⟨g5, eg5⟩ : ∃ g, w4.heap.size = g := ⟨_, rfl⟩
    have hs5 : Still W3 W5 := by rw [← eW5]; exact h4.trans A5
    obtain ⟨d0, d1, d2, d3, d4, d5, d6, d7, _⟩ := (HX3.out.still hs5).cells
    obtain ⟨k0, k1, k2, k3, k4, k5, k6, k7, _⟩ := (show Eb W5 g5 zE by rw [← eW5, ← eg5]; exact newE_eb w4 zE).cells
    have HEf := hid (HP.out.both HF3.out HQ3.out HPp.out.1 HOb.out (Fr.refl (fun k => k = P.yb) W3) HY3.out (by rw [h2, hS0]) HP.out.sr (fun a ha h0 => .inl ⟨a, ha, h0, rfl⟩))
    have HE5 := hid (HEf.out.still hs5)
    have hq := fun w => eql_ev_t zE w
    have hg := fun a b xs ys w => guard_ev .eql a b xs ys w
    clear he h4 A5 HC hs5 HEf c20 c21 eW3 eg3
    go_wp2_with fail
    go_ret
    exact ⟨by simp, _, HE5.out⟩
  · obtain ⟨y, S2, eS⟩ : ∃ y S2, P.S = y :: S2 := by
      cases hS : P.S with
      | nil => have := HP.out.pm.length_eq; rw [hS] at this; simp at this; rw [this] at h1; simp at h1
      | cons y S2 => exact ⟨y, S2, rfl⟩
    have hxy : x = y := by
      rw [h3]
      refine qu_is HP.out.m HP.out.pm (x := y) (by rw [eS]; exact List.mem_cons_self ..) (fun z hz => ?_)
      have := srt_least HP.out.sr z hz
      rw [eS] at this
      exact this
    subst hxy h2
    have hyy : Yk W3 P.yb P.ao P.cap (x :: S2) := by rw [← eS]; exact HY3.out
    have hap : ∀ a, P.ao = some a → a.block ≠ P.yb := fun a ha => hyy.sr.ne hyy.bk ⟨_, _, _, rfl⟩ a ha (by simp)
    have HC := hid (rPop_some x S2 P.yb P.cap P.ao W3 hyy hap)
    have HPm2 : Hid (M2.Perm S2 ∧ Srt S2) := hid ⟨(h4.symm.trans (by rw [← eS]; exact HP.out.pm)).cons_inv, (List.pairwise_cons.1 (by have := HP.out.sr; rw [eS] at this; exact this)).2⟩
    have HRb : Hid (∀ a, P.ao = some a → Rb P a.block) := hid (fun a ha => ⟨a, ha, by rw [eS]; simp, rfl⟩)
    clear hyy hap h3
    go_wp2_with fail
    refine HC.out.mono ?_
    rintro e w4 ⟨he, hy4, hf4⟩
    rw [he]
    have HEf := hid (HP.out.both HF3.out HQ3.out HPp.out.1 HOb.out hf4 hy4 HPm2.out.1 HPm2.out.2 (fun a ha h0 => by
      obtain ⟨a0, e0, e1⟩ := cutE_block a ha
      rw [e1]
      exact .inl (HRb.out a0 e0)))
    have hx4 : Eb w4 g3 x := hf4.kept HX3.out (fun e => HYG.out e.symm)
    have A5 := Still.alloc w4 (.cells (ecs x) 38)
    obtain ⟨W5, eW5⟩ : ∃ X, newE w4 x = X := ⟨_, rfl⟩
    obtain ⟨g5, eg5⟩ : ∃ g, w4.heap.size = g := ⟨_, rfl⟩
    have hs5 : Still w4 W5 := by rw [← eW5]; exact A5
    obtain ⟨d0, d1, d2, d3, d4, d5, d6, d7, _⟩ := (hx4.still hs5).cells
    obtain ⟨k0, k1, k2, k3, k4, k5, k6, k7, _⟩ := (show Eb W5 g5 x by rw [← eW5, ← eg5]; exact newE_eb w4 x).cells
    have HE5 := hid (HEf.out.still hs5)
    have hq := fun w => eql_ev_t x w
    have hg := fun a b xs ys w => guard_ev .eql a b xs ys w
    clear he hy4 hf4 A5 HC hs5 HEf c20 c21 eW3 eg3 hx4 h4 eS
    go_wp2_with fail
    go_ret
    exact ⟨by simp, _, HE5.out⟩
end Go.Proofs.Ytgpmjlibanoapaa
