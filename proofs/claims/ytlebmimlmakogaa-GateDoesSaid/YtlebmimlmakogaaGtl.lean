/- Stage 21, a call on a pair of gates. -/
import Derived.Test.YtlebmimlmakogaaGtk
import Derived.Deep.DeepCutAuto
namespace Go.Proofs.Ytlebmimlmakogaa
open Go.RowKit
set_option maxRecDepth 100000

/-- what a call has done -/
def DnG (B : Nat) (w w' : World) (P : PdG) : Prop := ∃ M, Pg B w' { P with L := M } ∧ Fr (fun k => k = P.g ∨ k = P.h) w w'
theorem DnG.same {B : Nat} {w w' : World} {P : PdG} (h : Pg B w P) (hs : Still w w') : DnG B w w' P := ⟨P.L, h.still hs, hs.to⟩
set_option maxHeartbeats 8000000 in
theorem does21_any (o : OqG) (P : PdG) (B : Nat) (hb : -9223372036854775808 ≤ o.k ∧ o.k ≤ 9223372036854775807) (w : World) (hP : Pg B w P) : Calls Try.prog 8 #[.pointer (some ⟨P.r, 0, none⟩), .agg (oqv o)] w fun e w' => e = .returned (.bool true) ∧ DnG B w w' P := by
  have HPk := hid (fun w => pick_any o.k 5 hb (by omega) (by omega) w)
  have A := Still.alloc w (.cells (oqv o) oqT)
  have HOb : Hid (OqbG (w.alloc (.cells (oqv o) oqT)) w.heap.size o) := hid (heap_alloc_new w _)
  have HP := hid (hP.still A)
  have HSA := hid A
  have HP0 := hid hP
  obtain ⟨W, eW⟩ : ∃ W, w.alloc (.cells (oqv o) oqT) = W := ⟨_, rfl⟩
  rw [eW] at HOb HP HSA
  simp only [oqv] at eW
  obtain ⟨d0, d1, d2, d3, d4, d5⟩ := HOb.out.cells
  obtain ⟨c0, c1⟩ := HP.out.cells
  obtain ⟨z, ez⟩ : ∃ z, pk o.k 5 = z := ⟨_, rfl⟩
  rw [ez] at HPk
  clear hP A ez hb
  by_cases z0 : z = 0
  · have t0 : (z == 0) = true := beq_iff_eq.2 z0
    clear z0
    obtain ⟨r, M, HX, HY⟩ := mark_both P.n P.s P.L o.s o.f
    have HX1 := hid (fun u (hu : Still W u) => HX u B P.p P.g (HP.out.x.still hu))
    have HYh := hid HY
    obtain ⟨p, ep⟩ : ∃ p, P.p = p := ⟨_, rfl⟩
    obtain ⟨q, eq⟩ : ∃ p, P.q = p := ⟨_, rfl⟩
    obtain ⟨rr, er⟩ : ∃ p, P.r = p := ⟨_, rfl⟩
    have HEp := hid ep
    have HEq := hid eq
    have HEr := hid er
    rw [ep] at c0 HX1
    rw [er] at c0 c1 ⊢
    rw [eq] at c1
    clear HX HY ep eq er
    go_enter Try.func8, Try.ntmps8
    go_wp2_with fail
    refine (HPk.out _).mono ?_
    rintro e w' ⟨he, hw⟩
    rw [he, hw]
    clear he hw w' HPk eW
    go_wp2_with fail
    have k2 := Cl.cell d2
    have k3 := Cl.cell d3
    have l0 := Cl.cell c0
    have hne := Aft.here W
    refine region_rest 8 (by kernel_rfl) (by kernel_rfl) ?_
    simp only [List.take_succ_cons, List.take_zero, List.drop_succ_cons, List.drop_zero]
    repeat (go_big_quiet_step (rfl))
    refine wpQuiet_nil ?_
    intro w3 h3
    have HD3 := hid (HX1.out w3 h3)
    have HW3 := hid h3
    clear h3 hne k2 k3 l0 HX1
    go_wp2_with fail
    refine HD3.out.mono ?_
    rintro e w4 ⟨he, hx4, hf4⟩
    rw [he]
    rw [← HEp.out] at hx4
    have HX4 := hid hx4
    have HF4 : Hid (Fr (fun k => k = P.g) W w4) := hid (Fr.trans HW3.out.to hf4 (fun k _ e => e))
    have hob4 : OqbG w4 w.heap.size o := HF4.out.kept HOb.out (fun e => by have := HP0.out.x.glt.2; omega)
    have hy4 : Gt dT w4 B P.q P.s P.h P.n P.L := HP.out.y.keep HF4.out (fun e => HP.out.gr.2.1 e) (fun e => HP.out.gh e.symm)
    have hc4 : w4.cell? ⟨P.r, 1, none⟩ = some (.pointer (some ⟨P.q, 0, none⟩)) := by rw [HF4.out.cell (block_lt HP.out.b) (fun e => HP.out.gr.2.2 e)]; exact HP.out.cells.2
    rw [HEr.out, HEq.out] at hc4
    have HY4 := hid (fun u (hu : Still w4 u) => HYh.out u B P.q P.h (hy4.still hu))
    rw [HEq.out] at HY4
    obtain ⟨_, _, f2, f3, _, _⟩ := hob4.cells
    clear he hx4 hf4 HD3 hob4 hy4 d0 d1 d2 d3 d4 d5 c0 c1 HW3 HYh
    go_wp2_with fail
    have k2 := Cl.cell f2
    have k3 := Cl.cell f3
    have l0 := Cl.cell hc4
    have hne := Aft.here w4
    refine region_rest 8 (by kernel_rfl) (by kernel_rfl) ?_
    simp only [List.take_succ_cons, List.take_zero, List.drop_succ_cons, List.drop_zero]
    repeat (go_big_quiet_step (rfl))
    refine wpQuiet_nil ?_
    intro w5 h5
    have HD5 := hid (HY4.out w5 h5)
    have HW5 := hid h5
    clear h5 hne k2 k3 l0 HY4 f2 f3 hc4
    go_wp2_with fail
    refine HD5.out.mono ?_
    rintro e w6 ⟨he, hy6, hf6⟩
    rw [he]
    rw [← HEq.out] at hy6
    have HFin : Hid (DnG B w w6 P) := hid ⟨M, HP.out.both (HX4.out.still HW5.out) (Fr.trans HF4.out HW5.out.to (fun k _ e => e)) hy6 hf6, Fr.trans (Fr.trans (Fr.trans HSA.out.to HF4.out (fun k _ e => .inl e)) HW5.out.to (fun k _ e => e)) hf6 (fun k _ e => .inr e)⟩
    clear he hy6 hf6 HD5
    go_wp2_with fail
    go_ret
    exact ⟨rfl, HFin.out⟩
  · have t0 : (z == 0) = false := beq_eq_false_iff_ne.2 z0
    clear z0
    by_cases z1 : z = 1
    · have t1 : (z == 1) = true := beq_iff_eq.2 z1
      have HM := hid (gmarks_any HP.out.x)
      have hn6 := HP.out.x.l6
      clear z1
      obtain ⟨p, ep⟩ : ∃ p, P.p = p := ⟨_, rfl⟩
      obtain ⟨q, eq⟩ : ∃ p, P.q = p := ⟨_, rfl⟩
      obtain ⟨rr, er⟩ : ∃ p, P.r = p := ⟨_, rfl⟩
      have HEp := hid ep
      have HEq := hid eq
      have HEr := hid er
      rw [ep] at c0 HM
      rw [er] at c0 c1 ⊢
      rw [eq] at c1
      clear ep eq er
      go_enter Try.func8, Try.ntmps8
      go_wp2_with fail
      refine (HPk.out _).mono ?_
      rintro e w' ⟨he, hw⟩
      rw [he, hw]
      clear he hw w' HPk eW
      go_wp2_with fail
      refine HM.out.mono ?_
      rintro e w3 ⟨g3, k3, he, ho3, hs3⟩
      rw [he]
      have hP3 := HP.out.still hs3
      have c1 := hP3.cells.2
      have c2 := hP3.y.cells.2
      rw [HEr.out, HEq.out] at c1
      rw [HEq.out] at c2
      have HRa := hid (OwG.rd (L := P.L) (M := []) (by rw [List.append_nil]; exact ho3) (by rw [HP.out.x.len]; omega))
      rw [HP.out.x.len] at HRa
      have HSm := hid (dsame_any (some ⟨g3, 0, none⟩) (some ⟨P.h, 0, none⟩) P.n k3 P.n P.L (by omega) w3 HRa.out hP3.y.rd)
      have HO3 := hid ho3
      have HS3 := hid hs3
      have HLn := hid HP.out.x.len
      obtain ⟨n, en⟩ : ∃ n, P.n = n := ⟨_, rfl⟩
      have HEn := hid en
      rw [en] at c2 HSm HO3 HLn hn6 ⊢
      obtain ⟨hh, ehh⟩ : ∃ n, P.h = n := ⟨_, rfl⟩
      rw [ehh] at c2 HSm
      clear he ho3 hs3 hP3 HM HRa en ehh d0 d1 d2 d3 d4 d5 c0
      go_wp2_with fail
      refine HSm.out.mono ?_
      rintro e w4 ⟨he, hs4⟩
      rw [he]
      have HO4 := hid (HO3.out.still hs4)
      have HS4 := hid (HS3.out.trans hs4)
      clear he hs4 HSm c1 c2 HO3 HS3
      go_wp2_with fail
      go_loopw [9] (fun u wr => ∃ i : Nat, i ≤ n ∧ u = .int .i64 (i : Int) ∧ Hid ((∃ M, OwG KJ i64T wr W.heap.size (.slice (some ⟨g3, 0, none⟩) n k3) M ∧ M.length = n) ∧ Still W wr)) (fun u _ => n - (intOf u).toNat)
      case atStart => exact ⟨0, by omega, rfl, hid ⟨⟨_, HO4.out, HLn.out⟩, HS4.out⟩⟩
      case round =>
        obtain ⟨i, hi, rfl, HI⟩ := hrel
        clear HO4 HS4
        by_cases hin : i < n
        · have hlt : (i : Int) < (n : Int) := by omega
          have hi0 : (0 : Int) ≤ (i : Int) := by omega
          obtain ⟨⟨M, hM, hMl⟩, hSw⟩ := HI.out
          have cx := owJ hM (i := i) (by omega)
          have cf := hM.frozen i
          have hw1 : IntKind.i64.wrap (-(i : Int)) = -(i : Int) := by rw [IntKind.wrap_i64] <;> omega
          have HI2 : Hid ((∃ M, OwG KJ i64T (wr.setCell ⟨g3, i, none⟩ (.int .i64 (-(i : Int)))) W.heap.size (.slice (some ⟨g3, 0, none⟩) n k3) M ∧ M.length = n) ∧ Still W (wr.setCell ⟨g3, i, none⟩ (.int .i64 (-(i : Int))))) := hid ⟨⟨_, hM.putJ (by omega) _, by rw [List.length_set]; exact hMl⟩, hSw.setCell _ _ (.inr (hM.block rfl).1)⟩
          clear HI hM hMl hSw
          go_wp2_with fail
          go_roundw
          case rel => exact ⟨i + 1, by omega, by go_num, HI2⟩
          case measure => simp [intOf]; omega
        · have hge : ¬ (i : Int) < (n : Int) := by omega
          obtain ⟨⟨M, hM, hMl⟩, hSw⟩ := HI.out
          have A5 := Still.alloc wr (.cells #[.int .i64 5] i64T)
          have HM5 := hid (hM.still A5)
          have HX5 : Hid ((wr.alloc (.cells #[.int .i64 5] i64T)).heap[wr.heap.size]? = some (.cells (KJ.f 5).toArray i64T (0, 0))) := hid (heap_alloc_new wr _)
          have HL5 : Hid ((M.length + 1) * 8 ≤ 140737488355328 ∧ M.length ≤ 281474976710656) := hid (by omega)
          have HB5 : Hid (W.heap.size ≤ (wr.alloc (.cells #[.int .i64 5] i64T)).heap.size) := hid ((hSw.trans A5).size)
          have HS5 := hid (hSw.trans A5)
          have HMl := hid hMl
          clear HI hM hMl hSw A5
          go_wp2_with (
            at_builtin
            refine wpList_appZ KJ _ rfl _ _ _ rfl rfl 8 (.int .i64 0) rfl infoJ W.heap.size wr.heap.size (.slice (some ⟨g3, 0, none⟩) n k3) M 5 rfl rfl HM5.out HX5.out HL5.out.1 HL5.out.2 HB5.out ?_
            intro v' w' ho' hf' hb'
            have hS6 : Still W w' := Fr.trans HS5.out hf' (fun k hk e => by have := (HM5.out.block e).1; omega)
            have HP6 := hid (HP.out.still hS6)
            have HS6 := hid hS6
            obtain ⟨g6, cp6, e6, _, _⟩ := ho'.head (by simp)
            subst e6
            have em6 : (M ++ [(5 : Int)]).length = n + 1 := by rw [List.length_append, HMl.out]; rfl
            rw [em6]
            have c1 := HP6.out.cells.2
            have c2 := HP6.out.y.cells.2
            rw [HEr.out, HEq.out] at c1
            rw [HEq.out, HEn.out] at c2
            clear ho' hf' hb' em6 hS6)
          have HFin := hid (DnG.same HP0.out (HSA.out.trans HS6.out))
          go_ret
          exact ⟨rfl, HFin.out⟩
    · have t1 : (z == 1) = false := beq_eq_false_iff_ne.2 z1
      clear z1
      by_cases z3 : z = 3
      · have t3 : (z == 3) = true := beq_iff_eq.2 z3
        clear z3
        obtain ⟨x, v, r, HX, HY⟩ := plan_both P.n P.s P.L o.l o.f o.g
        have HX1 := hid (fun u (hu : Still W u) => HX u B P.p P.g (HP.out.x.still hu))
        have HY1 := hid (fun u (hu : Still W u) => HY u B P.q P.h (HP.out.y.still hu))
        have HOc := hid (fun u (hu : Still W u) => (HOb.out.still hu).cells)
        have HPc := hid (fun u (hu : Still W u) => (HP.out.still hu).cells)
        obtain ⟨p, ep⟩ : ∃ p, P.p = p := ⟨_, rfl⟩
        obtain ⟨q, eq⟩ : ∃ p, P.q = p := ⟨_, rfl⟩
        obtain ⟨rr, er⟩ : ∃ p, P.r = p := ⟨_, rfl⟩
        rw [ep] at HX1 HPc c0
        rw [eq] at HY1 HPc c1
        rw [er] at HPc c0 c1 ⊢
        clear HX HY ep eq er
        go_enter Try.func8, Try.ntmps8
        go_wp2_with fail
        refine (HPk.out _).mono ?_
        rintro e w' ⟨he, hw⟩
        rw [he, hw]
        clear he hw w' HPk eW
        go_wp2_with fail
        refine region_mk1 14 11 (.cells #[.int .i64 0, .bool false] plTy (0, 0)) (.cells #[.int .i64 x, .bool v] plTy (0, 0)) (by kernel_rfl) (by kernel_rfl) (by kernel_rfl) (by kernel_rfl) rfl rfl ?_ ?_ ?_
        · exact fun u b => nw_pn rfl u
        · exact fun u => heap_alloc_new u _
        · apply Exists.intro
          refine And.intro ?_ (And.intro ?_ ?_)
          · intro u hu
            obtain ⟨f0, f1, f2, f3, f4, f5⟩ := HOc.out u hu
            obtain ⟨e0, e1⟩ := HPc.out u hu
            have HZ := hid (fun (z : Aft u) => HX1.out z.u (hu.trans z.s))
            have k0 := Cl.cell f0
            have k1 := Cl.cell f1
            have k2 := Cl.cell f2
            have k3 := Cl.cell f3
            have k4 := Cl.cell f4
            have k5 := Cl.cell f5
            have l0 := Cl.cell e0
            have l1 := Cl.cell e1
            have hne := Aft.here u
            clear f0 f1 f2 f3 f4 f5 e0 e1
            simp only [qlist, List.take_succ_cons, List.take_zero, List.drop_succ_cons, List.drop_zero, List.cons_append, List.nil_append, Nat.mul_one, Nat.reduceAdd]
            repeat (go_big_quiet_step ((first | (go_at_call 12; with_reducible exact Calls.cl (HZ.out _)) | rfl)))
            exact wpQuiet_nil rfl
          · exact fun u h hh => st_pn rfl rfl rfl hh
          · intro w2 g2 h2 hg2 hm2
            have HB2 : Hid (Pn w2 g2 x v) := hid hm2
            have HS2 := hid h2
            clear h2 hm2 c0 c1 d0 d1 d2 d3 d4 d5
            go_upto_region 17 with fail
            simp only [Act.put, List.setIfInBounds_toArray, List.set_cons_succ, List.set_cons_zero]
            refine region_mk1 14 13 (.cells #[.int .i64 0, .bool false] plTy (0, 0)) (.cells #[.int .i64 x, .bool v] plTy (0, 0)) (by kernel_rfl) (by kernel_rfl) (by kernel_rfl) (by kernel_rfl) rfl rfl ?_ ?_ ?_
            · exact fun u b => nw_pn rfl u
            · exact fun u => heap_alloc_new u _
            · apply Exists.intro
              refine And.intro ?_ (And.intro ?_ ?_)
              · intro u hu
                obtain ⟨f0, f1, f2, f3, f4, f5⟩ := HOc.out u (HS2.out.trans hu)
                obtain ⟨e0, e1⟩ := HPc.out u (HS2.out.trans hu)
                have HZ := hid (fun (z : Aft u) => HY1.out z.u ((HS2.out.trans hu).trans z.s))
                have k0 := Cl.cell f0
                have k1 := Cl.cell f1
                have k2 := Cl.cell f2
                have k3 := Cl.cell f3
                have k4 := Cl.cell f4
                have k5 := Cl.cell f5
                have l0 := Cl.cell e0
                have l1 := Cl.cell e1
                have hne := Aft.here u
                clear f0 f1 f2 f3 f4 f5 e0 e1
                simp only [qlist, List.take_succ_cons, List.take_zero, List.drop_succ_cons, List.drop_zero, List.cons_append, List.nil_append, Nat.mul_one, Nat.reduceAdd]
                repeat (go_big_quiet_step ((first | (go_at_call 18; with_reducible exact Calls.cl (HZ.out _)) | rfl)))
                exact wpQuiet_nil rfl
              · exact fun u h hh => st_pn rfl rfl rfl hh
              · intro w3 g3 h3 hg3 hm3
                have hb3 : Pn w3 g3 x v := hm3
                have hb2 := HB2.out.still h3
                obtain ⟨f0, f1, _⟩ := hb3.cells
                obtain ⟨e0, e1, _⟩ := hb2.cells
                have HFin := hid (DnG.same HP0.out ((HSA.out.trans HS2.out).trans h3))
                have E1 := eql_pn x v
                have G1 := guard_pn
                clear h3 hm3 hb3 hb2
                go_wp2_with fail
                go_ret
                exact ⟨rfl, HFin.out⟩
      · have t3 : (z == 3) = false := beq_eq_false_iff_ne.2 z3
        clear z3
        have HL1 := hid (gleast_any HP.out.x)
        obtain ⟨p, ep⟩ : ∃ p, P.p = p := ⟨_, rfl⟩
        obtain ⟨q, eq⟩ : ∃ p, P.q = p := ⟨_, rfl⟩
        obtain ⟨rr, er⟩ : ∃ p, P.r = p := ⟨_, rfl⟩
        have HEq := hid eq
        have HEr := hid er
        rw [ep] at c0 HL1
        rw [er] at c0 c1 ⊢
        rw [eq] at c1
        clear ep eq er
        go_enter Try.func8, Try.ntmps8
        go_wp2_with fail
        refine (HPk.out _).mono ?_
        rintro e w' ⟨he, hw⟩
        rw [he, hw]
        clear he hw w' HPk eW
        go_wp2_with fail
        refine HL1.out.mono ?_
        rintro e w3 ⟨he, hs3⟩
        rw [he]
        have hP3 := HP.out.still hs3
        have c1 := hP3.cells.2
        have HL3 := hid (dleast_any hP3.y)
        rw [HEr.out, HEq.out] at c1
        rw [HEq.out] at HL3
        have HFin := hid (DnG.same HP0.out (HSA.out.trans hs3))
        obtain ⟨y, ey⟩ : ∃ y, lea P.s P.L = y := ⟨_, rfl⟩
        rw [ey] at HL3 ⊢
        clear he hs3 hP3 HL1 ey d0 d1 d2 d3 d4 d5 c0
        go_wp2_with fail
        refine HL3.out.mono ?_
        rintro e w' ⟨he, hw⟩
        rw [he, hw]
        clear he hw w' HL3
        go_wp2_with fail
        go_ret
        exact ⟨rfl, HFin.out⟩
end Go.Proofs.Ytlebmimlmakogaa
