/- GateDoes: the law's walk. -/
import Derived.Test.YtlebmimlmakogaaGtm
namespace Go.Proofs.Ytlebmimlmakogaa
open Go.RowKit
set_option maxRecDepth 100000

set_option maxHeartbeats 8000000 in
theorem does21_law (so : Option Addr) (n c : Nat) (L : List OqG) (hb : 48 * n ≤ 140737488351232) (hp : ∀ i, i < n → BdQ (L.getD i KQg.d)) (w : World) (hr : RdG KQg w so n L) : Calls Try.prog 3 #[.slice so n c] w fun e w' => e = .returned (.bool true) ∧ Still w w' := by
  have HR := hid hr
  have HP := hid hp
  have HM := hid (fun w => made21_yes 3 1 (by omega) w)
  have hnn : n ≤ 2932031007320 := by omega
  clear hr hp hb
  go_enter Try.func3, Try.ntmps3
  go_wp2_with fail
  refine (HM.out _).mono ?_
  rintro e w1 ⟨P, he, hP, _, _, hs1⟩
  rw [he]
  have A2 := Still.alloc w1 (.cells #[.pointer (some ⟨P.r, 0, none⟩)] pppT)
  have HT0 : Hid (StG w (w1.alloc (.cells #[.pointer (some ⟨P.r, 0, none⟩)] pppT)) [P] (.slice (some ⟨w1.heap.size, 0, none⟩) 1 1)) := hid (by
    refine ⟨fun i hi => ?_, fun i j hi hj hij => ?_, KPg.one' w1 w.heap.size P.r hs1.size, hs1.trans A2⟩
    · obtain rfl : i = 0 := by simp at hi; omega
      exact hP.still A2
    · simp at hi hj; omega)
  have HT1 : Hid (∃ Ps, StG w (w1.alloc (.cells #[.pointer (some ⟨P.r, 0, none⟩)] pppT)) Ps (.slice (some ⟨w1.heap.size, 0, none⟩) 1 1) ∧ Ps.length = 1) := hid ⟨_, HT0.out, rfl⟩
  clear he hP hs1 HM A2 HT0
  go_wp2_with fail
  go_loopw [6, 5] (fun u v wr => ∃ i : Nat, i ≤ n ∧ u = .int .i64 (i : Int) ∧ ∃ gl m cl, v = .slice (some ⟨gl, 0, none⟩) m cl ∧ 1 ≤ m ∧ m ≤ i + 1 ∧ Hid (∃ Ps, StG w wr Ps (.slice (some ⟨gl, 0, none⟩) m cl) ∧ Ps.length = m)) (fun u _ _ => n - (intOf u).toNat)
  case atStart => exact ⟨0, by omega, rfl, _, _, _, rfl, by omega, by omega, HT1⟩
  case round =>
    obtain ⟨i, hi, rfl, gl, m, cl, rfl, hm1, hm2, HT⟩ := hrel
    clear HT1
    by_cases hin : i < n
    · have hlt : (i : Int) < (n : Int) := by omega
      obtain ⟨Ps, hSt, hPl⟩ := HT.out
      obtain ⟨G, o, rfl⟩ := HR.out.at (by omega)
      have HBd := hid (HP.out i hin)
      obtain ⟨q, eq⟩ : ∃ q, L.getD i KQg.d = q := ⟨_, rfl⟩
      obtain ⟨c0, c1, c2, c3, c4, c5⟩ := rdQg (HR.out.still hSt.s) hin eq
      rw [eq] at HBd
      have A3 := Still.alloc wr (.cells (oqv q) oqT)
      have HSt := hid (hSt.still A3)
      have HOb : Hid (OqbG (wr.alloc (.cells (oqv q) oqT)) wr.heap.size q) := hid (heap_alloc_new wr _)
      obtain ⟨W, eW⟩ : ∃ W, wr.alloc (.cells (oqv q) oqT) = W := ⟨_, rfl⟩
      obtain ⟨g, eg⟩ : ∃ g, wr.heap.size = g := ⟨_, rfl⟩
      rw [eW] at HSt HOb
      rw [eg] at HOb
      obtain ⟨d0, d1, d2, d3, d4, d5⟩ := HOb.out.cells
      have HPk := hid (fun w => pick_any q.k 5 HBd.out.1 (by omega) (by omega) w)
      have HPn := hid (fun w => pick_any q.w (m : Int) HBd.out.2 (by omega) (by omega) w)
      have HPl := hid hPl
      obtain ⟨z, ez⟩ : ∃ z, pk q.k 5 = z := ⟨_, rfl⟩
      rw [ez] at HPk
      simp only [oqv] at eW
      clear hSt A3 eq hPl ez HT
      by_cases h8 : z = 4
      · have t8 : (z == 4) = true := beq_iff_eq.2 h8
        clear h8 HPn
        go_wp2_with fail
        clear eW eg
        refine (HPk.out _).mono ?_
        rintro e w' ⟨he, hw⟩
        rw [he, hw]
        clear he hw w' HPk c0 c1 c2 c3 c4 c5
        by_cases hmay : 2 ≤ q.s ∧ q.s ≤ 6 ∧ 0 ≤ q.g ∧ q.g < q.s
        · obtain ⟨a', ea⟩ : ∃ a' : Nat, q.s = (a' : Int) := ⟨q.s.toNat, by omega⟩
          obtain ⟨b', eb⟩ : ∃ b' : Nat, q.g = (b' : Int) := ⟨q.g.toNat, by omega⟩
          have HM := hid (made21_yes a' b' (by omega) W)
          rw [ea] at d2
          rw [eb] at d5
          clear hmay ea eb
          go_wp2_with fail
          refine HM.out.mono ?_
          rintro e w3 ⟨P3, he, hP3, hg3, hh3, hs3⟩
          rw [he]
          have A4 := Still.alloc w3 (.cells #[.pointer (some ⟨P3.r, 0, none⟩)] pppT)
          have HSt4 := hid ((HSt.out.still hs3).still A4)
          have HX4 : Hid ((w3.alloc (.cells #[.pointer (some ⟨P3.r, 0, none⟩)] pppT)).heap[w3.heap.size]? = some (.cells (KPg.f P3.r).toArray pppT (0, 0))) := hid (heap_alloc_new w3 _)
          have HS4 := hid (hs3.trans A4)
          have hlew : w.heap.size ≤ W.heap.size := HSt.out.s.size
          have HP4 : Hid (Pg w.heap.size (w3.alloc (.cells #[.pointer (some ⟨P3.r, 0, none⟩)] pppT)) P3 ∧ W.heap.size ≤ P3.g ∧ W.heap.size ≤ P3.h) := hid (by
            have h5 := hP3.still A4
            exact ⟨⟨h5.x.less hlew, h5.y.less hlew, h5.b, Nat.le_trans hlew h5.rl, h5.gh⟩, hg3, hh3⟩)
          have HB4 : Hid (w.heap.size ≤ (w3.alloc (.cells #[.pointer (some ⟨P3.r, 0, none⟩)] pppT)).heap.size) := hid (Nat.le_trans hlew HS4.out.size)
          have HL4 : Hid (((Ps.map PdG.r).length + 1) * 8 ≤ 140737488355328 ∧ (Ps.map PdG.r).length ≤ 281474976710656) := hid (by rw [List.length_map, HPl.out]; omega)
          clear he hP3 hg3 hh3 hs3 A4 HM d0 d1 d2 d3 d4 d5
          go_wp2_with (
            at_builtin
            refine wpList_appZ KPg _ rfl _ _ _ rfl rfl 8 (.pointer none) rfl infoPg w.heap.size w3.heap.size (.slice (some ⟨gl, 0, none⟩) m cl) (Ps.map PdG.r) P3.r rfl rfl HSt4.out.l HX4.out HL4.out.1 HL4.out.2 HB4.out ?_
            intro v' w' ho' hf' hb'
            have HK5 : Hid (∃ Ps, StG w w' Ps v' ∧ Ps.length = m + 1) := hid ⟨Ps ++ [P3], HSt.out.more HS4.out HP4.out.1 HP4.out.2.1 HP4.out.2.2 ho' hf', by rw [List.length_append, HPl.out]; rfl⟩
            obtain ⟨g5, c5, e5, _, _⟩ := ho'.head (by simp)
            subst e5
            have em5 : (Ps.map PdG.r ++ [P3.r]).length = m + 1 := by rw [List.length_append, List.length_map, HPl.out]; rfl
            rw [em5] at HK5 ⊢
            clear ho' hf' hb' em5)
          go_roundw
          case rel => exact ⟨i + 1, by omega, by go_num, _, _, _, rfl, by omega, by omega, HK5⟩
          case measure => simp [intOf]; omega
        · have HM := hid (made21_no _ _ hmay W)
          have HK5 : Hid (∃ Ps, StG w W Ps (.slice (some ⟨gl, 0, none⟩) m cl) ∧ Ps.length = m) := hid ⟨Ps, HSt.out, HPl.out⟩
          clear hmay
          go_wp2_with fail
          refine HM.out.mono ?_
          rintro e w' ⟨he, hw⟩
          rw [he, hw]
          clear he hw w' HM d0 d1 d2 d3 d4 d5
          go_wp2_with fail
          go_roundw
          case rel => exact ⟨i + 1, by omega, by go_num, _, _, _, rfl, by omega, by omega, HK5⟩
          case measure => simp [intOf]; omega
      · have t8 : (z == 4) = false := beq_eq_false_iff_ne.2 h8
        have hpn := pk_in q.w (m : Int) (by omega)
        obtain ⟨y', ey'⟩ : ∃ y, pk q.w (m : Int) = y := ⟨_, rfl⟩
        rw [ey'] at HPn hpn
        obtain ⟨y, rfl⟩ : ∃ y : Nat, y' = (y : Int) := ⟨y'.toNat, by omega⟩
        have hym : y < m := by omega
        have hyi : (y : Int) < (m : Int) := by omega
        have hy0 : (0 : Int) ≤ (y : Int) := by omega
        have cp := HSt.out.cell (i := y) (by have := HPl.out; omega)
        have HPr := hid (HSt.out.ok y (by have := HPl.out; omega))
        have HDo : Hid (∀ u, Still W u → Calls Try.prog 8 #[.pointer (some ⟨(pgG Ps y).r, 0, none⟩), .agg (oqv q)] u fun e w' => e = .returned (.bool true) ∧ DnG w.heap.size u w' (pgG Ps y)) := hid (fun u hu => does21_any q (pgG Ps y) w.heap.size HBd.out.1 u (HPr.out.still hu))
        obtain ⟨rr, err⟩ : ∃ r, (pgG Ps y).r = r := ⟨_, rfl⟩
        rw [err] at cp HDo
        have HRr := hid err
        clear h8 ey' hpn err
        go_upto_region 9 with fail
        clear eW eg
        go_wp2_with fail
        refine (HPk.out _).mono ?_
        rintro e w' ⟨he, hw⟩
        rw [he, hw]
        clear he hw w' HPk c0 c1 c2 c3 c4 c5
        go_upto_region 15 with fail
        have k0 := Cl.cell d0
        have k1 := Cl.cell d1
        have k2 := Cl.cell d2
        have k3 := Cl.cell d3
        have k4 := Cl.cell d4
        have k5 := Cl.cell d5
        have l0 := Cl.cell cp
        have hne := Aft.here W
        clear d0 d1 d2 d3 d4 d5 cp
        refine region_rest 9 (by kernel_rfl) (by kernel_rfl) ?_
        simp only [List.take_succ_cons, List.take_zero, List.drop_succ_cons, List.drop_zero]
        repeat (go_big_quiet_step ((first | (go_at_call 7; with_reducible exact Calls.cl_same (HPn.out _)) | rfl)))
        refine wpQuiet_nil ?_
        intro w3 h3
        have HD3 := hid (HDo.out w3 h3)
        have HSt3 := hid (HSt.out.still h3)
        clear h3 hne k0 k1 k2 k3 k4 k5 l0 HDo
        go_wp2_with fail
        refine HD3.out.mono ?_
        rintro e w4 ⟨he, hE⟩
        rw [he]
        have HK5 : Hid (∃ Ps, StG w w4 Ps (.slice (some ⟨gl, 0, none⟩) m cl) ∧ Ps.length = m) := hid (by obtain ⟨Qs, q1, q2⟩ := HSt3.out.step (by have := HPl.out; omega) hE; exact ⟨Qs, q1, q2.trans HPl.out⟩)
        clear he hE HD3
        go_wp2_with fail
        go_roundw
        case rel => exact ⟨i + 1, by omega, by go_num, _, _, _, rfl, by omega, by omega, HK5⟩
        case measure => simp [intOf]; omega
    · have hge : ¬ (i : Int) < (n : Int) := by omega
      have hm3 : m ≤ 2932031007322 := by omega
      clear hin hm2
      go_wp2_with fail
      go_loopw [11] (fun u wr => ∃ j : Nat, j ≤ m ∧ u = .int .i64 (j : Int) ∧ Hid (∃ Ps, StG w wr Ps (.slice (some ⟨gl, 0, none⟩) m cl) ∧ Ps.length = m)) (fun u _ => m - (intOf u).toNat)
      case atStart => exact ⟨0, by omega, rfl, HT⟩
      case round =>
        obtain ⟨j, hj, rfl, HJ⟩ := hrel
        by_cases hjm : j < m
        · have hltj : (j : Int) < (m : Int) := by omega
          obtain ⟨Ps, hSt, hPl⟩ := HJ.out
          have HSt := hid hSt
          have HPl := hid hPl
          have cp := hSt.cell (i := j) (by omega)
          have HD1 := hid (does21_any ⟨1, 0, 0, 0, 0, 0⟩ (pgG Ps j) w.heap.size (by decide) wr (hSt.ok j (by omega)))
          obtain ⟨rr, err⟩ : ∃ r, (pgG Ps j).r = r := ⟨_, rfl⟩
          rw [err] at cp HD1
          have HRr := hid err
          simp only [oqv] at HD1
          clear hSt hPl err HJ
          go_wp2_with fail
          refine HD1.out.mono ?_
          rintro e w4 ⟨he, hE⟩
          rw [he]
          obtain ⟨Qs, hSt4, q2⟩ := HSt.out.step (i := j) (by have := HPl.out; omega) hE
          have hl4 : Qs.length = m := q2.trans HPl.out
          have HSt4 := hid hSt4
          have HPl4 := hid hl4
          have cp4 := hSt4.cell (i := j) (by omega)
          have HD2 := hid (does21_any ⟨2, 0, 0, 0, 0, 0⟩ (pgG Qs j) w.heap.size (by decide) w4 (hSt4.ok j (by omega)))
          obtain ⟨r4, er4⟩ : ∃ r, (pgG Qs j).r = r := ⟨_, rfl⟩
          rw [er4] at cp4 HD2
          simp only [oqv] at HD2
          clear he hE HD1 cp hSt4 hl4 er4 q2
          go_wp2_with fail
          refine HD2.out.mono ?_
          rintro e w5 ⟨he, hE⟩
          rw [he]
          have HK5 : Hid (∃ Ps, StG w w5 Ps (.slice (some ⟨gl, 0, none⟩) m cl) ∧ Ps.length = m) := hid (by obtain ⟨Rs, r1, r2⟩ := HSt4.out.step (by have := HPl4.out; omega) hE; exact ⟨Rs, r1, r2.trans HPl4.out⟩)
          clear he hE HD2 cp4
          go_wp2_with fail
          go_roundw
          case rel => exact ⟨j + 1, by omega, by go_num, HK5⟩
          case measure => simp [intOf]; omega
        · have hgej : ¬ (j : Int) < (m : Int) := by omega
          obtain ⟨Ps, hSt, hPl⟩ := HJ.out
          have HF := hid hSt.s
          clear hSt hPl HJ
          go_wp2_with fail
          go_ret
          exact ⟨rfl, HF.out⟩
end Go.Proofs.Ytlebmimlmakogaa
