/- The law on ranges. -/
import Derived.Test.YtlaehphhfeoklaaDoorVz
namespace Go.Proofs.YtlaehphhfeoklaaDoor
open Go.RowKit
open Vp
set_option maxRecDepth 100000

/-- what the law's own loop has found after k operands -/
def wn (ps : List (ByteArray × Int × Int)) (G : Nat → Int) : Nat → Int
  | 0 => 0
  | k + 1 => if okI ps (G k) k then wn ps G k else 71
theorem wn_three (ps : List (ByteArray × Int × Int)) (a b c : Int) : wn ps (gv a b c) 3 = if okI ps a 0 && okI ps b 1 && okI ps c 2 then 0 else 71 := by
  show (if okI ps c 2 then (if okI ps b 1 then (if okI ps a 0 then 0 else 71) else 71) else 71) = _
  cases okI ps a 0 <;> cases okI ps b 1 <;> cases okI ps c 2 <;> rfl
theorem chk_wn {v a b c : Int} (h : isV v = true) : wn (opV v) (gv a b c) 3 = chkO v a b c := by
  rw [wn_three, okI_all h]
  unfold chkO
  rw [if_pos h]
theorem some_of {t : ByteArray} (h : t.size ≠ 0) : t.toList.isEmpty = false := by
  rw [Lib.toList_data]
  cases e : t.data.toList with
  | nil =>
    have : t.data.toList.length = 0 := by rw [e]; rfl
    rw [Array.length_toList] at this
    exact absurd this h
  | cons x l => rfl
set_option maxHeartbeats 16000000 in
set_option maxRecDepth 100000 in
theorem ranges_walk (v a b c X W : Int) (S T : ByteArray) (V A B D E : Int) (hV : Hid ((v < 1 ∧ X = 70) ∨ (1 ≤ v ∧ 7 < v ∧ X = 70) ∨ (1 ≤ v ∧ v ≤ 7 ∧ W = X ∧ X ≠ 70))) (hW : Hid (wn (opV v) (gv a b c) 3 = W)) (w : World) (C : Cts w)
    (HCk : Hid (∀ u, Still w u → Calls Tryd.prog 15 #[od v a b c] u fun e w' => e = .returned (.int .i64 X) ∧ Still u w'))
    (HPr : Hid (∀ u, Still w u → Calls Tryd.prog 17 #[od v a b c] u fun e w' => e = .returned (.tuple #[.string S, .int .i64 X]) ∧ Still u w'))
    (HNm : Hid (∀ u, Still w u → Calls Tryd.prog 12 #[.int .i64 v] u fun e w' => e = .returned (.string T) ∧ Still u w'))
    (HZ : Hid (S.size ≤ 30)) (HB : Hid (PV S V A B D E))
    (hx : Hid ((X = 0 ∧ V = v ∧ A = a ∧ B = b ∧ D = c ∧ E = 0 ∧ S.size ≠ 0 ∧ T.size ≠ 0) ∨ (X = 71 ∧ T.size ≠ 0) ∨ (X = 70 ∧ T = ByteArray.empty))) :
    Calls Tryd.prog 7 #[od v a b c] w fun e w' => e = .returned (.bool true) ∧ Still w w' := by
  have p := newO_orb w v a b c
  have HL := hid (opV_len v)
  have HOp := hid (fun u k => C.ops v u k)
  obtain ⟨ps, eps⟩ : ∃ ps, opV v = ps := ⟨_, rfl⟩
  rw [eps] at HL HOp hW
  clear eps
  have HS0 := hid (Still.alloc w (.cells #[.int .i64 v, .int .i64 a, .int .i64 b, .int .i64 c] 32))
  go_enter Tryd.func7, Tryd.ntmps7
  go_wp2_with fail
  refine (awake_any _ (C.still HS0.out)).mono ?_
  rintro e w0 ⟨rfl, h0⟩
  have p0 := p.still h0
  have HS1 := hid (HS0.out.trans h0)
  clear HS0 h0 p
  obtain ⟨c0, c1, c2, c3, cf⟩ := p0.cells
  go_wp2_with fail
  refine (HOp.out _ HS1.out).mono ?_
  rintro e w1 ⟨x, rfl, ho, h1⟩
  have p1 := p0.still h1
  clear c0 c1 c2 c3 cf p0
  obtain ⟨c0, c1, c2, c3, cf⟩ := p1.cells
  have A3 := Still.alloc w1 (.cells #[.int .i64 a, .int .i64 b, .int .i64 c] 41)
  have p2 := newArr w1 a b c
  have o2 := ho.alloc (.cells #[.int .i64 a, .int .i64 b, .int .i64 c] 41)
  have pp := p1.still A3
  have HSW := hid ((HS1.out.trans h1).trans A3)
  obtain ⟨ao, cap, rfl, _⟩ := o2.slice
  obtain ⟨n, en⟩ : ∃ n, ps.length = n := ⟨_, rfl⟩
  have hn2 : n ≤ 2 := by have := HL.out; omega
  rw [en]
  have HN := hid en
  have hn3 : ¬ (3 : Int) < (n : Int) := by omega
  clear ho h1 en A3
  go_wp2_with fail
  go_loopw [6, 7] (fun t u wr => ∃ k : Nat, k ≤ 3 ∧ u = .int .i64 (k : Int) ∧ t = .int .i64 (wn ps (gv a b c) k) ∧ Still (w1.alloc (.cells #[.int .i64 a, .int .i64 b, .int .i64 c] 41)) wr) (fun _ u _ => 3 - (intOf u).toNat)
  case atStart => exact ⟨0, by omega, rfl, rfl, Fr.refl _ _⟩
  case round =>
    clear c0 c1 c2 c3 cf
    obtain ⟨k, hk, rfl, rfl, hs⟩ := hrel
    by_cases hk3 : k < 3
    · have q2 := p2.still hs
      have r2 := o2.still hs
      have HS2 := hid hs
      have k0 := Cl.cell (q2.at k hk3)
      have hne := Aft.here wr
      have hi3 : (k : Int) < 3 := by omega
      obtain ⟨y, ey⟩ : ∃ y, gv a b c k = y := ⟨_, rfl⟩
      rw [ey] at k0
      clear hs q2
      by_cases hkn : k < n
      · have hlt : (k : Int) < (n : Int) := by omega
        have hng : decide ((n : Int) ≤ (k : Int)) = false := by simp; omega
        have hng' : decide (n ≤ k) = false := by simp; omega
        have hlt' : decide (k < n) = true := by simp; omega
        have hpl : k < ps.length := by rw [HN.out]; exact hkn
        obtain ⟨g, cg, e1, _, _⟩ := r2.head (by omega)
        rw [HN.out] at e1
        cases e1
        obtain ⟨_, m1, m2, _⟩ := r2.cell k hpl
        have hx0 := okI_in (ps := ps) (x := gv a b c k) (i := k) hpl
        obtain ⟨lw, elw⟩ : ∃ z, (ps[k]).2.1 = z := ⟨_, rfl⟩
        obtain ⟨up, eup⟩ : ∃ z, (ps[k]).2.2 = z := ⟨_, rfl⟩
        rw [elw] at m1 hx0
        rw [eup] at m2 hx0
        rw [ey] at hx0
        have k1 := Cl.cell m1
        have k2 := Cl.cell m2
        clear hkn r2 m1 m2 elw eup
        by_cases hy : lw ≤ y
        · have hd1 : decide (y < lw) = false := by simp; omega
          by_cases hz : y ≤ up
          · have HE := hid (show okI ps (gv a b c k) k = true by rw [ey, hx0]; simp [hy, hz])
            have hd2 : decide (up < y) = false := by simp; omega
            clear hx0 ey hy hz
            go_wp2_with fail
            refine region_all (by kernel_rfl) (by kernel_rfl) ?_
            repeat (go_big_quiet_step (fail))
            refine wpQuiet_nil ?_
            intro w2 h2
            have HS3 := hid (Still.trans HS2.out h2)
            clear hne k0 k1 k2 h2 HS2
            go_wp2_with fail
            go_roundw
            case rel => exact ⟨k + 1, by omega, by go_num, by rw [wn, HE.out, if_pos rfl], HS3.out⟩
            case measure => simp [intOf]; omega
          · have HE := hid (show okI ps (gv a b c k) k = false by rw [ey, hx0]; simp; omega)
            have hd2 : decide (up < y) = true := by simp; omega
            have hu : up < y := by omega
            clear hx0 ey hy hz
            go_wp2_with fail
            refine region_all (by kernel_rfl) (by kernel_rfl) ?_
            repeat (go_big_quiet_step (fail))
            refine wpQuiet_nil ?_
            intro w2 h2
            have HS3 := hid (Still.trans HS2.out h2)
            clear hne k0 k1 k2 h2 HS2
            go_wp2_with fail
            go_roundw
            case rel => exact ⟨k + 1, by omega, by go_num, by rw [wn, HE.out]; rfl, HS3.out⟩
            case measure => simp [intOf]; omega
        · have HE := hid (show okI ps (gv a b c k) k = false by rw [ey, hx0]; simp; omega)
          have hd1 : decide (y < lw) = true := by simp; omega
          have hu : y < lw := by omega
          clear hx0 ey hy
          go_wp2_with fail
          refine region_all (by kernel_rfl) (by kernel_rfl) ?_
          repeat (go_big_quiet_step (fail))
          refine wpQuiet_nil ?_
          intro w2 h2
          have HS3 := hid (Still.trans HS2.out h2)
          clear hne k0 k1 k2 h2 HS2
          go_wp2_with fail
          go_roundw
          case rel => exact ⟨k + 1, by omega, by go_num, by rw [wn, HE.out]; rfl, HS3.out⟩
          case measure => simp [intOf]; omega
      · have hge : (n : Int) ≤ (k : Int) := by omega
        have hnl : decide ((k : Int) < (n : Int)) = false := by simp; omega
        have hnl' : decide (k < n) = false := by simp; omega
        have hge' : decide (n ≤ k) = true := by simp; omega
        have hx0 := okI_out (ps := ps) (x := gv a b c k) (i := k) (by rw [HN.out]; omega)
        rw [ey] at hx0
        clear hkn r2
        by_cases hy : y = 0
        · subst hy
          have HE := hid (show okI ps (gv a b c k) k = true by rw [ey, hx0]; rfl)
          clear hx0 ey
          go_wp2_with fail
          refine region_all (by kernel_rfl) (by kernel_rfl) ?_
          repeat (go_big_quiet_step (fail))
          refine wpQuiet_nil ?_
          intro w2 h2
          have HS3 := hid (Still.trans HS2.out h2)
          clear hne k0 h2 HS2
          go_wp2_with fail
          go_roundw
          case rel => exact ⟨k + 1, by omega, by go_num, by rw [wn, HE.out, if_pos rfl], HS3.out⟩
          case measure => simp [intOf]; omega
        · have HE := hid (show okI ps (gv a b c k) k = false by rw [ey, hx0]; simpa using hy)
          have hb : (y != 0) = true := by simpa using hy
          clear hx0 ey
          go_wp2_with fail
          refine region_all (by kernel_rfl) (by kernel_rfl) ?_
          repeat (go_big_quiet_step (fail))
          refine wpQuiet_nil ?_
          intro w2 h2
          have HS3 := hid (Still.trans HS2.out h2)
          clear hne k0 h2 HS2
          go_wp2_with fail
          go_roundw
          case rel => exact ⟨k + 1, by omega, by go_num, by rw [wn, HE.out]; rfl, HS3.out⟩
          case measure => simp [intOf]; omega
    · obtain rfl : k = 3 := by omega
      rw [hW.out]
      have p9 := pp.still hs
      have HS9 := hid hs
      have c0 := Cl.cell p9.cells.1
      have hne := Aft.here wr
      have H7 := hid (fun z : Aft wr => C.cnt z.u (Still.trans (Still.trans HSW.out HS9.out) z.s))
      clear hs hW
      rcases hV.out with ⟨v1, x1⟩ | ⟨v1, v2, x1⟩ | ⟨v1, v2, x1, x2⟩
      · have hd1 : decide (v < 1) = true := by simp; omega
        subst x1
        have ht0 : T = ByteArray.empty := by rcases hx.out with ⟨h, _⟩ | ⟨h, _⟩ | ⟨_, h⟩ <;> first | exact h | cases h
        subst ht0
        clear pp
        go_wp2_with fail
        refine region_all (by kernel_rfl) (by kernel_rfl) ?_
        repeat (go_big_quiet_step ((go_at_call 14; exact Calls.cl (H7.out _))))
        refine wpQuiet_nil ?_
        intro w9 h9
        have p8 := p9.still h9
        have HS8 := hid (Still.trans HS9.out h9)
        clear c0 hne h9 p9 HS9
        have p9 := p8
        have HS9 := hid HS8.out
        clear p8 HS8
        obtain ⟨c0, c1, c2, c3, cf⟩ := p9.cells
        go_wp2_with fail
        refine (HCk.out _ (HSW.out.trans HS9.out)).mono ?_
        rintro e x1 ⟨rfl, g1⟩
        have q1 := p9.still g1
        have HS10 := hid (Still.trans (Still.trans HSW.out HS9.out) g1)
        clear g1 HS9 p9 c0 c1 c2 c3 cf
        obtain ⟨c0, c1, c2, c3, cf⟩ := q1.cells
        go_wp2_with fail
        refine (HPr.out _ HS10.out).mono ?_
        rintro e x2 ⟨rfl, g2⟩
        have q2 := q1.still g2
        have HS11 := hid (Still.trans HS10.out g2)
        clear g2 HS10 q1 c0 c1 c2 c3 cf
        go_wp2_with fail
        refine (C.par S _ (by have := HZ.out; omega) HS11.out).mono ?_
        rintro e x3 ⟨v', a', b', c', x', rfl, hp, g3⟩
        obtain ⟨rfl, rfl, rfl, rfl, rfl⟩ := pv_one hp HB.out
        have A4 := Still.alloc x3 (.cells #[.int .i64 v', .int .i64 a', .int .i64 b', .int .i64 c'] 32)
        have q3 := (q2.still g3).still A4
        have r3 := newO_orb x3 v' a' b' c'
        have HS12 := hid (Still.trans (Still.trans HS11.out g3) A4)
        have K1 := eql_or_t v' a' b' c'
        clear g3 HS11 q2 A4 hp
        obtain ⟨c0, c1, c2, c3, cf⟩ := q3.cells
        obtain ⟨d0, d1, d2, d3, df⟩ := r3.cells
        go_wp2_with fail
        refine (HNm.out _ HS12.out).mono ?_
        rintro e x4 ⟨rfl, g5⟩
        have HS13 := hid (Still.trans HS12.out g5)
        clear g5 HS12
        go_wp2_with fail
        go_ret
        exact ⟨rfl, HS13.out⟩
      · have hd1 : decide (v < 1) = false := by simp; omega
        have hd2 : decide (7 < v) = true := by simp; omega
        subst x1
        have ht0 : T = ByteArray.empty := by rcases hx.out with ⟨h, _⟩ | ⟨h, _⟩ | ⟨_, h⟩ <;> first | exact h | cases h
        subst ht0
        clear pp
        go_wp2_with fail
        refine region_all (by kernel_rfl) (by kernel_rfl) ?_
        repeat (go_big_quiet_step ((go_at_call 14; exact Calls.cl (H7.out _))))
        refine wpQuiet_nil ?_
        intro w9 h9
        have p8 := p9.still h9
        have HS8 := hid (Still.trans HS9.out h9)
        clear c0 hne h9 p9 HS9
        have p9 := p8
        have HS9 := hid HS8.out
        clear p8 HS8
        obtain ⟨c0, c1, c2, c3, cf⟩ := p9.cells
        go_wp2_with fail
        refine (HCk.out _ (HSW.out.trans HS9.out)).mono ?_
        rintro e x1 ⟨rfl, g1⟩
        have q1 := p9.still g1
        have HS10 := hid (Still.trans (Still.trans HSW.out HS9.out) g1)
        clear g1 HS9 p9 c0 c1 c2 c3 cf
        obtain ⟨c0, c1, c2, c3, cf⟩ := q1.cells
        go_wp2_with fail
        refine (HPr.out _ HS10.out).mono ?_
        rintro e x2 ⟨rfl, g2⟩
        have q2 := q1.still g2
        have HS11 := hid (Still.trans HS10.out g2)
        clear g2 HS10 q1 c0 c1 c2 c3 cf
        go_wp2_with fail
        refine (C.par S _ (by have := HZ.out; omega) HS11.out).mono ?_
        rintro e x3 ⟨v', a', b', c', x', rfl, hp, g3⟩
        obtain ⟨rfl, rfl, rfl, rfl, rfl⟩ := pv_one hp HB.out
        have A4 := Still.alloc x3 (.cells #[.int .i64 v', .int .i64 a', .int .i64 b', .int .i64 c'] 32)
        have q3 := (q2.still g3).still A4
        have r3 := newO_orb x3 v' a' b' c'
        have HS12 := hid (Still.trans (Still.trans HS11.out g3) A4)
        have K1 := eql_or_t v' a' b' c'
        clear g3 HS11 q2 A4 hp
        obtain ⟨c0, c1, c2, c3, cf⟩ := q3.cells
        obtain ⟨d0, d1, d2, d3, df⟩ := r3.cells
        go_wp2_with fail
        refine (HNm.out _ HS12.out).mono ?_
        rintro e x4 ⟨rfl, g5⟩
        have HS13 := hid (Still.trans HS12.out g5)
        clear g5 HS12
        go_wp2_with fail
        go_ret
        exact ⟨rfl, HS13.out⟩
      · have hd1 : decide (v < 1) = false := by simp; omega
        have hd2 : decide (7 < v) = false := by simp; omega
        subst x1
        rcases hx.out with ⟨rfl, rfl, rfl, rfl, rfl, rfl, hs1, hs2⟩ | ⟨rfl, hs2⟩ | ⟨hbad, hT⟩
        · have e1 := some_of hs1
          have e2 := some_of hs2
          clear hs1 hs2 hV hx
          clear pp
          go_wp2_with fail
          refine region_all (by kernel_rfl) (by kernel_rfl) ?_
          repeat (go_big_quiet_step ((go_at_call 14; exact Calls.cl (H7.out _))))
          refine wpQuiet_nil ?_
          intro w9 h9
          have p8 := p9.still h9
          have HS8 := hid (Still.trans HS9.out h9)
          clear c0 hne h9 p9 HS9
          have p9 := p8
          have HS9 := hid HS8.out
          clear p8 HS8
          obtain ⟨c0, c1, c2, c3, cf⟩ := p9.cells
          go_wp2_with fail
          refine (HCk.out _ (HSW.out.trans HS9.out)).mono ?_
          rintro e x1 ⟨rfl, g1⟩
          have q1 := p9.still g1
          have HS10 := hid (Still.trans (Still.trans HSW.out HS9.out) g1)
          clear g1 HS9 p9 c0 c1 c2 c3 cf
          obtain ⟨c0, c1, c2, c3, cf⟩ := q1.cells
          go_wp2_with fail
          refine (HPr.out _ HS10.out).mono ?_
          rintro e x2 ⟨rfl, g2⟩
          have q2 := q1.still g2
          have HS11 := hid (Still.trans HS10.out g2)
          clear g2 HS10 q1 c0 c1 c2 c3 cf
          go_wp2_with fail
          refine (C.par S _ (by have := HZ.out; omega) HS11.out).mono ?_
          rintro e x3 ⟨v', a', b', c', x', rfl, hp, g3⟩
          obtain ⟨rfl, rfl, rfl, rfl, rfl⟩ := pv_one hp HB.out
          have A4 := Still.alloc x3 (.cells #[.int .i64 v', .int .i64 a', .int .i64 b', .int .i64 c'] 32)
          have q3 := (q2.still g3).still A4
          have r3 := newO_orb x3 v' a' b' c'
          have HS12 := hid (Still.trans (Still.trans HS11.out g3) A4)
          have K1 := eql_or_t v' a' b' c'
          clear g3 HS11 q2 A4 hp
          obtain ⟨c0, c1, c2, c3, cf⟩ := q3.cells
          obtain ⟨d0, d1, d2, d3, df⟩ := r3.cells
          go_wp2_with fail
          refine (HNm.out _ HS12.out).mono ?_
          rintro e x4 ⟨rfl, g5⟩
          have HS13 := hid (Still.trans HS12.out g5)
          clear g5 HS12
          go_wp2_with fail
          go_ret
          exact ⟨rfl, HS13.out⟩
        · have e2 := some_of hs2
          clear hs2 hV hx
          clear pp
          go_wp2_with fail
          refine region_all (by kernel_rfl) (by kernel_rfl) ?_
          repeat (go_big_quiet_step ((go_at_call 14; exact Calls.cl (H7.out _))))
          refine wpQuiet_nil ?_
          intro w9 h9
          have p8 := p9.still h9
          have HS8 := hid (Still.trans HS9.out h9)
          clear c0 hne h9 p9 HS9
          have p9 := p8
          have HS9 := hid HS8.out
          clear p8 HS8
          obtain ⟨c0, c1, c2, c3, cf⟩ := p9.cells
          go_wp2_with fail
          refine (HCk.out _ (HSW.out.trans HS9.out)).mono ?_
          rintro e x1 ⟨rfl, g1⟩
          have q1 := p9.still g1
          have HS10 := hid (Still.trans (Still.trans HSW.out HS9.out) g1)
          clear g1 HS9 p9 c0 c1 c2 c3 cf
          obtain ⟨c0, c1, c2, c3, cf⟩ := q1.cells
          go_wp2_with fail
          refine (HPr.out _ HS10.out).mono ?_
          rintro e x2 ⟨rfl, g2⟩
          have q2 := q1.still g2
          have HS11 := hid (Still.trans HS10.out g2)
          clear g2 HS10 q1 c0 c1 c2 c3 cf
          go_wp2_with fail
          refine (C.par S _ (by have := HZ.out; omega) HS11.out).mono ?_
          rintro e x3 ⟨v', a', b', c', x', rfl, hp, g3⟩
          obtain ⟨rfl, rfl, rfl, rfl, rfl⟩ := pv_one hp HB.out
          have A4 := Still.alloc x3 (.cells #[.int .i64 v', .int .i64 a', .int .i64 b', .int .i64 c'] 32)
          have q3 := (q2.still g3).still A4
          have r3 := newO_orb x3 v' a' b' c'
          have HS12 := hid (Still.trans (Still.trans HS11.out g3) A4)
          have K1 := eql_or_t v' a' b' c'
          clear g3 HS11 q2 A4 hp
          obtain ⟨c0, c1, c2, c3, cf⟩ := q3.cells
          obtain ⟨d0, d1, d2, d3, df⟩ := r3.cells
          go_wp2_with fail
          refine (HNm.out _ HS12.out).mono ?_
          rintro e x4 ⟨rfl, g5⟩
          have HS13 := hid (Still.trans HS12.out g5)
          clear g5 HS12
          go_wp2_with fail
          go_ret
          exact ⟨rfl, HS13.out⟩
        · exact absurd hbad x2
theorem ranges_law (v a b c : Int) (w : World) (C : Cts w) : Calls Tryd.prog 7 #[od v a b c] w fun e w' => e = .returned (.bool true) ∧ Still w w' := by
  have hk := fun u k => C.chk v a b c u k
  have hp := fun u k => C.prt v a b c u k
  have hn := fun u k => C.nam v u k
  cases hv : isV v with
  | false =>
    have hx : chkO v a b c = 70 := by unfold chkO; rw [hv]; rfl
    have hb : PV (prnO v a b c) 0 0 0 0 72 := by
      rcases pv_back v a b c with ⟨h, _⟩ | ⟨_, h⟩
      · rw [hx] at h; cases h
      · exact h
    have hN : nmV v = ByteArray.empty := by unfold nmV; rw [hv]; rfl
    rw [hx] at hk hp
    refine ranges_walk v a b c 70 _ _ _ 0 0 0 0 72 (hid ?_) (hid rfl) w C (hid hk) (hid hp) (hid hn) (hid (prnO_sz v a b c)) (hid hb) (hid (.inr (.inr ⟨rfl, hN⟩)))
    rcases isV_no.1 hv with h | h
    · exact .inl ⟨h, rfl⟩
    · exact .inr (.inl ⟨by omega, h, rfl⟩)
  | true =>
    have hr := isV_iff.1 hv
    have hw := chk_wn (a := a) (b := b) (c := c) hv
    have hN : (nmV v).size ≠ 0 := by have := nmV_pos hv; omega
    rcases pv_back v a b c with ⟨h, hb⟩ | ⟨h, hb⟩
    · have hS : (prnO v a b c).size ≠ 0 := by
        unfold prnO
        rw [if_pos h]
        have h1 := (prn_front (v := v) (a := a) (b := b) rfl).1
        omega
      rw [h] at hk hp hw
      exact ranges_walk v a b c 0 _ _ _ v a b c 0 (hid (.inr (.inr ⟨hr.1, hr.2, hw, by decide⟩))) (hid rfl) w C (hid hk) (hid hp) (hid hn) (hid (prnO_sz v a b c)) (hid hb) (hid (.inl ⟨rfl, rfl, rfl, rfl, rfl, rfl, hS, hN⟩))
    · have hx : chkO v a b c = 71 := by
        unfold chkO at h ⊢
        rw [if_pos hv] at h ⊢
        split at h
        · exact absurd rfl h
        · rename_i ho; rw [if_neg ho]
      rw [hx] at hk hp hw
      exact ranges_walk v a b c 71 _ _ _ 0 0 0 0 72 (hid (.inr (.inr ⟨hr.1, hr.2, hw, by decide⟩))) (hid rfl) w C (hid hk) (hid hp) (hid hn) (hid (prnO_sz v a b c)) (hid hb) (hid (.inr (.inl ⟨rfl, hN⟩)))
end Go.Proofs.YtlaehphhfeoklaaDoor
