/- The document's May. -/
import Derived.Test.YtaalbkmdmocdeaaDoorNc
namespace Go.Proofs.YtaalbkmdmocdeaaDoor
open Go.RowKit
open Pu Gp Ap Vp Np
set_option maxRecDepth 100000

set_option maxHeartbeats 4000000 in
theorem rmay_any (m : Mv) (w : World) : Calls Tryd.prog 30 #[mv m] w fun e w' => e = .returned (.bool (mayB m)) ∧ Still w w' := by
  have p := newM_mb w m
  have HS0 := hid (Still.alloc w (.cells (mcs m) 25))
  rw [may_parts]
  have G1 := guard_pt
  have G2 := guard_mv
  obtain ⟨c0, c1, c2, c3, c4, c5, c6, c7, c8, c9, c10, c11, c12, cf⟩ := p.cells
  go_enter Tryd.func30, Tryd.ntmps30
  go_wp2_with fail
  refine (rgbound_any m.ax m.ay _).mono ?_
  rintro e w1 ⟨rfl, h1⟩
  have A1 := Still.alloc w1 (.cells #[.int .i64 (bnd m.ax), .int .i64 (bnd m.ay)] 23)
  have p1 := (p.still h1).still A1
  have q1 : Pb (w1.alloc (.cells #[.int .i64 (bnd m.ax), .int .i64 (bnd m.ay)] 23)) w1.heap.size (bnd m.ax) (bnd m.ay) := newP_pb w1 (bnd m.ax) (bnd m.ay)
  have HS1 := hid ((HS0.out.trans h1).trans A1)
  clear h1 p HS0 c0 c1 c2 c3 c4 c5 c6 c7 c8 c9 c10 c11 c12 cf A1
  obtain ⟨W, eW⟩ : ∃ W, w1.alloc (.cells #[.int .i64 (bnd m.ax), .int .i64 (bnd m.ay)] 23) = W := ⟨_, rfl⟩
  go_upto_region 2 with fail
  rw [eW] at p1 q1 HS1
  clear eW
  obtain ⟨c0, c1, c2, c3, c4, c5, c6, c7, c8, c9, c10, c11, c12, cf⟩ := p1.cells
  obtain ⟨d0, d1, df⟩ := q1.cells
  have HE := eql_pt (bnd m.ax) (bnd m.ay) m.ax m.ay
  have HA : Hid (mA m = ((bnd m.ax == m.ax && bnd m.ay == m.ay) && amg m.sx (-1024) 1024 && amg m.sy (-1024) 1024)) := hid rfl
  have HB : Hid (mB m = (amg m.px (-256) 256 && amg m.py (-256) 256 && amg m.fc 0 15)) := hid rfl
  have HC : Hid (mC m = (amg m.hl 0 100 && amg m.en 0 100 && amg m.co 0 12 && amg m.ou 0 30 && amg m.sd 0 255)) := hid rfl
  have HM := hid (fun (n l h : Int) (w : World) => among_any n l h w)
  obtain ⟨b0, eb0⟩ : ∃ b, (bnd m.ax == m.ax && bnd m.ay == m.ay) = b := ⟨_, rfl⟩
  rw [eb0] at HE HA
  clear eb0
  go_cut [4] (fun v wx => v = .bool (mA m) ∧ wx = W)
  case first =>
    cases b0 with
    | false =>
      go_wp2_with fail
      go_meet
      exact ⟨by rw [HA.out]; rfl, rfl⟩
    | true =>
      go_wp2_with fail
      refine (HM.out _ _ _ _).mono ?_
      rintro e w2 ⟨he, hw⟩
      rw [he, hw]
      clear he hw w2
      obtain ⟨b1, eb1⟩ : ∃ b, amg m.sx (-1024) 1024 = b := ⟨_, rfl⟩
      rw [eb1] at HA ⊢
      clear eb1
      cases b1 with
      | false =>
        go_wp2_with fail
        go_meet
        exact ⟨by rw [HA.out]; rfl, rfl⟩
      | true =>
        go_wp2_with fail
        refine (HM.out _ _ _ _).mono ?_
        rintro e w2 ⟨he, hw⟩
        rw [he, hw]
        clear he hw w2
        go_wp2_with fail
        go_meet
        exact ⟨by rw [HA.out]; rfl, rfl⟩
  case rest =>
    obtain ⟨rfl, hw⟩ := hcut
    rw [hw]
    clear hw HE d0 d1 df q1
    go_upto_region 3 with fail
    go_cut [5] (fun v wx => v = .bool (mB m) ∧ wx = W)
    case first =>
      go_wp2_with fail
      refine (HM.out _ _ _ _).mono ?_
      rintro e w2 ⟨he, hw⟩
      rw [he, hw]
      clear he hw w2
      obtain ⟨b1, eb1⟩ : ∃ b, amg m.px (-256) 256 = b := ⟨_, rfl⟩
      rw [eb1] at HB ⊢
      clear eb1
      cases b1 with
      | false =>
        go_wp2_with fail
        go_meet
        exact ⟨by rw [HB.out]; rfl, rfl⟩
      | true =>
        go_wp2_with fail
        refine (HM.out _ _ _ _).mono ?_
        rintro e w2 ⟨he, hw⟩
        rw [he, hw]
        clear he hw w2
        obtain ⟨b1, eb1⟩ : ∃ b, amg m.py (-256) 256 = b := ⟨_, rfl⟩
        rw [eb1] at HB ⊢
        clear eb1
        cases b1 with
        | false =>
          go_wp2_with fail
          go_meet
          exact ⟨by rw [HB.out]; rfl, rfl⟩
        | true =>
          go_wp2_with fail
          refine (HM.out _ _ _ _).mono ?_
          rintro e w2 ⟨he, hw⟩
          rw [he, hw]
          clear he hw w2
          go_wp2_with fail
          go_meet
          exact ⟨by rw [HB.out]; rfl, rfl⟩
    case rest =>
      obtain ⟨rfl, hw⟩ := hcut
      rw [hw]
      clear hw
      go_upto_region 4 with fail
      go_cut [6] (fun v wx => v = .bool (mC m) ∧ wx = W)
      case first =>
        go_wp2_with fail
        refine (HM.out _ _ _ _).mono ?_
        rintro e w2 ⟨he, hw⟩
        rw [he, hw]
        clear he hw w2
        obtain ⟨b1, eb1⟩ : ∃ b, amg m.hl 0 100 = b := ⟨_, rfl⟩
        rw [eb1] at HC ⊢
        clear eb1
        cases b1 with
        | false =>
          go_wp2_with fail
          go_meet
          exact ⟨by rw [HC.out]; rfl, rfl⟩
        | true =>
          go_wp2_with fail
          refine (HM.out _ _ _ _).mono ?_
          rintro e w2 ⟨he, hw⟩
          rw [he, hw]
          clear he hw w2
          obtain ⟨b1, eb1⟩ : ∃ b, amg m.en 0 100 = b := ⟨_, rfl⟩
          rw [eb1] at HC ⊢
          clear eb1
          cases b1 with
          | false =>
            go_wp2_with fail
            go_meet
            exact ⟨by rw [HC.out]; rfl, rfl⟩
          | true =>
            go_wp2_with fail
            refine (HM.out _ _ _ _).mono ?_
            rintro e w2 ⟨he, hw⟩
            rw [he, hw]
            clear he hw w2
            obtain ⟨b1, eb1⟩ : ∃ b, amg m.co 0 12 = b := ⟨_, rfl⟩
            rw [eb1] at HC ⊢
            clear eb1
            cases b1 with
            | false =>
              go_wp2_with fail
              go_meet
              exact ⟨by rw [HC.out]; rfl, rfl⟩
            | true =>
              go_wp2_with fail
              refine (HM.out _ _ _ _).mono ?_
              rintro e w2 ⟨he, hw⟩
              rw [he, hw]
              clear he hw w2
              obtain ⟨b1, eb1⟩ : ∃ b, amg m.ou 0 30 = b := ⟨_, rfl⟩
              rw [eb1] at HC ⊢
              clear eb1
              cases b1 with
              | false =>
                go_wp2_with fail
                go_meet
                exact ⟨by rw [HC.out]; rfl, rfl⟩
              | true =>
                go_wp2_with fail
                refine (HM.out _ _ _ _).mono ?_
                rintro e w2 ⟨he, hw⟩
                rw [he, hw]
                clear he hw w2
                go_wp2_with fail
                go_meet
                exact ⟨by rw [HC.out]; rfl, rfl⟩
      case rest =>
        obtain ⟨rfl, hw⟩ := hcut
        rw [hw]
        clear hw HA HB HC HM
        obtain ⟨A, eA⟩ : ∃ b, mA m = b := ⟨_, rfl⟩
        obtain ⟨B, eB⟩ : ∃ b, mB m = b := ⟨_, rfl⟩
        obtain ⟨C, eC⟩ : ∃ b, mC m = b := ⟨_, rfl⟩
        have HR : Hid (∀ x : Bool, mD m = x → (mA m && mB m && mC m && mD m) = (A && B && C && x)) := hid (fun x ex => by rw [eA, eB, eC, ex])
        rw [eA, eB, eC]
        clear eA eB eC
        cases A with
        | false =>
          go_wp2_with fail
          go_ret
          exact ⟨by rw [HR.out _ rfl]; simp, HS1.out⟩
        | true =>
          cases B with
          | false =>
            go_wp2_with fail
            go_ret
            exact ⟨by rw [HR.out _ rfl]; simp, HS1.out⟩
          | true =>
            cases C with
            | false =>
              go_wp2_with fail
              go_ret
              exact ⟨by rw [HR.out _ rfl]; simp, HS1.out⟩
            | true =>
              by_cases h0 : m.ou = 0
              · have HD : Hid (mD m = decide (1 ≤ m.hl)) := hid (by unfold mD; rw [if_pos h0])
                have hb : (m.ou == 0) = true := by simpa using h0
                go_wp2_with fail
                go_ret
                exact ⟨by rw [HR.out _ HD.out]; simp, HS1.out⟩
              · have HD : Hid (mD m = eqM m (outN m)) := hid (by unfold mD; rw [if_neg h0])
                have hb : (m.ou == 0) = false := by simpa using h0
                have E2 := eql_mv m (outN m)
                simp only [outN] at E2
                go_wp2_with fail
                go_ret
                exact ⟨by rw [HR.out _ HD.out]; simp [outN], HS1.out⟩
theorem rcheck8_any (m : Mv) (w : World) : Calls Tryd.prog 13 #[mv m] w fun e w' => e = .returned (.int .i64 (chkM m)) ∧ Still w w' := by
  have p := newM_mb w m
  have HS0 := hid (Still.alloc w (.cells (mcs m) 25))
  obtain ⟨c0, c1, c2, c3, c4, c5, c6, c7, c8, c9, c10, c11, c12, cf⟩ := p.cells
  have H := hid (fun w => rmay_any m w)
  unfold chkM
  obtain ⟨b, eb⟩ : ∃ b, mayB m = b := ⟨_, rfl⟩
  rw [eb] at H ⊢
  clear eb
  go_enter Tryd.func13, Tryd.ntmps13
  go_wp2_with fail
  refine (H.out _).mono ?_
  rintro e w1 ⟨rfl, h1⟩
  have HS1 := hid (HS0.out.trans h1)
  clear h1 HS0
  cases b with
  | false =>
    go_wp2_with fail
    go_ret
    exact ⟨rfl, HS1.out⟩
  | true =>
    go_wp2_with fail
    go_ret
    exact ⟨rfl, HS1.out⟩
end Go.Proofs.YtaalbkmdmocdeaaDoor
