/- The document's Check and Damage of shots. -/
import Derived.Test.YtpohikhiekmfgaaZb
import Derived.Test.YtpohikhiekmfgaaK5b
import Derived.Deep.DeepCutAuto
namespace Go.Proofs.Ytpohikhiekmfgaa
open Go.RowKit
open Pu Gp Ap Vp Np Za
set_option maxRecDepth 100000

def aB (s : Sh) : Bool := decide (1 ≤ s.no) && decide (s.no ≤ 1099511627776) && decide (0 ≤ s.ow) && decide (s.ow ≤ 5) && decide (1 ≤ s.pw) && decide (s.pw ≤ 3) && (bnd s.ax == s.ax && bnd s.ay == s.ay)
def bB (s : Sh) : Bool := decide (-1536 ≤ s.sx) && decide (s.sx ≤ 1536) && decide (-1536 ≤ s.sy) && decide (s.sy ≤ 1536)
theorem mayS_parts (s : Sh) : maySB s = (aB s && bB s && decide (1 ≤ s.lf) && decide (s.lf ≤ 40)) := by
  rw [Bool.eq_iff_iff, maySB_iff]
  unfold aB bB MayS
  simp only [Bool.and_eq_true, beq_iff_eq, bnd_is, decide_eq_true_eq]
  omega
set_option maxHeartbeats 4000000 in
theorem rchks_any (s : Sh) (w : World) : Calls Try.prog 54 #[sv s] w fun e w' => e = .returned (.int .i64 (chkS s)) ∧ Still w w' := by
  have p := newS_sb w s
  have HS0 := hid (Still.alloc w (.cells (scs s) 49))
  have HC : Hid (chkS s = if (aB s && bB s && decide (1 ≤ s.lf) && decide (s.lf ≤ 40)) then 0 else 90) := hid (by unfold chkS; rw [mayS_parts])
  have G1 := guard_pt
  obtain ⟨c0, c1, c2, c3, c4, c5, c6, c7, cf⟩ := p.cells
  go_enter Try.func54, Try.ntmps54
  go_wp2_with fail
  refine (rgbound_any s.ax s.ay _).mono ?_
  rintro e w1 ⟨rfl, h1⟩
  have A1 := Still.alloc w1 (.cells #[.int .i64 (bnd s.ax), .int .i64 (bnd s.ay)] 33)
  have p1 := (p.still h1).still A1
  have q1 : Pb (w1.alloc (.cells #[.int .i64 (bnd s.ax), .int .i64 (bnd s.ay)] 33)) w1.heap.size (bnd s.ax) (bnd s.ay) := newP_pb w1 (bnd s.ax) (bnd s.ay)
  have HS1 := hid ((HS0.out.trans h1).trans A1)
  clear h1 p HS0 c0 c1 c2 c3 c4 c5 c6 c7 cf A1
  obtain ⟨W, eW⟩ : ∃ W, w1.alloc (.cells #[.int .i64 (bnd s.ax), .int .i64 (bnd s.ay)] 33) = W := ⟨_, rfl⟩
  rw [eW] at p1 q1 HS1
  go_upto_region 2 with fail
  clear eW
  obtain ⟨c0, c1, c2, c3, c4, c5, c6, c7, cf⟩ := p1.cells
  obtain ⟨d0, d1, df⟩ := q1.cells
  have HE := eql_pt (bnd s.ax) (bnd s.ay) s.ax s.ay
  have HA : Hid (aB s = (decide (1 ≤ s.no) && decide (s.no ≤ 1099511627776) && decide (0 ≤ s.ow) && decide (s.ow ≤ 5) && decide (1 ≤ s.pw) && decide (s.pw ≤ 3) && (bnd s.ax == s.ax && bnd s.ay == s.ay))) := hid rfl
  have HB : Hid (bB s = (decide (-1536 ≤ s.sx) && decide (s.sx ≤ 1536) && decide (-1536 ≤ s.sy) && decide (s.sy ≤ 1536))) := hid rfl
  obtain ⟨b0, eb0⟩ : ∃ b, (bnd s.ax == s.ax && bnd s.ay == s.ay) = b := ⟨_, rfl⟩
  rw [eb0] at HE HA
  clear eb0
  go_cut [4] (fun v wx => v = .bool (aB s) ∧ wx = W)
  case first =>
    by_cases g0 : 1 ≤ s.no
    · have g0' : s.no ≥ 1 := g0
      by_cases g1 : s.no ≤ 1099511627776
      · have g1' : 1099511627776 ≥ s.no := g1
        by_cases g2 : 0 ≤ s.ow
        · have g2' : s.ow ≥ 0 := g2
          by_cases g3 : s.ow ≤ 5
          · have g3' : 5 ≥ s.ow := g3
            by_cases g4 : 1 ≤ s.pw
            · have g4' : s.pw ≥ 1 := g4
              by_cases g5 : s.pw ≤ 3
              · have g5' : 3 ≥ s.pw := g5
                go_wp2_with fail
                go_meet
                exact ⟨by rw [HA.out]; first | (simp [*]; done) | (simp; intros; omega), rfl⟩
              · have g5' : ¬ 3 ≥ s.pw := g5
                go_wp2_with fail
                go_meet
                exact ⟨by rw [HA.out]; first | (simp [*]; done) | (simp; intros; omega), rfl⟩
            · have g4' : ¬ s.pw ≥ 1 := g4
              go_wp2_with fail
              go_meet
              exact ⟨by rw [HA.out]; first | (simp [*]; done) | (simp; intros; omega), rfl⟩
          · have g3' : ¬ 5 ≥ s.ow := g3
            go_wp2_with fail
            go_meet
            exact ⟨by rw [HA.out]; first | (simp [*]; done) | (simp; intros; omega), rfl⟩
        · have g2' : ¬ s.ow ≥ 0 := g2
          go_wp2_with fail
          go_meet
          exact ⟨by rw [HA.out]; first | (simp [*]; done) | (simp; intros; omega), rfl⟩
      · have g1' : ¬ 1099511627776 ≥ s.no := g1
        go_wp2_with fail
        go_meet
        exact ⟨by rw [HA.out]; first | (simp [*]; done) | (simp; intros; omega), rfl⟩
    · have g0' : ¬ s.no ≥ 1 := g0
      go_wp2_with fail
      go_meet
      exact ⟨by rw [HA.out]; first | (simp [*]; done) | (simp; intros; omega), rfl⟩
  case rest =>
    obtain ⟨rfl, hw⟩ := hcut
    rw [hw]
    clear hw HE d0 d1 df q1 HA
    go_upto_region 3 with fail
    go_cut [5] (fun v wx => v = .bool (bB s) ∧ wx = W)
    case first =>
      by_cases g0 : -1536 ≤ s.sx
      · have g0' : s.sx ≥ -1536 := g0
        by_cases g1 : s.sx ≤ 1536
        · have g1' : 1536 ≥ s.sx := g1
          by_cases g2 : -1536 ≤ s.sy
          · have g2' : s.sy ≥ -1536 := g2
            go_wp2_with fail
            go_meet
            exact ⟨by rw [HB.out]; first | (simp [*]; done) | (simp; intros; omega), rfl⟩
          · have g2' : ¬ s.sy ≥ -1536 := g2
            go_wp2_with fail
            go_meet
            exact ⟨by rw [HB.out]; first | (simp [*]; done) | (simp; intros; omega), rfl⟩
        · have g1' : ¬ 1536 ≥ s.sx := g1
          go_wp2_with fail
          go_meet
          exact ⟨by rw [HB.out]; first | (simp [*]; done) | (simp; intros; omega), rfl⟩
      · have g0' : ¬ s.sx ≥ -1536 := g0
        go_wp2_with fail
        go_meet
        exact ⟨by rw [HB.out]; first | (simp [*]; done) | (simp; intros; omega), rfl⟩
    case rest =>
      obtain ⟨rfl, hw⟩ := hcut
      rw [hw]
      clear hw HB
      obtain ⟨A, eA⟩ : ∃ b, aB s = b := ⟨_, rfl⟩
      obtain ⟨B, eB⟩ : ∃ b, bB s = b := ⟨_, rfl⟩
      rw [eA, eB] at HC
      rw [eA, eB]
      clear eA eB
      cases A with
      | false =>
        go_wp2_with fail
        go_ret
        exact ⟨by rw [HC.out]; simp, HS1.out⟩
      | true =>
        cases B with
        | false =>
          go_wp2_with fail
          go_ret
          exact ⟨by rw [HC.out]; simp, HS1.out⟩
        | true =>
          by_cases g1 : s.lf < 1
          · have HC2 : Hid (chkS s = 90) := hid (by rw [HC.out]; simp; omega)
            go_wp2_with fail
            go_ret
            exact ⟨by rw [HC2.out]; rfl, HS1.out⟩
          · by_cases g2 : s.lf > 40
            · have HC2 : Hid (chkS s = 90) := hid (by rw [HC.out]; simp; omega)
              go_wp2_with fail
              go_ret
              exact ⟨by rw [HC2.out]; rfl, HS1.out⟩
            · have HC2 : Hid (chkS s = 0) := hid (by rw [HC.out]; simp; omega)
              have g3 : decide (40 < s.lf) = false := by simp; omega
              go_wp2_with fail
              go_ret
              exact ⟨by rw [HC2.out]; rfl, HS1.out⟩
end Go.Proofs.Ytpohikhiekmfgaa
