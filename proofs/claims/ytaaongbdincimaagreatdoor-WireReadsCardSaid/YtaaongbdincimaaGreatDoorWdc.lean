/- The document's Check of a datagram. -/
import Derived.Test.YtaaongbdincimaaGreatDoorWmb
namespace Go.Proofs.YtaaongbdincimaaGreatDoor
open Go.RowKit
open Wp Vp
set_option maxRecDepth 100000
set_option linter.unusedVariables false
set_option linter.unusedSimpArgs false

theorem okC_six (f fi : Int) (i : Nat) (x : Cc) : okC f fi i x = ((x.pe == f) && ((x.sq == fi + i) && (decide (x.sq ≤ 1099511627776) && (decide (1 ≤ x.fr) && (decide (x.fr ≤ 1099511627776) && (chkO x.v x.a x.b x.c == 0)))))) := by
  unfold okC
  rw [Bool.eq_iff_iff]
  simp
theorem vcheck_r16 (x : Cc) (w : World) (ht : OTab w) : Calls Tryz.prog 33 #[od x.v x.a x.b x.c] w fun e w' => e = .returned (.int .i64 (chkO x.v x.a x.b x.c)) ∧ Still w w' := rchk_any x.v x.a x.b x.c w ht
set_option maxHeartbeats 4000000 in
theorem rcmd16_any (d : Dg) (co : Option Addr) (cn cp : Nat) (i : Nat) (hi : i < cn) (hi2 : i ≤ 336) (hf : 1 ≤ d.fi ∧ d.fi ≤ 1099511627776) (w : World) (ht : OTab w) (hr : RdG KCc w co cn d.cs) : Calls Tryz.prog 19 #[dgv d co cn cp, .int .i64 (i : Int)] w fun e w' => e = .returned (.bool (okC d.fr d.fi i (cc d.cs i))) ∧ Still w w' := by
  obtain ⟨B, o, rfl⟩ := hr.at (by omega)
  have A0 := Still.alloc w (.cells (dgc d (some ⟨B, o, none⟩) cn cp) 25)
  have hlt : (i : Int) < (cn : Int) := by omega
  obtain ⟨k0, k1, k2, k3, k4, k5, k6⟩ := rdCc (hr.still A0) hi
  have HX := hid (okC_six d.fr d.fi i (cc d.cs i))
  obtain ⟨x, ex⟩ : ∃ x, cc d.cs i = x := ⟨_, rfl⟩
  rw [ex] at HX k0 k1 k2 k3 k4 k5 k6 ⊢
  have hb0 := newDg_b w d (some ⟨B, o, none⟩) cn cp
  obtain ⟨_, _, _, _, _, _, m6, _, _⟩ := hb0.cells
  have A1 := Still.alloc (newDg w d (some ⟨B, o, none⟩) cn cp) (.cells (kmc x) 42)
  have HV := hid (vcheck_r16 x (newCc (newDg w d (some ⟨B, o, none⟩) cn cp) x) ((ht.still A0).still A1))
  have HD := hid (hb0.still A1)
  have HC := hid (newCc_b (newDg w d (some ⟨B, o, none⟩) cn cp) x)
  have HS := hid (A0.trans A1)
  have hwr : IntKind.i64.wrap (d.fi + (i : Int)) = d.fi + (i : Int) := wr64 (by omega) (by omega)
  rw [size_alloc] at HC
  obtain ⟨r, er⟩ : ∃ r, chkO x.v x.a x.b x.c = r := ⟨_, rfl⟩
  rw [er] at HX HV
  clear ex er A0 A1 hb0 hr ht
  have key : (x.pe == d.fr) = false ∨ ((x.pe == d.fr) = true ∧ (x.sq == d.fi + (i : Int)) = false) ∨ ((x.pe == d.fr) = true ∧ (x.sq == d.fi + (i : Int)) = true ∧ ¬ x.sq ≤ 1099511627776) ∨ ((x.pe == d.fr) = true ∧ (x.sq == d.fi + (i : Int)) = true ∧ x.sq ≤ 1099511627776 ∧ ¬ 1 ≤ x.fr) ∨ ((x.pe == d.fr) = true ∧ (x.sq == d.fi + (i : Int)) = true ∧ x.sq ≤ 1099511627776 ∧ 1 ≤ x.fr ∧ ¬ x.fr ≤ 1099511627776) ∨ ((x.pe == d.fr) = true ∧ (x.sq == d.fi + (i : Int)) = true ∧ x.sq ≤ 1099511627776 ∧ 1 ≤ x.fr ∧ x.fr ≤ 1099511627776) := by
    cases (x.pe == d.fr) <;> cases (x.sq == d.fi + (i : Int)) <;> simp <;> omega
  have HB : ∃ b, okC d.fr d.fi i x = b := ⟨_, rfl⟩
  obtain ⟨b, eb⟩ := HB
  rw [eb] at HX ⊢
  clear eb
  go_enter Tryz.func19, Tryz.ntmps19
  go_wp2_with fail
  refine HV.out.mono ?_
  rintro e w2 ⟨he, h2⟩
  rw [he]
  have HS2 := hid (HS.out.trans h2)
  obtain ⟨c0, c1, c2, _, _, _, _, _⟩ := (HC.out.still h2).cells
  obtain ⟨_, _, d2, _, _, d5, _, _, _⟩ := (HD.out.still h2).cells
  clear he h2 HV HD HC HS k0 k1 k2 k3 k4 k5 k6 m6
  obtain ⟨f1, f2, f3, f4, f5, f6, f7⟩ := x
  dsimp only at key HX c0 c1 c2
  rcases key with h | ⟨h, h'⟩ | ⟨h, h', h3⟩ | ⟨h, h', h3, h4⟩ | ⟨h, h', h3, h4, h5⟩ | ⟨h, h', h3, h4, h5⟩
  · rw [h] at HX
    go_wp2_with fail
    go_ret
    exact ⟨by rw [HX.out]; simp, HS2.out⟩
  · rw [h, h'] at HX
    obtain rfl : f2 = d.fr := by simpa using h
    clear h
    go_wp2_with fail
    go_ret
    exact ⟨by rw [HX.out]; simp, HS2.out⟩
  all_goals
    rw [h, h'] at HX
    obtain rfl : f2 = d.fr := by simpa using h
    obtain rfl : f3 = d.fi + (i : Int) := by simpa using h'
    clear h h'
    have HX2 := hid (HX.out)
    try (have e3 : decide (d.fi + (i : Int) ≤ 1099511627776) = false := by simpa using h3
         rw [e3] at HX2)
    try (have e3 : decide (d.fi + (i : Int) ≤ 1099511627776) = true := by simpa using h3
         rw [e3] at HX2)
    try (have e4 : decide (1 ≤ f1) = false := by simpa using h4
         rw [e4] at HX2)
    try (have e4 : decide (1 ≤ f1) = true := by simpa using h4
         rw [e4] at HX2)
    try (have e5 : decide (f1 ≤ 1099511627776) = false := by simpa using h5
         rw [e5] at HX2)
    try (have e5 : decide (f1 ≤ 1099511627776) = true := by simpa using h5
         rw [e5] at HX2)
    try clear e3
    try clear e4
    try clear e5
    go_wp2_with fail
    go_ret
    exact ⟨by rw [HX2.out]; simp, HS2.out⟩
end Go.Proofs.YtaaongbdincimaaGreatDoor
