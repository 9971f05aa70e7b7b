/- The program's flyTogether, what it asks of a place for a shot, and Shots. -/
import Derived.Test.YtpohikhiekmfgaaYgc
namespace Go.Proofs.Ytpohikhiekmfgaa
open Go Go.RowKit
open Pu Gp Ap Vp Np Za Ka Ja Ygp
set_option maxRecDepth 100000

/-- the number ahead -/
def abv (S : List Sh) (k : Nat) : Int := if k = 0 then 0 else (ss S (k - 1)).no
theorem abv_next (S : List Sh) (k : Nat) : abv S (k + 1) = (ss S k).no := by unfold abv; rw [if_neg (by omega)]; rfl
theorem flo_step {S : List Sh} {k : Nat} : (maySB (ss S k) = true ∧ abv S k < (ss S k).no) ↔ (maySB (ss S k) = true ∧ (0 < k → (ss S (k - 1)).no < (ss S k).no)) := by
  constructor
  · rintro ⟨h1, h2⟩
    refine ⟨h1, fun h => ?_⟩
    unfold abv at h2
    rwa [if_neg (by omega)] at h2
  · rintro ⟨h1, h2⟩
    refine ⟨h1, ?_⟩
    unfold abv
    split
    · have := (maySB_iff.1 h1).1; omega
    · exact h2 (by omega)
set_option maxHeartbeats 2000000 in
theorem hfly_any (S : List Sh) (ao : Option Addr) (n cap : Nat) (w : World) (hr : RdG KS w ao n S) : Calls Try.prog 33 #[.slice ao n cap] w fun e w' => e = .returned (.bool (flo S)) ∧ Still w w' := by
  have HL := hid hr.1
  have HR := hid hr
  by_cases h6 : 48 < n
  · have HE : Hid (flo S = false) := hid (flo_no (fun h => by have := h.1; rw [HL.out] at this; omega))
    have h6' : (n : Int) > 48 := by omega
    clear hr
    go_enter Try.func33, Try.ntmps33
    go_wp2_with fail
    go_ret
    exact ⟨by rw [HE.out]; rfl, Fr.refl _ _⟩
  · have h6' : decide ((48 : Int) < (n : Int)) = false := by simp; omega
    have hn6 : n ≤ 48 := by omega
    clear hr h6
    go_enter Try.func33, Try.ntmps33
    go_wp2_with fail
    clear h6'
    go_loopw [3, 11] (fun v u wr => ∃ k : Nat, k ≤ n ∧ u = .int .i64 (k : Int) ∧ v = .int .i64 (abv S k) ∧ Hid (∀ i, i < k → maySB (ss S i) = true ∧ (0 < i → (ss S (i - 1)).no < (ss S i).no)) ∧ Still w wr) (fun _ u _ => n - (intOf u).toNat)
    case atStart => exact ⟨0, by omega, rfl, rfl, hid (fun i hi => by omega), Fr.refl _ _⟩
    case round =>
      obtain ⟨k, hk, rfl, rfl, HF, hs⟩ := hrel
      have HS := hid hs
      by_cases hkn : k < n
      · have hlt : (k : Int) < (n : Int) := by omega
        obtain ⟨B, o, rfl⟩ := (HR.out.still HS.out).at (by omega)
        obtain ⟨s0, s1, s2, s3, s4, s5, s6, s7⟩ := rdS (HR.out.still HS.out) hkn
        have HM := hid (fun w => chks_any (ss S k) w)
        have HNo := hid (show ¬ (maySB (ss S k) = true ∧ abv S k < (ss S k).no) → flo S = false from fun h => flo_no (fun hf => h (flo_step.2 (hf.2 k (by rw [HL.out]; exact hkn)))))
        have HYes := hid (show (maySB (ss S k) = true ∧ abv S k < (ss S k).no) → ∀ i, i < k + 1 → maySB (ss S i) = true ∧ (0 < i → (ss S (i - 1)).no < (ss S i).no) from fun h i hi => by
          by_cases e : i = k
          · subst e; exact flo_step.1 h
          · exact HF.out i (by omega))
        have HAb := hid (abv_next S k)
        obtain ⟨x, ex⟩ : ∃ x, ss S k = x := ⟨_, rfl⟩
        obtain ⟨y, ey⟩ : ∃ y, abv S k = y := ⟨_, rfl⟩
        rw [ex] at s0 s1 s2 s3 s4 s5 s6 s7 HM HNo HYes HAb
        rw [ey] at HNo HYes ⊢
        obtain ⟨b, eb⟩ : ∃ b, maySB x = b := ⟨_, rfl⟩
        have HCk : Hid (chkS x = if b then 0 else 90) := hid (by unfold chkS; rw [eb])
        rw [eb] at HNo HYes
        rw [HCk.out] at HM
        clear ex eb ey HCk
        have HS1 := hid (hs.trans (Still.alloc wr (.cells (scs x) 49)))
        have p0 := newS_sb wr x
        obtain ⟨d0, d1, d2, d3, d4, d5, d6, d7, df⟩ := p0.cells
        clear hs HS
        go_wp2_with fail
        refine (HM.out _).mono ?_
        rintro e w2 ⟨rfl, h2⟩
        have p2 := p0.still h2
        have HS2 := hid (HS1.out.trans h2)
        clear h2 HS1 p0 s0 s1 s2 s3 s4 s5 s6 s7 HM d0 d1 d2 d3 d4 d5 d6 d7 df
        obtain ⟨d0, d1, d2, d3, d4, d5, d6, d7, df⟩ := p2.cells
        obtain ⟨z, ez⟩ : ∃ z, x.no = z := ⟨_, rfl⟩
        rw [ez] at d0 HNo HYes HAb
        clear ez p2
        cases b with
        | false =>
          have HN := hid (HNo.out (fun h => by cases h.1))
          clear HYes HNo
          go_wp2_with fail
          (first | rw [Exit.noGoto_ret] | skip)
          go_ret
          exact ⟨by rw [HN.out]; rfl, HS2.out⟩
        | true =>
          by_cases hzy : z ≤ y
          · have hz2 : decide (z ≤ y) = true := by simpa using hzy
            have HN := hid (HNo.out (fun h => by have := h.2; omega))
            clear HYes HNo
            go_wp2_with fail
            (first | rw [Exit.noGoto_ret] | skip)
            go_ret
            exact ⟨by rw [HN.out]; rfl, HS2.out⟩
          · have hz2 : decide (z ≤ y) = false := by simpa using hzy
            have HY := hid (HYes.out ⟨rfl, by omega⟩)
            clear HYes HNo
            go_wp2_with fail
            go_roundw
            case rel => exact ⟨k + 1, by omega, by go_num, by rw [HAb.out], HY, HS2.out⟩
            case measure => first | (simp [intOf]; done) | (simp [intOf]; omega)
      · have hge : ¬ (k : Int) < (n : Int) := by omega
        have HE : Hid (flo S = true) := hid (flo_iff.2 ⟨by rw [HL.out]; exact hn6, fun i hi => HF.out i (by have := HL.out; omega)⟩)
        obtain ⟨y, ey⟩ : ∃ y, abv S k = y := ⟨_, rfl⟩
        rw [ey]
        clear hkn hk hs ey
        go_wp2_with fail
        go_ret
        exact ⟨by rw [HE.out]; rfl, HS.out⟩
/-- does a shot hit at a place -/
def soS (L : List Mv) (s : Sh) (k : Nat) : Bool := !((k : Int) == s.ow) && inn (mm L k) s.ax s.ay
theorem soS_in (L : List Mv) (s : Sh) : inSo L (soS L s) = hS L s := by
  funext k
  unfold inSo soS hS
  rw [Bool.and_assoc]
set_option maxHeartbeats 2000000 in
theorem hsc_any (L : List Mv) (s : Sh) (ao : Option Addr) (n cap p q i : Nat) (u : World) (hr : RdG KM u ao n L) (hb : Sb u p s) (hq : Boxed u q 22 (.slice ao n cap)) (hi : i < n) :
    Calls Try.prog 34 #[.int .i64 (i : Int), .pointer (some ⟨p, 0, none⟩), .pointer (some ⟨q, 0, none⟩)] u fun e w' => e = .returned (.bool (soS L s i)) ∧ Still u w' := by
  have hlt : (i : Int) < (n : Int) := by omega
  obtain ⟨B, o, rfl⟩ := hr.at (by omega)
  obtain ⟨c0, c1, c2, c3, c4, c5, c6, c7, c8, c9, c10, c11, c12⟩ := rdM hr hi
  obtain ⟨s0, s1, s2, s3, s4, s5, s6, s7, sf⟩ := hb.cells
  have cq := hq.cell
  have HB1 := hid (fun w => hbody_any (mm L i) w)
  have HT : Hid (soS L s i = (!((i : Int) == s.ow) && inn (mm L i) s.ax s.ay)) := hid rfl
  obtain ⟨X, eX⟩ : ∃ z, mm L i = z := ⟨_, rfl⟩
  rw [eX] at c0 c1 c2 c3 c4 c5 c6 c7 c8 c9 c10 c11 c12 HB1 HT
  clear eX
  have HV := hid (fun w => inside_any (subf X.ax 1280) (subf X.ay 1280) (addf X.ax 1280) (addf X.ay 1280) s.ax s.ay w)
  obtain ⟨b3, eb3⟩ : ∃ b, inn X s.ax s.ay = b := ⟨_, rfl⟩
  unfold inn at eb3
  rw [show inn X s.ax s.ay = b3 from eb3] at HT
  rw [eb3] at HV
  clear eb3
  obtain ⟨x1, e1⟩ : ∃ z, subf X.ax 1280 = z := ⟨_, rfl⟩
  obtain ⟨x2, e2⟩ : ∃ z, subf X.ay 1280 = z := ⟨_, rfl⟩
  obtain ⟨x3, e3⟩ : ∃ z, addf X.ax 1280 = z := ⟨_, rfl⟩
  obtain ⟨x4, e4⟩ : ∃ z, addf X.ay 1280 = z := ⟨_, rfl⟩
  rw [e1, e2, e3, e4] at HB1 HV
  obtain ⟨r, er⟩ : ∃ r, soS L s i = r := ⟨_, rfl⟩
  rw [er] at HT ⊢
  obtain ⟨y, ey⟩ : ∃ y, s.ow = y := ⟨_, rfl⟩
  rw [ey] at s1 HT
  clear e1 e2 e3 e4 er ey hr hb hq sf
  have g0 := Cl.cell c0
  have g1 := Cl.cell c1
  have g2 := Cl.cell c2
  have g3 := Cl.cell c3
  have g4 := Cl.cell c4
  have g5 := Cl.cell c5
  have g6 := Cl.cell c6
  have g7 := Cl.cell c7
  have g8 := Cl.cell c8
  have g9 := Cl.cell c9
  have g10 := Cl.cell c10
  have g11 := Cl.cell c11
  have g12 := Cl.cell c12
  have gz := Cl.cell cq
  have l1 := Cl.cell s1
  have l3 := Cl.cell s3
  have l4 := Cl.cell s4
  have hne := Aft.here u
  clear c0 c1 c2 c3 c4 c5 c6 c7 c8 c9 c10 c11 c12 s0 s1 s2 s3 s4 s5 s6 s7 cq
  cases hqq : (i : Int) == y with
  | true =>
    have hq2 : ((i : Int) != y) = false := by simpa using hqq
    rw [hqq] at HT
    go_enter Try.func34, Try.ntmps34
    go_wp2_with fail
    refine region_all (by kernel_rfl) (by kernel_rfl) ?_
    repeat (go_big_quiet_step (fail))
    refine wpQuiet_nil ?_
    intro w3 h3
    have HS3 := hid h3
    clear h3 hne g0 g1 g2 g3 g4 g5 g6 g7 g8 g9 g10 g11 g12 gz l1 l3 l4
    go_wp2_with fail
    go_ret
    exact ⟨by rw [HT.out]; rfl, HS3.out⟩
  | false =>
    have hq2 : ((i : Int) != y) = true := by simpa using hqq
    rw [hqq] at HT
    go_enter Try.func34, Try.ntmps34
    go_wp2_with fail
    refine region_all (by kernel_rfl) (by kernel_rfl) ?_
    repeat (go_big_quiet_step ((first | (go_at_call 27; with_reducible exact Calls.cl (HB1.out _)) | (go_at_call 21; with_reducible exact Calls.cl (HV.out _)))))
    refine wpQuiet_nil ?_
    intro w3 h3
    have HS3 := hid h3
    clear h3 hne g0 g1 g2 g3 g4 g5 g6 g7 g8 g9 g10 g11 g12 gz l1 l3 l4
    go_wp2_with fail
    go_ret
    exact ⟨by rw [HT.out]; rfl, HS3.out⟩
end Go.Proofs.Ytpohikhiekmfgaa
