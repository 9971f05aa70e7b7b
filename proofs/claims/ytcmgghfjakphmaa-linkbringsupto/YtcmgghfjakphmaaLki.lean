/- The program's runsAhead. -/
import Derived.Test.YtcmgghfjakphmaaLkh
namespace Go.Proofs.Ytcmgghfjakphmaa
open Go.RowKit
open Wp Vp Lp
set_option maxRecDepth 100000
set_option linter.unusedVariables false
set_option linter.unusedSimpArgs false

theorem lwait_any (c : Cc) (hb : Nat) (H : Int) (w : World) (h : w.cell? ⟨hb, 0, none⟩ = some (.int .i64 H)) : Calls Try.prog 39 #[kmv c, .pointer (some ⟨hb, 0, none⟩)] w fun e w' => e = .returned (.bool (decide (c.fr ≤ H))) ∧ Still w w' := by
  have A0 := Still.alloc w (.cells (kmc c) 47)
  obtain ⟨d0, _⟩ := (newCc_b w c).cells
  have h0 := (A0.cell (World.block_lt_of_cell? w _ h) (fun e => e)).trans h
  have HS := hid A0
  clear A0 h
  by_cases hc : c.fr ≤ H
  · go_enter Try.func39, Try.ntmps39
    go_wp2_with fail
    go_ret
    exact ⟨by simp [hc], HS.out⟩
  · go_enter Try.func39, Try.ntmps39
    go_wp2_with fail
    go_ret
    exact ⟨by simp [hc], HS.out⟩
abbrev fvW (hb : Nat) : Value := .func (.func 39) #[] #[.pointer (some ⟨hb, 0, none⟩)]
theorem enW : ∀ args w, (callFunc 39 args).run Try.prog w = .ok (.enter 39 args) w := enters_of Try.func39 (by kernel_rfl) rfl
set_option maxHeartbeats 2000000 in
theorem lidx_any (ao : Option Addr) (n cap : Nat) (L : List Cc) (hb : Nat) (H : Int) (w : World) (hr : RdG KCc w ao n L) (h : w.cell? ⟨hb, 0, none⟩ = some (.int .i64 H)) : Calls Try.prog 44 #[.slice ao n cap, fvW hb] w fun e w' => ∃ r : Int, e = .returned (.int .i64 r) ∧ decide (0 ≤ r) = L.any (fun c => decide (c.fr ≤ H)) ∧ Still w w' := by
  have eg := enW
  have HR := hid hr
  have HN := hid hr.1
  have HB := hid hr.2.1
  have HC := hid (fun (c : Cc) (u : World) (hu : Still w u) => lwait_any c hb H u ((hu.cell (World.block_lt_of_cell? w _ h) (fun e => e)).trans h))
  clear hr h
  go_enter Try.func44, Try.ntmps44
  go_wp2_with fail
  go_loopw [5, 8] (fun _ u8 wr => ∃ i : Nat, i ≤ n ∧ u8 = .int .i64 (i : Int) ∧ Hid (∀ j, j < i → decide ((cc L j).fr ≤ H) = false) ∧ Hid (Still w wr)) (fun _ u8 _ => n - (intOf u8).toNat)
  case atStart => exact ⟨0, by omega, rfl, hid (fun j hj => by omega), hid (Fr.refl _ _)⟩
  case round =>
    obtain ⟨i, hi, rfl, HA, HL⟩ := hrel
    by_cases hin : i < n
    · have hlt : (i : Int) < (n : Int) := by omega
      obtain ⟨B, o, eco⟩ := HR.out.at (by omega)
      subst eco
      obtain ⟨k0, k1, k2, k3, k4, k5, k6⟩ := rdCc (HR.out.still HL.out) hin
      have HCi := hid (HC.out (cc L i) wr HL.out)
      have hb48 := HB.out
      have HM : Hid (decide ((cc L i).fr ≤ H) = true → L.any (fun c => decide (c.fr ≤ H)) = true) := hid (fun e => List.any_eq_true.2 ⟨cc L i, by rw [cc_at (by rw [HN.out]; exact hin)]; exact List.getElem_mem _, e⟩)
      have HA2 : Hid (decide ((cc L i).fr ≤ H) = false → ∀ j, j < i + 1 → decide ((cc L j).fr ≤ H) = false) := hid (fun e j hj => by
        by_cases e2 : j = i
        · rw [e2]; exact e
        · exact HA.out j (by omega))
      obtain ⟨x, ex⟩ : ∃ x, cc L i = x := ⟨_, rfl⟩
      rw [ex] at HCi HM HA2 k0 k1 k2 k3 k4 k5 k6
      obtain ⟨b, eb⟩ : ∃ b, decide (x.fr ≤ H) = b := ⟨_, rfl⟩
      rw [eb] at HCi HM HA2
      clear eb ex
      cases b with
      | true =>
        go_wp2_with fail
        refine HCi.out.mono ?_
        rintro e w3 ⟨rfl, h3⟩
        have HL3 := hid (HL.out.trans h3)
        clear h3
        go_wp2_with fail
        go_ret
        exact ⟨_, rfl, by rw [HM.out (by simp)]; simp, HL3.out⟩
      | false =>
        go_wp2_with fail
        refine HCi.out.mono ?_
        rintro e w3 ⟨rfl, h3⟩
        have HL3 := hid (HL.out.trans h3)
        clear h3
        go_wp2_with fail
        go_roundw
        case rel => exact ⟨i + 1, by omega, by go_num, hid (HA2.out (by simp)), HL3⟩
        case measure => simp [intOf]; omega
    · have hnl : ¬ (i : Int) < (n : Int) := by omega
      have HT : Hid (L.any (fun c => decide (c.fr ≤ H)) = false) := hid (List.any_eq_false.2 (fun c hc => by
        obtain ⟨j, hj, rfl⟩ := mem_cc hc
        have := HA.out j (by rw [HN.out] at hj; omega)
        simpa using this))
      go_wp2_with fail
      go_ret
      exact ⟨_, rfl, by rw [HT.out]; rfl, HL.out⟩
theorem lcont_any (ao : Option Addr) (n cap : Nat) (L : List Cc) (hb : Nat) (H : Int) (w : World) (hr : RdG KCc w ao n L) (h : w.cell? ⟨hb, 0, none⟩ = some (.int .i64 H)) : Calls Try.prog 40 #[.slice ao n cap, fvW hb] w fun e w' => e = .returned (.bool (L.any (fun c => decide (c.fr ≤ H)))) ∧ Still w w' := by
  have HC := hid (lidx_any ao n cap L hb H w hr h)
  clear hr h
  go_enter Try.func40, Try.ntmps40
  go_wp2_with fail
  refine HC.out.mono ?_
  rintro e w3 ⟨r, rfl, hr, h3⟩
  have HE := hid hr
  have HS := hid h3
  clear hr h3
  by_cases hc : 0 ≤ r
  · go_wp2_with fail
    go_ret
    exact ⟨by rw [← HE.out]; simp [hc], HS.out⟩
  · go_wp2_with fail
    go_ret
    exact ⟨by rw [← HE.out]; simp [hc], HS.out⟩
theorem latB_cut (s : Ln) (d : Dg) (h : 0 ≤ d.ak) : latB s d = ((s.O.drop s.ak).drop (abI s d.ak)).any (fun c => decide (c.fr ≤ d.mrk - 48)) := by
  unfold latB abI
  rw [List.drop_drop]
  congr 2
  omega
set_option maxHeartbeats 2000000 in
theorem lruns_any (p : Nat) (ko : Option Addr) (kc mb B : Nat) (s : Ln) (d : Dg) (co : Option Addr) (cn cp : Nat) (lead : Int) (hO : s.O.length ≤ 1152921504606846976) (hal : s.ak ≤ s.O.length) (hmk : 0 ≤ d.mrk ∧ d.mrk ≤ 1099511627776) (hak : 0 ≤ d.ak ∧ d.ak ≤ (s.O.length : Int)) (w : World) (h : Lkk w B p mb ko kc s) : Calls Try.prog 28 #[.pointer (some ⟨p, 0, none⟩), dgv d co cn cp, .int .i64 lead] w fun e w' => e = .returned (.bool (decide (lead < d.mrk - 48) || latB s d)) ∧ Still w w' := by
  have A0 := Still.alloc w (.cells (dgc d co cn cp) 51)
  have p0 := newDg_b w d co cn cp
  have L0 := h.still A0
  obtain ⟨g, eg⟩ : ∃ g, w.heap.size = g := ⟨_, rfl⟩
  unfold newDg at p0
  obtain ⟨W, eW⟩ : ∃ W, w.alloc (.cells (dgc d co cn cp) 51) = W := ⟨_, rfl⟩
  rw [eW] at A0 p0 L0
  rw [eg] at p0
  have A1 := Still.alloc W (.cells #[.int .i64 0] 2)
  have b1 := heap_alloc_new W (.cells #[.int .i64 0] 2)
  obtain ⟨g1, eg1⟩ : ∃ g, W.heap.size = g := ⟨_, rfl⟩
  obtain ⟨W1, eW1⟩ : ∃ V, W.alloc (.cells #[.int .i64 0] 2) = V := ⟨_, rfl⟩
  rw [eW1] at A1 b1
  rw [eg1] at b1
  obtain ⟨d0, d1, d2, d3, d4, d5, d6, d7, df⟩ := p0.cells
  have b2 := heap_setCell_same W1 g1 0 _ _ (.int .i64 (d.mrk - 48)) b1
  have s2 : Still W (W1.setCell ⟨g1, 0, none⟩ (.int .i64 (d.mrk - 48))) := Fr.setCell A1 _ _ (.inr (by rw [eg1]; exact Nat.le_refl _))
  have z0 : W1.cell? ⟨g1, 0, none⟩ = some (.int .i64 0) := by rw [cell_of_row _ _ _ _ _ _ b1]; rfl
  have zf := fun o => frozen_of_row W1 g1 o _ _ b1
  obtain ⟨W2, eW2⟩ : ∃ V, W1.setCell ⟨g1, 0, none⟩ (.int .i64 (d.mrk - 48)) = V := ⟨_, rfl⟩
  rw [eW2] at b2 s2
  have z2 : W2.cell? ⟨g1, 0, none⟩ = some (.int .i64 (d.mrk - 48)) := by rw [cell_of_row _ _ _ _ _ _ b2]; rfl
  have L2 := L0.still s2
  obtain ⟨e0, e1, e2, e3, e4, e5, e6, e7, ef⟩ := (p0.still s2).cells
  have hab : abI s d.ak ≤ s.O.length - s.ak := by unfold abI; omega
  have HA := hid (labove_any p ko kc mb B s d.ak ⟨hak.1, by omega⟩ hab (by omega) W2 L2)
  have hsr := (L2.kp.cut (i := abI s d.ak) (by rw [List.length_drop]; exact hab)).sr
  rw [List.length_drop] at hsr
  have HR := hid hsr.rd
  have HLn : Hid (((s.O.drop s.ak).drop (abI s d.ak)).length = s.O.length - s.ak - abI s d.ak) := hid (by rw [List.length_drop, List.length_drop])
  have HLB := hid (latB_cut s d hak.1)
  have HS2 := hid (A0.trans s2)
  have HZ := hid z2
  have hw : IntKind.i64.wrap (d.mrk - 48) = d.mrk - 48 := wr64 (by omega) (by omega)
  obtain ⟨i, ei⟩ : ∃ i, abI s d.ak = i := ⟨_, rfl⟩
  rw [ei] at HA HR HLn HLB
  obtain ⟨lb, elb⟩ : ∃ b, latB s d = b := ⟨_, rfl⟩
  rw [elb] at HLB ⊢
  clear ei elb A0 p0 L0 h A1 b1 b2 s2 L2 hsr hab hO
  by_cases hl : lead < d.mrk - 48
  · have hd : decide (lead < d.mrk - 48) = true := by simpa using hl
    rw [hd]
    go_enter Try.func28, Try.ntmps28
    go_wp2_with fail
    go_ret
    exact ⟨rfl, HS2.out⟩
  · have hd : decide (lead < d.mrk - 48) = false := by simpa using hl
    rw [hd]
    go_enter Try.func28, Try.ntmps28
    go_wp2_with fail
    refine HA.out.mono ?_
    rintro e w3 ⟨he, h3⟩
    rw [he]
    have HS3 := hid (HS2.out.trans h3)
    have HB := hid (lcont_any (cutG 7 ko (s.O.length - s.ak) i) (s.O.length - s.ak - i) (s.O.length - s.ak - i) ((s.O.drop s.ak).drop i) g1 (d.mrk - 48) w3 (by have := HR.out.still h3; rw [HLn.out] at this; exact this) ((h3.cell (World.block_lt_of_cell? W2 _ HZ.out) (fun e => e)).trans HZ.out))
    rw [← HLB.out] at HB
    clear he h3 HA HR
    go_wp2_with fail
    refine HB.out.mono ?_
    rintro e w4 ⟨he, h4⟩
    rw [he]
    have HS4 := hid (HS3.out.trans h4)
    clear he h4 HB
    go_wp2_with fail
    go_ret
    exact ⟨rfl, HS4.out⟩
end Go.Proofs.Ytcmgghfjakphmaa
