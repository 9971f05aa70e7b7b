/- The program's Take. -/
import Derived.Test.YtcmgghfjakphmaaLko
namespace Go.Proofs.Ytcmgghfjakphmaa
open Go.RowKit
open Wp Vp Lp
set_option maxRecDepth 100000
set_option linter.unusedVariables false
set_option linter.unusedSimpArgs false

theorem Lkk.met {w : World} {B p mb : Nat} {ko : Option Addr} {kc : Nat} {s : Ln} (h : Lkk w B p mb ko kc s) : Lkk (w.setCell ⟨p, 7, none⟩ (.bool true)) B p mb ko kc (mtS s) := by
  have f1 : Fr (fun k => k = p) w (w.setCell ⟨p, 7, none⟩ (.bool true)) := Fr.setCell (Fr.refl _ _) _ _ (.inl rfl)
  have b1 := heap_setCell_same w p 7 _ _ (.bool true) h.bk
  exact ⟨b1.trans (by rfl), h.kp.keep f1 (fun a ha e => (h.ne.2 a ha).1 e), h.mp.keep f1 (fun e => h.ne.1 e.symm), h.lp, h.lm⟩
/-- what a link's own blocks become -/
def Kb (ko ko' : Option Addr) : Prop := ∀ a, ko' = some a → ∃ b, ko = some b ∧ a.block = b.block
theorem Kb.refl (ko : Option Addr) : Kb ko ko := fun a ha => ⟨a, ha, rfl⟩
set_option maxHeartbeats 2000000 in
theorem ltake_no (p : Nat) (ko : Option Addr) (kc mb B : Nat) (s : Ln) (d : Dg) (co : Option Addr) (cn cp : Nat) (lead : Int) (hO : s.O.length ≤ 1152921504606846976) (hal : s.ak ≤ s.O.length) (hn : d.cs.length = cn) (hg : s.G.length ≤ 1099511627776) (w : World) (h : Lkk w B p mb ko kc s) (hr : SrG KCc w co cp d.cs) (he : refE s d lead ≠ 0) : Calls Try.prog 11 #[.pointer (some ⟨p, 0, none⟩), dgv d co cn cp, .int .i64 lead] w fun e w' => e = .returned (.tuple #[.slice none 0 0, .bool false, .int .i64 (refE s d lead)]) ∧ Still w w' := by
  have A0 := Still.alloc w (.cells (dgc d co cn cp) 51)
  have p0 := newDg_b w d co cn cp
  obtain ⟨g, eg⟩ : ∃ g, w.heap.size = g := ⟨_, rfl⟩
  unfold newDg at p0
  have HC := hid (lref_any p ko kc mb B s d co cn cp lead hO hal hn hg _ (h.still A0) (hr.still A0))
  obtain ⟨W, eW⟩ : ∃ W, w.alloc (.cells (dgc d co cn cp) 51) = W := ⟨_, rfl⟩
  rw [eW] at A0 p0 HC
  rw [eg] at p0
  obtain ⟨d0, d1, d2, d3, d4, d5, d6, d7, df⟩ := p0.cells
  have HS := hid A0
  obtain ⟨r, er⟩ : ∃ r, refE s d lead = r := ⟨_, rfl⟩
  rw [er] at HC he ⊢
  have hb : (r == 0) = false := by simpa using he
  have hb2 : (r != 0) = true := by rw [bne, hb]; rfl
  clear er A0 p0 h hr he
  go_enter Try.func11, Try.ntmps11
  go_wp2_with fail
  refine HC.out.mono ?_
  rintro e w1 ⟨he, h1⟩
  rw [he]
  have HS1 := hid h1
  clear he h1 HC
  go_wp2_with fail
  go_ret3
  exact ⟨rfl, HS.out.trans HS1.out⟩
abbrev fvL (f p : Nat) : Value := .func (.func f) #[.pointer (some ⟨p, 0, none⟩)] #[]
theorem en21 : ∀ args w, (callFunc 21 args).run Try.prog w = .ok (.enter 21 args) w := enters_of Try.func21 (by kernel_rfl) rfl
theorem en22 : ∀ args w, (callFunc 22 args).run Try.prog w = .ok (.enter 22 args) w := enters_of Try.func22 (by kernel_rfl) rfl
theorem en23 : ∀ args w, (callFunc 23 args).run Try.prog w = .ok (.enter 23 args) w := enters_of Try.func23 (by kernel_rfl) rfl
set_option maxHeartbeats 8000000 in
theorem ltake_yes (p : Nat) (ko : Option Addr) (kc mb B : Nat) (s : Ln) (d : Dg) (co : Option Addr) (cn cp : Nat) (lead : Int) (hO : s.O.length ≤ 1152921504606846976) (hf : Fits s) (hn : d.cs.length = cn) (w : World) (h : Lkk w B p mb ko kc s) (hr : SrG KCc w co cp d.cs) (hro : ∀ a, co = some a → a.block ≠ mb ∧ a.block ≠ p) (he : refE s d lead = 0) : Calls Try.prog 11 #[.pointer (some ⟨p, 0, none⟩), dgv d co cn cp, .int .i64 lead] w fun e w' => ∃ fo fc ko' kc', e = .returned (.tuple #[.slice fo (frs s d).length fc, .bool (broB s d), .int .i64 0]) ∧ OwG KCc 47 w' w.heap.size (.slice fo (frs s d).length fc) (frs s d) ∧ Lkk w' B p mb ko' kc' (takS s d) ∧ Fr (fun k => k = p ∨ k = mb) w w' ∧ Kb ko ko' := by
  have A0 := Still.alloc w (.cells (dgc d co cn cp) 51)
  have p0 := newDg_b w d co cn cp
  obtain ⟨g, eg⟩ : ∃ g, w.heap.size = g := ⟨_, rfl⟩
  unfold newDg at p0
  have HC := hid (lref_any p ko kc mb B s d co cn cp lead hO hf.a1 hn hf.g _ (h.still A0) (hr.still A0))
  have L0 := h.still A0
  have r0 := hr.still A0
  obtain ⟨W, eW⟩ : ∃ W, w.alloc (.cells (dgc d co cn cp) 51) = W := ⟨_, rfl⟩
  rw [eW] at A0 p0 HC L0 r0
  rw [eg] at p0
  rw [he] at HC
  obtain ⟨d0, d1, d2, d3, d4, d5, d6, d7, df⟩ := p0.cells
  obtain ⟨o1, o2, o3, o4, o5, o6⟩ := refE_ok he
  obtain ⟨t1, t2, t3⟩ := okD_parts o1
  have hcs : ∀ c ∈ d.cs, 1 ≤ c.fr ∧ c.fr ≤ 1099511627776 := fun c hc => by
    obtain ⟨i, hi, rfl⟩ := mem_cc hc
    have := okD_cs o1 i hi
    omega
  have hfi : 0 ≤ d.fi ∧ d.fi ≤ (s.G.length : Int) + 1 := by
    rcases t3 with ⟨k1, _, q, _⟩ | ⟨_, _, q, _⟩
    · exact ⟨by omega, o5 k1⟩
    · omega
  have hcn : cn ≤ 1000000 := by
    rcases t3 with ⟨_, _, _, q, _⟩ | ⟨_, _, _, q⟩
    · omega
    · rw [q] at hn; simp at hn; omega
  have hak : 0 ≤ d.ak ∧ d.ak ≤ (s.O.length : Int) := by
    unfold brkB at o6
    simp only [Bool.or_eq_false_iff, decide_eq_false_iff_not] at o6
    omega
  have hlt := h.lt
  have hcp : cn ≤ cp := by have := hr.le; omega
  have HC2 : Hid (∀ u, Still W u → Calls Try.prog 20 #[.pointer (some ⟨p, 0, none⟩), dgv d co cn cp] u fun e w' => e = .returned (.slice (cutG 7 co cn (frI s d)) (cn - frI s d) (cn - frI s d)) ∧ Still u w') := hid (fun u hu => lfresh_any p ko kc mb B s d co cn cp hn hf.g hfi hcp (by omega) u (L0.still hu))
  have hfr := r0.fresh s
  rw [hn] at hfr
  have HFr := hid hfr
  have HFl : Hid ((frs s d).length = cn - frI s d) := hid (by rw [frs_frI, List.length_drop, hn])
  have HS := hid A0
  have HP := hid p0
  have HL := hid L0
  have HR := hid r0
  have HG : Hid (w.heap.size = g) := hid eg
  have HLt := hid hlt
  have HA : Hid (∀ u, Lkk u B p mb ko kc s → Calls Try.prog 21 #[.pointer (some ⟨p, 0, none⟩), dgv d co cn cp] u fun e w' => e = .returned (.bool (decide ((s.ak : Int) < d.ak))) ∧ ∃ ko' kc', Lkk w' B p mb ko' kc' (akS s d) ∧ Fr (fun k => k = p) u w' ∧ ∀ a, ko' = some a → ∃ b, ko = some b ∧ a.block = b.block) := hid (fun u hu => lackn_any p ko kc mb B s d co cn cp hO hf.a1 hak u hu)
  have HB : Hid (∀ u ko' kc', Lkk u B p mb ko' kc' (akS s d) → SrG KCc u co cp d.cs → Calls Try.prog 22 #[.pointer (some ⟨p, 0, none⟩), dgv d co cn cp] u fun e w' => e = .returned (.bool (decide (0 < (frs s d).length))) ∧ Lkk w' B p mb ko' kc' (gtS (akS s d) (frs s d)) ∧ Fr (fun k => k = p ∨ k = mb) u w') := hid (fun u ko' kc' hu hru => lrecv_any p ko' kc' mb B (akS s d) d co cn cp hn hf.g hfi hcn hcs u hu hru (fun a ha => (hro a ha).1))
  have HM : Hid (∀ u ko' kc', Lkk u B p mb ko' kc' (gtS (akS s d) (frs s d)) → Calls Try.prog 23 #[.pointer (some ⟨p, 0, none⟩), dgv d co cn cp] u fun e w' => e = .returned (.bool (decide (s.mq < d.mrk))) ∧ Lkk w' B p mb ko' kc' (mkS (gtS (akS s d) (frs s d)) d) ∧ Fr (fun k => k = p ∨ k = mb) u w') := hid (fun u ko' kc' hu => lraise_any p ko' kc' mb B (gtS (akS s d) (frs s d)) d co cn cp u hu)
  have HRo := hid hro
  have HBr : Hid (broB s d = (decide ((s.ak : Int) < d.ak) || (decide (0 < (frs s d).length) || decide (s.mq < d.mrk)))) := hid rfl
  have HT := hid (takS_four s d)
  obtain ⟨b1, e1⟩ : ∃ b, decide ((s.ak : Int) < d.ak) = b := ⟨_, rfl⟩
  obtain ⟨b2, e2⟩ : ∃ b, decide (0 < (frs s d).length) = b := ⟨_, rfl⟩
  obtain ⟨b3, e3⟩ : ∃ b, decide (s.mq < d.mrk) = b := ⟨_, rfl⟩
  rw [e1] at HA HBr
  rw [e2] at HB HBr
  rw [e3] at HM HBr
  obtain ⟨F, eF⟩ : ∃ F, frs s d = F := ⟨_, rfl⟩
  obtain ⟨i0, ei0⟩ : ∃ i, frI s d = i := ⟨_, rfl⟩
  rw [eF] at HFr HFl HT HB HM ⊢
  rw [ei0] at HC2 HFr HFl
  obtain ⟨bb, ebb⟩ : ∃ b, broB s d = b := ⟨_, rfl⟩
  rw [ebb] at HBr ⊢
  have hnl : cn - i0 ≤ 100000 := by
    rcases t3 with ⟨_, _, _, q, _⟩ | ⟨_, _, _, q⟩
    · omega
    · rw [q] at hn; simp at hn; omega
  have en1 := en21
  have en2 := en22
  have en3 := en23
  clear e1 e2 e3 eF ei0 ebb A0 p0 L0 r0 h hr he o1 o2 o3 o4 o5 o6 t1 t2 t3 hcs hfi hak hlt hcp hfr hf hro hcn
  go_enter Try.func11, Try.ntmps11
  go_wp2_with fail
  refine HC.out.mono ?_
  rintro e w1 ⟨he, h1⟩
  rw [he]
  have HS1 := hid h1
  clear he h1 HC d0 d1 d2 d3 d4 d5 d6 d7 df eW
  obtain ⟨d0, d1, d2, d3, d4, d5, d6, d7, df⟩ := (HP.out.still HS1.out).cells
  go_wp2_with fail
  refine (HC2.out _ HS1.out).mono ?_
  rintro e w2 ⟨he, h2⟩
  rw [he]
  have HS2 := hid (HS1.out.trans h2)
  have HCo := hid (lcop_any (cutG 7 co cn i0) (cn - i0) (cn - i0) F HFl.out hnl w2 (HFr.out.still HS2.out))
  clear he h2 HC2 HFr d0 d1 d2 d3 d4 d5 d6 d7 df
  go_wp2_with fail
  refine HCo.out.mono ?_
  rintro e w3 ⟨fo, fc, he, ho3, h3⟩
  rw [he]
  have HS3 := hid (HS2.out.trans h3)
  have HO3 := hid ho3
  have A4 := Still.alloc w3 (.cells #[fvL 21 p, fvL 22 p, fvL 23 p] 65)
  have b4 := heap_alloc_new w3 (.cells #[fvL 21 p, fvL 22 p, fvL 23 p] 65)
  obtain ⟨W4, eW4⟩ : ∃ V, w3.alloc (.cells #[fvL 21 p, fvL 22 p, fvL 23 p] 65) = V := ⟨_, rfl⟩
  obtain ⟨fb, efb⟩ : ∃ k, w3.heap.size = k := ⟨_, rfl⟩
  rw [eW4] at A4 b4
  rw [efb] at b4
  have HS4 := hid (HS3.out.trans A4)
  have HB4 := hid b4
  have HFb : Hid (w.heap.size ≤ fb) := hid (by have := HS.out.size; have := HS3.out.size; omega)
  have HO4 := hid ((HO3.out.still A4).less (B' := w.heap.size) (by have := HS.out.size; have := HS2.out.size; omega))
  have HP4 := hid (HP.out.still HS4.out)
  have HL4 := hid (HL.out.still HS4.out)
  have HR4 := hid (HR.out.still HS4.out)
  have HOg : Hid (∀ k, (Value.slice fo (cn - i0) fc).ownBlock = some k → w.heap.size ≤ k) := hid (fun k hk => (HO4.out.block hk).1)
  clear he ho3 h3 A4 b4 HCo HS2 HO3
  simp only [fvL] at eW4
  go_wp2_with fail
  clear eW4
  go_loopw [11, 13, 33] (fun u11 _ u33 wr => (u33 = .int .i64 0 ∧ u11 = .bool false ∧ Hid (Lkk wr B p mb ko kc s) ∧ Hid (Fr (fun k => k = p ∨ k = mb) W4 wr)) ∨ (u33 = .int .i64 1 ∧ u11 = .bool b1 ∧ Hid (∃ ko1 kc1, Lkk wr B p mb ko1 kc1 (akS s d) ∧ Kb ko ko1) ∧ Hid (Fr (fun k => k = p ∨ k = mb) W4 wr)) ∨ (u33 = .int .i64 2 ∧ u11 = .bool (b2 || b1) ∧ Hid (∃ ko1 kc1, Lkk wr B p mb ko1 kc1 (gtS (akS s d) F) ∧ Kb ko ko1) ∧ Hid (Fr (fun k => k = p ∨ k = mb) W4 wr)) ∨ (u33 = .int .i64 3 ∧ u11 = .bool (b3 || (b2 || b1)) ∧ Hid (∃ ko1 kc1, Lkk wr B p mb ko1 kc1 (mkS (gtS (akS s d) F) d) ∧ Kb ko ko1) ∧ Hid (Fr (fun k => k = p ∨ k = mb) W4 wr))) (fun _ _ u33 _ => 3 - (intOf u33).toNat)
  case atStart => exact .inl ⟨rfl, rfl, HL4, hid (Fr.refl _ _)⟩
  case round =>
    rcases hrel with ⟨rfl, rfl, HK, HT4⟩ | ⟨rfl, rfl, HK, HT4⟩ | ⟨rfl, rfl, HK, HT4⟩ | ⟨rfl, rfl, HK, HT4⟩
    · have dd := HP4.out.keepD HT4.out (fun e => by rcases e with e | e <;> have := HLt.out <;> have := HG.out <;> omega)
      obtain ⟨d0, d1, d2, d3, d4, d5, d6, d7, df⟩ := dd.cells
      have z := HT4.out.kept HB4.out (fun e => by rcases e with e | e <;> have := HLt.out <;> have := HFb.out <;> omega)
      have z0 : wr.cell? ⟨fb, 0, none⟩ = some (fvL 21 p) := by rw [cell_of_row _ _ _ _ _ _ z]; rfl
      have HX := hid (HA.out wr HK.out)
      clear dd z
      go_wp2_with fail
      refine HX.out.mono ?_
      rintro e w5 ⟨he, ko1, kc1, l5, f5, k5⟩
      rw [he]
      have HK5 : Hid (∃ ko1 kc1, Lkk w5 B p mb ko1 kc1 (akS s d) ∧ Kb ko ko1) := hid ⟨ko1, kc1, l5, k5⟩
      have HT5 : Hid (Fr (fun k => k = p ∨ k = mb) W4 w5) := hid (Fr.trans HT4.out f5 (fun k _ e => .inl e))
      clear he l5 f5 k5 d0 d1 d2 d3 d4 d5 d6 d7 df z0 HX
      cases b1 with
      | true =>
        go_wp2_with fail
        go_roundw
        case rel => exact .inr (.inl ⟨rfl, rfl, HK5, HT5⟩)
        case measure => simp [intOf]
      | false =>
        go_wp2_with fail
        go_roundw
        case rel => exact .inr (.inl ⟨rfl, rfl, HK5, HT5⟩)
        case measure => simp [intOf]
    · have dd := HP4.out.keepD HT4.out (fun e => by rcases e with e | e <;> have := HLt.out <;> have := HG.out <;> omega)
      obtain ⟨d0, d1, d2, d3, d4, d5, d6, d7, df⟩ := dd.cells
      have z := HT4.out.kept HB4.out (fun e => by rcases e with e | e <;> have := HLt.out <;> have := HFb.out <;> omega)
      have z1 : wr.cell? ⟨fb, 1, none⟩ = some (fvL 22 p) := by rw [cell_of_row _ _ _ _ _ _ z]; rfl
      obtain ⟨ko1, kc1, l4, k4⟩ := HK.out
      have HX := hid (HB.out wr ko1 kc1 l4 (HR4.out.kept HT4.out (fun a ha e => by rcases e with e | e; exact (HRo.out a ha).2 e; exact (HRo.out a ha).1 e)))
      have HK4 := hid k4
      clear dd z l4 k4
      go_wp2_with fail
      refine HX.out.mono ?_
      rintro e w5 ⟨he, l5, f5⟩
      rw [he]
      have HK5 : Hid (∃ ko1 kc1, Lkk w5 B p mb ko1 kc1 (gtS (akS s d) F) ∧ Kb ko ko1) := hid ⟨ko1, kc1, l5, HK4.out⟩
      have HT5 : Hid (Fr (fun k => k = p ∨ k = mb) W4 w5) := hid (Fr.trans HT4.out f5 (fun k _ e => e))
      clear he l5 f5 d0 d1 d2 d3 d4 d5 d6 d7 df z1 HX
      cases b2 with
      | true =>
        go_wp2_with fail
        go_roundw
        case rel => exact .inr (.inr (.inl ⟨rfl, rfl, HK5, HT5⟩))
        case measure => simp [intOf]
      | false =>
        go_wp2_with fail
        go_roundw
        case rel => exact .inr (.inr (.inl ⟨rfl, rfl, HK5, HT5⟩))
        case measure => simp [intOf]
    · have dd := HP4.out.keepD HT4.out (fun e => by rcases e with e | e <;> have := HLt.out <;> have := HG.out <;> omega)
      obtain ⟨d0, d1, d2, d3, d4, d5, d6, d7, df⟩ := dd.cells
      have z := HT4.out.kept HB4.out (fun e => by rcases e with e | e <;> have := HLt.out <;> have := HFb.out <;> omega)
      have z2 : wr.cell? ⟨fb, 2, none⟩ = some (fvL 23 p) := by rw [cell_of_row _ _ _ _ _ _ z]; rfl
      obtain ⟨ko1, kc1, l4, k4⟩ := HK.out
      have HX := hid (HM.out wr ko1 kc1 l4)
      have HK4 := hid k4
      clear dd z l4 k4
      go_wp2_with fail
      refine HX.out.mono ?_
      rintro e w5 ⟨he, l5, f5⟩
      rw [he]
      have HK5 : Hid (∃ ko1 kc1, Lkk w5 B p mb ko1 kc1 (mkS (gtS (akS s d) F) d) ∧ Kb ko ko1) := hid ⟨ko1, kc1, l5, HK4.out⟩
      have HT5 : Hid (Fr (fun k => k = p ∨ k = mb) W4 w5) := hid (Fr.trans HT4.out f5 (fun k _ e => e))
      clear he l5 f5 d0 d1 d2 d3 d4 d5 d6 d7 df z2 HX
      cases b3 with
      | true =>
        go_wp2_with fail
        go_roundw
        case rel => exact .inr (.inr (.inr ⟨rfl, rfl, HK5, HT5⟩))
        case measure => simp [intOf]
      | false =>
        go_wp2_with fail
        go_roundw
        case rel => exact .inr (.inr (.inr ⟨rfl, rfl, HK5, HT5⟩))
        case measure => simp [intOf]
    · obtain ⟨ko1, kc1, l4, k4⟩ := HK.out
      have hbk := l4.bk
      have c7 : wr.cell? ⟨p, 7, none⟩ = some (.bool (mkS (gtS (akS s d) F) d).mt) := by rw [cell_of_row _ _ _ _ _ _ hbk]; rfl
      have cf := fun o => frozen_of_row wr p o _ _ hbk
      have HLk := hid l4.met
      have f5 : Fr (fun k => k = p ∨ k = mb) W4 (wr.setCell ⟨p, 7, none⟩ (.bool true)) := Fr.setCell HT4.out _ _ (.inl (.inl rfl))
      have HF5 : Hid (Fr (fun k => k = p ∨ k = mb) w (wr.setCell ⟨p, 7, none⟩ (.bool true))) := hid (Fr.trans (Still.to (HS.out.trans HS4.out)) f5 (fun _ _ e => e))
      have HO5 := hid (HO4.out.keep f5 (fun k hk e => by have := HOg.out k e; have := HLt.out; rcases hk with e2 | e2 <;> omega))
      have HK4 := hid k4
      have HBr2 : Hid (bb = (b3 || (b2 || b1))) := hid (by rw [HBr.out]; cases b1 <;> cases b2 <;> cases b3 <;> rfl)
      clear l4 k4 hbk f5
      go_wp2_with fail
      go_ret3
      refine ⟨fo, fc, ko1, kc1, ?_, ?_, ?_, HF5.out, HK4.out⟩
      · rw [HFl.out, HBr2.out]; rfl
      · rw [HFl.out]; exact HO5.out
      · rw [HT.out]; exact HLk.out
end Go.Proofs.Ytcmgghfjakphmaa
