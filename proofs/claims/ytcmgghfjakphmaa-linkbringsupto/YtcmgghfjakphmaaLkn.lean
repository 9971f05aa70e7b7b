/- The program's receive. -/
import Derived.Test.YtcmgghfjakphmaaLkm
namespace Go.Proofs.Ytcmgghfjakphmaa
open Go.RowKit
open Wp Vp Lp
set_option maxRecDepth 100000
set_option linter.unusedVariables false
set_option linter.unusedSimpArgs false

theorem Lkk.got {w : World} {B p mb : Nat} {ko : Option Addr} {kc : Nat} {s : Ln} {F : List Cc} (h : w.heap[p]? = some (.cells (lkc s ko kc mb) 57 (0, 0))) (hk : Kp w B ko kc (s.O.drop s.ak)) (hm : Mpc w mb (s.G.length + F.length) s.mq (s.G ++ F)) (lp : B ≤ p) (lm : B ≤ mb) :
    Lkk (w.setCell ⟨p, 5, none⟩ (.int .i64 ((s.G.length : Int) + 1 + (F.length : Int)))) B p mb ko kc (gtS s F) := by
  have f1 : Fr (fun k => k = p) w (w.setCell ⟨p, 5, none⟩ (.int .i64 ((s.G.length : Int) + 1 + (F.length : Int)))) := Fr.setCell (Fr.refl _ _) _ _ (.inl rfl)
  have b1 := heap_setCell_same w p 5 _ _ (.int .i64 ((s.G.length : Int) + 1 + (F.length : Int))) h
  refine ⟨b1.trans ?_, hk.keep f1 (fun a ha e => ?_), ?_, lp, lm⟩
  · have e1 : ((s.G ++ F).length : Int) + 1 = (s.G.length : Int) + 1 + (F.length : Int) := by rw [List.length_append]; omega
    show _ = some (Obj.cells (lkc (gtS s F) ko kc mb) _ _)
    unfold lkc gtS
    simp only [e1]
    rfl
  · obtain ⟨cur, hc⟩ := (hk.bl a ha).2
    exact ty_ne hc h (by decide) e
  · obtain ⟨es, cl, hmm⟩ := hm.map
    have := hm.keep f1 (fun e => map_ne h hmm e.symm)
    rw [← List.length_append] at this
    exact this
set_option maxHeartbeats 8000000 in
theorem lrecv_any (p : Nat) (ko : Option Addr) (kc mb B : Nat) (s : Ln) (d : Dg) (co : Option Addr) (cn cp : Nat) (hn : d.cs.length = cn) (hg : s.G.length ≤ 1099511627776) (hfi : 0 ≤ d.fi ∧ d.fi ≤ (s.G.length : Int) + 1) (hcn : cn ≤ 1000000) (hcs : ∀ c ∈ d.cs, 1 ≤ c.fr ∧ c.fr ≤ 1099511627776) (w : World) (h : Lkk w B p mb ko kc s) (hr : SrG KCc w co cp d.cs) (hro : ∀ a, co = some a → a.block ≠ mb) : Calls Try.prog 22 #[.pointer (some ⟨p, 0, none⟩), dgv d co cn cp] w fun e w' => e = .returned (.bool (decide (0 < (frs s d).length))) ∧ Lkk w' B p mb ko kc (gtS s (frs s d)) ∧ Fr (fun k => k = p ∨ k = mb) w w' := by
  have A0 := Still.alloc w (.cells (dgc d co cn cp) 51)
  have p0 := newDg_b w d co cn cp
  have L0 := h.still A0
  have r0 := hr.still A0
  obtain ⟨g, eg⟩ : ∃ g, w.heap.size = g := ⟨_, rfl⟩
  unfold newDg at p0
  obtain ⟨W, eW⟩ : ∃ W, w.alloc (.cells (dgc d co cn cp) 51) = W := ⟨_, rfl⟩
  rw [eW] at A0 p0 L0 r0
  rw [eg] at p0
  obtain ⟨d0, d1, d2, d3, d4, d5, d6, d7, df⟩ := p0.cells
  have HS := hid A0
  have hcp : cn ≤ cp := by have := hr.le; omega
  have HC2 := hid (lfresh_any p ko kc mb B s d co cn cp hn hg hfi hcp (by omega) W L0)
  have hfr := r0.fresh s
  rw [hn] at hfr
  have HFr := hid (fun a (ha : cutG 7 co cn (frI s d) = some a) => cut_block ha)
  have HRo := hid hro
  have HF := hid hfr.rd
  have HFl : Hid ((frs s d).length = cn - frI s d) := hid (by rw [frs_frI, List.length_drop, hn])
  have HFc : Hid (∀ c ∈ frs s d, 1 ≤ c.fr ∧ c.fr ≤ 1099511627776) := hid (fun c hc => hcs c (List.mem_of_mem_drop hc))
  have hnl : cn - frI s d ≤ 1000000 := by omega
  have HLl := hid L0.lt
  have HL := hid L0
  obtain ⟨F, eF⟩ : ∃ F, frs s d = F := ⟨_, rfl⟩
  obtain ⟨i0, ei0⟩ : ∃ i, frI s d = i := ⟨_, rfl⟩
  rw [eF] at HF HFl HFc ⊢
  rw [ei0] at HC2 HF HFl hnl HFr
  clear eF ei0 A0 p0 L0 r0 h hr hfr hn hcs hcp hcn hro
  go_enter Try.func22, Try.ntmps22
  go_wp2_with fail
  refine HC2.out.mono ?_
  rintro e w3 ⟨he, h3⟩
  rw [he]
  have HS3 := hid h3
  have HL3 := hid (HL.out.still h3)
  have HF : Hid (RdG KCc w3 (cutG 7 co cn i0) (cn - i0) F) := hid (by have := HF.out.still h3; rw [HFl.out] at this; exact this)
  clear he h3 HC2 d0 d1 d2 d3 d4 d5 d6 d7 df
  obtain ⟨n, en⟩ : ∃ n, cn - i0 = n := ⟨_, rfl⟩
  rw [en] at HF HFl hnl ⊢
  obtain ⟨fo, efo⟩ : ∃ fo, cutG 7 co cn i0 = fo := ⟨_, rfl⟩
  rw [efo] at HF HFr ⊢
  clear en efo
  go_wp2_with fail
  go_loopw [13] (fun u13 wr => ∃ i : Nat, i ≤ n ∧ u13 = .int .i64 (i : Int) ∧ Hid (Mpc wr mb (s.G.length + i) s.mq (s.G ++ F.take i)) ∧ Hid (Fr (fun k => k = mb) w3 wr)) (fun u13 _ => n - (intOf u13).toNat)
  case atStart => exact ⟨0, by omega, rfl, hid (by simpa using HL3.out.mp), hid (Fr.refl _ _)⟩
  case round =>
    obtain ⟨i, hi, rfl, HM, HT⟩ := hrel
    by_cases hin : i < n
    · have hlt : (i : Int) < (n : Int) := by omega
      obtain ⟨B', o, eco⟩ := HF.out.at (by omega)
      subst eco
      have hfr2 : RdG KCc wr (some ⟨B', o, none⟩) n F := HF.out.kept HT.out (fun a ha e => by
        obtain ⟨b, hb, eb⟩ := HFr.out a ha
        exact HRo.out b hb (by rw [← eb]; exact e))
      obtain ⟨k0, k1, k2, k3, k4, k5, k6⟩ := rdCc hfr2 hin
      obtain ⟨D, hD, hC⟩ := HM.out
      have hxr1 := HFc.out (cc F i) (by rw [cc_at (by rw [HFl.out]; exact hin)]; exact List.getElem_mem _)
      have ht1 := take_one (L := F) (i := i) (by rw [HFl.out]; exact hin)
      obtain ⟨x, ex⟩ : ∃ x, cc F i = x := ⟨_, rfl⟩
      rw [ex] at k0 k1 k2 k3 k4 k5 k6 hxr1 ht1
      obtain ⟨v, hv, v0, v1, v2⟩ := hC x.fr
      have hxr : -9223372036854775808 ≤ x.fr ∧ x.fr ≤ 9223372036854775807 := by omega
      have HTk : Hid (F.take (i + 1) = F.take i ++ [x]) := hid ht1.1
      have A3 := Still.alloc wr (.cells (kmc x) 47)
      have b3 := newCc_b wr x
      unfold newCc at b3
      obtain ⟨W3, eW3⟩ : ∃ V, wr.alloc (.cells (kmc x) 47) = V := ⟨_, rfl⟩
      obtain ⟨g3, eg3⟩ : ∃ g, wr.heap.size = g := ⟨_, rfl⟩
      rw [eW3] at A3 b3
      rw [eg3] at b3
      have HT3 : Hid (Fr (fun k => k = mb) w3 W3) := hid (Fr.trans HT.out A3 (fun _ _ e => e.elim))
      have hbk := HT3.out.kept HL3.out.bk HL3.out.ne.1
      have hc9 : W3.cell? ⟨p, 9, none⟩ = some (.map (some mb)) := by rw [cell_of_row _ _ _ _ _ _ hbk]; rfl
      have q9 := Cl.cell hc9
      have q0 := Cl.cell b3.cells.1
      have hne := Aft.here W3
      have HD := hid (grown_of A3 (fun e => e) hD.lt hD)
      have qv : ∀ z : Aft W3, (Instr.lookup 55 (.map (some mb)) (.int .i64 x.fr) false).run Try.prog z.u = .ok (.int .i64 v) z.u := fun z => own_look (grown_of z.s (fun e => e) HD.out.lt HD.out) hxr hv
      have HCn := hid hC
      have HK : Hid (keyOf Try.prog 2 (.int .i64 x.fr) = some (.int .i64 x.fr)) := hid (keyI6 hxr)
      have v1' : v ≤ 1099512627776 := by rw [List.length_append, List.length_take] at v1; omega
      have HNl : Hid (s.G.length + i < maxLen) := hid (by unfold maxLen; omega)
      have HZ : Hid (RI (.int .i64 (v + 1)) = some (.held (.int .i64 (v + 1)), [])) := hid rfl
      have hw : IntKind.i64.wrap (v + 1) = v + 1 := wr64 (by omega) (by omega)
      obtain ⟨y0, y1, y2, y3, y4, y5, y6, yf⟩ := b3.cells
      clear ex ht1 hxr1 hD hC A3 HM v1 v2 hfr2 hbk hc9 b3
      go_wp2_with fail
      clear k0 k1 k2 k3 k4 k5 k6
      refine region_rest 8 (by kernel_rfl) (by kernel_rfl) ?_
      simp only [List.take_succ_cons, List.take_zero, List.drop_succ_cons, List.drop_zero]
      repeat (go_big_quiet_step (rfl))
      refine wpQuiet_nil ?_
      intro w5 h5
      have HD5 := hid (grown_of h5 (fun e => e) HD.out.lt HD.out)
      have HT5 : Hid (Fr (fun k => k = mb) w3 w5) := hid (Fr.trans HT3.out h5 (fun _ _ e => e.elim))
      clear h5 q9 q0 qv hne HD HT3 y0 y1 y2 y3 y4 y5 y6 yf eW3 eg3
      go_wp2_with (
        at_mapUpdate
        refine wpList_mapUpdate_in _ rfl _ _ _ 55 rfl 2 3 lawI6 Try.underlying55 RI mb (s.G.length + i) D rfl HD5.out HNl.out _ _ (.int .i64 x.fr) rfl rfl HK.out (.held (.int .i64 (v + 1))) [] HZ.out ?_
        intro w6 hm6 ht6
        have HM6 := hid (Mpc.put HD5.out HCn.out hxr hv hm6)
        have HT6 : Hid (Fr (fun k => k = mb) w3 w6) := hid (Fr.trans HT5.out (turned_fr ht6) (fun _ _ e => e))
        clear hm6 ht6
        go_frame)
      (try simp only [Exit.inBlock, Exit.then])
      go_wp2_with fail
      go_roundw
      case rel => exact ⟨i + 1, by omega, by go_num, hid (by rw [HTk.out, ← List.append_assoc]; exact HM6.out), HT6⟩
      case measure => simp [intOf]; omega
    · have hnl2 : ¬ (i : Int) < (n : Int) := by omega
      have HIn : Hid (F.take i = F ∧ i = F.length) := hid ⟨List.take_of_length_le (by rw [HFl.out]; omega), by rw [HFl.out]; omega⟩
      have hbk := HT.out.kept HL3.out.bk HL3.out.ne.1
      have hkp := HL3.out.kp.keep HT.out (fun a ha e => (HL3.out.ne.2 a ha).2.1 e)
      have hmp : Mpc wr mb (s.G.length + F.length) s.mq (s.G ++ F) := by have := HM.out; rw [HIn.out.1, HIn.out.2] at this; exact this
      have HLk := hid (Lkk.got hbk hkp hmp HL3.out.lp HL3.out.lm)
      have HFf : Hid (Fr (fun k => k = p ∨ k = mb) w (wr.setCell ⟨p, 5, none⟩ (.int .i64 ((s.G.length : Int) + 1 + (F.length : Int))))) := hid (Fr.setCell (Fr.trans (Still.to (HS.out.trans HS3.out)) HT.out (fun k _ e => .inr e)) _ _ (.inl (.inl rfl)))
      have c5 : wr.cell? ⟨p, 5, none⟩ = some (.int .i64 ((s.G.length : Int) + 1)) := by rw [cell_of_row _ _ _ _ _ _ hbk]; rfl
      have cf := fun o => frozen_of_row wr p o _ _ hbk
      have HN : Hid (F.length = n) := hid HFl.out
      rw [HFl.out] at HLk HFf
      have hw : IntKind.i64.wrap ((s.G.length : Int) + 1 + (n : Int)) = (s.G.length : Int) + 1 + (n : Int) := wr64 (by omega) (by omega)
      clear hbk hkp hmp
      by_cases h0 : 0 < n
      · have h0' : (0 : Int) < (n : Int) := by omega
        go_wp2_with fail
        go_ret
        exact ⟨by rw [HN.out]; simp [h0], HLk.out, HFf.out⟩
      · have h0' : ¬ (0 : Int) < (n : Int) := by omega
        go_wp2_with fail
        go_ret
        exact ⟨by rw [HN.out]; simp [h0], HLk.out, HFf.out⟩
end Go.Proofs.Ytcmgghfjakphmaa
