/- Parts of the proof, laid end to end. -/
import Derived.Test.YtnbofjaecchnaaaDoorZR08
import Derived.Test.YtnbofjaecchnaaaDoorZR09
import Derived.Test.YtnbofjaecchnaaaDoorZR06
import Derived.Test.YtnbofjaecchnaaaDoorZR02
import Derived.Laws.StructEq
namespace Go.Proofs.YtnbofjaecchnaaaDoor
open Go.RowKit
open Wp Vp Lp
set_option maxRecDepth 100000
set_option linter.unusedVariables false
set_option linter.unusedSimpArgs false
theorem Ccb.keepC {F : Nat -> Prop} {w w' : World} {g : Nat} {x : Cc} (h : Ccb w g x) (hf : Fr F w w') (hn : ¬ F g) : Ccb w' g x := hf.kept h hn
theorem lclo_any {w : World} {mb n : Nat} {D : DataW Value} (h : w.ownsMap Tryd.prog 2 RI mb n D) : Calls Tryd.prog 56 #[.map (some mb)] w fun e w' => e = .returned (.map (some w.heap.size)) /\ w'.ownsMap Tryd.prog 2 RI w.heap.size n D /\ Still w w' := by
 obtain ⟨es, clock, hb, F, hs, hD⟩ := h
 have hc : Calls Tryd.prog 56 #[.map (some mb)] w (fun e w' => e = .returned (.map (some w.heap.size)) /\ w' = w.alloc (.map es clock)) := AnyW.maps_Clone Tryd.cloM mb es clock w hb
 refine hc.mono fun e w' ⟨he, hw⟩ => ?_
 subst hw
 exact ⟨he, ⟨es, clock, (MapKept.heap_alloc w _).1, F, hs, hD⟩, Still.alloc w _⟩
theorem take_one {L : List Cc} {i : Nat} (h : i < L.length) : L.take (i + 1) = L.take i ++ [cc L i] /\ L.drop i = cc L i :: L.drop (i + 1) := by
 rw [cc_at h]
 exact ⟨by rw [List.take_succ_eq_append_getElem h], by rw [List.drop_eq_getElem_cons h]⟩
set_option maxHeartbeats 8000000 in
theorem lmis_any (p : Nat) (ko : Option Addr) (kc mb B : Nat) (s : Ln) (d : Dg) (co : Option Addr) (cn cp : Nat) (hn : d.cs.length = cn) (hg : s.G.length <= 1099511627776) (hfi : 0 <= d.fi /\ d.fi <= (s.G.length : Int) + 1) (hcn : cn <= 1000000) (hmk : 0 <= d.mrk /\ d.mrk <= 1099511627776) (hcs : ∀ c ∈ d.cs, 1 <= c.fr /\ c.fr <= 1099511627776) (w : World) (h : Lkk w B p mb ko kc s) (hr : SrG KCc w co cp d.cs) : Calls Tryd.prog 45 #[.pointer (some ⟨p, 0, none⟩), dgv d co cn cp] w fun e w' => e = .returned (.bool (misB s.mq d.mrk s.G (frs s d))) /\ Still w w' := by
 have A0 := Still.alloc w (.cells (dgc d co cn cp) 39)
 have p0 := newDg_b w d co cn cp
 have L0 := h.still A0
 have r0 := hr.still A0
 obtain ⟨g, eg⟩ : ∃ g, w.heap.size = g := ⟨_, rfl⟩
 unfold newDg at p0
 obtain ⟨W, eW⟩ : ∃ W, w.alloc (.cells (dgc d co cn cp) 39) = W := ⟨_, rfl⟩
 rw [eW] at A0 p0 L0 r0
 rw [eg] at p0
 obtain ⟨d0, d1, d2, d3, d4, d5, d6, d7, df⟩ := p0.cells
 have c9 := L0.cells.2.2.2.2.2.2.2.2.2.1
 obtain ⟨D0, hD0, hC0⟩ := L0.mp
 have HC1 := hid (lclo_any hD0)
 have HC0 := hid hC0
 have HS := hid A0
 have HL := hid L0
 have HP := hid p0
 have hcp : cn <= cp := by have := hr.le; omega
 have HC2 : Hid (∀ u, Still W u -> Calls Tryd.prog 30 #[.pointer (some ⟨p, 0, none⟩), dgv d co cn cp] u fun e w' => e = .returned (.slice (cutG 7 co cn (frI s d)) (cn - frI s d) (cn - frI s d)) /\ Still u w') := hid (fun u hu => lfresh_any p ko kc mb B s d co cn cp hn hg hfi hcp (by omega) u (HL.out.still hu))
 have hfr := r0.fresh s
 rw [hn] at hfr
 have HF := hid hfr.rd
 have HFl : Hid ((frs s d).length = cn - frI s d) := hid (by rw [frs_frI, List.length_drop, hn])
 have HFc : Hid (∀ c ∈ frs s d, 1 <= c.fr /\ c.fr <= 1099511627776) := hid (fun c hc => hcs c (List.mem_of_mem_drop hc))
 have hnl : cn - frI s d <= 1000000 := by omega
 obtain ⟨F, eF⟩ : ∃ F, frs s d = F := ⟨_, rfl⟩
 obtain ⟨i0, ei0⟩ : ∃ i, frI s d = i := ⟨_, rfl⟩
 rw [eF] at HF HFl HFc ⊢
 rw [ei0] at HC2 HF HFl hnl
 have HHn := hid hn
 have HHc := hid hcs
 clear eF ei0 A0 p0 L0 r0 h hr hD0 hC0 hfr hn hcs hcp hcn
 go_enter Tryd.func45, Tryd.ntmps45
 go_wp2_with fail
 refine HC1.out.mono ?_
 rintro e w2 ⟨he, hm2, h2⟩
 rw [he]
 have HM2 := hid hm2
 have HS2 := hid h2
 have HCb : Hid (W.heap.size <= W.heap.size) := hid (Nat.le_refl _)
 obtain ⟨cb, ecb⟩ : ∃ cb, W.heap.size = cb := ⟨_, rfl⟩
 rw [ecb] at HM2
 have HCb : Hid (W.heap.size <= cb) := hid (by omega)
 obtain ⟨d0, d1, d2, d3, d4, d5, d6, d7, df⟩ := (HP.out.still h2).cells
 rw [ecb]
 clear he hm2 h2 HC1 c9 ecb eW
 go_wp2_with fail
 refine (HC2.out _ HS2.out).mono ?_
 rintro e w3 ⟨he, h3⟩
 rw [he]
 have HM3 : Hid (Mpc w3 cb s.G.length s.mq s.G) := hid ⟨D0, grown_of h3 (fun e => e) HM2.out.lt HM2.out, HC0.out⟩
 have HS3 := hid (HS2.out.trans h3)
 clear he h3 HC2 HS2 HM2 HC0 d0 d1 d2 d3 d4 d5 d6 d7 df
 have HF : Hid (RdG KCc W (cutG 7 co cn i0) (cn - i0) F) := hid (by have := HF.out; rw [HFl.out] at this; exact this)
 obtain ⟨n, en⟩ : ∃ n, cn - i0 = n := ⟨_, rfl⟩
 rw [en] at HF HFl hnl ⊢
 obtain ⟨fo, efo⟩ : ∃ fo, cutG 7 co cn i0 = fo := ⟨_, rfl⟩
 rw [efo] at HF ⊢
 clear en efo
 have HE : Hid (misB s.mq d.mrk s.G F = misB s.mq d.mrk s.G F) := hid rfl
 go_wp2_with fail
 go_loopw [17] (fun u17 wr => ∃ i : Nat, i <= n /\ u17 = .int .i64 (i : Int) /\ Hid (Mpc wr cb (s.G.length + i) s.mq (s.G ++ F.take i)) /\ Hid (misB s.mq d.mrk s.G F = misB s.mq d.mrk (s.G ++ F.take i) (F.drop i)) /\ Hid (Still W wr)) (fun u17 _ => n - (intOf u17).toNat)
 case atStart => exact ⟨0, by omega, rfl, hid (by simpa using HM3.out), hid (by simp), HS3⟩
 case round =>
  obtain ⟨i, hi, rfl, HM, HI, HL3⟩ := hrel
  by_cases hin : i < n
  ·have hlt : (i : Int) < (n : Int) := by omega
   obtain ⟨B', o, eco⟩ := HF.out.at (by omega)
   subst eco
   obtain ⟨k0, k1, k2, k3, k4, k5, k6⟩ := rdCc (HF.out.still HL3.out) hin
   obtain ⟨D, hD, hC⟩ := HM.out
   have hxr1 := HFc.out (cc F i) (by rw [cc_at (by rw [HFl.out]; exact hin)]; exact List.getElem_mem _)
   have ht1 := take_one (L := F) (i := i) (by rw [HFl.out]; exact hin)
   obtain ⟨x, ex⟩ : ∃ x, cc F i = x := ⟨_, rfl⟩
   rw [ex] at k0 k1 k2 k3 k4 k5 k6 hxr1 ht1
   obtain ⟨v, hv, v0, v1, v2⟩ := hC x.fr
   have hxr : -9223372036854775808 <= x.fr /\ x.fr <= 9223372036854775807 := by omega
   have HTk : Hid (F.take (i + 1) = F.take i ++ [x]) := hid ht1.1
   have HX : Hid (misB s.mq d.mrk (s.G ++ F.take i) (F.drop i) = ((decide (x.fr <= s.mq) || (decide (d.mrk + 16 < x.fr) || decide (3 <= onN (s.G ++ F.take i) x.fr))) || misB s.mq d.mrk (s.G ++ F.take i ++ [x]) (F.drop (i + 1)))) := hid (by rw [ht1.2]; rfl)
   have A3 := Still.alloc wr (.cells (kmc x) 36)
   have HB3 : Hid (Ccb (wr.alloc (.cells (kmc x) 36)) wr.heap.size x) := hid (newCc_b wr x)
   have HS3 := hid (HL3.out.trans A3)
   have HCl : Hid (cb < wr.heap.size) := hid hD.lt
   have HD := hid (grown_of A3 (fun e => e) hD.lt hD)
   have hlk := own_look HD.out hxr hv
   have HCn := hid hC
   have HLk : Hid (∀ u : World, u.ownsMap Tryd.prog 2 RI cb (s.G.length + i + 1) (D.put (.int .i64 x.fr) (.held (.int .i64 (v + 1)))) -> (Instr.lookup 68 (.map (some cb)) (.int .i64 x.fr) false).run Tryd.prog u = .ok (.int .i64 (v + 1)) u) := hid (fun u hu => own_look hu hxr (Maps.atKey_put_same HD.out.isMap (lawI6.key (keyI6 hxr)) _ _))
   have HK : Hid (keyOf Tryd.prog 2 (.int .i64 x.fr) = some (.int .i64 x.fr)) := hid (keyI6 hxr)
   have v1' : v <= 1099512627776 := by rw [List.length_append, List.length_take] at v1; omega
   have HNl : Hid (s.G.length + i < maxLen) := hid (by unfold maxLen; omega)
   have HZ : Hid (RI (.int .i64 (v + 1)) = some (.held (.int .i64 (v + 1)), [])) := hid rfl
   have hw : IntKind.i64.wrap (v + 1) = v + 1 := wr64 (by omega) (by omega)
   have hw2 : IntKind.i64.wrap (d.mrk + 16) = d.mrk + 16 := wr64 (by omega) (by omega)
   have HV2 := hid v2
   clear ex ht1 hxr1 hD hC A3 HM HL3 v1 v2
   by_cases b1 : x.fr <= s.mq
   ·have e1 : decide (x.fr <= s.mq) = true := by simpa using b1
    go_wp2_with (
     at_mapUpdate
     refine wpList_mapUpdate_in _ rfl _ _ _ 68 rfl 2 3 lawI6 Tryd.underlying68 RI cb (s.G.length + i) D rfl HD.out HNl.out _ _ (.int .i64 x.fr) rfl rfl HK.out (.held (.int .i64 (v + 1))) [] HZ.out ?_
     intro w4 hm4 ht4
     have hf4 := turned_fr ht4
     have HM4 := hid (Mpc.put HD.out HCn.out hxr hv hm4)
     have HS4 : Hid (Still W w4) := hid (Fr.trans HS3.out hf4 (fun k hk e => by have := HCb.out; omega))
     have hk0 : w4.cell? ⟨wr.heap.size, 0, none⟩ = some (.int .i64 x.fr) := (HB3.out.keepC hf4 (fun e => by have := HCl.out; omega)).cells.1
     have hk6 := (HL.out.still HS4.out).cells.2.2.2.2.2.2.1
     have hd4 := (HP.out.still HS4.out).cells.2.2.2.2.1
     have hv4 := HLk.out w4 hm4
     have q0 := Cl.cell hk0
     have q6 := Cl.cell hk6
     have q4 := Cl.cell hd4
     have qv : ∀ z : Aft w4, (Instr.lookup 68 (.map (some cb)) (.int .i64 x.fr) false).run Tryd.prog z.u = .ok (.int .i64 (v + 1)) z.u := fun z => HLk.out z.u (grown_of z.s (fun e => e) hm4.lt hm4)
     have hne := Aft.here w4
     clear hm4 ht4 hf4 hk0 hk6 hd4 hv4 k0 k1 k2 k3 k4 k5 k6 hlk
     go_frame)
    refine region_all (by kernel_rfl) (by kernel_rfl) ?_
    repeat (go_big_quiet_step (rfl))
    refine wpQuiet_nil ?_
    intro w5 h5
    clear q0 q6 q4 qv hne
    go_wp2_with fail
    go_ret
    exact ⟨by rw [HI.out, HX.out]; simp [e1], HS.out.trans (HS4.out.trans h5)⟩
   ·have e1 : decide (x.fr <= s.mq) = false := by simpa using b1
    by_cases b2 : d.mrk + 16 < x.fr
    ·have e2 : decide (d.mrk + 16 < x.fr) = true := by simpa using b2
     go_wp2_with (
      at_mapUpdate
      refine wpList_mapUpdate_in _ rfl _ _ _ 68 rfl 2 3 lawI6 Tryd.underlying68 RI cb (s.G.length + i) D rfl HD.out HNl.out _ _ (.int .i64 x.fr) rfl rfl HK.out (.held (.int .i64 (v + 1))) [] HZ.out ?_
      intro w4 hm4 ht4
      have hf4 := turned_fr ht4
      have HM4 := hid (Mpc.put HD.out HCn.out hxr hv hm4)
      have HS4 : Hid (Still W w4) := hid (Fr.trans HS3.out hf4 (fun k hk e => by have := HCb.out; omega))
      have hk0 : w4.cell? ⟨wr.heap.size, 0, none⟩ = some (.int .i64 x.fr) := (HB3.out.keepC hf4 (fun e => by have := HCl.out; omega)).cells.1
      have hk6 := (HL.out.still HS4.out).cells.2.2.2.2.2.2.1
      have hd4 := (HP.out.still HS4.out).cells.2.2.2.2.1
      have hv4 := HLk.out w4 hm4
      have q0 := Cl.cell hk0
      have q6 := Cl.cell hk6
      have q4 := Cl.cell hd4
      have qv : ∀ z : Aft w4, (Instr.lookup 68 (.map (some cb)) (.int .i64 x.fr) false).run Tryd.prog z.u = .ok (.int .i64 (v + 1)) z.u := fun z => HLk.out z.u (grown_of z.s (fun e => e) hm4.lt hm4)
      have hne := Aft.here w4
      clear hm4 ht4 hf4 hk0 hk6 hd4 hv4 k0 k1 k2 k3 k4 k5 k6 hlk
      go_frame)
     refine region_all (by kernel_rfl) (by kernel_rfl) ?_
     repeat (go_big_quiet_step (rfl))
     refine wpQuiet_nil ?_
     intro w5 h5
     clear q0 q6 q4 qv hne
     go_wp2_with fail
     go_ret
     exact ⟨by rw [HI.out, HX.out]; simp [e1, e2], HS.out.trans (HS4.out.trans h5)⟩
    ·have e2 : decide (d.mrk + 16 < x.fr) = false := by simpa using b2
     have HV3 := hid (HV2.out (by omega))
     by_cases b3 : 3 < v + 1
     ·have e3 : decide (3 < v + 1) = true := by simpa using b3
      have HE3 : Hid (decide (3 <= onN (s.G ++ F.take i) x.fr) = true) := hid (by have := HV3.out; simp only [decide_eq_true_eq]; omega)
      go_wp2_with (
       at_mapUpdate
       refine wpList_mapUpdate_in _ rfl _ _ _ 68 rfl 2 3 lawI6 Tryd.underlying68 RI cb (s.G.length + i) D rfl HD.out HNl.out _ _ (.int .i64 x.fr) rfl rfl HK.out (.held (.int .i64 (v + 1))) [] HZ.out ?_
       intro w4 hm4 ht4
       have hf4 := turned_fr ht4
       have HM4 := hid (Mpc.put HD.out HCn.out hxr hv hm4)
       have HS4 : Hid (Still W w4) := hid (Fr.trans HS3.out hf4 (fun k hk e => by have := HCb.out; omega))
       have hk0 : w4.cell? ⟨wr.heap.size, 0, none⟩ = some (.int .i64 x.fr) := (HB3.out.keepC hf4 (fun e => by have := HCl.out; omega)).cells.1
       have hk6 := (HL.out.still HS4.out).cells.2.2.2.2.2.2.1
       have hd4 := (HP.out.still HS4.out).cells.2.2.2.2.1
       have hv4 := HLk.out w4 hm4
       have q0 := Cl.cell hk0
       have q6 := Cl.cell hk6
       have q4 := Cl.cell hd4
       have qv : ∀ z : Aft w4, (Instr.lookup 68 (.map (some cb)) (.int .i64 x.fr) false).run Tryd.prog z.u = .ok (.int .i64 (v + 1)) z.u := fun z => HLk.out z.u (grown_of z.s (fun e => e) hm4.lt hm4)
       have hne := Aft.here w4
       clear hm4 ht4 hf4 hk0 hk6 hd4 hv4 k0 k1 k2 k3 k4 k5 k6 hlk
       go_frame)
      refine region_all (by kernel_rfl) (by kernel_rfl) ?_
      repeat (go_big_quiet_step (rfl))
      refine wpQuiet_nil ?_
      intro w5 h5
      clear q0 q6 q4 qv hne
      go_wp2_with fail
      go_ret
      exact ⟨by rw [HI.out, HX.out]; simp [e1, e2, HE3.out], HS.out.trans (HS4.out.trans h5)⟩
     ·have e3 : decide (3 < v + 1) = false := by simpa using b3
      have HE3 : Hid (decide (3 <= onN (s.G ++ F.take i) x.fr) = false) := hid (by have := HV3.out; simp only [decide_eq_false_iff_not]; omega)
      go_wp2_with (
       at_mapUpdate
       refine wpList_mapUpdate_in _ rfl _ _ _ 68 rfl 2 3 lawI6 Tryd.underlying68 RI cb (s.G.length + i) D rfl HD.out HNl.out _ _ (.int .i64 x.fr) rfl rfl HK.out (.held (.int .i64 (v + 1))) [] HZ.out ?_
       intro w4 hm4 ht4
       have hf4 := turned_fr ht4
       have HM4 := hid (Mpc.put HD.out HCn.out hxr hv hm4)
       have HS4 : Hid (Still W w4) := hid (Fr.trans HS3.out hf4 (fun k hk e => by have := HCb.out; omega))
       have hk0 : w4.cell? ⟨wr.heap.size, 0, none⟩ = some (.int .i64 x.fr) := (HB3.out.keepC hf4 (fun e => by have := HCl.out; omega)).cells.1
       have hk6 := (HL.out.still HS4.out).cells.2.2.2.2.2.2.1
       have hd4 := (HP.out.still HS4.out).cells.2.2.2.2.1
       have hv4 := HLk.out w4 hm4
       have q0 := Cl.cell hk0
       have q6 := Cl.cell hk6
       have q4 := Cl.cell hd4
       have qv : ∀ z : Aft w4, (Instr.lookup 68 (.map (some cb)) (.int .i64 x.fr) false).run Tryd.prog z.u = .ok (.int .i64 (v + 1)) z.u := fun z => HLk.out z.u (grown_of z.s (fun e => e) hm4.lt hm4)
       have hne := Aft.here w4
       clear hm4 ht4 hf4 hk0 hk6 hd4 hv4 k0 k1 k2 k3 k4 k5 k6 hlk
       go_frame)
      refine region_all (by kernel_rfl) (by kernel_rfl) ?_
      repeat (go_big_quiet_step (rfl))
      refine wpQuiet_nil ?_
      intro w5 h5
      clear q0 q6 q4 qv hne
      have HM5 := hid (HM4.out.keep h5 (fun e => e))
      have HS5 := hid (HS4.out.trans h5)
      clear h5 HM4 HS4
      go_wp2_with fail
      go_roundw
      case rel => exact ⟨i + 1, by omega, by go_num, hid (by rw [HTk.out, <- List.append_assoc]; exact HM5.out), hid (by rw [HI.out, HX.out, HTk.out, <- List.append_assoc]; simp [e1, e2, HE3.out]), HS5⟩
      case measure => simp [intOf]; omega
  ·have hnl : ¬ (i : Int) < (n : Int) := by omega
   have HT : Hid (F.drop i = []) := hid (List.drop_of_length_le (by rw [HFl.out]; omega))
   go_wp2_with fail
   go_ret
   exact ⟨by rw [HI.out, HT.out]; rfl, HS.out.trans HL3.out⟩
end Go.Proofs.YtnbofjaecchnaaaDoor
namespace Go.Proofs.YtnbofjaecchnaaaDoor
open Go.RowKit
open Wp Vp Lp
set_option maxRecDepth 100000
set_option linter.unusedVariables false
set_option linter.unusedSimpArgs false
theorem chkD_b (d : Dg) : chkD d = if okD d = true then 0 else 162 := rfl
set_option maxHeartbeats 8000000 in
theorem lref_any (p : Nat) (ko : Option Addr) (kc mb B : Nat) (s : Ln) (d : Dg) (co : Option Addr) (cn cp : Nat) (lead : Int) (hO : s.O.length <= 1152921504606846976) (hal : s.ak <= s.O.length) (hn : d.cs.length = cn) (hg : s.G.length <= 1099511627776) (w : World) (h : Lkk w B p mb ko kc s) (hr : SrG KCc w co cp d.cs) : Calls Tryd.prog 29 #[.pointer (some ⟨p, 0, none⟩), dgv d co cn cp, .int .i64 lead] w fun e w' => e = .returned (.int .i64 (refE s d lead)) /\ Still w w' := by
 have A0 := Still.alloc w (.cells (dgc d co cn cp) 39)
 have p0 := newDg_b w d co cn cp
 have L0 := h.still A0
 have r0 := hr.still A0
 obtain ⟨g, eg⟩ : ∃ g, w.heap.size = g := ⟨_, rfl⟩
 unfold newDg at p0
 obtain ⟨W, eW⟩ : ∃ W, w.alloc (.cells (dgc d co cn cp) 39) = W := ⟨_, rfl⟩
 rw [eW] at A0 p0 L0 r0
 rw [eg] at p0
 obtain ⟨d0, d1, d2, d3, d4, d5, d6, d7, df⟩ := p0.cells
 have HS := hid A0
 have HL := hid L0
 have HP := hid p0
 have HC := hid (wchk16_any d co cn cp W (by have := r0.rd; rw [hn] at this; exact this))
 rw [chkD_b] at HC
 have HR := hid r0
 have HN := hid hn
 have HE : Hid (refE s d lead = if okD d = true then (if d.ss = s.ss then (if d.fr = s.ot /\ d.to = s.se then (if d.kd = 1 /\ (s.G.length : Int) + 1 < d.fi then 182 else if brkB s d lead = true then 183 else 0) else 181) else 180) else 162) := hid rfl
 have HBk : Hid (brkB s d lead = (decide ((s.O.length : Int) < d.ak) || ((d.kd == 1) && (decide (lead < d.mrk - 48) || (latB s d || misB s.mq d.mrk s.G (frs s d)))))) := hid rfl
 have HOk : Hid (okD d = true -> _) := hid (fun e => okD_parts (d := d) e)
 have HCs : Hid (okD d = true -> ∀ c ∈ d.cs, 1 <= c.fr /\ c.fr <= 1099511627776) := hid (fun e c hc => by
  obtain ⟨i, hi, rfl⟩ := mem_cc hc
  have := okD_cs e i hi
  omega)
 clear A0 p0 L0 r0 h hr hn
 cases hk : okD d with
 | false =>
  rw [hk] at HC HE
  go_enter Tryd.func29, Tryd.ntmps29
  go_wp2_with fail
  refine HC.out.mono ?_
  rintro e w1 ⟨he, h1⟩
  rw [he]
  have HS1 := hid h1
  clear he h1 HC d0 d1 d2 d3 d4 d5 d6 d7 df eW
  go_wp2_with fail
  go_ret
  exact ⟨by rw [HE.out]; simp [], HS.out.trans HS1.out⟩
 | true =>
  rw [hk] at HC HE HOk HCs
  have hpt := HOk.out rfl
  have HCs2 := hid (HCs.out rfl)
  clear HOk HCs
  cases b1 : (d.ss == s.ss) with
  | false =>
   have n1 : Hid (d.ss ≠ s.ss) := hid (by simpa using b1)
   have y1 : (d.ss != s.ss) = true := by rw [bne, b1]; rfl
   go_enter Tryd.func29, Tryd.ntmps29
   go_wp2_with fail
   refine HC.out.mono ?_
   rintro e w1 ⟨he, h1⟩
   rw [he]
   have HS1 := hid h1
   clear he h1 HC d0 d1 d2 d3 d4 d5 d6 d7 df eW
   go_wp2_with fail
   obtain ⟨d0, d1, d2, d3, d4, d5, d6, d7, df⟩ := (HP.out.still HS1.out).cells
   obtain ⟨c0, c1, c2, c3, c4, c5, c6, c7, c8, c9, cf⟩ := (HL.out.still HS1.out).cells
   have q0 := Cl.cell d0
   have q1 := Cl.cell d1
   have q2 := Cl.cell d2
   have q3 := Cl.cell d3
   have q5 := Cl.cell d5
   have q7 := Cl.cell d7
   have r0 := Cl.cell c0
   have r1 := Cl.cell c1
   have r2 := Cl.cell c2
   have r3 := Cl.cell c3
   have r5 := Cl.cell c5
   have hne := Aft.here w1
   clear d0 d1 d2 d3 d4 d5 d6 d7 df c0 c1 c2 c3 c4 c5 c6 c7 c8 c9 cf
   refine region_all (by kernel_rfl) (by kernel_rfl) ?_
   repeat (go_big_quiet_step (rfl))
   refine wpQuiet_nil ?_
   intro w2 h2
   have HS2 := hid (HS1.out.trans h2)
   clear h2 q0 q1 q2 q3 q5 q7 r0 r1 r2 r3 r5 hne
   go_wp2_with fail
   go_ret
   exact ⟨by rw [HE.out]; simp [n1.out], HS.out.trans HS2.out⟩
  | true =>
   have n1 : Hid (d.ss = s.ss) := hid (by simpa using b1)
   have y1 : (d.ss != s.ss) = false := by rw [bne, b1]; rfl
   cases b2 : (d.fr == s.ot) with
   | false =>
    have n2 : Hid (d.fr ≠ s.ot) := hid (by simpa using b2)
    have y2 : (d.fr != s.ot) = true := by rw [bne, b2]; rfl
    go_enter Tryd.func29, Tryd.ntmps29
    go_wp2_with fail
    refine HC.out.mono ?_
    rintro e w1 ⟨he, h1⟩
    rw [he]
    have HS1 := hid h1
    clear he h1 HC d0 d1 d2 d3 d4 d5 d6 d7 df eW
    go_wp2_with fail
    obtain ⟨d0, d1, d2, d3, d4, d5, d6, d7, df⟩ := (HP.out.still HS1.out).cells
    obtain ⟨c0, c1, c2, c3, c4, c5, c6, c7, c8, c9, cf⟩ := (HL.out.still HS1.out).cells
    have q0 := Cl.cell d0
    have q1 := Cl.cell d1
    have q2 := Cl.cell d2
    have q3 := Cl.cell d3
    have q5 := Cl.cell d5
    have q7 := Cl.cell d7
    have r0 := Cl.cell c0
    have r1 := Cl.cell c1
    have r2 := Cl.cell c2
    have r3 := Cl.cell c3
    have r5 := Cl.cell c5
    have hne := Aft.here w1
    clear d0 d1 d2 d3 d4 d5 d6 d7 df c0 c1 c2 c3 c4 c5 c6 c7 c8 c9 cf
    refine region_all (by kernel_rfl) (by kernel_rfl) ?_
    repeat (go_big_quiet_step (rfl))
    refine wpQuiet_nil ?_
    intro w2 h2
    have HS2 := hid (HS1.out.trans h2)
    clear h2 q0 q1 q2 q3 q5 q7 r0 r1 r2 r3 r5 hne
    go_wp2_with fail
    obtain ⟨d0, d1, d2, d3, d4, d5, d6, d7, df⟩ := (HP.out.still HS2.out).cells
    obtain ⟨c0, c1, c2, c3, c4, c5, c6, c7, c8, c9, cf⟩ := (HL.out.still HS2.out).cells
    have q0 := Cl.cell d0
    have q1 := Cl.cell d1
    have q2 := Cl.cell d2
    have q3 := Cl.cell d3
    have q5 := Cl.cell d5
    have q7 := Cl.cell d7
    have r0 := Cl.cell c0
    have r1 := Cl.cell c1
    have r2 := Cl.cell c2
    have r3 := Cl.cell c3
    have r5 := Cl.cell c5
    have hne := Aft.here w2
    clear d0 d1 d2 d3 d4 d5 d6 d7 df c0 c1 c2 c3 c4 c5 c6 c7 c8 c9 cf
    refine region_all (by kernel_rfl) (by kernel_rfl) ?_
    repeat (go_big_quiet_step (rfl))
    refine wpQuiet_nil ?_
    intro w3 h3
    have HS3 := hid (HS2.out.trans h3)
    clear h3 q0 q1 q2 q3 q5 q7 r0 r1 r2 r3 r5 hne
    go_wp2_with fail
    go_ret
    exact ⟨by rw [HE.out]; simp [n1.out, n2.out], HS.out.trans HS3.out⟩
   | true =>
    have n2 : Hid (d.fr = s.ot) := hid (by simpa using b2)
    have y2 : (d.fr != s.ot) = false := by rw [bne, b2]; rfl
    cases b3 : (d.to == s.se) with
    | false =>
     have n3 : Hid (d.to ≠ s.se) := hid (by simpa using b3)
     have y3 : (d.to != s.se) = true := by rw [bne, b3]; rfl
     go_enter Tryd.func29, Tryd.ntmps29
     go_wp2_with fail
     refine HC.out.mono ?_
     rintro e w1 ⟨he, h1⟩
     rw [he]
     have HS1 := hid h1
     clear he h1 HC d0 d1 d2 d3 d4 d5 d6 d7 df eW
     go_wp2_with fail
     obtain ⟨d0, d1, d2, d3, d4, d5, d6, d7, df⟩ := (HP.out.still HS1.out).cells
     obtain ⟨c0, c1, c2, c3, c4, c5, c6, c7, c8, c9, cf⟩ := (HL.out.still HS1.out).cells
     have q0 := Cl.cell d0
     have q1 := Cl.cell d1
     have q2 := Cl.cell d2
     have q3 := Cl.cell d3
     have q5 := Cl.cell d5
     have q7 := Cl.cell d7
     have r0 := Cl.cell c0
     have r1 := Cl.cell c1
     have r2 := Cl.cell c2
     have r3 := Cl.cell c3
     have r5 := Cl.cell c5
     have hne := Aft.here w1
     clear d0 d1 d2 d3 d4 d5 d6 d7 df c0 c1 c2 c3 c4 c5 c6 c7 c8 c9 cf
     refine region_all (by kernel_rfl) (by kernel_rfl) ?_
     repeat (go_big_quiet_step (rfl))
     refine wpQuiet_nil ?_
     intro w2 h2
     have HS2 := hid (HS1.out.trans h2)
     clear h2 q0 q1 q2 q3 q5 q7 r0 r1 r2 r3 r5 hne
     go_wp2_with fail
     obtain ⟨d0, d1, d2, d3, d4, d5, d6, d7, df⟩ := (HP.out.still HS2.out).cells
     obtain ⟨c0, c1, c2, c3, c4, c5, c6, c7, c8, c9, cf⟩ := (HL.out.still HS2.out).cells
     have q0 := Cl.cell d0
     have q1 := Cl.cell d1
     have q2 := Cl.cell d2
     have q3 := Cl.cell d3
     have q5 := Cl.cell d5
     have q7 := Cl.cell d7
     have r0 := Cl.cell c0
     have r1 := Cl.cell c1
     have r2 := Cl.cell c2
     have r3 := Cl.cell c3
     have r5 := Cl.cell c5
     have hne := Aft.here w2
     clear d0 d1 d2 d3 d4 d5 d6 d7 df c0 c1 c2 c3 c4 c5 c6 c7 c8 c9 cf
     refine region_all (by kernel_rfl) (by kernel_rfl) ?_
     repeat (go_big_quiet_step (rfl))
     refine wpQuiet_nil ?_
     intro w3 h3
     have HS3 := hid (HS2.out.trans h3)
     clear h3 q0 q1 q2 q3 q5 q7 r0 r1 r2 r3 r5 hne
     go_wp2_with fail
     go_ret
     exact ⟨by rw [HE.out]; simp [n1.out, n2.out, n3.out], HS.out.trans HS3.out⟩
    | true =>
     have n3 : Hid (d.to = s.se) := hid (by simpa using b3)
     have y3 : (d.to != s.se) = false := by rw [bne, b3]; rfl
     cases b4 : (d.kd == 1) with
     | false =>
      have n4 : Hid (d.kd ≠ 1) := hid (by simpa using b4)
      by_cases b5 : (s.O.length : Int) < d.ak
      ·have e5 : decide ((s.O.length : Int) < d.ak) = true := by simpa using b5
       go_enter Tryd.func29, Tryd.ntmps29
       go_wp2_with fail
       refine HC.out.mono ?_
       rintro e w1 ⟨he, h1⟩
       rw [he]
       have HS1 := hid h1
       clear he h1 HC d0 d1 d2 d3 d4 d5 d6 d7 df eW
       go_wp2_with fail
       obtain ⟨d0, d1, d2, d3, d4, d5, d6, d7, df⟩ := (HP.out.still HS1.out).cells
       obtain ⟨c0, c1, c2, c3, c4, c5, c6, c7, c8, c9, cf⟩ := (HL.out.still HS1.out).cells
       have q0 := Cl.cell d0
       have q1 := Cl.cell d1
       have q2 := Cl.cell d2
       have q3 := Cl.cell d3
       have q5 := Cl.cell d5
       have q7 := Cl.cell d7
       have r0 := Cl.cell c0
       have r1 := Cl.cell c1
       have r2 := Cl.cell c2
       have r3 := Cl.cell c3
       have r5 := Cl.cell c5
       have hne := Aft.here w1
       clear d0 d1 d2 d3 d4 d5 d6 d7 df c0 c1 c2 c3 c4 c5 c6 c7 c8 c9 cf
       refine region_all (by kernel_rfl) (by kernel_rfl) ?_
       repeat (go_big_quiet_step (rfl))
       refine wpQuiet_nil ?_
       intro w2 h2
       have HS2 := hid (HS1.out.trans h2)
       clear h2 q0 q1 q2 q3 q5 q7 r0 r1 r2 r3 r5 hne
       go_wp2_with fail
       obtain ⟨d0, d1, d2, d3, d4, d5, d6, d7, df⟩ := (HP.out.still HS2.out).cells
       obtain ⟨c0, c1, c2, c3, c4, c5, c6, c7, c8, c9, cf⟩ := (HL.out.still HS2.out).cells
       have q0 := Cl.cell d0
       have q1 := Cl.cell d1
       have q2 := Cl.cell d2
       have q3 := Cl.cell d3
       have q5 := Cl.cell d5
       have q7 := Cl.cell d7
       have r0 := Cl.cell c0
       have r1 := Cl.cell c1
       have r2 := Cl.cell c2
       have r3 := Cl.cell c3
       have r5 := Cl.cell c5
       have hne := Aft.here w2
       clear d0 d1 d2 d3 d4 d5 d6 d7 df c0 c1 c2 c3 c4 c5 c6 c7 c8 c9 cf
       refine region_all (by kernel_rfl) (by kernel_rfl) ?_
       repeat (go_big_quiet_step (rfl))
       refine wpQuiet_nil ?_
       intro w3 h3
       have HS3 := hid (HS2.out.trans h3)
       clear h3 q0 q1 q2 q3 q5 q7 r0 r1 r2 r3 r5 hne
       go_wp2_with fail
       obtain ⟨d0, d1, d2, d3, d4, d5, d6, d7, df⟩ := (HP.out.still HS3.out).cells
       obtain ⟨c0, c1, c2, c3, c4, c5, c6, c7, c8, c9, cf⟩ := (HL.out.still HS3.out).cells
       have q0 := Cl.cell d0
       have q1 := Cl.cell d1
       have q2 := Cl.cell d2
       have q3 := Cl.cell d3
       have q5 := Cl.cell d5
       have q7 := Cl.cell d7
       have r0 := Cl.cell c0
       have r1 := Cl.cell c1
       have r2 := Cl.cell c2
       have r3 := Cl.cell c3
       have r5 := Cl.cell c5
       have hne := Aft.here w3
       clear d0 d1 d2 d3 d4 d5 d6 d7 df c0 c1 c2 c3 c4 c5 c6 c7 c8 c9 cf
       refine region_all (by kernel_rfl) (by kernel_rfl) ?_
       repeat (go_big_quiet_step (rfl))
       refine wpQuiet_nil ?_
       intro w4 h4
       have HS4 := hid (HS3.out.trans h4)
       clear h4 q0 q1 q2 q3 q5 q7 r0 r1 r2 r3 r5 hne
       go_wp2_with fail
       obtain ⟨d0, d1, d2, d3, d4, d5, d6, d7, df⟩ := (HP.out.still HS4.out).cells
       obtain ⟨c0, c1, c2, c3, c4, c5, c6, c7, c8, c9, cf⟩ := (HL.out.still HS4.out).cells
       have q0 := Cl.cell d0
       have q1 := Cl.cell d1
       have q2 := Cl.cell d2
       have q3 := Cl.cell d3
       have q5 := Cl.cell d5
       have q7 := Cl.cell d7
       have r0 := Cl.cell c0
       have r1 := Cl.cell c1
       have r2 := Cl.cell c2
       have r3 := Cl.cell c3
       have r5 := Cl.cell c5
       have hne := Aft.here w4
       clear d0 d1 d2 d3 d4 d5 d6 d7 df c0 c1 c2 c3 c4 c5 c6 c7 c8 c9 cf
       refine region_all (by kernel_rfl) (by kernel_rfl) ?_
       repeat (go_big_quiet_step (rfl))
       refine wpQuiet_nil ?_
       intro w5 h5
       have HS5 := hid (HS4.out.trans h5)
       clear h5 q0 q1 q2 q3 q5 q7 r0 r1 r2 r3 r5 hne
       go_wp2_with fail
       go_ret
       exact ⟨by rw [HE.out]; simp [n1.out, n2.out, n3.out, n4.out, HBk.out, e5], HS.out.trans HS5.out⟩
      ·have e5 : decide ((s.O.length : Int) < d.ak) = false := by simpa using b5
       go_enter Tryd.func29, Tryd.ntmps29
       go_wp2_with fail
       refine HC.out.mono ?_
       rintro e w1 ⟨he, h1⟩
       rw [he]
       have HS1 := hid h1
       clear he h1 HC d0 d1 d2 d3 d4 d5 d6 d7 df eW
       go_wp2_with fail
       obtain ⟨d0, d1, d2, d3, d4, d5, d6, d7, df⟩ := (HP.out.still HS1.out).cells
       obtain ⟨c0, c1, c2, c3, c4, c5, c6, c7, c8, c9, cf⟩ := (HL.out.still HS1.out).cells
       have q0 := Cl.cell d0
       have q1 := Cl.cell d1
       have q2 := Cl.cell d2
       have q3 := Cl.cell d3
       have q5 := Cl.cell d5
       have q7 := Cl.cell d7
       have r0 := Cl.cell c0
       have r1 := Cl.cell c1
       have r2 := Cl.cell c2
       have r3 := Cl.cell c3
       have r5 := Cl.cell c5
       have hne := Aft.here w1
       clear d0 d1 d2 d3 d4 d5 d6 d7 df c0 c1 c2 c3 c4 c5 c6 c7 c8 c9 cf
       refine region_all (by kernel_rfl) (by kernel_rfl) ?_
       repeat (go_big_quiet_step (rfl))
       refine wpQuiet_nil ?_
       intro w2 h2
       have HS2 := hid (HS1.out.trans h2)
       clear h2 q0 q1 q2 q3 q5 q7 r0 r1 r2 r3 r5 hne
       go_wp2_with fail
       obtain ⟨d0, d1, d2, d3, d4, d5, d6, d7, df⟩ := (HP.out.still HS2.out).cells
       obtain ⟨c0, c1, c2, c3, c4, c5, c6, c7, c8, c9, cf⟩ := (HL.out.still HS2.out).cells
       have q0 := Cl.cell d0
       have q1 := Cl.cell d1
       have q2 := Cl.cell d2
       have q3 := Cl.cell d3
       have q5 := Cl.cell d5
       have q7 := Cl.cell d7
       have r0 := Cl.cell c0
       have r1 := Cl.cell c1
       have r2 := Cl.cell c2
       have r3 := Cl.cell c3
       have r5 := Cl.cell c5
       have hne := Aft.here w2
       clear d0 d1 d2 d3 d4 d5 d6 d7 df c0 c1 c2 c3 c4 c5 c6 c7 c8 c9 cf
       refine region_all (by kernel_rfl) (by kernel_rfl) ?_
       repeat (go_big_quiet_step (rfl))
       refine wpQuiet_nil ?_
       intro w3 h3
       have HS3 := hid (HS2.out.trans h3)
       clear h3 q0 q1 q2 q3 q5 q7 r0 r1 r2 r3 r5 hne
       go_wp2_with fail
       obtain ⟨d0, d1, d2, d3, d4, d5, d6, d7, df⟩ := (HP.out.still HS3.out).cells
       obtain ⟨c0, c1, c2, c3, c4, c5, c6, c7, c8, c9, cf⟩ := (HL.out.still HS3.out).cells
       have q0 := Cl.cell d0
       have q1 := Cl.cell d1
       have q2 := Cl.cell d2
       have q3 := Cl.cell d3
       have q5 := Cl.cell d5
       have q7 := Cl.cell d7
       have r0 := Cl.cell c0
       have r1 := Cl.cell c1
       have r2 := Cl.cell c2
       have r3 := Cl.cell c3
       have r5 := Cl.cell c5
       have hne := Aft.here w3
       clear d0 d1 d2 d3 d4 d5 d6 d7 df c0 c1 c2 c3 c4 c5 c6 c7 c8 c9 cf
       refine region_all (by kernel_rfl) (by kernel_rfl) ?_
       repeat (go_big_quiet_step (rfl))
       refine wpQuiet_nil ?_
       intro w4 h4
       have HS4 := hid (HS3.out.trans h4)
       clear h4 q0 q1 q2 q3 q5 q7 r0 r1 r2 r3 r5 hne
       go_wp2_with fail
       obtain ⟨d0, d1, d2, d3, d4, d5, d6, d7, df⟩ := (HP.out.still HS4.out).cells
       obtain ⟨c0, c1, c2, c3, c4, c5, c6, c7, c8, c9, cf⟩ := (HL.out.still HS4.out).cells
       have q0 := Cl.cell d0
       have q1 := Cl.cell d1
       have q2 := Cl.cell d2
       have q3 := Cl.cell d3
       have q5 := Cl.cell d5
       have q7 := Cl.cell d7
       have r0 := Cl.cell c0
       have r1 := Cl.cell c1
       have r2 := Cl.cell c2
       have r3 := Cl.cell c3
       have r5 := Cl.cell c5
       have hne := Aft.here w4
       clear d0 d1 d2 d3 d4 d5 d6 d7 df c0 c1 c2 c3 c4 c5 c6 c7 c8 c9 cf
       refine region_all (by kernel_rfl) (by kernel_rfl) ?_
       repeat (go_big_quiet_step (rfl))
       refine wpQuiet_nil ?_
       intro w5 h5
       have HS5 := hid (HS4.out.trans h5)
       clear h5 q0 q1 q2 q3 q5 q7 r0 r1 r2 r3 r5 hne
       obtain ⟨d0, d1, d2, d3, d4, d5, d6, d7, df⟩ := (HP.out.still HS5.out).cells
       go_wp2_with fail
       go_ret
       exact ⟨by rw [HE.out]; simp [n1.out, n2.out, n3.out, n4.out, HBk.out, e5, b4], HS.out.trans HS5.out⟩
     | true =>
      have n4 : Hid (d.kd = 1) := hid (by simpa using b4)
      by_cases b6 : (s.G.length : Int) + 1 < d.fi
      ·have e6 : decide ((s.G.length : Int) + 1 < d.fi) = true := by simpa using b6
       go_enter Tryd.func29, Tryd.ntmps29
       go_wp2_with fail
       refine HC.out.mono ?_
       rintro e w1 ⟨he, h1⟩
       rw [he]
       have HS1 := hid h1
       clear he h1 HC d0 d1 d2 d3 d4 d5 d6 d7 df eW
       go_wp2_with fail
       obtain ⟨d0, d1, d2, d3, d4, d5, d6, d7, df⟩ := (HP.out.still HS1.out).cells
       obtain ⟨c0, c1, c2, c3, c4, c5, c6, c7, c8, c9, cf⟩ := (HL.out.still HS1.out).cells
       have q0 := Cl.cell d0
       have q1 := Cl.cell d1
       have q2 := Cl.cell d2
       have q3 := Cl.cell d3
       have q5 := Cl.cell d5
       have q7 := Cl.cell d7
       have r0 := Cl.cell c0
       have r1 := Cl.cell c1
       have r2 := Cl.cell c2
       have r3 := Cl.cell c3
       have r5 := Cl.cell c5
       have hne := Aft.here w1
       clear d0 d1 d2 d3 d4 d5 d6 d7 df c0 c1 c2 c3 c4 c5 c6 c7 c8 c9 cf
       refine region_all (by kernel_rfl) (by kernel_rfl) ?_
       repeat (go_big_quiet_step (rfl))
       refine wpQuiet_nil ?_
       intro w2 h2
       have HS2 := hid (HS1.out.trans h2)
       clear h2 q0 q1 q2 q3 q5 q7 r0 r1 r2 r3 r5 hne
       go_wp2_with fail
       obtain ⟨d0, d1, d2, d3, d4, d5, d6, d7, df⟩ := (HP.out.still HS2.out).cells
       obtain ⟨c0, c1, c2, c3, c4, c5, c6, c7, c8, c9, cf⟩ := (HL.out.still HS2.out).cells
       have q0 := Cl.cell d0
       have q1 := Cl.cell d1
       have q2 := Cl.cell d2
       have q3 := Cl.cell d3
       have q5 := Cl.cell d5
       have q7 := Cl.cell d7
       have r0 := Cl.cell c0
       have r1 := Cl.cell c1
       have r2 := Cl.cell c2
       have r3 := Cl.cell c3
       have r5 := Cl.cell c5
       have hne := Aft.here w2
       clear d0 d1 d2 d3 d4 d5 d6 d7 df c0 c1 c2 c3 c4 c5 c6 c7 c8 c9 cf
       refine region_all (by kernel_rfl) (by kernel_rfl) ?_
       repeat (go_big_quiet_step (rfl))
       refine wpQuiet_nil ?_
       intro w3 h3
       have HS3 := hid (HS2.out.trans h3)
       clear h3 q0 q1 q2 q3 q5 q7 r0 r1 r2 r3 r5 hne
       go_wp2_with fail
       obtain ⟨d0, d1, d2, d3, d4, d5, d6, d7, df⟩ := (HP.out.still HS3.out).cells
       obtain ⟨c0, c1, c2, c3, c4, c5, c6, c7, c8, c9, cf⟩ := (HL.out.still HS3.out).cells
       have q0 := Cl.cell d0
       have q1 := Cl.cell d1
       have q2 := Cl.cell d2
       have q3 := Cl.cell d3
       have q5 := Cl.cell d5
       have q7 := Cl.cell d7
       have r0 := Cl.cell c0
       have r1 := Cl.cell c1
       have r2 := Cl.cell c2
       have r3 := Cl.cell c3
       have r5 := Cl.cell c5
       have hne := Aft.here w3
       clear d0 d1 d2 d3 d4 d5 d6 d7 df c0 c1 c2 c3 c4 c5 c6 c7 c8 c9 cf
       refine region_all (by kernel_rfl) (by kernel_rfl) ?_
       repeat (go_big_quiet_step (rfl))
       refine wpQuiet_nil ?_
       intro w4 h4
       have HS4 := hid (HS3.out.trans h4)
       clear h4 q0 q1 q2 q3 q5 q7 r0 r1 r2 r3 r5 hne
       go_wp2_with fail
       go_ret
       exact ⟨by rw [HE.out]; simp [n1.out, n2.out, n3.out, n4.out, b6], HS.out.trans HS4.out⟩
      ·have e6 : decide ((s.G.length : Int) + 1 < d.fi) = false := by simpa using b6
       by_cases b5 : (s.O.length : Int) < d.ak
       ·have e5 : decide ((s.O.length : Int) < d.ak) = true := by simpa using b5
        go_enter Tryd.func29, Tryd.ntmps29
        go_wp2_with fail
        refine HC.out.mono ?_
        rintro e w1 ⟨he, h1⟩
        rw [he]
        have HS1 := hid h1
        clear he h1 HC d0 d1 d2 d3 d4 d5 d6 d7 df eW
        go_wp2_with fail
        obtain ⟨d0, d1, d2, d3, d4, d5, d6, d7, df⟩ := (HP.out.still HS1.out).cells
        obtain ⟨c0, c1, c2, c3, c4, c5, c6, c7, c8, c9, cf⟩ := (HL.out.still HS1.out).cells
        have q0 := Cl.cell d0
        have q1 := Cl.cell d1
        have q2 := Cl.cell d2
        have q3 := Cl.cell d3
        have q5 := Cl.cell d5
        have q7 := Cl.cell d7
        have r0 := Cl.cell c0
        have r1 := Cl.cell c1
        have r2 := Cl.cell c2
        have r3 := Cl.cell c3
        have r5 := Cl.cell c5
        have hne := Aft.here w1
        clear d0 d1 d2 d3 d4 d5 d6 d7 df c0 c1 c2 c3 c4 c5 c6 c7 c8 c9 cf
        refine region_all (by kernel_rfl) (by kernel_rfl) ?_
        repeat (go_big_quiet_step (rfl))
        refine wpQuiet_nil ?_
        intro w2 h2
        have HS2 := hid (HS1.out.trans h2)
        clear h2 q0 q1 q2 q3 q5 q7 r0 r1 r2 r3 r5 hne
        go_wp2_with fail
        obtain ⟨d0, d1, d2, d3, d4, d5, d6, d7, df⟩ := (HP.out.still HS2.out).cells
        obtain ⟨c0, c1, c2, c3, c4, c5, c6, c7, c8, c9, cf⟩ := (HL.out.still HS2.out).cells
        have q0 := Cl.cell d0
        have q1 := Cl.cell d1
        have q2 := Cl.cell d2
        have q3 := Cl.cell d3
        have q5 := Cl.cell d5
        have q7 := Cl.cell d7
        have r0 := Cl.cell c0
        have r1 := Cl.cell c1
        have r2 := Cl.cell c2
        have r3 := Cl.cell c3
        have r5 := Cl.cell c5
        have hne := Aft.here w2
        clear d0 d1 d2 d3 d4 d5 d6 d7 df c0 c1 c2 c3 c4 c5 c6 c7 c8 c9 cf
        refine region_all (by kernel_rfl) (by kernel_rfl) ?_
        repeat (go_big_quiet_step (rfl))
        refine wpQuiet_nil ?_
        intro w3 h3
        have HS3 := hid (HS2.out.trans h3)
        clear h3 q0 q1 q2 q3 q5 q7 r0 r1 r2 r3 r5 hne
        go_wp2_with fail
        obtain ⟨d0, d1, d2, d3, d4, d5, d6, d7, df⟩ := (HP.out.still HS3.out).cells
        obtain ⟨c0, c1, c2, c3, c4, c5, c6, c7, c8, c9, cf⟩ := (HL.out.still HS3.out).cells
        have q0 := Cl.cell d0
        have q1 := Cl.cell d1
        have q2 := Cl.cell d2
        have q3 := Cl.cell d3
        have q5 := Cl.cell d5
        have q7 := Cl.cell d7
        have r0 := Cl.cell c0
        have r1 := Cl.cell c1
        have r2 := Cl.cell c2
        have r3 := Cl.cell c3
        have r5 := Cl.cell c5
        have hne := Aft.here w3
        clear d0 d1 d2 d3 d4 d5 d6 d7 df c0 c1 c2 c3 c4 c5 c6 c7 c8 c9 cf
        refine region_all (by kernel_rfl) (by kernel_rfl) ?_
        repeat (go_big_quiet_step (rfl))
        refine wpQuiet_nil ?_
        intro w4 h4
        have HS4 := hid (HS3.out.trans h4)
        clear h4 q0 q1 q2 q3 q5 q7 r0 r1 r2 r3 r5 hne
        go_wp2_with fail
        obtain ⟨d0, d1, d2, d3, d4, d5, d6, d7, df⟩ := (HP.out.still HS4.out).cells
        obtain ⟨c0, c1, c2, c3, c4, c5, c6, c7, c8, c9, cf⟩ := (HL.out.still HS4.out).cells
        have q0 := Cl.cell d0
        have q1 := Cl.cell d1
        have q2 := Cl.cell d2
        have q3 := Cl.cell d3
        have q5 := Cl.cell d5
        have q7 := Cl.cell d7
        have r0 := Cl.cell c0
        have r1 := Cl.cell c1
        have r2 := Cl.cell c2
        have r3 := Cl.cell c3
        have r5 := Cl.cell c5
        have hne := Aft.here w4
        clear d0 d1 d2 d3 d4 d5 d6 d7 df c0 c1 c2 c3 c4 c5 c6 c7 c8 c9 cf
        refine region_all (by kernel_rfl) (by kernel_rfl) ?_
        repeat (go_big_quiet_step (rfl))
        refine wpQuiet_nil ?_
        intro w5 h5
        have HS5 := hid (HS4.out.trans h5)
        clear h5 q0 q1 q2 q3 q5 q7 r0 r1 r2 r3 r5 hne
        go_wp2_with fail
        go_ret
        exact ⟨by rw [HE.out]; simp [n1.out, n2.out, n3.out, n4.out, b6, HBk.out, e5], HS.out.trans HS5.out⟩
       ·have e5 : decide ((s.O.length : Int) < d.ak) = false := by simpa using b5
        have hq : (0 <= d.mrk /\ d.mrk <= 1099511627776) /\ (1 <= d.fi /\ d.fi <= 1099511627776) /\ d.cs.length <= 336 := by
         rcases hpt.2.2 with ⟨_, q1, q2, q3, _⟩ | ⟨q, _⟩
         ·exact ⟨q1, q2, q3⟩
         ·have := n4.out; omega
        have HRu : Hid (∀ u, Still W u -> Calls Tryd.prog 44 #[.pointer (some ⟨p, 0, none⟩), dgv d co cn cp, .int .i64 lead] u fun e w' => e = .returned (.bool (decide (lead < d.mrk - 48) || latB s d)) /\ Still u w') := hid (fun u hu => lruns_any p ko kc mb B s d co cn cp lead hO hal hq.1 ⟨hpt.2.1.1, by omega⟩ u (HL.out.still hu))
        have HMi : Hid (∀ u, Still W u -> Calls Tryd.prog 45 #[.pointer (some ⟨p, 0, none⟩), dgv d co cn cp] u fun e w' => e = .returned (.bool (misB s.mq d.mrk s.G (frs s d))) /\ Still u w') := hid (fun u hu => lmis_any p ko kc mb B s d co cn cp HN.out hg ⟨by omega, by omega⟩ (by have := HN.out; omega) hq.1 HCs2.out u (HL.out.still hu) (HR.out.still hu))
        have HB2 : Hid (brkB s d lead = ((decide (lead < d.mrk - 48) || latB s d) || misB s.mq d.mrk s.G (frs s d))) := hid (by rw [HBk.out, e5, b4]; simp [Bool.or_assoc])
        obtain ⟨m1, em1⟩ : ∃ b, (decide (lead < d.mrk - 48) || latB s d) = b := ⟨_, rfl⟩
        obtain ⟨m2, em2⟩ : ∃ b, misB s.mq d.mrk s.G (frs s d) = b := ⟨_, rfl⟩
        rw [em1] at HRu HB2
        rw [em2] at HMi HB2
        clear em1 em2 hq hpt
        cases m1 with
        | true =>
         go_enter Tryd.func29, Tryd.ntmps29
         go_wp2_with fail
         refine HC.out.mono ?_
         rintro e w1 ⟨he, h1⟩
         rw [he]
         have HS1 := hid h1
         clear he h1 HC d0 d1 d2 d3 d4 d5 d6 d7 df eW
         go_wp2_with fail
         obtain ⟨d0, d1, d2, d3, d4, d5, d6, d7, df⟩ := (HP.out.still HS1.out).cells
         obtain ⟨c0, c1, c2, c3, c4, c5, c6, c7, c8, c9, cf⟩ := (HL.out.still HS1.out).cells
         have q0 := Cl.cell d0
         have q1 := Cl.cell d1
         have q2 := Cl.cell d2
         have q3 := Cl.cell d3
         have q5 := Cl.cell d5
         have q7 := Cl.cell d7
         have r0 := Cl.cell c0
         have r1 := Cl.cell c1
         have r2 := Cl.cell c2
         have r3 := Cl.cell c3
         have r5 := Cl.cell c5
         have hne := Aft.here w1
         clear d0 d1 d2 d3 d4 d5 d6 d7 df c0 c1 c2 c3 c4 c5 c6 c7 c8 c9 cf
         refine region_all (by kernel_rfl) (by kernel_rfl) ?_
         repeat (go_big_quiet_step (rfl))
         refine wpQuiet_nil ?_
         intro w2 h2
         have HS2 := hid (HS1.out.trans h2)
         clear h2 q0 q1 q2 q3 q5 q7 r0 r1 r2 r3 r5 hne
         go_wp2_with fail
         obtain ⟨d0, d1, d2, d3, d4, d5, d6, d7, df⟩ := (HP.out.still HS2.out).cells
         obtain ⟨c0, c1, c2, c3, c4, c5, c6, c7, c8, c9, cf⟩ := (HL.out.still HS2.out).cells
         have q0 := Cl.cell d0
         have q1 := Cl.cell d1
         have q2 := Cl.cell d2
         have q3 := Cl.cell d3
         have q5 := Cl.cell d5
         have q7 := Cl.cell d7
         have r0 := Cl.cell c0
         have r1 := Cl.cell c1
         have r2 := Cl.cell c2
         have r3 := Cl.cell c3
         have r5 := Cl.cell c5
         have hne := Aft.here w2
         clear d0 d1 d2 d3 d4 d5 d6 d7 df c0 c1 c2 c3 c4 c5 c6 c7 c8 c9 cf
         refine region_all (by kernel_rfl) (by kernel_rfl) ?_
         repeat (go_big_quiet_step (rfl))
         refine wpQuiet_nil ?_
         intro w3 h3
         have HS3 := hid (HS2.out.trans h3)
         clear h3 q0 q1 q2 q3 q5 q7 r0 r1 r2 r3 r5 hne
         go_wp2_with fail
         obtain ⟨d0, d1, d2, d3, d4, d5, d6, d7, df⟩ := (HP.out.still HS3.out).cells
         obtain ⟨c0, c1, c2, c3, c4, c5, c6, c7, c8, c9, cf⟩ := (HL.out.still HS3.out).cells
         have q0 := Cl.cell d0
         have q1 := Cl.cell d1
         have q2 := Cl.cell d2
         have q3 := Cl.cell d3
         have q5 := Cl.cell d5
         have q7 := Cl.cell d7
         have r0 := Cl.cell c0
         have r1 := Cl.cell c1
         have r2 := Cl.cell c2
         have r3 := Cl.cell c3
         have r5 := Cl.cell c5
         have hne := Aft.here w3
         clear d0 d1 d2 d3 d4 d5 d6 d7 df c0 c1 c2 c3 c4 c5 c6 c7 c8 c9 cf
         refine region_all (by kernel_rfl) (by kernel_rfl) ?_
         repeat (go_big_quiet_step (rfl))
         refine wpQuiet_nil ?_
         intro w4 h4
         have HS4 := hid (HS3.out.trans h4)
         clear h4 q0 q1 q2 q3 q5 q7 r0 r1 r2 r3 r5 hne
         go_wp2_with fail
         obtain ⟨d0, d1, d2, d3, d4, d5, d6, d7, df⟩ := (HP.out.still HS4.out).cells
         obtain ⟨c0, c1, c2, c3, c4, c5, c6, c7, c8, c9, cf⟩ := (HL.out.still HS4.out).cells
         have q0 := Cl.cell d0
         have q1 := Cl.cell d1
         have q2 := Cl.cell d2
         have q3 := Cl.cell d3
         have q5 := Cl.cell d5
         have q7 := Cl.cell d7
         have r0 := Cl.cell c0
         have r1 := Cl.cell c1
         have r2 := Cl.cell c2
         have r3 := Cl.cell c3
         have r5 := Cl.cell c5
         have hne := Aft.here w4
         clear d0 d1 d2 d3 d4 d5 d6 d7 df c0 c1 c2 c3 c4 c5 c6 c7 c8 c9 cf
         refine region_all (by kernel_rfl) (by kernel_rfl) ?_
         repeat (go_big_quiet_step (rfl))
         refine wpQuiet_nil ?_
         intro w5 h5
         have HS5 := hid (HS4.out.trans h5)
         clear h5 q0 q1 q2 q3 q5 q7 r0 r1 r2 r3 r5 hne
         obtain ⟨d0, d1, d2, d3, d4, d5, d6, d7, df⟩ := (HP.out.still HS5.out).cells
         go_wp2_with fail
         refine (HRu.out _ HS5.out).mono ?_
         rintro e w6 ⟨he, h6⟩
         rw [he]
         have HS6 := hid (HS5.out.trans h6)
         clear he h6 d0 d1 d2 d3 d4 d5 d6 d7 df
         go_wp2_with fail
         go_ret
         exact ⟨by rw [HE.out]; simp [n1.out, n2.out, n3.out, n4.out, b6, HB2.out], HS.out.trans HS6.out⟩
        | false =>
         cases m2 with
         | true =>
          go_enter Tryd.func29, Tryd.ntmps29
          go_wp2_with fail
          refine HC.out.mono ?_
          rintro e w1 ⟨he, h1⟩
          rw [he]
          have HS1 := hid h1
          clear he h1 HC d0 d1 d2 d3 d4 d5 d6 d7 df eW
          go_wp2_with fail
          obtain ⟨d0, d1, d2, d3, d4, d5, d6, d7, df⟩ := (HP.out.still HS1.out).cells
          obtain ⟨c0, c1, c2, c3, c4, c5, c6, c7, c8, c9, cf⟩ := (HL.out.still HS1.out).cells
          have q0 := Cl.cell d0
          have q1 := Cl.cell d1
          have q2 := Cl.cell d2
          have q3 := Cl.cell d3
          have q5 := Cl.cell d5
          have q7 := Cl.cell d7
          have r0 := Cl.cell c0
          have r1 := Cl.cell c1
          have r2 := Cl.cell c2
          have r3 := Cl.cell c3
          have r5 := Cl.cell c5
          have hne := Aft.here w1
          clear d0 d1 d2 d3 d4 d5 d6 d7 df c0 c1 c2 c3 c4 c5 c6 c7 c8 c9 cf
          refine region_all (by kernel_rfl) (by kernel_rfl) ?_
          repeat (go_big_quiet_step (rfl))
          refine wpQuiet_nil ?_
          intro w2 h2
          have HS2 := hid (HS1.out.trans h2)
          clear h2 q0 q1 q2 q3 q5 q7 r0 r1 r2 r3 r5 hne
          go_wp2_with fail
          obtain ⟨d0, d1, d2, d3, d4, d5, d6, d7, df⟩ := (HP.out.still HS2.out).cells
          obtain ⟨c0, c1, c2, c3, c4, c5, c6, c7, c8, c9, cf⟩ := (HL.out.still HS2.out).cells
          have q0 := Cl.cell d0
          have q1 := Cl.cell d1
          have q2 := Cl.cell d2
          have q3 := Cl.cell d3
          have q5 := Cl.cell d5
          have q7 := Cl.cell d7
          have r0 := Cl.cell c0
          have r1 := Cl.cell c1
          have r2 := Cl.cell c2
          have r3 := Cl.cell c3
          have r5 := Cl.cell c5
          have hne := Aft.here w2
          clear d0 d1 d2 d3 d4 d5 d6 d7 df c0 c1 c2 c3 c4 c5 c6 c7 c8 c9 cf
          refine region_all (by kernel_rfl) (by kernel_rfl) ?_
          repeat (go_big_quiet_step (rfl))
          refine wpQuiet_nil ?_
          intro w3 h3
          have HS3 := hid (HS2.out.trans h3)
          clear h3 q0 q1 q2 q3 q5 q7 r0 r1 r2 r3 r5 hne
          go_wp2_with fail
          obtain ⟨d0, d1, d2, d3, d4, d5, d6, d7, df⟩ := (HP.out.still HS3.out).cells
          obtain ⟨c0, c1, c2, c3, c4, c5, c6, c7, c8, c9, cf⟩ := (HL.out.still HS3.out).cells
          have q0 := Cl.cell d0
          have q1 := Cl.cell d1
          have q2 := Cl.cell d2
          have q3 := Cl.cell d3
          have q5 := Cl.cell d5
          have q7 := Cl.cell d7
          have r0 := Cl.cell c0
          have r1 := Cl.cell c1
          have r2 := Cl.cell c2
          have r3 := Cl.cell c3
          have r5 := Cl.cell c5
          have hne := Aft.here w3
          clear d0 d1 d2 d3 d4 d5 d6 d7 df c0 c1 c2 c3 c4 c5 c6 c7 c8 c9 cf
          refine region_all (by kernel_rfl) (by kernel_rfl) ?_
          repeat (go_big_quiet_step (rfl))
          refine wpQuiet_nil ?_
          intro w4 h4
          have HS4 := hid (HS3.out.trans h4)
          clear h4 q0 q1 q2 q3 q5 q7 r0 r1 r2 r3 r5 hne
          go_wp2_with fail
          obtain ⟨d0, d1, d2, d3, d4, d5, d6, d7, df⟩ := (HP.out.still HS4.out).cells
          obtain ⟨c0, c1, c2, c3, c4, c5, c6, c7, c8, c9, cf⟩ := (HL.out.still HS4.out).cells
          have q0 := Cl.cell d0
          have q1 := Cl.cell d1
          have q2 := Cl.cell d2
          have q3 := Cl.cell d3
          have q5 := Cl.cell d5
          have q7 := Cl.cell d7
          have r0 := Cl.cell c0
          have r1 := Cl.cell c1
          have r2 := Cl.cell c2
          have r3 := Cl.cell c3
          have r5 := Cl.cell c5
          have hne := Aft.here w4
          clear d0 d1 d2 d3 d4 d5 d6 d7 df c0 c1 c2 c3 c4 c5 c6 c7 c8 c9 cf
          refine region_all (by kernel_rfl) (by kernel_rfl) ?_
          repeat (go_big_quiet_step (rfl))
          refine wpQuiet_nil ?_
          intro w5 h5
          have HS5 := hid (HS4.out.trans h5)
          clear h5 q0 q1 q2 q3 q5 q7 r0 r1 r2 r3 r5 hne
          obtain ⟨d0, d1, d2, d3, d4, d5, d6, d7, df⟩ := (HP.out.still HS5.out).cells
          go_wp2_with fail
          refine (HRu.out _ HS5.out).mono ?_
          rintro e w6 ⟨he, h6⟩
          rw [he]
          have HS6 := hid (HS5.out.trans h6)
          clear he h6 d0 d1 d2 d3 d4 d5 d6 d7 df
          obtain ⟨d0, d1, d2, d3, d4, d5, d6, d7, df⟩ := (HP.out.still HS6.out).cells
          go_wp2_with fail
          refine (HMi.out _ HS6.out).mono ?_
          rintro e w7 ⟨he, h7⟩
          rw [he]
          have HS7 := hid (HS6.out.trans h7)
          clear he h7 d0 d1 d2 d3 d4 d5 d6 d7 df
          go_wp2_with fail
          go_ret
          exact ⟨by rw [HE.out]; simp [n1.out, n2.out, n3.out, n4.out, b6, HB2.out], HS.out.trans HS7.out⟩
         | false =>
          go_enter Tryd.func29, Tryd.ntmps29
          go_wp2_with fail
          refine HC.out.mono ?_
          rintro e w1 ⟨he, h1⟩
          rw [he]
          have HS1 := hid h1
          clear he h1 HC d0 d1 d2 d3 d4 d5 d6 d7 df eW
          go_wp2_with fail
          obtain ⟨d0, d1, d2, d3, d4, d5, d6, d7, df⟩ := (HP.out.still HS1.out).cells
          obtain ⟨c0, c1, c2, c3, c4, c5, c6, c7, c8, c9, cf⟩ := (HL.out.still HS1.out).cells
          have q0 := Cl.cell d0
          have q1 := Cl.cell d1
          have q2 := Cl.cell d2
          have q3 := Cl.cell d3
          have q5 := Cl.cell d5
          have q7 := Cl.cell d7
          have r0 := Cl.cell c0
          have r1 := Cl.cell c1
          have r2 := Cl.cell c2
          have r3 := Cl.cell c3
          have r5 := Cl.cell c5
          have hne := Aft.here w1
          clear d0 d1 d2 d3 d4 d5 d6 d7 df c0 c1 c2 c3 c4 c5 c6 c7 c8 c9 cf
          refine region_all (by kernel_rfl) (by kernel_rfl) ?_
          repeat (go_big_quiet_step (rfl))
          refine wpQuiet_nil ?_
          intro w2 h2
          have HS2 := hid (HS1.out.trans h2)
          clear h2 q0 q1 q2 q3 q5 q7 r0 r1 r2 r3 r5 hne
          go_wp2_with fail
          obtain ⟨d0, d1, d2, d3, d4, d5, d6, d7, df⟩ := (HP.out.still HS2.out).cells
          obtain ⟨c0, c1, c2, c3, c4, c5, c6, c7, c8, c9, cf⟩ := (HL.out.still HS2.out).cells
          have q0 := Cl.cell d0
          have q1 := Cl.cell d1
          have q2 := Cl.cell d2
          have q3 := Cl.cell d3
          have q5 := Cl.cell d5
          have q7 := Cl.cell d7
          have r0 := Cl.cell c0
          have r1 := Cl.cell c1
          have r2 := Cl.cell c2
          have r3 := Cl.cell c3
          have r5 := Cl.cell c5
          have hne := Aft.here w2
          clear d0 d1 d2 d3 d4 d5 d6 d7 df c0 c1 c2 c3 c4 c5 c6 c7 c8 c9 cf
          refine region_all (by kernel_rfl) (by kernel_rfl) ?_
          repeat (go_big_quiet_step (rfl))
          refine wpQuiet_nil ?_
          intro w3 h3
          have HS3 := hid (HS2.out.trans h3)
          clear h3 q0 q1 q2 q3 q5 q7 r0 r1 r2 r3 r5 hne
          go_wp2_with fail
          obtain ⟨d0, d1, d2, d3, d4, d5, d6, d7, df⟩ := (HP.out.still HS3.out).cells
          obtain ⟨c0, c1, c2, c3, c4, c5, c6, c7, c8, c9, cf⟩ := (HL.out.still HS3.out).cells
          have q0 := Cl.cell d0
          have q1 := Cl.cell d1
          have q2 := Cl.cell d2
          have q3 := Cl.cell d3
          have q5 := Cl.cell d5
          have q7 := Cl.cell d7
          have r0 := Cl.cell c0
          have r1 := Cl.cell c1
          have r2 := Cl.cell c2
          have r3 := Cl.cell c3
          have r5 := Cl.cell c5
          have hne := Aft.here w3
          clear d0 d1 d2 d3 d4 d5 d6 d7 df c0 c1 c2 c3 c4 c5 c6 c7 c8 c9 cf
          refine region_all (by kernel_rfl) (by kernel_rfl) ?_
          repeat (go_big_quiet_step (rfl))
          refine wpQuiet_nil ?_
          intro w4 h4
          have HS4 := hid (HS3.out.trans h4)
          clear h4 q0 q1 q2 q3 q5 q7 r0 r1 r2 r3 r5 hne
          go_wp2_with fail
          obtain ⟨d0, d1, d2, d3, d4, d5, d6, d7, df⟩ := (HP.out.still HS4.out).cells
          obtain ⟨c0, c1, c2, c3, c4, c5, c6, c7, c8, c9, cf⟩ := (HL.out.still HS4.out).cells
          have q0 := Cl.cell d0
          have q1 := Cl.cell d1
          have q2 := Cl.cell d2
          have q3 := Cl.cell d3
          have q5 := Cl.cell d5
          have q7 := Cl.cell d7
          have r0 := Cl.cell c0
          have r1 := Cl.cell c1
          have r2 := Cl.cell c2
          have r3 := Cl.cell c3
          have r5 := Cl.cell c5
          have hne := Aft.here w4
          clear d0 d1 d2 d3 d4 d5 d6 d7 df c0 c1 c2 c3 c4 c5 c6 c7 c8 c9 cf
          refine region_all (by kernel_rfl) (by kernel_rfl) ?_
          repeat (go_big_quiet_step (rfl))
          refine wpQuiet_nil ?_
          intro w5 h5
          have HS5 := hid (HS4.out.trans h5)
          clear h5 q0 q1 q2 q3 q5 q7 r0 r1 r2 r3 r5 hne
          obtain ⟨d0, d1, d2, d3, d4, d5, d6, d7, df⟩ := (HP.out.still HS5.out).cells
          go_wp2_with fail
          refine (HRu.out _ HS5.out).mono ?_
          rintro e w6 ⟨he, h6⟩
          rw [he]
          have HS6 := hid (HS5.out.trans h6)
          clear he h6 d0 d1 d2 d3 d4 d5 d6 d7 df
          obtain ⟨d0, d1, d2, d3, d4, d5, d6, d7, df⟩ := (HP.out.still HS6.out).cells
          go_wp2_with fail
          refine (HMi.out _ HS6.out).mono ?_
          rintro e w7 ⟨he, h7⟩
          rw [he]
          have HS7 := hid (HS6.out.trans h7)
          clear he h7 d0 d1 d2 d3 d4 d5 d6 d7 df
          go_wp2_with fail
          go_ret
          exact ⟨by rw [HE.out]; simp [n1.out, n2.out, n3.out, n4.out, b6, HB2.out], HS.out.trans HS7.out⟩
end Go.Proofs.YtnbofjaecchnaaaDoor
namespace Go.Proofs.YtnbofjaecchnaaaDoor
open Go.RowKit
open Wp Vp Lp
set_option maxRecDepth 100000
set_option linter.unusedVariables false
set_option linter.unusedSimpArgs false
def akS (s : Ln) (d : Dg) : Ln := ⟨s.ss, s.se, s.ot, s.O, max s.ak d.ak.toNat, s.G, s.mq, s.mt⟩
def gtS (s : Ln) (F : List Cc) : Ln := ⟨s.ss, s.se, s.ot, s.O, s.ak, s.G ++ F, s.mq, s.mt⟩
def mkS (s : Ln) (d : Dg) : Ln := ⟨s.ss, s.se, s.ot, s.O, s.ak, s.G, max s.mq d.mrk, s.mt⟩
def mtS (s : Ln) : Ln := ⟨s.ss, s.se, s.ot, s.O, s.ak, s.G, s.mq, true⟩
theorem takS_four (s : Ln) (d : Dg) : takS s d = mtS (mkS (gtS (akS s d) (frs s d)) d) := rfl
theorem akS_no {s : Ln} {d : Dg} (h : d.ak <= (s.ak : Int)) : akS s d = s := by
 unfold akS
 rw [Nat.max_eq_left (by omega)]
theorem mkS_no {s : Ln} {d : Dg} (h : d.mrk <= s.mq) : mkS s d = s := by
 unfold mkS
 rw [show max s.mq d.mrk = s.mq by omega]
theorem Lkk.acked {w : World} {B p mb : Nat} {ko ko' : Option Addr} {kc kc' n : Nat} {s : Ln} {d : Dg} (h : w.heap[p]? = some (.cells (lkc s ko kc mb) 70 (0, 0))) (hk : Kp w B ko' kc' (s.O.drop d.ak.toNat)) (hn : n = s.O.length - d.ak.toNat) (hm : Mpc w mb s.G.length s.mq s.G) (ha : (s.ak : Int) < d.ak) (lp : B <= p) (lm : B <= mb) :
  Lkk ((w.setCell ⟨p, 8, none⟩ (.slice ko' n kc')).setCell ⟨p, 4, none⟩ (.int .i64 d.ak)) B p mb ko' kc' (akS s d) := by
 have f1 : Fr (fun k => k = p) w (w.setCell ⟨p, 8, none⟩ (.slice ko' n kc')) := Fr.setCell (Fr.refl _ _) _ _ (.inl rfl)
 have f2 : Fr (fun k => k = p) w ((w.setCell ⟨p, 8, none⟩ (.slice ko' n kc')).setCell ⟨p, 4, none⟩ (.int .i64 d.ak)) := Fr.setCell f1 _ _ (.inl rfl)
 have b1 := heap_setCell_same w p 8 _ _ (.slice ko' n kc') h
 have b2 := heap_setCell_same _ p 4 _ _ (.int .i64 d.ak) b1
 have e0 : max s.ak d.ak.toNat = d.ak.toNat := by omega
 have e1 : ((d.ak.toNat : Nat) : Int) = d.ak := by omega
 refine ⟨b2.trans ?_, ?_, ?_, lp, lm⟩
 ·subst hn
  show _ = some (Obj.cells (lkc (akS s d) ko' kc' mb) _ _)
  unfold lkc akS
  simp only [e0, e1]
  rfl
 ·have e : (akS s d).O.drop (akS s d).ak = s.O.drop d.ak.toNat := by
   show s.O.drop (max s.ak d.ak.toNat) = _
   rw [e0]
  rw [e]
  refine hk.keep f2 (fun a ha e => ?_)
  obtain ⟨cur, hc⟩ := (hk.bl a ha).2
  exact ty_ne hc h (by decide) e
 ·obtain ⟨es, cl, hmm⟩ := hm.map
  exact hm.keep f2 (fun e => map_ne h hmm e.symm)
set_option maxHeartbeats 4000000 in
theorem lackn_any (p : Nat) (ko : Option Addr) (kc mb B : Nat) (s : Ln) (d : Dg) (co : Option Addr) (cn cp : Nat) (hO : s.O.length <= 1152921504606846976) (hal : s.ak <= s.O.length) (hak : 0 <= d.ak /\ d.ak <= (s.O.length : Int)) (w : World) (h : Lkk w B p mb ko kc s) : Calls Tryd.prog 31 #[.pointer (some ⟨p, 0, none⟩), dgv d co cn cp] w fun e w' => e = .returned (.bool (decide ((s.ak : Int) < d.ak))) /\ ∃ ko' kc', Lkk w' B p mb ko' kc' (akS s d) /\ Fr (fun k => k = p) w w' /\ ∀ a, ko' = some a -> ∃ b, ko = some b /\ a.block = b.block := by
 have A0 := Still.alloc w (.cells (dgc d co cn cp) 39)
 have p0 := newDg_b w d co cn cp
 have L0 := h.still A0
 obtain ⟨g, eg⟩ : ∃ g, w.heap.size = g := ⟨_, rfl⟩
 unfold newDg at p0
 obtain ⟨W, eW⟩ : ∃ W, w.alloc (.cells (dgc d co cn cp) 39) = W := ⟨_, rfl⟩
 rw [eW] at A0 p0 L0
 rw [eg] at p0
 have HG : Hid (w.heap.size = g) := hid eg
 have HS := hid A0
 have HL := hid L0
 have HP := hid p0
 have q7 := Cl.cell p0.cells.2.2.2.2.2.2.2.1
 have q4 := Cl.cell L0.cells.2.2.2.2.1
 have hne := Aft.here W
 have hpg : p ≠ g := by have := h.lt.1; omega
 clear A0 p0 L0 h
 by_cases hc : d.ak <= (s.ak : Int)
 ·have hd : decide (d.ak <= (s.ak : Int)) = true := by simpa using hc
  have HD : Hid (decide ((s.ak : Int) < d.ak) = false) := hid (by simp; omega)
  have HE := hid (akS_no hc)
  go_enter Tryd.func31, Tryd.ntmps31
  go_wp2_with fail
  refine region_all (by kernel_rfl) (by kernel_rfl) ?_
  repeat (go_big_quiet_step (rfl))
  refine wpQuiet_nil ?_
  intro w3 h3
  have HS3 := hid h3
  clear h3 q7 q4 hne
  go_wp2_with fail
  go_ret
  exact ⟨by rw [HD.out]; rfl, ko, kc, by rw [HE.out]; exact HL.out.still HS3.out, Still.to (HS.out.trans HS3.out), fun a ha => ⟨a, ha, rfl⟩⟩
 ·have hd : decide (d.ak <= (s.ak : Int)) = false := by simpa using hc
  have HD : Hid (decide ((s.ak : Int) < d.ak) = true) := hid (by simp; omega)
  have hab : abI s d.ak <= s.O.length - s.ak := by unfold abI; omega
  have HA : Hid (∀ u, Still W u -> Calls Tryd.prog 26 #[.pointer (some ⟨p, 0, none⟩), .int .i64 d.ak] u fun e w' => e = .returned (.slice (cutG 7 ko (s.O.length - s.ak) (abI s d.ak)) (s.O.length - s.ak - abI s d.ak) (s.O.length - s.ak - abI s d.ak)) /\ Still u w') := hid (fun u hu => labove_any p ko kc mb B s d.ak ⟨hak.1, by omega⟩ hab (by omega) u (HL.out.still hu))
  have HAb := hid hab
  go_enter Tryd.func31, Tryd.ntmps31
  go_wp2_with fail
  refine region_all (by kernel_rfl) (by kernel_rfl) ?_
  repeat (go_big_quiet_step (rfl))
  refine wpQuiet_nil ?_
  intro w3 h3
  have HS3 := hid h3
  clear h3 q7 q4 hne hab
  obtain ⟨d0, d1, d2, d3, d4, d5, d6, d7, df⟩ := (HP.out.still HS3.out).cells
  go_wp2_with fail
  refine (HA.out _ HS3.out).mono ?_
  rintro e w4 ⟨he, h4⟩
  rw [he]
  have hs4 := HS3.out.trans h4
  have l4 := HL.out.still hs4
  have hk4 := l4.kp.cut (i := abI s d.ak) (by rw [List.length_drop]; exact HAb.out)
  rw [List.length_drop, List.drop_drop, show s.ak + abI s d.ak = d.ak.toNat by unfold abI; omega] at hk4
  obtain ⟨ko', eko⟩ : ∃ k, cutG 7 ko (s.O.length - s.ak) (abI s d.ak) = k := ⟨_, rfl⟩
  have HBl : Hid (∀ a, ko' = some a -> ∃ b, ko = some b /\ a.block = b.block) := hid (fun a ha => cut_block (eko.trans ha))
  obtain ⟨n, en⟩ : ∃ n, s.O.length - s.ak - abI s d.ak = n := ⟨_, rfl⟩
  rw [eko, en] at hk4 ⊢
  have HLk := hid (Lkk.acked (n := n) l4.bk hk4 (by rw [<- en]; unfold abI; omega) l4.mp (by omega) l4.lp l4.lm)
  have HF : Hid (Fr (fun k => k = p) w ((w4.setCell ⟨p, 8, none⟩ (.slice ko' n n)).setCell ⟨p, 4, none⟩ (.int .i64 d.ak))) := hid (Fr.setCell (F := fun k => k = p) (Fr.setCell (F := fun k => k = p) (Still.to (HS.out.trans hs4)) _ _ (.inl rfl)) _ _ (.inl rfl))
  clear d0 d1 d2 d3 d4 d5 d6 d7 df
  obtain ⟨d0, d1, d2, d3, d4, d5, d6, d7, df⟩ := (HP.out.still hs4).cells
  obtain ⟨c0, c1, c2, c3, c4, c5, c6, c7, c8, c9, cf⟩ := l4.cells
  clear he h4 hs4 l4 hk4 HA eW en eko
  go_wp2_with fail
  go_ret
  exact ⟨by rw [HD.out]; rfl, ko', n, HLk.out, HF.out, HBl.out⟩
end Go.Proofs.YtnbofjaecchnaaaDoor
namespace Go.Proofs.YtnbofjaecchnaaaDoor
open Go.RowKit
open Wp Vp Lp
set_option maxRecDepth 100000
set_option linter.unusedVariables false
set_option linter.unusedSimpArgs false
theorem Lkk.got {w : World} {B p mb : Nat} {ko : Option Addr} {kc : Nat} {s : Ln} {F : List Cc} (h : w.heap[p]? = some (.cells (lkc s ko kc mb) 70 (0, 0))) (hk : Kp w B ko kc (s.O.drop s.ak)) (hm : Mpc w mb (s.G.length + F.length) s.mq (s.G ++ F)) (lp : B <= p) (lm : B <= mb) :
  Lkk (w.setCell ⟨p, 5, none⟩ (.int .i64 ((s.G.length : Int) + 1 + (F.length : Int)))) B p mb ko kc (gtS s F) := by
 have f1 : Fr (fun k => k = p) w (w.setCell ⟨p, 5, none⟩ (.int .i64 ((s.G.length : Int) + 1 + (F.length : Int)))) := Fr.setCell (Fr.refl _ _) _ _ (.inl rfl)
 have b1 := heap_setCell_same w p 5 _ _ (.int .i64 ((s.G.length : Int) + 1 + (F.length : Int))) h
 refine ⟨b1.trans ?_, hk.keep f1 (fun a ha e => ?_), ?_, lp, lm⟩
 ·have e1 : ((s.G ++ F).length : Int) + 1 = (s.G.length : Int) + 1 + (F.length : Int) := by rw [List.length_append]; omega
  show _ = some (Obj.cells (lkc (gtS s F) ko kc mb) _ _)
  unfold lkc gtS
  simp only [e1]
  rfl
 ·obtain ⟨cur, hc⟩ := (hk.bl a ha).2
  exact ty_ne hc h (by decide) e
 ·obtain ⟨es, cl, hmm⟩ := hm.map
  have := hm.keep f1 (fun e => map_ne h hmm e.symm)
  rw [<- List.length_append] at this
  exact this
set_option maxHeartbeats 8000000 in
theorem lrecv_any (p : Nat) (ko : Option Addr) (kc mb B : Nat) (s : Ln) (d : Dg) (co : Option Addr) (cn cp : Nat) (hn : d.cs.length = cn) (hg : s.G.length <= 1099511627776) (hfi : 0 <= d.fi /\ d.fi <= (s.G.length : Int) + 1) (hcn : cn <= 1000000) (hcs : ∀ c ∈ d.cs, 1 <= c.fr /\ c.fr <= 1099511627776) (w : World) (h : Lkk w B p mb ko kc s) (hr : SrG KCc w co cp d.cs) (hro : ∀ a, co = some a -> a.block ≠ mb) : Calls Tryd.prog 32 #[.pointer (some ⟨p, 0, none⟩), dgv d co cn cp] w fun e w' => e = .returned (.bool (decide (0 < (frs s d).length))) /\ Lkk w' B p mb ko kc (gtS s (frs s d)) /\ Fr (fun k => k = p \/ k = mb) w w' := by
 have A0 := Still.alloc w (.cells (dgc d co cn cp) 39)
 have p0 := newDg_b w d co cn cp
 have L0 := h.still A0
 have r0 := hr.still A0
 obtain ⟨g, eg⟩ : ∃ g, w.heap.size = g := ⟨_, rfl⟩
 unfold newDg at p0
 obtain ⟨W, eW⟩ : ∃ W, w.alloc (.cells (dgc d co cn cp) 39) = W := ⟨_, rfl⟩
 rw [eW] at A0 p0 L0 r0
 rw [eg] at p0
 obtain ⟨d0, d1, d2, d3, d4, d5, d6, d7, df⟩ := p0.cells
 have HS := hid A0
 have hcp : cn <= cp := by have := hr.le; omega
 have HC2 := hid (lfresh_any p ko kc mb B s d co cn cp hn hg hfi hcp (by omega) W L0)
 have hfr := r0.fresh s
 rw [hn] at hfr
 have HFr := hid (fun a (ha : cutG 7 co cn (frI s d) = some a) => cut_block ha)
 have HRo := hid hro
 have HF := hid hfr.rd
 have HFl : Hid ((frs s d).length = cn - frI s d) := hid (by rw [frs_frI, List.length_drop, hn])
 have HFc : Hid (∀ c ∈ frs s d, 1 <= c.fr /\ c.fr <= 1099511627776) := hid (fun c hc => hcs c (List.mem_of_mem_drop hc))
 have hnl : cn - frI s d <= 1000000 := by omega
 have HLl := hid L0.lt
 have HL := hid L0
 obtain ⟨F, eF⟩ : ∃ F, frs s d = F := ⟨_, rfl⟩
 obtain ⟨i0, ei0⟩ : ∃ i, frI s d = i := ⟨_, rfl⟩
 rw [eF] at HF HFl HFc ⊢
 rw [ei0] at HC2 HF HFl hnl HFr
 clear eF ei0 A0 p0 L0 r0 h hr hfr hn hcs hcp hcn hro
 go_enter Tryd.func32, Tryd.ntmps32
 go_wp2_with fail
 refine HC2.out.mono ?_
 rintro e w3 ⟨he, h3⟩
 rw [he]
 have HS3 := hid h3
 have HL3 := hid (HL.out.still h3)
 have HF : Hid (RdG KCc w3 (cutG 7 co cn i0) (cn - i0) F) := hid (by have := HF.out.still h3; rw [HFl.out] at this; exact this)
 clear he h3 HC2 d0 d1 d2 d3 d4 d5 d6 d7 df
 obtain ⟨n, en⟩ : ∃ n, cn - i0 = n := ⟨_, rfl⟩
 rw [en] at HF HFl hnl ⊢
 obtain ⟨fo, efo⟩ : ∃ fo, cutG 7 co cn i0 = fo := ⟨_, rfl⟩
 rw [efo] at HF HFr ⊢
 clear en efo
 go_wp2_with fail
 go_loopw [13] (fun u13 wr => ∃ i : Nat, i <= n /\ u13 = .int .i64 (i : Int) /\ Hid (Mpc wr mb (s.G.length + i) s.mq (s.G ++ F.take i)) /\ Hid (Fr (fun k => k = mb) w3 wr)) (fun u13 _ => n - (intOf u13).toNat)
 case atStart => exact ⟨0, by omega, rfl, hid (by simpa using HL3.out.mp), hid (Fr.refl _ _)⟩
 case round =>
  obtain ⟨i, hi, rfl, HM, HT⟩ := hrel
  by_cases hin : i < n
  ·have hlt : (i : Int) < (n : Int) := by omega
   obtain ⟨B', o, eco⟩ := HF.out.at (by omega)
   subst eco
   have hfr2 : RdG KCc wr (some ⟨B', o, none⟩) n F := HF.out.kept HT.out (fun a ha e => by
    obtain ⟨b, hb, eb⟩ := HFr.out a ha
    exact HRo.out b hb (by rw [<- eb]; exact e))
   obtain ⟨k0, k1, k2, k3, k4, k5, k6⟩ := rdCc hfr2 hin
   obtain ⟨D, hD, hC⟩ := HM.out
   have hxr1 := HFc.out (cc F i) (by rw [cc_at (by rw [HFl.out]; exact hin)]; exact List.getElem_mem _)
   have ht1 := take_one (L := F) (i := i) (by rw [HFl.out]; exact hin)
   obtain ⟨x, ex⟩ : ∃ x, cc F i = x := ⟨_, rfl⟩
   rw [ex] at k0 k1 k2 k3 k4 k5 k6 hxr1 ht1
   obtain ⟨v, hv, v0, v1, v2⟩ := hC x.fr
   have hxr : -9223372036854775808 <= x.fr /\ x.fr <= 9223372036854775807 := by omega
   have HTk : Hid (F.take (i + 1) = F.take i ++ [x]) := hid ht1.1
   have A3 := Still.alloc wr (.cells (kmc x) 36)
   have b3 := newCc_b wr x
   unfold newCc at b3
   obtain ⟨W3, eW3⟩ : ∃ V, wr.alloc (.cells (kmc x) 36) = V := ⟨_, rfl⟩
   obtain ⟨g3, eg3⟩ : ∃ g, wr.heap.size = g := ⟨_, rfl⟩
   rw [eW3] at A3 b3
   rw [eg3] at b3
   have HT3 : Hid (Fr (fun k => k = mb) w3 W3) := hid (Fr.trans HT.out A3 (fun _ _ e => e.elim))
   have hbk := HT3.out.kept HL3.out.bk HL3.out.ne.1
   have hc9 : W3.cell? ⟨p, 9, none⟩ = some (.map (some mb)) := by rw [cell_of_row _ _ _ _ _ _ hbk]; rfl
   have q9 := Cl.cell hc9
   have q0 := Cl.cell b3.cells.1
   have hne := Aft.here W3
   have HD := hid (grown_of A3 (fun e => e) hD.lt hD)
   have qv : ∀ z : Aft W3, (Instr.lookup 68 (.map (some mb)) (.int .i64 x.fr) false).run Tryd.prog z.u = .ok (.int .i64 v) z.u := fun z => own_look (grown_of z.s (fun e => e) HD.out.lt HD.out) hxr hv
   have HCn := hid hC
   have HK : Hid (keyOf Tryd.prog 2 (.int .i64 x.fr) = some (.int .i64 x.fr)) := hid (keyI6 hxr)
   have v1' : v <= 1099512627776 := by rw [List.length_append, List.length_take] at v1; omega
   have HNl : Hid (s.G.length + i < maxLen) := hid (by unfold maxLen; omega)
   have HZ : Hid (RI (.int .i64 (v + 1)) = some (.held (.int .i64 (v + 1)), [])) := hid rfl
   have hw : IntKind.i64.wrap (v + 1) = v + 1 := wr64 (by omega) (by omega)
   obtain ⟨y0, y1, y2, y3, y4, y5, y6, yf⟩ := b3.cells
   clear ex ht1 hxr1 hD hC A3 HM v1 v2 hfr2 hbk hc9 b3
   go_wp2_with fail
   clear k0 k1 k2 k3 k4 k5 k6
   refine region_rest 8 (by kernel_rfl) (by kernel_rfl) ?_
   simp only [List.take_succ_cons, List.take_zero, List.drop_succ_cons, List.drop_zero]
   repeat (go_big_quiet_step (rfl))
   refine wpQuiet_nil ?_
   intro w5 h5
   have HD5 := hid (grown_of h5 (fun e => e) HD.out.lt HD.out)
   have HT5 : Hid (Fr (fun k => k = mb) w3 w5) := hid (Fr.trans HT3.out h5 (fun _ _ e => e.elim))
   clear h5 q9 q0 qv hne HD HT3 y0 y1 y2 y3 y4 y5 y6 yf eW3 eg3
   go_wp2_with (
    at_mapUpdate
    refine wpList_mapUpdate_in _ rfl _ _ _ 68 rfl 2 3 lawI6 Tryd.underlying68 RI mb (s.G.length + i) D rfl HD5.out HNl.out _ _ (.int .i64 x.fr) rfl rfl HK.out (.held (.int .i64 (v + 1))) [] HZ.out ?_
    intro w6 hm6 ht6
    have HM6 := hid (Mpc.put HD5.out HCn.out hxr hv hm6)
    have HT6 : Hid (Fr (fun k => k = mb) w3 w6) := hid (Fr.trans HT5.out (turned_fr ht6) (fun _ _ e => e))
    clear hm6 ht6
    go_frame)
   (try simp only [Exit.inBlock, Exit.then])
   go_wp2_with fail
   go_roundw
   case rel => exact ⟨i + 1, by omega, by go_num, hid (by rw [HTk.out, <- List.append_assoc]; exact HM6.out), HT6⟩
   case measure => simp [intOf]; omega
  ·have hnl2 : ¬ (i : Int) < (n : Int) := by omega
   have HIn : Hid (F.take i = F /\ i = F.length) := hid ⟨List.take_of_length_le (by rw [HFl.out]; omega), by rw [HFl.out]; omega⟩
   have hbk := HT.out.kept HL3.out.bk HL3.out.ne.1
   have hkp := HL3.out.kp.keep HT.out (fun a ha e => (HL3.out.ne.2 a ha).2.1 e)
   have hmp : Mpc wr mb (s.G.length + F.length) s.mq (s.G ++ F) := by have := HM.out; rw [HIn.out.1, HIn.out.2] at this; exact this
   have HLk := hid (Lkk.got hbk hkp hmp HL3.out.lp HL3.out.lm)
   have HFf : Hid (Fr (fun k => k = p \/ k = mb) w (wr.setCell ⟨p, 5, none⟩ (.int .i64 ((s.G.length : Int) + 1 + (F.length : Int))))) := hid (Fr.setCell (Fr.trans (Still.to (HS.out.trans HS3.out)) HT.out (fun k _ e => .inr e)) _ _ (.inl (.inl rfl)))
   have c5 : wr.cell? ⟨p, 5, none⟩ = some (.int .i64 ((s.G.length : Int) + 1)) := by rw [cell_of_row _ _ _ _ _ _ hbk]; rfl
   have cf := fun o => frozen_of_row wr p o _ _ hbk
   have HN : Hid (F.length = n) := hid HFl.out
   rw [HFl.out] at HLk HFf
   have hw : IntKind.i64.wrap ((s.G.length : Int) + 1 + (n : Int)) = (s.G.length : Int) + 1 + (n : Int) := wr64 (by omega) (by omega)
   clear hbk hkp hmp
   by_cases h0 : 0 < n
   ·have h0' : (0 : Int) < (n : Int) := by omega
    go_wp2_with fail
    go_ret
    exact ⟨by rw [HN.out]; simp [h0], HLk.out, HFf.out⟩
   ·have h0' : ¬ (0 : Int) < (n : Int) := by omega
    go_wp2_with fail
    go_ret
    exact ⟨by rw [HN.out]; simp [h0], HLk.out, HFf.out⟩
end Go.Proofs.YtnbofjaecchnaaaDoor
namespace Go.Proofs.YtnbofjaecchnaaaDoor
open Go.RowKit
open Wp Vp Lp
set_option maxRecDepth 100000
set_option linter.unusedVariables false
set_option linter.unusedSimpArgs false
def upD (m : Int) (k : Lit) (_ : DataW Value) : Bool := match k with
 | .int _ x => decide (x <= m)
 | _ => false
theorem atKey_up (m f : Int) (es : List (Lit × DataW Value)) (z : DataW Value) : (Lib.deleteFuncD (upD m) (.map es)).atKey (.int .i64 f) z = if f <= m then z else (DataW.map es).atKey (.int .i64 f) z := by
 unfold Lib.deleteFuncD DataW.atKey
 by_cases h : f <= m
 ·have e : (es.filter fun p => !upD m p.1 p.2).find? (fun p => p.1.sameKey (.int .i64 f)) = none := List.find?_eq_none.2 (fun p hp => by
   obtain ⟨h1, h2⟩ := List.mem_filter.1 hp
   intro e
   have e1 := WideAt.sameKey_eq e
   rw [e1] at h2
   simp [upD, h] at h2)
  rw [if_pos h]
  simp only [e]
 ·have e : (es.filter fun p => !upD m p.1 p.2).find? (fun p => p.1.sameKey (.int .i64 f)) = es.find? (fun p => p.1.sameKey (.int .i64 f)) := Maps.find_filter_keep (fun p hp => by
   have e1 := WideAt.sameKey_eq hp
   rw [e1]
   simp only [upD, Bool.not_eq_true', decide_eq_false_iff_not]
   exact h) _
  rw [if_neg h]
  simp only [e]
theorem Cnt.up {D : DataW Value} {mk m : Int} {G : List Cc} (h : Cnt D mk G) (hm : Maps.IsMap D) (hk : mk <= m) : Cnt (Lib.deleteFuncD (upD m) D) m G := by
 intro f
 obtain ⟨es, rfl⟩ := hm
 obtain ⟨n, h1, h2, h3, h4⟩ := h f
 rw [atKey_up]
 by_cases e : f <= m
 ·rw [if_pos e]
  exact ⟨0, rfl, by omega, by omega, fun e2 => by omega⟩
 ·rw [if_neg e]
  exact ⟨n, h1, h2, h3, fun _ => h4 (by omega)⟩
theorem Lkk.raised {w : World} {B p mb : Nat} {ko : Option Addr} {kc : Nat} {s : Ln} {d : Dg} (h : w.heap[p]? = some (.cells ((lkc s ko kc mb).set! 6 (.int .i64 d.mrk)) 70 (0, 0))) (hk : Kp w B ko kc (s.O.drop s.ak)) (hm : Mpc w mb s.G.length d.mrk s.G) (ha : s.mq < d.mrk) (lp : B <= p) (lm : B <= mb) : Lkk w B p mb ko kc (mkS s d) := by
 have e0 : max s.mq d.mrk = d.mrk := by omega
 refine ⟨h.trans ?_, hk, ?_, lp, lm⟩
 ·show _ = some (Obj.cells (lkc (mkS s d) ko kc mb) _ _)
  unfold lkc mkS
  simp only [e0]
  rfl
 ·show Mpc w mb s.G.length (max s.mq d.mrk) s.G
  rw [e0]
  exact hm
theorem lup_any (x m : Int) (v : Value) (g : Nat) (w : World) (h : w.cell? ⟨g, 4, none⟩ = some (.int .i64 m)) : Calls Tryd.prog 47 #[.int .i64 x, v, .pointer (some ⟨g, 0, none⟩)] w fun e w' => e = .returned (.bool (decide (x <= m))) /\ w' = w := by
 by_cases hc : x <= m
 ·go_enter Tryd.func47, Tryd.ntmps47
  go_wp2_with fail
  go_ret
  exact ⟨by simp [hc], rfl⟩
 ·go_enter Tryd.func47, Tryd.ntmps47
  go_wp2_with fail
  go_ret
  exact ⟨by simp [hc], rfl⟩
theorem ldel_any (mb n g : Nat) (m : Int) (D : DataW Value) (w : World) (hown : w.ownsMap Tryd.prog 2 RI mb n D) (hg : w.cell? ⟨g, 4, none⟩ = some (.int .i64 m)) (hne : g ≠ mb) : Calls Tryd.prog 46 #[.map (some mb), .func (.func 47) #[] #[.pointer (some ⟨g, 0, none⟩)]] w fun e w' => e = .returned (.tuple #[]) /\ w'.ownsMap Tryd.prog 2 RI mb n (Lib.deleteFuncD (upD m) D) /\ Fr (fun k => k = mb) w w' := by
 have eg : ∀ args w, (callFunc 47 args).run Tryd.prog w = .ok (.enter 47 args) w := enters_of Tryd.func47 (by kernel_rfl) rfl
 have hc : Calls Tryd.prog 46 #[.map (some mb), .func (.func 47) #[] #[.pointer (some ⟨g, 0, none⟩)]] w (fun e w' => e = .returned (.tuple #[]) /\ w'.ownsMap Tryd.prog 2 RI mb n (Lib.deleteFuncD (upD m) D) /\ w.grownBy w' (some mb)) :=
  AnyDf.maps_DeleteFunc Tryd.delM lawI6 RI (upD m) 47 #[.pointer (some ⟨g, 0, none⟩)] mb n D w eg hown (fun W key val kl yd yp hW hk hv => by
   obtain ⟨x, rfl, rfl, _⟩ := Maps.keyOf_int_inv Tryd.underlying2 hk
   have hf := grown_fr hW
   exact (lup_any x m val g W ((hf.cell (World.block_lt_of_cell? w _ hg) (fun e => hne e)).trans hg)).mono fun _ _ ⟨he, hw⟩ => ⟨he, hw ▸ World.grownBy.refl _ _⟩)
 exact hc.mono fun e w' ⟨he, h1, h2⟩ => ⟨he, h1, grown_fr h2⟩
set_option maxHeartbeats 4000000 in
theorem lraise_any (p : Nat) (ko : Option Addr) (kc mb B : Nat) (s : Ln) (d : Dg) (co : Option Addr) (cn cp : Nat) (w : World) (h : Lkk w B p mb ko kc s) : Calls Tryd.prog 33 #[.pointer (some ⟨p, 0, none⟩), dgv d co cn cp] w fun e w' => e = .returned (.bool (decide (s.mq < d.mrk))) /\ Lkk w' B p mb ko kc (mkS s d) /\ Fr (fun k => k = p \/ k = mb) w w' := by
 have A0 := Still.alloc w (.cells (dgc d co cn cp) 39)
 have p0 := newDg_b w d co cn cp
 have L0 := h.still A0
 obtain ⟨g, eg⟩ : ∃ g, w.heap.size = g := ⟨_, rfl⟩
 unfold newDg at p0
 obtain ⟨W, eW⟩ : ∃ W, w.alloc (.cells (dgc d co cn cp) 39) = W := ⟨_, rfl⟩
 rw [eW] at A0 p0 L0
 rw [eg] at p0
 have HG : Hid (w.heap.size = g) := hid eg
 have HS := hid A0
 have HL := hid L0
 have HP := hid p0
 have q7 := Cl.cell p0.cells.2.2.2.2.1
 have q4 := Cl.cell L0.cells.2.2.2.2.2.2.1
 have hne := Aft.here W
 have hpg : p ≠ g := by have := h.lt.1; omega
 have HMg : Hid (g ≠ mb) := hid (by have := h.lt.2; omega)
 clear A0 p0 L0 h
 by_cases hc : d.mrk <= s.mq
 ·have hd : decide (d.mrk <= s.mq) = true := by simpa using hc
  have HD : Hid (decide (s.mq < d.mrk) = false) := hid (by simp; omega)
  have HE := hid (mkS_no hc)
  go_enter Tryd.func33, Tryd.ntmps33
  go_wp2_with fail
  refine region_all (by kernel_rfl) (by kernel_rfl) ?_
  repeat (go_big_quiet_step (rfl))
  refine wpQuiet_nil ?_
  intro w3 h3
  have HS3 := hid h3
  clear h3 q7 q4 hne
  go_wp2_with fail
  go_ret
  exact ⟨by rw [HD.out]; rfl, by rw [HE.out]; exact HL.out.still HS3.out, Still.to (HS.out.trans HS3.out)⟩
 ·have hd : decide (d.mrk <= s.mq) = false := by simpa using hc
  have HD : Hid (decide (s.mq < d.mrk) = true) := hid (by simp; omega)
  have HLt : Hid (s.mq < d.mrk) := hid (by omega)
  go_enter Tryd.func33, Tryd.ntmps33
  go_wp2_with fail
  refine region_all (by kernel_rfl) (by kernel_rfl) ?_
  repeat (go_big_quiet_step (rfl))
  refine wpQuiet_nil ?_
  intro w3 h3
  clear q7 q4 hne
  have l3 := HL.out.still h3
  have p3 := HP.out.still h3
  obtain ⟨d0, d1, d2, d3, d4, d5, d6, d7, df⟩ := p3.cells
  obtain ⟨c0, c1, c2, c3, c4, c5, c6, c7, c8, c9, cf⟩ := l3.cells
  have f4 : Fr (fun k => k = p) w3 (w3.setCell ⟨p, 6, none⟩ (.int .i64 d.mrk)) := Fr.setCell (Fr.refl _ _) _ _ (.inl rfl)
  have b4 : (w3.setCell ⟨p, 6, none⟩ (.int .i64 d.mrk)).heap[p]? = some (.cells ((lkc s ko kc mb).set! 6 (.int .i64 d.mrk)) 70 (0, 0)) := (heap_setCell_same w3 p 6 _ _ (.int .i64 d.mrk) l3.bk).trans (by rfl)
  obtain ⟨w4, e4⟩ : ∃ V, w3.setCell ⟨p, 6, none⟩ (.int .i64 d.mrk) = V := ⟨_, rfl⟩
  rw [e4] at f4 b4
  have k4 := l3.kp.keep f4 (fun a ha e => (l3.ne.2 a ha).1 e)
  obtain ⟨D, hD, hC⟩ := l3.mp.keep f4 (fun e => l3.ne.1 e.symm)
  have p4 : Dgb w4 g d co cn cp := p3.keepD f4 (fun e => hpg e.symm)
  have HX := hid (ldel_any mb s.G.length g d.mrk D w4 hD p4.cells.2.2.2.2.1 HMg.out)
  have HCn := hid (hC.up hD.isMap (by omega : s.mq <= d.mrk))
  have HB4 := hid b4
  have HK4 := hid k4
  have HF4 : Hid (Fr (fun k => k = p) w w4) := hid (Fr.trans (Still.to (HS.out.trans h3)) f4 (fun _ _ e => e))
  have HNe := hid l3.ne
  have HLo := hid (And.intro l3.lp l3.lm)
  have m9 : w4.cell? ⟨p, 9, none⟩ = some (.map (some mb)) := by rw [cell_of_row _ _ _ _ _ _ b4]; rfl
  clear h3 l3 p3 f4 b4 k4 hD hC p4 eW
  go_upto_region 4 with fail
  clear d0 d1 d2 d3 d4 d5 d6 d7 df c0 c1 c2 c3 c4 c5 c6 c7 c8 c9 cf e4
  go_wp2_with fail
  refine HX.out.mono ?_
  rintro e w5 ⟨he, h5, f5⟩
  rw [he]
  have HLk : Hid (Lkk w5 B p mb ko kc (mkS s d)) := hid (Lkk.raised (f5.kept HB4.out (fun e => HNe.out.1 e)) (HK4.out.keep f5 (fun a ha e => (HNe.out.2 a ha).2.1 e)) ⟨_, h5, HCn.out⟩ HLt.out HLo.out.1 HLo.out.2)
  have HF5 : Hid (Fr (fun k => k = p \/ k = mb) w w5) := hid (Fr.trans (HF4.out.mono (fun k _ e => .inl e)) f5 (fun k _ e => .inr e))
  clear he h5 f5 HX m9
  go_wp2_with fail
  go_ret
  exact ⟨by rw [HD.out]; rfl, HLk.out, HF5.out⟩
end Go.Proofs.YtnbofjaecchnaaaDoor
namespace Go.Proofs.YtnbofjaecchnaaaDoor
open Go.RowKit
open Wp Vp Lp
set_option maxRecDepth 100000
set_option linter.unusedVariables false
set_option linter.unusedSimpArgs false
theorem Lkk.met {w : World} {B p mb : Nat} {ko : Option Addr} {kc : Nat} {s : Ln} (h : Lkk w B p mb ko kc s) : Lkk (w.setCell ⟨p, 7, none⟩ (.bool true)) B p mb ko kc (mtS s) := by
 have f1 : Fr (fun k => k = p) w (w.setCell ⟨p, 7, none⟩ (.bool true)) := Fr.setCell (Fr.refl _ _) _ _ (.inl rfl)
 have b1 := heap_setCell_same w p 7 _ _ (.bool true) h.bk
 exact ⟨b1.trans (by rfl), h.kp.keep f1 (fun a ha e => (h.ne.2 a ha).1 e), h.mp.keep f1 (fun e => h.ne.1 e.symm), h.lp, h.lm⟩
def Kb (ko ko' : Option Addr) : Prop := ∀ a, ko' = some a -> ∃ b, ko = some b /\ a.block = b.block
theorem Kb.refl (ko : Option Addr) : Kb ko ko := fun a ha => ⟨a, ha, rfl⟩
set_option maxHeartbeats 2000000 in
theorem ltake_no (p : Nat) (ko : Option Addr) (kc mb B : Nat) (s : Ln) (d : Dg) (co : Option Addr) (cn cp : Nat) (lead : Int) (hO : s.O.length <= 1152921504606846976) (hal : s.ak <= s.O.length) (hn : d.cs.length = cn) (hg : s.G.length <= 1099511627776) (w : World) (h : Lkk w B p mb ko kc s) (hr : SrG KCc w co cp d.cs) (he : refE s d lead ≠ 0) : Calls Tryd.prog 10 #[.pointer (some ⟨p, 0, none⟩), dgv d co cn cp, .int .i64 lead] w fun e w' => e = .returned (.tuple #[.slice none 0 0, .bool false, .int .i64 (refE s d lead)]) /\ Still w w' := by
 have A0 := Still.alloc w (.cells (dgc d co cn cp) 39)
 have p0 := newDg_b w d co cn cp
 obtain ⟨g, eg⟩ : ∃ g, w.heap.size = g := ⟨_, rfl⟩
 unfold newDg at p0
 have HC := hid (lref_any p ko kc mb B s d co cn cp lead hO hal hn hg _ (h.still A0) (hr.still A0))
 obtain ⟨W, eW⟩ : ∃ W, w.alloc (.cells (dgc d co cn cp) 39) = W := ⟨_, rfl⟩
 rw [eW] at A0 p0 HC
 rw [eg] at p0
 obtain ⟨d0, d1, d2, d3, d4, d5, d6, d7, df⟩ := p0.cells
 have HS := hid A0
 obtain ⟨r, er⟩ : ∃ r, refE s d lead = r := ⟨_, rfl⟩
 rw [er] at HC he ⊢
 have hb : (r == 0) = false := by simpa using he
 have hb2 : (r != 0) = true := by rw [bne, hb]; rfl
 clear er A0 p0 h hr he
 go_enter Tryd.func10, Tryd.ntmps10
 go_wp2_with fail
 refine HC.out.mono ?_
 rintro e w1 ⟨he, h1⟩
 rw [he]
 have HS1 := hid h1
 clear he h1 HC
 go_wp2_with fail
 go_ret3
 exact ⟨rfl, HS.out.trans HS1.out⟩
abbrev fvL (f p : Nat) : Value := .func (.func f) #[.pointer (some ⟨p, 0, none⟩)] #[]
theorem en21 : ∀ args w, (callFunc 31 args).run Tryd.prog w = .ok (.enter 31 args) w := enters_of Tryd.func31 (by kernel_rfl) rfl
theorem en22 : ∀ args w, (callFunc 32 args).run Tryd.prog w = .ok (.enter 32 args) w := enters_of Tryd.func32 (by kernel_rfl) rfl
theorem en23 : ∀ args w, (callFunc 33 args).run Tryd.prog w = .ok (.enter 33 args) w := enters_of Tryd.func33 (by kernel_rfl) rfl
set_option maxHeartbeats 8000000 in
theorem ltake_yes (p : Nat) (ko : Option Addr) (kc mb B : Nat) (s : Ln) (d : Dg) (co : Option Addr) (cn cp : Nat) (lead : Int) (hO : s.O.length <= 1152921504606846976) (hf : Fits s) (hn : d.cs.length = cn) (w : World) (h : Lkk w B p mb ko kc s) (hr : SrG KCc w co cp d.cs) (hro : ∀ a, co = some a -> a.block ≠ mb /\ a.block ≠ p) (he : refE s d lead = 0) : Calls Tryd.prog 10 #[.pointer (some ⟨p, 0, none⟩), dgv d co cn cp, .int .i64 lead] w fun e w' => ∃ fo fc ko' kc', e = .returned (.tuple #[.slice fo (frs s d).length fc, .bool (broB s d), .int .i64 0]) /\ OwG KCc 36 w' w.heap.size (.slice fo (frs s d).length fc) (frs s d) /\ Lkk w' B p mb ko' kc' (takS s d) /\ Fr (fun k => k = p \/ k = mb) w w' /\ Kb ko ko' := by
 have A0 := Still.alloc w (.cells (dgc d co cn cp) 39)
 have p0 := newDg_b w d co cn cp
 obtain ⟨g, eg⟩ : ∃ g, w.heap.size = g := ⟨_, rfl⟩
 unfold newDg at p0
 have HC := hid (lref_any p ko kc mb B s d co cn cp lead hO hf.a1 hn hf.g _ (h.still A0) (hr.still A0))
 have L0 := h.still A0
 have r0 := hr.still A0
 obtain ⟨W, eW⟩ : ∃ W, w.alloc (.cells (dgc d co cn cp) 39) = W := ⟨_, rfl⟩
 rw [eW] at A0 p0 HC L0 r0
 rw [eg] at p0
 rw [he] at HC
 obtain ⟨d0, d1, d2, d3, d4, d5, d6, d7, df⟩ := p0.cells
 obtain ⟨o1, o2, o3, o4, o5, o6⟩ := refE_ok he
 obtain ⟨t1, t2, t3⟩ := okD_parts o1
 have hcs : ∀ c ∈ d.cs, 1 <= c.fr /\ c.fr <= 1099511627776 := fun c hc => by
  obtain ⟨i, hi, rfl⟩ := mem_cc hc
  have := okD_cs o1 i hi
  omega
 have hfi : 0 <= d.fi /\ d.fi <= (s.G.length : Int) + 1 := by
  rcases t3 with ⟨k1, _, q, _⟩ | ⟨_, _, q, _⟩
  ·exact ⟨by omega, o5 k1⟩
  ·omega
 have hcn : cn <= 1000000 := by
  rcases t3 with ⟨_, _, _, q, _⟩ | ⟨_, _, _, q⟩
  ·omega
  ·rw [q] at hn; simp at hn; omega
 have hak : 0 <= d.ak /\ d.ak <= (s.O.length : Int) := by
  unfold brkB at o6
  simp only [Bool.or_eq_false_iff, decide_eq_false_iff_not] at o6
  omega
 have hlt := h.lt
 have hcp : cn <= cp := by have := hr.le; omega
 have HC2 : Hid (∀ u, Still W u -> Calls Tryd.prog 30 #[.pointer (some ⟨p, 0, none⟩), dgv d co cn cp] u fun e w' => e = .returned (.slice (cutG 7 co cn (frI s d)) (cn - frI s d) (cn - frI s d)) /\ Still u w') := hid (fun u hu => lfresh_any p ko kc mb B s d co cn cp hn hf.g hfi hcp (by omega) u (L0.still hu))
 have hfr := r0.fresh s
 rw [hn] at hfr
 have HFr := hid hfr
 have HFl : Hid ((frs s d).length = cn - frI s d) := hid (by rw [frs_frI, List.length_drop, hn])
 have HS := hid A0
 have HP := hid p0
 have HL := hid L0
 have HR := hid r0
 have HG : Hid (w.heap.size = g) := hid eg
 have HLt := hid hlt
 have HA : Hid (∀ u, Lkk u B p mb ko kc s -> Calls Tryd.prog 31 #[.pointer (some ⟨p, 0, none⟩), dgv d co cn cp] u fun e w' => e = .returned (.bool (decide ((s.ak : Int) < d.ak))) /\ ∃ ko' kc', Lkk w' B p mb ko' kc' (akS s d) /\ Fr (fun k => k = p) u w' /\ ∀ a, ko' = some a -> ∃ b, ko = some b /\ a.block = b.block) := hid (fun u hu => lackn_any p ko kc mb B s d co cn cp hO hf.a1 hak u hu)
 have HB : Hid (∀ u ko' kc', Lkk u B p mb ko' kc' (akS s d) -> SrG KCc u co cp d.cs -> Calls Tryd.prog 32 #[.pointer (some ⟨p, 0, none⟩), dgv d co cn cp] u fun e w' => e = .returned (.bool (decide (0 < (frs s d).length))) /\ Lkk w' B p mb ko' kc' (gtS (akS s d) (frs s d)) /\ Fr (fun k => k = p \/ k = mb) u w') := hid (fun u ko' kc' hu hru => lrecv_any p ko' kc' mb B (akS s d) d co cn cp hn hf.g hfi hcn hcs u hu hru (fun a ha => (hro a ha).1))
 have HM : Hid (∀ u ko' kc', Lkk u B p mb ko' kc' (gtS (akS s d) (frs s d)) -> Calls Tryd.prog 33 #[.pointer (some ⟨p, 0, none⟩), dgv d co cn cp] u fun e w' => e = .returned (.bool (decide (s.mq < d.mrk))) /\ Lkk w' B p mb ko' kc' (mkS (gtS (akS s d) (frs s d)) d) /\ Fr (fun k => k = p \/ k = mb) u w') := hid (fun u ko' kc' hu => lraise_any p ko' kc' mb B (gtS (akS s d) (frs s d)) d co cn cp u hu)
 have HRo := hid hro
 have HBr : Hid (broB s d = (decide ((s.ak : Int) < d.ak) || (decide (0 < (frs s d).length) || decide (s.mq < d.mrk)))) := hid rfl
 have HT := hid (takS_four s d)
 obtain ⟨b1, e1⟩ : ∃ b, decide ((s.ak : Int) < d.ak) = b := ⟨_, rfl⟩
 obtain ⟨b2, e2⟩ : ∃ b, decide (0 < (frs s d).length) = b := ⟨_, rfl⟩
 obtain ⟨b3, e3⟩ : ∃ b, decide (s.mq < d.mrk) = b := ⟨_, rfl⟩
 rw [e1] at HA HBr
 rw [e2] at HB HBr
 rw [e3] at HM HBr
 obtain ⟨F, eF⟩ : ∃ F, frs s d = F := ⟨_, rfl⟩
 obtain ⟨i0, ei0⟩ : ∃ i, frI s d = i := ⟨_, rfl⟩
 rw [eF] at HFr HFl HT HB HM ⊢
 rw [ei0] at HC2 HFr HFl
 obtain ⟨bb, ebb⟩ : ∃ b, broB s d = b := ⟨_, rfl⟩
 rw [ebb] at HBr ⊢
 have hnl : cn - i0 <= 100000 := by
  rcases t3 with ⟨_, _, _, q, _⟩ | ⟨_, _, _, q⟩
  ·omega
  ·rw [q] at hn; simp at hn; omega
 have en1 := en21
 have en2 := en22
 have en3 := en23
 clear e1 e2 e3 eF ei0 ebb A0 p0 L0 r0 h hr he o1 o2 o3 o4 o5 o6 t1 t2 t3 hcs hfi hak hlt hcp hfr hf hro hcn
 go_enter Tryd.func10, Tryd.ntmps10
 go_wp2_with fail
 refine HC.out.mono ?_
 rintro e w1 ⟨he, h1⟩
 rw [he]
 have HS1 := hid h1
 clear he h1 HC d0 d1 d2 d3 d4 d5 d6 d7 df eW
 obtain ⟨d0, d1, d2, d3, d4, d5, d6, d7, df⟩ := (HP.out.still HS1.out).cells
 go_wp2_with fail
 refine (HC2.out _ HS1.out).mono ?_
 rintro e w2 ⟨he, h2⟩
 rw [he]
 have HS2 := hid (HS1.out.trans h2)
 have HCo := hid (lcop_any (cutG 7 co cn i0) (cn - i0) (cn - i0) F HFl.out hnl w2 (HFr.out.still HS2.out))
 clear he h2 HC2 HFr d0 d1 d2 d3 d4 d5 d6 d7 df
 go_wp2_with fail
 refine HCo.out.mono ?_
 rintro e w3 ⟨fo, fc, he, ho3, h3⟩
 rw [he]
 have HS3 := hid (HS2.out.trans h3)
 have HO3 := hid ho3
 have A4 := Still.alloc w3 (.cells #[fvL 31 p, fvL 32 p, fvL 33 p] 76)
 have b4 := heap_alloc_new w3 (.cells #[fvL 31 p, fvL 32 p, fvL 33 p] 76)
 obtain ⟨W4, eW4⟩ : ∃ V, w3.alloc (.cells #[fvL 31 p, fvL 32 p, fvL 33 p] 76) = V := ⟨_, rfl⟩
 obtain ⟨fb, efb⟩ : ∃ k, w3.heap.size = k := ⟨_, rfl⟩
 rw [eW4] at A4 b4
 rw [efb] at b4
 have HS4 := hid (HS3.out.trans A4)
 have HB4 := hid b4
 have HFb : Hid (w.heap.size <= fb) := hid (by have := HS.out.size; have := HS3.out.size; omega)
 have HO4 := hid ((HO3.out.still A4).less (B' := w.heap.size) (by have := HS.out.size; have := HS2.out.size; omega))
 have HP4 := hid (HP.out.still HS4.out)
 have HL4 := hid (HL.out.still HS4.out)
 have HR4 := hid (HR.out.still HS4.out)
 have HOg : Hid (∀ k, (Value.slice fo (cn - i0) fc).ownBlock = some k -> w.heap.size <= k) := hid (fun k hk => (HO4.out.block hk).1)
 clear he ho3 h3 A4 b4 HCo HS2 HO3
 simp only [fvL] at eW4
 go_wp2_with fail
 clear eW4
 go_loopw [11, 13, 33] (fun u11 _ u33 wr => (u33 = .int .i64 0 /\ u11 = .bool false /\ Hid (Lkk wr B p mb ko kc s) /\ Hid (Fr (fun k => k = p \/ k = mb) W4 wr)) \/ (u33 = .int .i64 1 /\ u11 = .bool b1 /\ Hid (∃ ko1 kc1, Lkk wr B p mb ko1 kc1 (akS s d) /\ Kb ko ko1) /\ Hid (Fr (fun k => k = p \/ k = mb) W4 wr)) \/ (u33 = .int .i64 2 /\ u11 = .bool (b2 || b1) /\ Hid (∃ ko1 kc1, Lkk wr B p mb ko1 kc1 (gtS (akS s d) F) /\ Kb ko ko1) /\ Hid (Fr (fun k => k = p \/ k = mb) W4 wr)) \/ (u33 = .int .i64 3 /\ u11 = .bool (b3 || (b2 || b1)) /\ Hid (∃ ko1 kc1, Lkk wr B p mb ko1 kc1 (mkS (gtS (akS s d) F) d) /\ Kb ko ko1) /\ Hid (Fr (fun k => k = p \/ k = mb) W4 wr))) (fun _ _ u33 _ => 3 - (intOf u33).toNat)
 case atStart => exact .inl ⟨rfl, rfl, HL4, hid (Fr.refl _ _)⟩
 case round =>
  rcases hrel with ⟨rfl, rfl, HK, HT4⟩ | ⟨rfl, rfl, HK, HT4⟩ | ⟨rfl, rfl, HK, HT4⟩ | ⟨rfl, rfl, HK, HT4⟩
  ·have dd := HP4.out.keepD HT4.out (fun e => by rcases e with e | e <;> have := HLt.out <;> have := HG.out <;> omega)
   obtain ⟨d0, d1, d2, d3, d4, d5, d6, d7, df⟩ := dd.cells
   have z := HT4.out.kept HB4.out (fun e => by rcases e with e | e <;> have := HLt.out <;> have := HFb.out <;> omega)
   have z0 : wr.cell? ⟨fb, 0, none⟩ = some (fvL 31 p) := by rw [cell_of_row _ _ _ _ _ _ z]; rfl
   have HX := hid (HA.out wr HK.out)
   clear dd z
   go_wp2_with fail
   refine HX.out.mono ?_
   rintro e w5 ⟨he, ko1, kc1, l5, f5, k5⟩
   rw [he]
   have HK5 : Hid (∃ ko1 kc1, Lkk w5 B p mb ko1 kc1 (akS s d) /\ Kb ko ko1) := hid ⟨ko1, kc1, l5, k5⟩
   have HT5 : Hid (Fr (fun k => k = p \/ k = mb) W4 w5) := hid (Fr.trans HT4.out f5 (fun k _ e => .inl e))
   clear he l5 f5 k5 d0 d1 d2 d3 d4 d5 d6 d7 df z0 HX
   cases b1 with
   | true =>
    go_wp2_with fail
    go_roundw
    case rel => exact .inr (.inl ⟨rfl, rfl, HK5, HT5⟩)
    case measure => simp [intOf]
   | false =>
    go_wp2_with fail
    go_roundw
    case rel => exact .inr (.inl ⟨rfl, rfl, HK5, HT5⟩)
    case measure => simp [intOf]
  ·have dd := HP4.out.keepD HT4.out (fun e => by rcases e with e | e <;> have := HLt.out <;> have := HG.out <;> omega)
   obtain ⟨d0, d1, d2, d3, d4, d5, d6, d7, df⟩ := dd.cells
   have z := HT4.out.kept HB4.out (fun e => by rcases e with e | e <;> have := HLt.out <;> have := HFb.out <;> omega)
   have z1 : wr.cell? ⟨fb, 1, none⟩ = some (fvL 32 p) := by rw [cell_of_row _ _ _ _ _ _ z]; rfl
   obtain ⟨ko1, kc1, l4, k4⟩ := HK.out
   have HX := hid (HB.out wr ko1 kc1 l4 (HR4.out.kept HT4.out (fun a ha e => by rcases e with e | e; exact (HRo.out a ha).2 e; exact (HRo.out a ha).1 e)))
   have HK4 := hid k4
   clear dd z l4 k4
   go_wp2_with fail
   refine HX.out.mono ?_
   rintro e w5 ⟨he, l5, f5⟩
   rw [he]
   have HK5 : Hid (∃ ko1 kc1, Lkk w5 B p mb ko1 kc1 (gtS (akS s d) F) /\ Kb ko ko1) := hid ⟨ko1, kc1, l5, HK4.out⟩
   have HT5 : Hid (Fr (fun k => k = p \/ k = mb) W4 w5) := hid (Fr.trans HT4.out f5 (fun k _ e => e))
   clear he l5 f5 d0 d1 d2 d3 d4 d5 d6 d7 df z1 HX
   cases b2 with
   | true =>
    go_wp2_with fail
    go_roundw
    case rel => exact .inr (.inr (.inl ⟨rfl, rfl, HK5, HT5⟩))
    case measure => simp [intOf]
   | false =>
    go_wp2_with fail
    go_roundw
    case rel => exact .inr (.inr (.inl ⟨rfl, rfl, HK5, HT5⟩))
    case measure => simp [intOf]
  ·have dd := HP4.out.keepD HT4.out (fun e => by rcases e with e | e <;> have := HLt.out <;> have := HG.out <;> omega)
   obtain ⟨d0, d1, d2, d3, d4, d5, d6, d7, df⟩ := dd.cells
   have z := HT4.out.kept HB4.out (fun e => by rcases e with e | e <;> have := HLt.out <;> have := HFb.out <;> omega)
   have z2 : wr.cell? ⟨fb, 2, none⟩ = some (fvL 33 p) := by rw [cell_of_row _ _ _ _ _ _ z]; rfl
   obtain ⟨ko1, kc1, l4, k4⟩ := HK.out
   have HX := hid (HM.out wr ko1 kc1 l4)
   have HK4 := hid k4
   clear dd z l4 k4
   go_wp2_with fail
   refine HX.out.mono ?_
   rintro e w5 ⟨he, l5, f5⟩
   rw [he]
   have HK5 : Hid (∃ ko1 kc1, Lkk w5 B p mb ko1 kc1 (mkS (gtS (akS s d) F) d) /\ Kb ko ko1) := hid ⟨ko1, kc1, l5, HK4.out⟩
   have HT5 : Hid (Fr (fun k => k = p \/ k = mb) W4 w5) := hid (Fr.trans HT4.out f5 (fun k _ e => e))
   clear he l5 f5 d0 d1 d2 d3 d4 d5 d6 d7 df z2 HX
   cases b3 with
   | true =>
    go_wp2_with fail
    go_roundw
    case rel => exact .inr (.inr (.inr ⟨rfl, rfl, HK5, HT5⟩))
    case measure => simp [intOf]
   | false =>
    go_wp2_with fail
    go_roundw
    case rel => exact .inr (.inr (.inr ⟨rfl, rfl, HK5, HT5⟩))
    case measure => simp [intOf]
  ·obtain ⟨ko1, kc1, l4, k4⟩ := HK.out
   have hbk := l4.bk
   have c7 : wr.cell? ⟨p, 7, none⟩ = some (.bool (mkS (gtS (akS s d) F) d).mt) := by rw [cell_of_row _ _ _ _ _ _ hbk]; rfl
   have cf := fun o => frozen_of_row wr p o _ _ hbk
   have HLk := hid l4.met
   have f5 : Fr (fun k => k = p \/ k = mb) W4 (wr.setCell ⟨p, 7, none⟩ (.bool true)) := Fr.setCell HT4.out _ _ (.inl (.inl rfl))
   have HF5 : Hid (Fr (fun k => k = p \/ k = mb) w (wr.setCell ⟨p, 7, none⟩ (.bool true))) := hid (Fr.trans (Still.to (HS.out.trans HS4.out)) f5 (fun _ _ e => e))
   have HO5 := hid (HO4.out.keep f5 (fun k hk e => by have := HOg.out k e; have := HLt.out; rcases hk with e2 | e2 <;> omega))
   have HK4 := hid k4
   have HBr2 : Hid (bb = (b3 || (b2 || b1))) := hid (by rw [HBr.out]; cases b1 <;> cases b2 <;> cases b3 <;> rfl)
   clear l4 k4 hbk f5
   go_wp2_with fail
   go_ret3
   refine ⟨fo, fc, ko1, kc1, ?_, ?_, ?_, HF5.out, HK4.out⟩
   ·rw [HFl.out, HBr2.out]; rfl
   ·rw [HFl.out]; exact HO5.out
   ·rw [HT.out]; exact HLk.out
end Go.Proofs.YtnbofjaecchnaaaDoor
namespace Go.Proofs.YtnbofjaecchnaaaDoor
open Go.RowKit
open Wp Vp Lp
set_option maxRecDepth 100000
set_option linter.unusedVariables false
set_option linter.unusedSimpArgs false
abbrev ydc (s : Ln) (oo : Option Addr) (oc : Nat) (go : Option Addr) (gc : Nat) : Array Value := #[.int .u64 s.ss, .int .i64 s.se, .int .i64 s.ot, .slice oo s.O.length oc, .int .i64 (s.ak : Int), .slice go s.G.length gc, .int .i64 s.mq, .bool s.mt]
structure Ydl (w : World) (B q : Nat) (oo : Option Addr) (oc : Nat) (go : Option Addr) (gc : Nat) (s : Ln) : Prop where
 bk : w.heap[q]? = some (.cells (ydc s oo oc go gc) 64 (0, 0))
 ow : OwG KCc 36 w B (.slice oo s.O.length oc) s.O
 gw : OwG KCc 36 w B (.slice go s.G.length gc) s.G
 lo : B <= q
 ne : ∀ a b, oo = some a -> go = some b -> a.block ≠ b.block
theorem own_some {ao : Option Addr} {n c k : Nat} : (Value.slice ao n c).ownBlock = some k ↔ ∃ a, ao = some a /\ a.block = k := by
 cases ao with
 | none => simp [Value.ownBlock]
 | some a => simp [Value.ownBlock]
theorem Ydl.keep {F : Nat -> Prop} {w w' : World} {B q : Nat} {oo : Option Addr} {oc : Nat} {go : Option Addr} {gc : Nat} {s : Ln} (h : Ydl w B q oo oc go gc s) (hf : Fr F w w') (h1 : ¬ F q) (h2 : ∀ a, oo = some a -> ¬ F a.block) (h3 : ∀ a, go = some a -> ¬ F a.block) : Ydl w' B q oo oc go gc s :=
 ⟨hf.kept h.bk h1, h.ow.keep hf (fun k hk e => by obtain ⟨a, ha, rfl⟩ := own_some.1 e; exact h2 a ha hk), h.gw.keep hf (fun k hk e => by obtain ⟨a, ha, rfl⟩ := own_some.1 e; exact h3 a ha hk), h.lo, h.ne⟩
theorem Ydl.still {w w' : World} {B q : Nat} {oo : Option Addr} {oc : Nat} {go : Option Addr} {gc : Nat} {s : Ln} (h : Ydl w B q oo oc go gc s) (hs : Still w w') : Ydl w' B q oo oc go gc s := h.keep hs (fun e => e) (fun _ _ e => e) (fun _ _ e => e)
theorem Ydl.lt {w : World} {B q : Nat} {oo : Option Addr} {oc : Nat} {go : Option Addr} {gc : Nat} {s : Ln} (h : Ydl w B q oo oc go gc s) : q < w.heap.size := block_lt h.bk
theorem Ydl.ob {w : World} {B q : Nat} {oo : Option Addr} {oc : Nat} {go : Option Addr} {gc : Nat} {s : Ln} (h : Ydl w B q oo oc go gc s) : ∀ a, oo = some a -> B <= a.block /\ a.block < w.heap.size /\ a.block ≠ q := fun a ha => by
 have h1 := h.ow.block (k := a.block) (own_some.2 ⟨a, ha, rfl⟩)
 obtain ⟨cur, hc⟩ := ow_ty h.ow (k := a.block) (own_some.2 ⟨a, ha, rfl⟩)
 exact ⟨h1.1, h1.2, ty_ne hc h.bk (by decide)⟩
theorem Ydl.gb {w : World} {B q : Nat} {oo : Option Addr} {oc : Nat} {go : Option Addr} {gc : Nat} {s : Ln} (h : Ydl w B q oo oc go gc s) : ∀ a, go = some a -> B <= a.block /\ a.block < w.heap.size /\ a.block ≠ q := fun a ha => by
 have h1 := h.gw.block (k := a.block) (own_some.2 ⟨a, ha, rfl⟩)
 obtain ⟨cur, hc⟩ := ow_ty h.gw (k := a.block) (own_some.2 ⟨a, ha, rfl⟩)
 exact ⟨h1.1, h1.2, ty_ne hc h.bk (by decide)⟩
theorem Ydl.cells {w : World} {B q : Nat} {oo : Option Addr} {oc : Nat} {go : Option Addr} {gc : Nat} {s : Ln} (h : Ydl w B q oo oc go gc s) : w.cell? ⟨q, 0, none⟩ = some (.int .u64 s.ss) /\ w.cell? ⟨q, 1, none⟩ = some (.int .i64 s.se) /\ w.cell? ⟨q, 2, none⟩ = some (.int .i64 s.ot) /\ w.cell? ⟨q, 3, none⟩ = some (.slice oo s.O.length oc) /\ w.cell? ⟨q, 4, none⟩ = some (.int .i64 (s.ak : Int)) /\ w.cell? ⟨q, 5, none⟩ = some (.slice go s.G.length gc) /\ w.cell? ⟨q, 6, none⟩ = some (.int .i64 s.mq) /\ w.cell? ⟨q, 7, none⟩ = some (.bool s.mt) /\ ∀ o, w.frozen? ⟨q, o, none⟩ = false := by
 refine ⟨?_, ?_, ?_, ?_, ?_, ?_, ?_, ?_, fun o => frozen_of_row w q o _ _ h.bk⟩ <;> (rw [cell_of_row _ _ _ _ _ _ h.bk]; rfl)
theorem Ydl.new (w : World) (ss se ot : Int) : Ydl (w.alloc (.cells (ydc (zLn ss se ot) none 0 none 0) 64)) w.heap.size w.heap.size none 0 none 0 (zLn ss se ot) :=
 ⟨heap_alloc_new w _, OwG.nil _ _, OwG.nil _ _, Nat.le_refl _, fun a b ha => by cases ha⟩
set_option maxHeartbeats 1000000 in
theorem rnew_no (ss se ot : Int) (h : mayN se ot = false) (w : World) : Calls Tryd.prog 14 #[.int .u64 ss, .int .i64 se, .int .i64 ot] w fun e w' => e = .returned (.tuple #[.pointer none, .int .i64 1]) /\ w' = w := by
 by_cases h1 : se < 0
 ·go_enter Tryd.func14, Tryd.ntmps14
  go_wp2_with fail
  go_ret2
  exact ⟨rfl, rfl⟩
 by_cases h2 : 5 < se
 ·go_enter Tryd.func14, Tryd.ntmps14
  go_wp2_with fail
  go_ret2
  exact ⟨rfl, rfl⟩
 by_cases h3 : ot < 0
 ·go_enter Tryd.func14, Tryd.ntmps14
  go_wp2_with fail
  go_ret2
  exact ⟨rfl, rfl⟩
 by_cases h4 : 5 < ot
 ·go_enter Tryd.func14, Tryd.ntmps14
  go_wp2_with fail
  go_ret2
  exact ⟨rfl, rfl⟩
 have h5 : (se == ot) = true := by
  cases hb : (se == ot) with
  | true => rfl
  | false =>
   have := (mayN_iff (se := se) (ot := ot)).2 ⟨⟨by omega, by omega⟩, ⟨by omega, by omega⟩, by simpa using hb⟩
   rw [h] at this; cases this
 clear h
 go_enter Tryd.func14, Tryd.ntmps14
 go_wp2_with fail
 go_ret2
 exact ⟨rfl, rfl⟩
theorem rnew_yes (ss se ot : Int) (h : mayN se ot = true) (w : World) : Calls Tryd.prog 14 #[.int .u64 ss, .int .i64 se, .int .i64 ot] w fun e w' => ∃ q, e = .returned (.tuple #[.pointer (some ⟨q, 0, none⟩), .int .i64 0]) /\ Ydl w' w.heap.size q none 0 none 0 (zLn ss se ot) /\ Still w w' := by
 have hm := mayN_iff.1 h
 have h1 : ¬ se < 0 := by omega
 have h2 : ¬ 5 < se := by omega
 have h3 : ¬ ot < 0 := by omega
 have h4 : ¬ 5 < ot := by omega
 have h5 : (se == ot) = false := by simpa using hm.2.2
 have HB := hid (Ydl.new w ss se ot)
 have HS := hid (Still.alloc w (.cells (ydc (zLn ss se ot) none 0 none 0) 64))
 clear h hm
 go_enter Tryd.func14, Tryd.ntmps14
 go_wp2_with fail
 go_ret2
 exact ⟨_, rfl, HB.out, HS.out⟩
set_option maxHeartbeats 1000000 in
theorem rack_any (q : Nat) (oo : Option Addr) (oc : Nat) (go : Option Addr) (gc B : Nat) (s : Ln) (w : World) (h : Ydl w B q oo oc go gc s) : Calls Tryd.prog 21 #[.pointer (some ⟨q, 0, none⟩)] w fun e w' => e = .returned (dgv (ackD s) none 0 0) /\ Still w w' := by
 have A0 := Still.alloc w (.cells (dgc zD none 0 0) 39)
 have p0 := newDg_b w zD none 0 0
 have l0 := h.still A0
 obtain ⟨g, eg⟩ : ∃ g, w.heap.size = g := ⟨_, rfl⟩
 unfold newDg at p0
 obtain ⟨W, eW⟩ : ∃ W, w.alloc (.cells (dgc zD none 0 0) 39) = W := ⟨_, rfl⟩
 rw [eW] at A0 p0 l0
 rw [eg] at p0
 have HS := hid A0
 have HG : Hid (w.heap.size = g) := hid eg
 have HP := hid p0
 obtain ⟨c0, c1, c2, c3, c4, c5, c6, c7, cf⟩ := l0.cells
 have q0 := Cl.cell c0
 have q1 := Cl.cell c1
 have q2 := Cl.cell c2
 have q5 := Cl.cell c5
 have hne := Aft.here W
 simp only [zD] at eW
 clear A0 p0 l0 h c0 c1 c2 c3 c4 c5 c6 c7 cf
 go_enter Tryd.func21, Tryd.ntmps21
 go_wp2_with fail
 refine region_rest 18 (by kernel_rfl) (by kernel_rfl) ?_
 simp only [List.take_succ_cons, List.take_zero, List.drop_succ_cons, List.drop_zero]
 repeat (go_big_quiet_step (rfl))
 refine wpQuiet_nil ?_
 intro w3 h3
 have hp3 := HP.out.still h3
 have HP3 := hid (hp3.set (ackD s) none 0 0)
 have HF3 : Hid (Still w (setDg w3 g (ackD s) none 0 0)) := hid (setDg_fr (HS.out.trans h3) _ _ _ _ _ (.inr (by rw [HG.out]; exact Nat.le_refl _)))
 obtain ⟨d0, d1, d2, d3, d4, d5, d6, d7, df⟩ := hp3.cells
 clear h3 hp3 eW q0 q1 q2 q5 hne HP HS
 go_wp2_with fail
 refine bodyPost_ret (HP3.out.res rfl _ rfl) rfl ?_
 exact ⟨rfl, HF3.out⟩
set_option maxHeartbeats 1000000 in
theorem rstate_any (q : Nat) (oo : Option Addr) (oc : Nat) (go : Option Addr) (gc B : Nat) (s : Ln) (hg : s.G.length <= 1099511627776) (w : World) (h : Ydl w B q oo oc go gc s) : Calls Tryd.prog 23 #[.pointer (some ⟨q, 0, none⟩)] w fun e w' => e = .returned (lsv s) /\ Still w w' := by
 have A0 := Still.alloc w (.cells #[.int .i64 0, .int .i64 0, .int .i64 0, .int .i64 0, .bool false] 44)
 have hg0 := heap_alloc_new w (.cells #[.int .i64 0, .int .i64 0, .int .i64 0, .int .i64 0, .bool false] 44)
 have l0 := h.still A0
 obtain ⟨g, eg⟩ : ∃ g, w.heap.size = g := ⟨_, rfl⟩
 obtain ⟨W, eW⟩ : ∃ W, w.alloc (.cells #[.int .i64 0, .int .i64 0, .int .i64 0, .int .i64 0, .bool false] 44) = W := ⟨_, rfl⟩
 rw [eW] at A0 l0 hg0
 rw [eg] at hg0
 have HS := hid A0
 have HG : Hid (w.heap.size = g) := hid eg
 have HB := hid hg0
 obtain ⟨c0, c1, c2, c3, c4, c5, c6, c7, cf⟩ := l0.cells
 have q3 := Cl.cell c3
 have q4 := Cl.cell c4
 have q5 := Cl.cell c5
 have q6 := Cl.cell c6
 have q7 := Cl.cell c7
 have hne := Aft.here W
 have hw : IntKind.i64.wrap ((s.G.length : Int) + 1) = (s.G.length : Int) + 1 := wr64 (by omega) (by omega)
 clear A0 l0 h hg0 c0 c1 c2 c3 c4 c5 c6 c7 cf
 go_enter Tryd.func23, Tryd.ntmps23
 go_wp2_with fail
 refine region_rest 24 (by kernel_rfl) (by kernel_rfl) ?_
 simp only [List.take_succ_cons, List.take_zero, List.drop_succ_cons, List.drop_zero]
 repeat (go_big_quiet_step (rfl))
 refine wpQuiet_nil ?_
 intro w3 h3
 have hb3 := h3.kept_still HB.out
 have HP : Hid (Lsb (w3.setCells g 0 (lsc s).toList) g s) := hid (heap_setCells g 44 (lsc s).toList 0 #[.int .i64 0, .int .i64 0, .int .i64 0, .int .i64 0, .bool false] w3 hb3 (by simp))
 have HF : Hid (Still w (w3.setCells g 0 (lsc s).toList)) := hid (fr_setCells g _ 0 w3 (HS.out.trans h3) (.inr (by have := HG.out; omega)))
 have d0 : w3.cell? ⟨g, 0, none⟩ = some (.int .i64 0) := by rw [cell_of_row _ _ _ _ _ _ hb3]; rfl
 have d1 : w3.cell? ⟨g, 1, none⟩ = some (.int .i64 0) := by rw [cell_of_row _ _ _ _ _ _ hb3]; rfl
 have d2 : w3.cell? ⟨g, 2, none⟩ = some (.int .i64 0) := by rw [cell_of_row _ _ _ _ _ _ hb3]; rfl
 have d3 : w3.cell? ⟨g, 3, none⟩ = some (.int .i64 0) := by rw [cell_of_row _ _ _ _ _ _ hb3]; rfl
 have d4 : w3.cell? ⟨g, 4, none⟩ = some (.bool false) := by rw [cell_of_row _ _ _ _ _ _ hb3]; rfl
 have df := fun o => frozen_of_row w3 g o _ _ hb3
 clear h3 hb3 eW q3 q4 q5 q6 q7 hne HB HS
 go_wp2_with fail
 refine bodyPost_ret (HP.out.res rfl _ rfl) rfl ?_
 exact ⟨rfl, HF.out⟩
end Go.Proofs.YtnbofjaecchnaaaDoor
namespace Go.Proofs.YtnbofjaecchnaaaDoor
open Go.RowKit
open Wp Vp Lp
set_option maxRecDepth 100000
set_option linter.unusedVariables false
set_option linter.unusedSimpArgs false
theorem nw_dg {o : Oper} {ρ : Operand -> Value} (ho : o.op = .alloc 39) (u : World) : (execOp ρ o).run Tryd.prog u = .ok (.value (.pointer (some ⟨u.heap.size, 0, none⟩))) (u.alloc (.cells (dgc zD none 0 0) 39 (0, 0))) := by
 unfold execOp
 rw [ho]
 go_simp
 try rfl
theorem st_dg {o : Oper} {ρ : Operand -> Value} {a b : Operand} {d : Dg} {co : Option Addr} {cn cp : Nat} {u : World} {g : Nat} (ho : o.op = .store 39 a b) (ha : ρ a = .pointer (some ⟨g, 0, none⟩)) (hb : ρ b = dgv d co cn cp) (h : u.heap[g]? = some (.cells (dgc zD none 0 0) 39 (0, 0))) :
  ∃ u', (execOp ρ o).run Tryd.prog u = .ok .skip u' /\ u'.heap[g]? = some (.cells (dgc d co cn cp) 39 (0, 0)) /\ Fr (fun i => i = g) u u' := by
 have hd : Dgb u g zD none 0 0 := h
 obtain ⟨d0, d1, d2, d3, d4, d5, d6, d7, df⟩ := hd.cells
 refine ⟨setDg u g d co cn cp, ?_, hd.set d co cn cp, setDg_fr (Fr.refl _ _) _ _ _ _ _ (.inl rfl)⟩
 unfold execOp
 rw [ho]
 simp only [ha, hb]
 go_simp
def turT (s : Ln) (c : Int) : Dg := ⟨1, s.ss, s.se, s.ot, c, (s.ak : Int) + 1, [], (s.G.length : Int)⟩
set_option maxHeartbeats 8000000 in
theorem rturn18_any (q : Nat) (oo : Option Addr) (oc : Nat) (go : Option Addr) (gc B : Nat) (s : Ln) (m : Int) (hO : s.O.length <= 281474976710656) (hal : s.ak <= s.O.length) (hl : s.O.length - s.ak <= 336) (w : World) (h : Ydl w B q oo oc go gc s) : Calls Tryd.prog 18 #[.pointer (some ⟨q, 0, none⟩), .int .i64 m] w fun e w' => ∃ co cp, e = .returned (dgv (turD s m) co (s.O.length - s.ak) cp) /\ OwG KCc 36 w' w.heap.size (.slice co (s.O.length - s.ak) cp) (s.O.drop s.ak) /\ Still w w' := by
 have A0 := Still.alloc w (.cells (dgc zD none 0 0) 39)
 have p0 := newDg_b w zD none 0 0
 have l0 := h.still A0
 obtain ⟨g, eg⟩ : ∃ g, w.heap.size = g := ⟨_, rfl⟩
 unfold newDg at p0
 obtain ⟨W, eW⟩ : ∃ W, w.alloc (.cells (dgc zD none 0 0) 39) = W := ⟨_, rfl⟩
 rw [eW] at A0 p0 l0
 rw [eg] at p0
 have HS := hid A0
 have HG : Hid (w.heap.size = g) := hid eg
 have HP := hid p0
 have HL := hid l0
 have HD : Hid (turD s m = ⟨1, s.ss, s.se, s.ot, clp m, (s.ak : Int) + 1, s.O.drop s.ak, (s.G.length : Int)⟩) := hid rfl
 have hw : IntKind.i64.wrap ((s.ak : Int) + 1) = (s.ak : Int) + 1 := wr64 (by omega) (by omega)
 have HLn : Hid ((s.O.drop s.ak).length = s.O.length - s.ak) := hid (List.length_drop ..)
 have hsl := fun W => run_fromG (P := Tryd.prog) (t := 37) (e := 36) (k := 7) Tryd.underlying37 (by obtain ⟨i, h1, _, h2, _⟩ := infoCc; exact ⟨i, h1, h2⟩) W oo s.O.length oc s.ak hal
 have HZ : Hid ((Value.agg (KCc.f KCc.d).toArray).cells.size = KCc.k) := hid rfl
 simp only [zD] at eW
 obtain ⟨c, ec⟩ : ∃ c, clp m = c := ⟨_, rfl⟩
 rw [ec] at HD
 clear A0 p0 l0 h
 by_cases hm0 : m < 0
 ·have e0 : c = 0 := by rw [<- ec]; unfold clp; rw [if_pos hm0]
  subst e0
  have hm1 : ¬ (1099511627776 : Int) < 0 := by omega
  clear ec
  go_enter Tryd.func18, Tryd.ntmps18
  go_upto_region 5 with fail
  refine region_mk1 24 5 (.cells (dgc zD none 0 0) 39 (0, 0)) (.cells (dgc (turT s 0) none 0 0) 39 (0, 0)) (by kernel_rfl) (by kernel_rfl) (by kernel_rfl) (by kernel_rfl) rfl rfl (fun u b => nw_dg rfl u) (fun u => heap_alloc_new u _) ?_
  apply Exists.intro
  refine And.intro ?_ (And.intro ?_ ?_)
  ·intro u hu
   obtain ⟨c0, c1, c2, c3, c4, c5, c6, c7, cf⟩ := (HL.out.still hu).cells
   have q0 := Cl.cell c0
   have q1 := Cl.cell c1
   have q2 := Cl.cell c2
   have q4 := Cl.cell c4
   have q5 := Cl.cell c5
   have hne := Aft.here u
   simp only [qlist, List.take_succ_cons, List.take_zero, List.drop_succ_cons, List.drop_zero, List.cons_append, List.nil_append, Nat.mul_one, Nat.reduceAdd]
   repeat (go_big_quiet_step (rfl))
   exact wpQuiet_nil rfl
  ·exact fun u h hh => st_dg rfl rfl rfl hh
  intro w2 g2 h2 hg2 hm2
  have p2 : Dgb w2 g2 (turT s 0) none 0 0 := hm2
  have HP2 := hid p2
  have HS2 := hid h2
  have HL2 := hid (HL.out.still h2)
  have HP0 := hid (HP.out.still h2)
  have HGe : Hid (g < g2) := hid (by have := block_lt HP.out; omega)
  have q3 := Cl.cell HL2.out.cells.2.2.2.1
  have q4 := Cl.cell HL2.out.cells.2.2.2.2.1
  have hne := Aft.here w2
  clear h2 hg2 hm2 p2 HL HP eW
  simp only [Act.put, List.setIfInBounds_toArray, List.set_cons_succ, List.set_cons_zero]
  go_upto_region 7 with fail
  refine region_rest 10 (by kernel_rfl) (by kernel_rfl) ?_
  simp only [List.take_succ_cons, List.take_zero, List.drop_succ_cons, List.drop_zero]
  repeat (go_big_quiet_step (rfl))
  refine wpQuiet_nil ?_
  intro w3 h3
  have HSr := hid (((SrG.own (HL2.out.still h3).ow (by omega)).drop (i := s.ak) hal))
  have HP3 := hid (HP2.out.still h3)
  have HP03 := hid (HP0.out.still h3)
  have HS3 := hid (HS2.out.trans h3)
  have HG3 : Hid (g2 < w3.heap.size) := hid (block_lt HP3.out)
  clear h3 q3 q4 hne HL2 HP2 HP0 HS2
  go_wp2_with (
   at_builtin
   refine wpList_appMG KCc _ rfl _ _ _ rfl Tryd.underlying37 56 _ HZ.out infoCc w3.heap.size _ [] (s.O.drop s.ak) (cutG 7 oo oc s.ak) (s.O.length - s.ak) (oc - s.ak) rfl rfl HLn.out (OwG.nil _ _) HSr.out (by simp only [List.length_nil, HLn.out]; omega) (by simp only [List.length_nil, HLn.out]; omega) (Nat.le_refl _) ?_
   intro v4 w4 ho4 hf4
   rw [List.nil_append] at ho4
   obtain ⟨co, cp, e4, _⟩ := ho4.slice
   rw [HLn.out] at e4
   subst e4
   have HO4 := hid ho4
   have s4 : Still w3 w4 := hf4.mono (fun k _ e => by cases e)
   have HS4 := hid s4
   have HP4 := hid (HP3.out.still s4)
   have HP04 := hid (HP03.out.still s4)
   obtain ⟨d0, d1, d2, d3, d4, d5, d6, d7, df⟩ := HP4.out.cells
   clear ho4 hf4 s4 HSr HP3 HP03
   have q7 := dset6 HP4.out (s.O.drop s.ak) co (s.O.length - s.ak) cp
   have f7 : Fr (fun k => k = g2) w4 (w4.setCell ⟨g2, 6, none⟩ (.slice co (s.O.length - s.ak) cp)) := Fr.setCell (Fr.refl _ _) _ _ (.inl rfl)
   have z7 := HP04.out.keepD f7 (by have := HGe.out; omega)
   have hob : ∀ k, (Value.slice co (s.O.length - s.ak) cp).ownBlock = some k -> w3.heap.size <= k := fun k hk => (HO4.out.block hk).1
   have hsz3 : g2 < w3.heap.size /\ g < w3.heap.size := by
    have h1 := HG3.out
    have h2 := HGe.out
    omega
   have o7 := HO4.out.keep f7 (fun k hk e => by have := hob k e; omega)
   obtain ⟨W7, eW7⟩ : ∃ W, w4.setCell ⟨g2, 6, none⟩ (.slice co (s.O.length - s.ak) cp) = W := ⟨_, rfl⟩
   rw [eW7] at q7 f7 z7 o7
   obtain ⟨e0, e1, e2, e3, e4, e5, e6, e7, ef⟩ := q7.cells
   obtain ⟨i0, i1, i2, i3, i4, i5, i6, i7, iF⟩ := z7.cells
   obtain ⟨X, eX⟩ : ∃ X : Dg, (⟨(turT s 0).kd, (turT s 0).ss, (turT s 0).fr, (turT s 0).to, (turT s 0).mrk, (turT s 0).fi, s.O.drop s.ak, (turT s 0).ak⟩ : Dg) = X := ⟨_, rfl⟩
   have HX : Hid (turD s _ = X) := hid (by rw [HD.out, <- eX]; rfl)
   rw [eX] at q7
   have HZ8 := hid (z7.set X co (s.O.length - s.ak) cp)
   have f8 : Fr (fun k => k = g) W7 (setDg W7 g X co (s.O.length - s.ak) cp) := setDg_fr (Fr.refl _ _) _ _ _ _ _ (.inl rfl)
   have HO8 := hid ((o7.keep f8 (fun k hk e => by have := hob k e; omega)).less (B' := w.heap.size) (by have := HS.out.size; have := HS3.out.size; omega))
   have HS8 : Hid (Still w (setDg W7 g X co (s.O.length - s.ak) cp)) := hid (by
    have s7 : Still w W7 := Fr.trans ((HS.out.trans HS3.out).trans HS4.out) f7 (fun k hk e => by have := HG.out; have := HGe.out; omega)
    exact setDg_fr s7 _ _ _ _ _ (.inr (by have := HG.out; omega)))
   subst eX
   clear q7 f7 z7 hob o7 f8 HP4 HP04 HO4)
  (try simp only [Exit.inBlock, Exit.then])
  refine bodyPost_ret (HZ8.out.res rfl _ rfl) rfl ?_
  exact ⟨co, cp, by rw [HX.out], by have := HO8.out; rw [HG.out] at this; exact this, HS8.out⟩
 ·by_cases hm1 : 1099511627776 < m
  ·have e0 : c = 1099511627776 := by rw [<- ec]; unfold clp; rw [if_neg hm0, if_pos hm1]
   subst e0
   clear ec
   go_enter Tryd.func18, Tryd.ntmps18
   go_upto_region 5 with fail
   refine region_mk1 24 5 (.cells (dgc zD none 0 0) 39 (0, 0)) (.cells (dgc (turT s 1099511627776) none 0 0) 39 (0, 0)) (by kernel_rfl) (by kernel_rfl) (by kernel_rfl) (by kernel_rfl) rfl rfl (fun u b => nw_dg rfl u) (fun u => heap_alloc_new u _) ?_
   apply Exists.intro
   refine And.intro ?_ (And.intro ?_ ?_)
   ·intro u hu
    obtain ⟨c0, c1, c2, c3, c4, c5, c6, c7, cf⟩ := (HL.out.still hu).cells
    have q0 := Cl.cell c0
    have q1 := Cl.cell c1
    have q2 := Cl.cell c2
    have q4 := Cl.cell c4
    have q5 := Cl.cell c5
    have hne := Aft.here u
    simp only [qlist, List.take_succ_cons, List.take_zero, List.drop_succ_cons, List.drop_zero, List.cons_append, List.nil_append, Nat.mul_one, Nat.reduceAdd]
    repeat (go_big_quiet_step (rfl))
    exact wpQuiet_nil rfl
   ·exact fun u h hh => st_dg rfl rfl rfl hh
   intro w2 g2 h2 hg2 hm2
   have p2 : Dgb w2 g2 (turT s 1099511627776) none 0 0 := hm2
   have HP2 := hid p2
   have HS2 := hid h2
   have HL2 := hid (HL.out.still h2)
   have HP0 := hid (HP.out.still h2)
   have HGe : Hid (g < g2) := hid (by have := block_lt HP.out; omega)
   have q3 := Cl.cell HL2.out.cells.2.2.2.1
   have q4 := Cl.cell HL2.out.cells.2.2.2.2.1
   have hne := Aft.here w2
   clear h2 hg2 hm2 p2 HL HP eW
   simp only [Act.put, List.setIfInBounds_toArray, List.set_cons_succ, List.set_cons_zero]
   go_upto_region 7 with fail
   refine region_rest 10 (by kernel_rfl) (by kernel_rfl) ?_
   simp only [List.take_succ_cons, List.take_zero, List.drop_succ_cons, List.drop_zero]
   repeat (go_big_quiet_step (rfl))
   refine wpQuiet_nil ?_
   intro w3 h3
   have HSr := hid (((SrG.own (HL2.out.still h3).ow (by omega)).drop (i := s.ak) hal))
   have HP3 := hid (HP2.out.still h3)
   have HP03 := hid (HP0.out.still h3)
   have HS3 := hid (HS2.out.trans h3)
   have HG3 : Hid (g2 < w3.heap.size) := hid (block_lt HP3.out)
   clear h3 q3 q4 hne HL2 HP2 HP0 HS2
   go_wp2_with (
    at_builtin
    refine wpList_appMG KCc _ rfl _ _ _ rfl Tryd.underlying37 56 _ HZ.out infoCc w3.heap.size _ [] (s.O.drop s.ak) (cutG 7 oo oc s.ak) (s.O.length - s.ak) (oc - s.ak) rfl rfl HLn.out (OwG.nil _ _) HSr.out (by simp only [List.length_nil, HLn.out]; omega) (by simp only [List.length_nil, HLn.out]; omega) (Nat.le_refl _) ?_
    intro v4 w4 ho4 hf4
    rw [List.nil_append] at ho4
    obtain ⟨co, cp, e4, _⟩ := ho4.slice
    rw [HLn.out] at e4
    subst e4
    have HO4 := hid ho4
    have s4 : Still w3 w4 := hf4.mono (fun k _ e => by cases e)
    have HS4 := hid s4
    have HP4 := hid (HP3.out.still s4)
    have HP04 := hid (HP03.out.still s4)
    obtain ⟨d0, d1, d2, d3, d4, d5, d6, d7, df⟩ := HP4.out.cells
    clear ho4 hf4 s4 HSr HP3 HP03
    have q7 := dset6 HP4.out (s.O.drop s.ak) co (s.O.length - s.ak) cp
    have f7 : Fr (fun k => k = g2) w4 (w4.setCell ⟨g2, 6, none⟩ (.slice co (s.O.length - s.ak) cp)) := Fr.setCell (Fr.refl _ _) _ _ (.inl rfl)
    have z7 := HP04.out.keepD f7 (by have := HGe.out; omega)
    have hob : ∀ k, (Value.slice co (s.O.length - s.ak) cp).ownBlock = some k -> w3.heap.size <= k := fun k hk => (HO4.out.block hk).1
    have hsz3 : g2 < w3.heap.size /\ g < w3.heap.size := by
     have h1 := HG3.out
     have h2 := HGe.out
     omega
    have o7 := HO4.out.keep f7 (fun k hk e => by have := hob k e; omega)
    obtain ⟨W7, eW7⟩ : ∃ W, w4.setCell ⟨g2, 6, none⟩ (.slice co (s.O.length - s.ak) cp) = W := ⟨_, rfl⟩
    rw [eW7] at q7 f7 z7 o7
    obtain ⟨e0, e1, e2, e3, e4, e5, e6, e7, ef⟩ := q7.cells
    obtain ⟨i0, i1, i2, i3, i4, i5, i6, i7, iF⟩ := z7.cells
    obtain ⟨X, eX⟩ : ∃ X : Dg, (⟨(turT s 1099511627776).kd, (turT s 1099511627776).ss, (turT s 1099511627776).fr, (turT s 1099511627776).to, (turT s 1099511627776).mrk, (turT s 1099511627776).fi, s.O.drop s.ak, (turT s 1099511627776).ak⟩ : Dg) = X := ⟨_, rfl⟩
    have HX : Hid (turD s _ = X) := hid (by rw [HD.out, <- eX]; rfl)
    rw [eX] at q7
    have HZ8 := hid (z7.set X co (s.O.length - s.ak) cp)
    have f8 : Fr (fun k => k = g) W7 (setDg W7 g X co (s.O.length - s.ak) cp) := setDg_fr (Fr.refl _ _) _ _ _ _ _ (.inl rfl)
    have HO8 := hid ((o7.keep f8 (fun k hk e => by have := hob k e; omega)).less (B' := w.heap.size) (by have := HS.out.size; have := HS3.out.size; omega))
    have HS8 : Hid (Still w (setDg W7 g X co (s.O.length - s.ak) cp)) := hid (by
     have s7 : Still w W7 := Fr.trans ((HS.out.trans HS3.out).trans HS4.out) f7 (fun k hk e => by have := HG.out; have := HGe.out; omega)
     exact setDg_fr s7 _ _ _ _ _ (.inr (by have := HG.out; omega)))
    subst eX
    clear q7 f7 z7 hob o7 f8 HP4 HP04 HO4)
   (try simp only [Exit.inBlock, Exit.then])
   refine bodyPost_ret (HZ8.out.res rfl _ rfl) rfl ?_
   exact ⟨co, cp, by rw [HX.out], by have := HO8.out; rw [HG.out] at this; exact this, HS8.out⟩
  ·have e0 : c = m := by rw [<- ec]; unfold clp; rw [if_neg hm0, if_neg hm1]
   subst e0
   clear ec
   go_enter Tryd.func18, Tryd.ntmps18
   go_upto_region 5 with fail
   refine region_mk1 24 5 (.cells (dgc zD none 0 0) 39 (0, 0)) (.cells (dgc (turT s c) none 0 0) 39 (0, 0)) (by kernel_rfl) (by kernel_rfl) (by kernel_rfl) (by kernel_rfl) rfl rfl (fun u b => nw_dg rfl u) (fun u => heap_alloc_new u _) ?_
   apply Exists.intro
   refine And.intro ?_ (And.intro ?_ ?_)
   ·intro u hu
    obtain ⟨c0, c1, c2, c3, c4, c5, c6, c7, cf⟩ := (HL.out.still hu).cells
    have q0 := Cl.cell c0
    have q1 := Cl.cell c1
    have q2 := Cl.cell c2
    have q4 := Cl.cell c4
    have q5 := Cl.cell c5
    have hne := Aft.here u
    simp only [qlist, List.take_succ_cons, List.take_zero, List.drop_succ_cons, List.drop_zero, List.cons_append, List.nil_append, Nat.mul_one, Nat.reduceAdd]
    repeat (go_big_quiet_step (rfl))
    exact wpQuiet_nil rfl
   ·exact fun u h hh => st_dg rfl rfl rfl hh
   intro w2 g2 h2 hg2 hm2
   have p2 : Dgb w2 g2 (turT s c) none 0 0 := hm2
   have HP2 := hid p2
   have HS2 := hid h2
   have HL2 := hid (HL.out.still h2)
   have HP0 := hid (HP.out.still h2)
   have HGe : Hid (g < g2) := hid (by have := block_lt HP.out; omega)
   have q3 := Cl.cell HL2.out.cells.2.2.2.1
   have q4 := Cl.cell HL2.out.cells.2.2.2.2.1
   have hne := Aft.here w2
   clear h2 hg2 hm2 p2 HL HP eW
   simp only [Act.put, List.setIfInBounds_toArray, List.set_cons_succ, List.set_cons_zero]
   go_upto_region 7 with fail
   refine region_rest 10 (by kernel_rfl) (by kernel_rfl) ?_
   simp only [List.take_succ_cons, List.take_zero, List.drop_succ_cons, List.drop_zero]
   repeat (go_big_quiet_step (rfl))
   refine wpQuiet_nil ?_
   intro w3 h3
   have HSr := hid (((SrG.own (HL2.out.still h3).ow (by omega)).drop (i := s.ak) hal))
   have HP3 := hid (HP2.out.still h3)
   have HP03 := hid (HP0.out.still h3)
   have HS3 := hid (HS2.out.trans h3)
   have HG3 : Hid (g2 < w3.heap.size) := hid (block_lt HP3.out)
   clear h3 q3 q4 hne HL2 HP2 HP0 HS2
   go_wp2_with (
    at_builtin
    refine wpList_appMG KCc _ rfl _ _ _ rfl Tryd.underlying37 56 _ HZ.out infoCc w3.heap.size _ [] (s.O.drop s.ak) (cutG 7 oo oc s.ak) (s.O.length - s.ak) (oc - s.ak) rfl rfl HLn.out (OwG.nil _ _) HSr.out (by simp only [List.length_nil, HLn.out]; omega) (by simp only [List.length_nil, HLn.out]; omega) (Nat.le_refl _) ?_
    intro v4 w4 ho4 hf4
    rw [List.nil_append] at ho4
    obtain ⟨co, cp, e4, _⟩ := ho4.slice
    rw [HLn.out] at e4
    subst e4
    have HO4 := hid ho4
    have s4 : Still w3 w4 := hf4.mono (fun k _ e => by cases e)
    have HS4 := hid s4
    have HP4 := hid (HP3.out.still s4)
    have HP04 := hid (HP03.out.still s4)
    obtain ⟨d0, d1, d2, d3, d4, d5, d6, d7, df⟩ := HP4.out.cells
    clear ho4 hf4 s4 HSr HP3 HP03
    have q7 := dset6 HP4.out (s.O.drop s.ak) co (s.O.length - s.ak) cp
    have f7 : Fr (fun k => k = g2) w4 (w4.setCell ⟨g2, 6, none⟩ (.slice co (s.O.length - s.ak) cp)) := Fr.setCell (Fr.refl _ _) _ _ (.inl rfl)
    have z7 := HP04.out.keepD f7 (by have := HGe.out; omega)
    have hob : ∀ k, (Value.slice co (s.O.length - s.ak) cp).ownBlock = some k -> w3.heap.size <= k := fun k hk => (HO4.out.block hk).1
    have hsz3 : g2 < w3.heap.size /\ g < w3.heap.size := by
     have h1 := HG3.out
     have h2 := HGe.out
     omega
    have o7 := HO4.out.keep f7 (fun k hk e => by have := hob k e; omega)
    obtain ⟨W7, eW7⟩ : ∃ W, w4.setCell ⟨g2, 6, none⟩ (.slice co (s.O.length - s.ak) cp) = W := ⟨_, rfl⟩
    rw [eW7] at q7 f7 z7 o7
    obtain ⟨e0, e1, e2, e3, e4, e5, e6, e7, ef⟩ := q7.cells
    obtain ⟨i0, i1, i2, i3, i4, i5, i6, i7, iF⟩ := z7.cells
    obtain ⟨X, eX⟩ : ∃ X : Dg, (⟨(turT s c).kd, (turT s c).ss, (turT s c).fr, (turT s c).to, (turT s c).mrk, (turT s c).fi, s.O.drop s.ak, (turT s c).ak⟩ : Dg) = X := ⟨_, rfl⟩
    have HX : Hid (turD s _ = X) := hid (by rw [HD.out, <- eX]; rfl)
    rw [eX] at q7
    have HZ8 := hid (z7.set X co (s.O.length - s.ak) cp)
    have f8 : Fr (fun k => k = g) W7 (setDg W7 g X co (s.O.length - s.ak) cp) := setDg_fr (Fr.refl _ _) _ _ _ _ _ (.inl rfl)
    have HO8 := hid ((o7.keep f8 (fun k hk e => by have := hob k e; omega)).less (B' := w.heap.size) (by have := HS.out.size; have := HS3.out.size; omega))
    have HS8 : Hid (Still w (setDg W7 g X co (s.O.length - s.ak) cp)) := hid (by
     have s7 : Still w W7 := Fr.trans ((HS.out.trans HS3.out).trans HS4.out) f7 (fun k hk e => by have := HG.out; have := HGe.out; omega)
     exact setDg_fr s7 _ _ _ _ _ (.inr (by have := HG.out; omega)))
    subst eX
    clear q7 f7 z7 hob o7 f8 HP4 HP04 HO4)
   (try simp only [Exit.inBlock, Exit.then])
   refine bodyPost_ret (HZ8.out.res rfl _ rfl) rfl ?_
   exact ⟨co, cp, by rw [HX.out], by have := HO8.out; rw [HG.out] at this; exact this, HS8.out⟩
end Go.Proofs.YtnbofjaecchnaaaDoor
namespace Go.Proofs.YtnbofjaecchnaaaDoor
open Go.RowKit
open Wp Vp Lp
set_option maxRecDepth 100000
set_option linter.unusedVariables false
set_option linter.unusedSimpArgs false
set_option maxHeartbeats 8000000 in
theorem rlay_any (q : Nat) (oo : Option Addr) (oc : Nat) (go : Option Addr) (gc B : Nat) (s : Ln) (c : Cc) (hO : s.O.length <= 1000000000000) (hal : s.ak <= s.O.length) (w : World) (ht : OTab w) (h : Ydl w B q oo oc go gc s) : Calls Tryd.prog 17 #[.pointer (some ⟨q, 0, none⟩), kmv c] w fun e w' => ∃ oo' oc', e = .returned (.int .i64 (layE s c)) /\ Ydl w' B q oo' oc' go gc (layS s c) /\ Fr (fun k => k = q \/ ∃ a, oo = some a /\ a.block = k) w w' /\ ∀ a, oo' = some a -> (∃ b, oo = some b /\ b.block = a.block) \/ w.heap.size <= a.block := by
 have A0 := Still.alloc w (.cells (kmc c) 36)
 have p0 := newCc_b w c
 have l0 := h.still A0
 obtain ⟨g, eg⟩ : ∃ g, w.heap.size = g := ⟨_, rfl⟩
 unfold newCc at p0
 have HC := hid (rchk_any c.v c.a c.b c.c _ (ht.still A0))
 obtain ⟨W, eW⟩ : ∃ W, w.alloc (.cells (kmc c) 36) = W := ⟨_, rfl⟩
 rw [eW] at A0 p0 l0 HC
 rw [eg] at p0
 obtain ⟨d0, d1, d2, d3, d4, d5, d6, df⟩ := p0.cells
 have HS := hid A0
 have HL := hid l0
 have HP := hid p0
 have HOk : Hid (okL s.se s.O.length c = ((c.pe == s.se) && ((c.sq == (s.O.length : Int) + 1) && (decide (1 <= c.fr) && (decide (c.fr <= 1099511627776) && (chkO c.v c.a c.b c.c == 0)))))) := hid rfl
 have HEe : Hid (layE s c = if okL s.se s.O.length c = true then (if 336 <= s.O.length - s.ak then 2 else 0) else 1) := hid rfl
 have HEs : Hid (layS s c = if layE s c = 0 then putO s c else s) := hid rfl
 have hw : IntKind.i64.wrap ((s.O.length : Int) + 1) = (s.O.length : Int) + 1 := wr64 (by omega) (by omega)
 have hw2 : IntKind.i64.wrap ((s.O.length : Int) - (s.ak : Int)) = ((s.O.length - s.ak : Nat) : Int) := by rw [show (s.O.length : Int) - (s.ak : Int) = ((s.O.length - s.ak : Nat) : Int) by omega]; exact wr64 (by omega) (by omega)
 obtain ⟨r, er⟩ : ∃ r, chkO c.v c.a c.b c.c = r := ⟨_, rfl⟩
 rw [er] at HC HOk
 clear er A0 p0 l0 h
 cases b0 : (c.pe == s.se) with
 | false =>
  have y0 : (c.pe != s.se) = true := by rw [bne, b0]; rfl
  go_enter Tryd.func17, Tryd.ntmps17
  go_wp2_with fail
  refine HC.out.mono ?_
  rintro e w1 ⟨he, h1⟩
  rw [he]
  have HS1 := hid h1
  clear he h1 HC d0 d1 d2 d3 d4 d5 d6 df eW
  obtain ⟨d0, d1, d2, d3, d4, d5, d6, df⟩ := (HP.out.still HS1.out).cells
  obtain ⟨c0, c1, c2, c3, c4, c5, c6, c7, cf⟩ := (HL.out.still HS1.out).cells
  have q0 := Cl.cell d0
  have q1 := Cl.cell d1
  have q2 := Cl.cell d2
  have r1 := Cl.cell c1
  have r3 := Cl.cell c3
  have hne := Aft.here w1
  clear d0 d1 d2 d3 d4 d5 d6 df c0 c1 c2 c3 c4 c5 c6 c7 cf
  go_wp2_with fail
  refine region_all (by kernel_rfl) (by kernel_rfl) ?_
  repeat (go_big_quiet_step (rfl))
  refine wpQuiet_nil ?_
  intro w2 h2
  have HS2 := hid (HS1.out.trans h2)
  clear h2 q0 q1 q2 r1 r3 hne
  go_wp2_with fail
  go_ret
  have HE1 : layE s c = 1 := by rw [HEe.out, HOk.out]; simp [b0]
  exact ⟨oo, oc, by rw [HE1]; rfl, by rw [HEs.out, if_neg (by rw [HE1]; decide)]; exact HL.out.still HS2.out, Still.to (HS.out.trans HS2.out), fun a ha => .inl ⟨a, ha, rfl⟩⟩
 | true =>
  have y0 : (c.pe != s.se) = false := by rw [bne, b0]; rfl
  cases b1 : (c.sq == (s.O.length : Int) + 1) with
  | false =>
   have y1 : (c.sq != (s.O.length : Int) + 1) = true := by rw [bne, b1]; rfl
   go_enter Tryd.func17, Tryd.ntmps17
   go_wp2_with fail
   refine HC.out.mono ?_
   rintro e w1 ⟨he, h1⟩
   rw [he]
   have HS1 := hid h1
   clear he h1 HC d0 d1 d2 d3 d4 d5 d6 df eW
   obtain ⟨d0, d1, d2, d3, d4, d5, d6, df⟩ := (HP.out.still HS1.out).cells
   obtain ⟨c0, c1, c2, c3, c4, c5, c6, c7, cf⟩ := (HL.out.still HS1.out).cells
   have q0 := Cl.cell d0
   have q1 := Cl.cell d1
   have q2 := Cl.cell d2
   have r1 := Cl.cell c1
   have r3 := Cl.cell c3
   have hne := Aft.here w1
   clear d0 d1 d2 d3 d4 d5 d6 df c0 c1 c2 c3 c4 c5 c6 c7 cf
   go_wp2_with fail
   refine region_all (by kernel_rfl) (by kernel_rfl) ?_
   repeat (go_big_quiet_step (rfl))
   refine wpQuiet_nil ?_
   intro w2 h2
   have HS2 := hid (HS1.out.trans h2)
   clear h2 q0 q1 q2 r1 r3 hne
   go_wp2_with fail
   go_ret
   have HE1 : layE s c = 1 := by rw [HEe.out, HOk.out]; simp [b0, b1]
   exact ⟨oo, oc, by rw [HE1]; rfl, by rw [HEs.out, if_neg (by rw [HE1]; decide)]; exact HL.out.still HS2.out, Still.to (HS.out.trans HS2.out), fun a ha => .inl ⟨a, ha, rfl⟩⟩
  | true =>
   have y1 : (c.sq != (s.O.length : Int) + 1) = false := by rw [bne, b1]; rfl
   by_cases b2 : c.fr < 1
   ·have e2 : decide (c.fr < 1) = true := by simpa using b2
    have f2 : decide (1 <= c.fr) = false := by simp; omega
    go_enter Tryd.func17, Tryd.ntmps17
    go_wp2_with fail
    refine HC.out.mono ?_
    rintro e w1 ⟨he, h1⟩
    rw [he]
    have HS1 := hid h1
    clear he h1 HC d0 d1 d2 d3 d4 d5 d6 df eW
    obtain ⟨d0, d1, d2, d3, d4, d5, d6, df⟩ := (HP.out.still HS1.out).cells
    obtain ⟨c0, c1, c2, c3, c4, c5, c6, c7, cf⟩ := (HL.out.still HS1.out).cells
    have q0 := Cl.cell d0
    have q1 := Cl.cell d1
    have q2 := Cl.cell d2
    have r1 := Cl.cell c1
    have r3 := Cl.cell c3
    have hne := Aft.here w1
    clear d0 d1 d2 d3 d4 d5 d6 df c0 c1 c2 c3 c4 c5 c6 c7 cf
    go_wp2_with fail
    refine region_all (by kernel_rfl) (by kernel_rfl) ?_
    repeat (go_big_quiet_step (rfl))
    refine wpQuiet_nil ?_
    intro w2 h2
    have HS2 := hid (HS1.out.trans h2)
    clear h2 q0 q1 q2 r1 r3 hne
    go_wp2_with fail
    go_ret
    have HE1 : layE s c = 1 := by rw [HEe.out, HOk.out]; simp [b0, b1, f2]
    exact ⟨oo, oc, by rw [HE1]; rfl, by rw [HEs.out, if_neg (by rw [HE1]; decide)]; exact HL.out.still HS2.out, Still.to (HS.out.trans HS2.out), fun a ha => .inl ⟨a, ha, rfl⟩⟩
   ·have e2 : decide (c.fr < 1) = false := by simpa using b2
    have f2 : decide (1 <= c.fr) = true := by simp; omega
    by_cases b3 : 1099511627776 < c.fr
    ·have e3 : decide (1099511627776 < c.fr) = true := by simpa using b3
     have f3 : decide (c.fr <= 1099511627776) = false := by simp; omega
     go_enter Tryd.func17, Tryd.ntmps17
     go_wp2_with fail
     refine HC.out.mono ?_
     rintro e w1 ⟨he, h1⟩
     rw [he]
     have HS1 := hid h1
     clear he h1 HC d0 d1 d2 d3 d4 d5 d6 df eW
     obtain ⟨d0, d1, d2, d3, d4, d5, d6, df⟩ := (HP.out.still HS1.out).cells
     obtain ⟨c0, c1, c2, c3, c4, c5, c6, c7, cf⟩ := (HL.out.still HS1.out).cells
     have q0 := Cl.cell d0
     have q1 := Cl.cell d1
     have q2 := Cl.cell d2
     have r1 := Cl.cell c1
     have r3 := Cl.cell c3
     have hne := Aft.here w1
     clear d0 d1 d2 d3 d4 d5 d6 df c0 c1 c2 c3 c4 c5 c6 c7 cf
     go_wp2_with fail
     refine region_all (by kernel_rfl) (by kernel_rfl) ?_
     repeat (go_big_quiet_step (rfl))
     refine wpQuiet_nil ?_
     intro w2 h2
     have HS2 := hid (HS1.out.trans h2)
     clear h2 q0 q1 q2 r1 r3 hne
     go_wp2_with fail
     go_ret
     have HE1 : layE s c = 1 := by rw [HEe.out, HOk.out]; simp [b0, b1, f2, f3]
     exact ⟨oo, oc, by rw [HE1]; rfl, by rw [HEs.out, if_neg (by rw [HE1]; decide)]; exact HL.out.still HS2.out, Still.to (HS.out.trans HS2.out), fun a ha => .inl ⟨a, ha, rfl⟩⟩
    ·have e3 : decide (1099511627776 < c.fr) = false := by simpa using b3
     have f3 : decide (c.fr <= 1099511627776) = true := by simp; omega
     cases b4 : (r == 0) with
     | false =>
      have y4 : (r != 0) = true := by rw [bne, b4]; rfl
      go_enter Tryd.func17, Tryd.ntmps17
      go_wp2_with fail
      refine HC.out.mono ?_
      rintro e w1 ⟨he, h1⟩
      rw [he]
      have HS1 := hid h1
      clear he h1 HC d0 d1 d2 d3 d4 d5 d6 df eW
      obtain ⟨d0, d1, d2, d3, d4, d5, d6, df⟩ := (HP.out.still HS1.out).cells
      obtain ⟨c0, c1, c2, c3, c4, c5, c6, c7, cf⟩ := (HL.out.still HS1.out).cells
      have q0 := Cl.cell d0
      have q1 := Cl.cell d1
      have q2 := Cl.cell d2
      have r1 := Cl.cell c1
      have r3 := Cl.cell c3
      have hne := Aft.here w1
      clear d0 d1 d2 d3 d4 d5 d6 df c0 c1 c2 c3 c4 c5 c6 c7 cf
      go_wp2_with fail
      refine region_all (by kernel_rfl) (by kernel_rfl) ?_
      repeat (go_big_quiet_step (rfl))
      refine wpQuiet_nil ?_
      intro w2 h2
      have HS2 := hid (HS1.out.trans h2)
      clear h2 q0 q1 q2 r1 r3 hne
      go_wp2_with fail
      go_ret
      have HE1 : layE s c = 1 := by rw [HEe.out, HOk.out]; simp [b0, b1, f2, f3, b4]
      exact ⟨oo, oc, by rw [HE1]; rfl, by rw [HEs.out, if_neg (by rw [HE1]; decide)]; exact HL.out.still HS2.out, Still.to (HS.out.trans HS2.out), fun a ha => .inl ⟨a, ha, rfl⟩⟩
     | true =>
      have y4 : (r != 0) = false := by rw [bne, b4]; rfl
      go_enter Tryd.func17, Tryd.ntmps17
      go_wp2_with fail
      refine HC.out.mono ?_
      rintro e w1 ⟨he, h1⟩
      rw [he]
      have HS1 := hid h1
      clear he h1 HC d0 d1 d2 d3 d4 d5 d6 df eW
      obtain ⟨d0, d1, d2, d3, d4, d5, d6, df⟩ := (HP.out.still HS1.out).cells
      obtain ⟨c0, c1, c2, c3, c4, c5, c6, c7, cf⟩ := (HL.out.still HS1.out).cells
      have q0 := Cl.cell d0
      have q1 := Cl.cell d1
      have q2 := Cl.cell d2
      have r1 := Cl.cell c1
      have r3 := Cl.cell c3
      have hne := Aft.here w1
      clear d0 d1 d2 d3 d4 d5 d6 df c0 c1 c2 c3 c4 c5 c6 c7 cf
      go_wp2_with fail
      refine region_all (by kernel_rfl) (by kernel_rfl) ?_
      repeat (go_big_quiet_step (rfl))
      refine wpQuiet_nil ?_
      intro w2 h2
      have HS2 := hid (HS1.out.trans h2)
      clear h2 q0 q1 q2 r1 r3 hne
      have HE0 : Hid (layE s c = if 336 <= s.O.length - s.ak then 2 else 0) := hid (by rw [HEe.out, HOk.out]; simp [b0, b1, f2, f3, b4])
      obtain ⟨c0, c1, c2, c3, c4, c5, c6, c7, cf⟩ := (HL.out.still HS2.out).cells
      have r3 := Cl.cell c3
      have r4 := Cl.cell c4
      have hne := Aft.here w2
      clear c0 c1 c2 c3 c4 c5 c6 c7 cf
      go_wp2_with fail
      refine region_all (by kernel_rfl) (by kernel_rfl) ?_
      repeat (go_big_quiet_step (rfl))
      refine wpQuiet_nil ?_
      intro w3 h3
      have HS3 := hid (HS2.out.trans h3)
      clear h3 r3 r4 hne
      by_cases hf : 336 <= s.O.length - s.ak
      ·have hf' : (336 : Int) <= ((s.O.length - s.ak : Nat) : Int) := by omega
       have HE1 : Hid (layE s c = 2) := hid (by rw [HE0.out, if_pos hf])
       go_wp2_with fail
       go_ret
       exact ⟨oo, oc, by rw [HE1.out]; rfl, by rw [HEs.out, if_neg (by rw [HE1.out]; decide)]; exact HL.out.still HS3.out, Still.to (HS.out.trans HS3.out), fun a ha => .inl ⟨a, ha, rfl⟩⟩
      ·have hf' : ¬ (336 : Int) <= ((s.O.length - s.ak : Nat) : Int) := by omega
       have HE1 : Hid (layE s c = 0) := hid (by rw [HE0.out, if_neg hf])
       have HE2 : Hid (layS s c = putO s c) := hid (by rw [HEs.out, if_pos HE1.out])
       have HL3 := hid (HL.out.still HS3.out)
       have HP3 := hid (HP.out.still HS3.out)
       have HS33 := hid (HS.out.trans HS3.out)
       clear HL HP HS HS1 HS2 HS3
       go_upto_region 6 with fail
       refine region_laid 6 1 (by kernel_rfl) (by kernel_rfl) (by kernel_rfl) ?_
       apply Exists.intro
       refine And.intro ?_ (And.intro ?_ ?_)
       ·intro u hu
        have q0 := Cl.cell (HL3.out.still hu).cells.2.2.2.1
        obtain ⟨n0, n1, n2, n3, n4, n5, n6, _⟩ := (HP3.out.still hu).cells
        have q1 := Cl.cell n0
        have q2 := Cl.cell n1
        have q3 := Cl.cell n2
        have q4 := Cl.cell n3
        have q5 := Cl.cell n4
        have q6 := Cl.cell n5
        have q7 := Cl.cell n6
        have hne := Aft.here u
        simp only [List.take_succ_cons, List.take_zero]
        repeat (go_big_quiet_step (fail))
        exact wpQuiet_nil rfl
       ·intro _ o ho u hu
        obtain rfl := Option.some.inj ho
        exact ⟨_, _, bs_cc rfl rfl u, Still.alloc u _⟩
       intro w5 h5
       simp only [List.drop_succ_cons, List.drop_zero]
       have A4 := Still.alloc w5 (.cells (kmc c) 36)
       have HL4 := hid ((HL3.out.still h5).still A4)
       have HG4 : Hid ((w5.alloc (.cells (kmc c) 36)).heap[w5.heap.size]? = some (.cells (KCc.f c).toArray 36 (0, 0))) := hid (newCc_b w5 c)
       have HS4 := hid ((HS33.out.trans h5).trans A4)
       have HB4 : Hid (B <= (w5.alloc (.cells (kmc c) 36)).heap.size) := hid (by have := HL4.out.lo; have := HL4.out.lt; omega)
       clear h5 A4 HL3 HS33 HP3
       go_wp2_with (
        at_builtin
        refine wpList_appQ KCc _ rfl _ _ _ rfl Tryd.underlying37 56 infoCc B w5.heap.size _ s.O c rfl rfl HL4.out.ow HG4.out (by omega) (by omega) HB4.out ?_
        intro v' w' ho' hf5 hb5
        obtain ⟨oo', oc', ev, _⟩ := ho'.slice
        rw [List.length_append, List.length_singleton] at ev
        subst ev
        have hqo : ∀ k, (Value.slice oo s.O.length oc).ownBlock = some k -> k ≠ q := fun k hk e => by obtain ⟨a, ha, e2⟩ := own_some.1 hk; exact (HL4.out.ob a ha).2.2 (by omega)
        have hb' := hf5.kept HL4.out.bk (fun e => hqo q e rfl)
        have hg' := HL4.out.gw.keep hf5 (fun k hk e => by
         obtain ⟨a, ha, e2⟩ := own_some.1 hk
         obtain ⟨b, hb, e3⟩ := own_some.1 e
         exact HL4.out.ne a b ha hb (by omega))
        have HBl : Hid (∀ a, oo' = some a -> (∃ b, oo = some b /\ b.block = a.block) \/ w.heap.size <= a.block) := hid (fun a ha => by
         rcases hb5 a.block (own_some.2 ⟨a, ha, rfl⟩) with e | e
         ·obtain ⟨b, hb, e2⟩ := own_some.1 e
          exact .inl ⟨b, hb, e2⟩
         ·exact .inr (Nat.le_trans HS4.out.size e))
        have HNe : Hid (∀ a b, oo' = some a -> go = some b -> a.block ≠ b.block) := hid (fun a b ha hb => by
         rcases hb5 a.block (own_some.2 ⟨a, ha, rfl⟩) with e | e
         ·obtain ⟨x, hx, e2⟩ := own_some.1 e
          have := HL4.out.ne x b hx hb
          omega
         ·have e' : (w5.alloc (.cells (kmc c) 36)).heap.size <= a.block := e
          have := (HL4.out.gb b hb).2.1
          omega)
        have HF5 : Hid (Fr (fun k => ∃ a, oo = some a /\ a.block = k) w w') := hid (Fr.trans (Still.to HS4.out) (hf5.mono (fun k _ e => own_some.1 e)) (fun _ _ e => e))
        have HO5 := hid ho'
        have HB5 := hid hb'
        have HG5 := hid hg'
        have e3 : w'.cell? ⟨q, 3, none⟩ = some (.slice oo s.O.length oc) := by rw [cell_of_row _ _ _ _ _ _ hb']; rfl
        have ef := fun o => frozen_of_row w' q o _ _ hb'
        have HLo := hid HL4.out.lo
        clear ho' hf5 hb5 hb' hg' hqo HL4 HG4 HS4 HB4)
       refine ⟨rfl, ?_⟩
       have HY : Hid (Ydl (w'.setCell ⟨q, 3, none⟩ (.slice oo' (s.O.length + 1) oc')) B q oo' oc' go gc (putO s c)) := hid (by
        have f1 : Fr (fun k => k = q) w' (w'.setCell ⟨q, 3, none⟩ (.slice oo' (s.O.length + 1) oc')) := Fr.setCell (Fr.refl _ _) _ _ (.inl rfl)
        have b1 := heap_setCell_same w' q 3 _ _ (.slice oo' (s.O.length + 1) oc') HB5.out
        have e1 : (putO s c).O.length = s.O.length + 1 := by simp [putO]
        refine ⟨b1.trans ?_, ?_, ?_, HLo.out, HNe.out⟩
        ·show _ = some (Obj.cells (ydc (putO s c) oo' oc' go gc) _ _)
         unfold ydc
         rw [e1]
         rfl
        ·rw [e1]
         refine HO5.out.keep f1 (fun k hk e => ?_)
         subst hk
         obtain ⟨cur, hc⟩ := ow_ty HO5.out e
         exact ty_ne hc HB5.out (by decide) rfl
        ·refine HG5.out.keep f1 (fun k hk e => ?_)
         subst hk
         obtain ⟨cur, hc⟩ := ow_ty HG5.out e
         exact ty_ne hc HB5.out (by decide) rfl)
       go_wp2_with fail
       (try simp only [Exit.inBlock, Exit.then])
       go_ret
       exact ⟨oo', oc', by rw [HE1.out]; rfl, by rw [HE2.out]; exact HY.out, Fr.setCell (HF5.out.mono (fun k _ e => .inr e)) _ _ (.inl (.inl rfl)), HBl.out⟩
end Go.Proofs.YtnbofjaecchnaaaDoor
namespace Go.Proofs.YtnbofjaecchnaaaDoor
open Go.RowKit
open Wp Vp Lp
set_option maxRecDepth 100000
set_option linter.unusedVariables false
set_option linter.unusedSimpArgs false
theorem onN_le (L : List Cc) (f : Int) : onN L f <= L.length := List.countP_le_length
set_option maxHeartbeats 2000000 in
theorem ron_any (ao : Option Addr) (n cap : Nat) (L : List Cc) (f : Int) (w : World) (hr : RdG KCc w ao n L) : Calls Tryd.prog 42 #[.slice ao n cap, .int .i64 f] w fun e w' => e = .returned (.int .i64 ((onN L f : Nat) : Int)) /\ w' = w := by
 have HR := hid hr
 have HN := hid hr.1
 have h48 := hr.2.1
 clear hr
 go_enter Tryd.func42, Tryd.ntmps42
 go_wp2_with fail
 go_loopw [5, 6] (fun u5 u6 wr => ∃ i k : Nat, i <= n /\ k <= i /\ u6 = .int .i64 (i : Int) /\ u5 = .int .i64 (k : Int) /\ Hid (k = onN (L.take i) f) /\ Hid (wr = w)) (fun _ u6 _ => n - (intOf u6).toNat)
 case atStart => exact ⟨0, 0, by omega, by omega, rfl, rfl, hid (by simp [onN]), hid rfl⟩
 case round =>
  obtain ⟨i, k, hi, hk, rfl, rfl, HK, HW⟩ := hrel
  obtain rfl := HW.out
  by_cases hin : i < n
  ·have hlt : (i : Int) < (n : Int) := by omega
   obtain ⟨B, o, eco⟩ := HR.out.at (by omega)
   subst eco
   obtain ⟨k0, k1, k2, k3, k4, k5, k6⟩ := rdCc HR.out hin
   have ht := (take_one (L := L) (i := i) (by rw [HN.out]; exact hin)).1
   obtain ⟨x, ex⟩ : ∃ x, cc L i = x := ⟨_, rfl⟩
   rw [ex] at k0 ht
   have HT : Hid (onN (L.take (i + 1)) f = onN (L.take i) f + if x.fr = f then 1 else 0) := hid (by rw [ht, onN_snoc])
   clear ex ht k1 k2 k3 k4 k5 k6
   have hw : IntKind.i64.wrap ((k : Int) + 1) = (k : Int) + 1 := wr64 (by omega) (by omega)
   cases hb : (x.fr == f) with
   | true =>
    have HX : Hid (x.fr = f) := hid (by simpa using hb)
    go_wp2_with fail
    go_roundw
    case rel => exact ⟨i + 1, k + 1, by omega, by omega, by go_num, by go_num, hid (by rw [HT.out, if_pos HX.out, HK.out]), hid (by trivial)⟩
    case measure => simp [intOf]; omega
   | false =>
    have HX : Hid (x.fr ≠ f) := hid (by simpa using hb)
    go_wp2_with fail
    go_roundw
    case rel => exact ⟨i + 1, k, by omega, by omega, by go_num, rfl, hid (by rw [HT.out, if_neg HX.out, HK.out]; rfl), hid (by trivial)⟩
    case measure => simp [intOf]; omega
  ·have hlt : ¬ (i : Int) < (n : Int) := by omega
   have HE : Hid (k = onN L f) := hid (by rw [HK.out, List.take_of_length_le (by rw [HN.out]; omega)])
   go_wp2_with fail
   go_ret
   exact ⟨by rw [HE.out]; rfl, rfl⟩
theorem drop_cc (L : List Cc) (t j : Nat) : cc (L.drop t) j = cc L (t + j) := by
 unfold cc
 rw [List.getD_eq_getElem?_getD, List.getElem?_drop, <- List.getD_eq_getElem?_getD]
theorem latB_yes {s : Ln} (hf : Fits s) {d : Dg} (h0 : 0 <= d.ak) {j : Nat} (h1 : s.ak <= j) (h2 : j < s.O.length) (h3 : d.ak < (cc s.O j).sq) (h4 : (cc s.O j).fr <= d.mrk - 48) : latB s d = true := by
 have hs := (okL_iff.1 (hf.o j h2)).2.1
 unfold latB
 refine List.any_eq_true.2 ⟨cc s.O j, ?_, by simpa using h4⟩
 rw [cc_at h2]
 refine List.mem_drop_iff_getElem.2 ⟨j - max s.ak d.ak.toNat, by omega, ?_⟩
 congr 1
 omega
theorem latB_no {s : Ln} (hf : Fits s) {d : Dg} (h0 : 0 <= d.ak) (h : ∀ j, s.ak <= j -> j < s.O.length -> ¬ (d.ak < (cc s.O j).sq /\ (cc s.O j).fr <= d.mrk - 48)) : latB s d = false := by
 unfold latB
 refine List.any_eq_false.2 (fun c hc => ?_)
 obtain ⟨i, hi, rfl⟩ := mem_cc hc
 rw [List.length_drop] at hi
 rw [drop_cc]
 have hs := (okL_iff.1 (hf.o (max s.ak d.ak.toNat + i) (by omega))).2.1
 have := h (max s.ak d.ak.toNat + i) (by omega) (by omega)
 simp only [decide_eq_true_eq]
 intro e
 exact this ⟨by omega, e⟩
end Go.Proofs.YtnbofjaecchnaaaDoor
namespace Go.Proofs.YtnbofjaecchnaaaDoor
open Go.RowKit
open Wp Vp Lp
set_option maxRecDepth 100000
set_option linter.unusedVariables false
set_option linter.unusedSimpArgs false
set_option maxHeartbeats 16000000 in
theorem rbrk_any (q : Nat) (oo : Option Addr) (oc : Nat) (go : Option Addr) (gc B : Nat) (s : Ln) (d : Dg) (co : Option Addr) (cn cp : Nat) (lead : Int) (hO : s.O.length <= 1000000000000) (hf : Fits s) (hok : okD d = true) (hgap : d.kd = 1 -> d.fi <= (s.G.length : Int) + 1) (hn : d.cs.length = cn) (w : World) (h : Ydl w B q oo oc go gc s) (hr : RdG KCc w co cn d.cs) : Calls Tryd.prog 28 #[.pointer (some ⟨q, 0, none⟩), dgv d co cn cp, .int .i64 lead] w fun e w' => e = .returned (.bool (brkB s d lead)) /\ Still w w' := by
 have A0 := Still.alloc w (.cells (dgc d co cn cp) 39)
 have p0 := newDg_b w d co cn cp
 have l0 := h.still A0
 have r0 := hr.still A0
 obtain ⟨g, eg⟩ : ∃ g, w.heap.size = g := ⟨_, rfl⟩
 unfold newDg at p0
 obtain ⟨W, eW⟩ : ∃ W, w.alloc (.cells (dgc d co cn cp) 39) = W := ⟨_, rfl⟩
 rw [eW] at A0 p0 l0 r0
 rw [eg] at p0
 have HS := hid A0
 have HL := hid l0
 have HP := hid p0
 have HR := hid r0
 have HN := hid hn
 have HF := hid hf
 have HOk := hid hok
 have q7 := Cl.cell p0.cells.2.2.2.2.2.2.2.1
 have r3 := Cl.cell l0.cells.2.2.2.1
 have hne := Aft.here W
 have HE : Hid (brkB s d lead = (decide ((s.O.length : Int) < d.ak) || ((d.kd == 1) && (decide (lead < d.mrk - 48) || (latB s d || misB s.mq d.mrk s.G (frs s d)))))) := hid rfl
 have hpt := okD_parts hok
 clear A0 p0 l0 r0 h hr hok hf
 by_cases b1 : (s.O.length : Int) < d.ak
 ·have e1 : decide ((s.O.length : Int) < d.ak) = true := by simpa using b1
  go_enter Tryd.func28, Tryd.ntmps28
  go_wp2_with fail
  refine region_all (by kernel_rfl) (by kernel_rfl) ?_
  repeat (go_big_quiet_step (rfl))
  refine wpQuiet_nil ?_
  intro w1 h1
  have HS1 := hid h1
  clear h1 q7 r3 hne eW
  obtain ⟨d0, d1, d2, d3, d4, d5, d6, d7, df⟩ := (HP.out.still HS1.out).cells
  obtain ⟨c0, c1, c2, c3, c4, c5, c6, c7, cf⟩ := (HL.out.still HS1.out).cells
  go_wp2_with fail
  go_ret
  exact ⟨by rw [HE.out, e1]; rfl, HS.out.trans HS1.out⟩
 ·have e1 : decide ((s.O.length : Int) < d.ak) = false := by simpa using b1
  cases b2 : (d.kd == 1) with
  | false =>
   have y2 : (d.kd != 1) = true := by rw [bne, b2]; rfl
   go_enter Tryd.func28, Tryd.ntmps28
   go_wp2_with fail
   refine region_all (by kernel_rfl) (by kernel_rfl) ?_
   repeat (go_big_quiet_step (rfl))
   refine wpQuiet_nil ?_
   intro w1 h1
   have HS1 := hid h1
   clear h1 q7 r3 hne eW
   obtain ⟨d0, d1, d2, d3, d4, d5, d6, d7, df⟩ := (HP.out.still HS1.out).cells
   obtain ⟨c0, c1, c2, c3, c4, c5, c6, c7, cf⟩ := (HL.out.still HS1.out).cells
   go_wp2_with fail
   go_ret
   exact ⟨by rw [HE.out, e1, b2]; rfl, HS.out.trans HS1.out⟩
  | true =>
   have y2 : (d.kd != 1) = false := by rw [bne, b2]; rfl
   have hq : (0 <= d.mrk /\ d.mrk <= 1099511627776) /\ (1 <= d.fi /\ d.fi <= 1099511627776) /\ d.cs.length <= 336 := by
    have b2' : d.kd = 1 := by simpa using b2
    rcases hpt.2.2 with ⟨_, q1, q2, q3, _⟩ | ⟨qq, _⟩
    ·exact ⟨q1, q2, q3⟩
    ·omega
   have hfi := hgap (by simpa using b2)
   have hak := hpt.2.1
   have hw48 : IntKind.i64.wrap (d.mrk - 48) = d.mrk - 48 := wr64 (by omega) (by omega)
   have hw16 : IntKind.i64.wrap (d.mrk + 16) = d.mrk + 16 := wr64 (by omega) (by omega)
   have hcn : cn <= 336 := by omega
   clear hpt hgap hn
   by_cases b3 : lead < d.mrk - 48
   ·have e3 : decide (lead < d.mrk - 48) = true := by simpa using b3
    go_enter Tryd.func28, Tryd.ntmps28
    go_wp2_with fail
    refine region_all (by kernel_rfl) (by kernel_rfl) ?_
    repeat (go_big_quiet_step (rfl))
    refine wpQuiet_nil ?_
    intro w1 h1
    have HS1 := hid h1
    clear h1 q7 r3 hne eW
    obtain ⟨d0, d1, d2, d3, d4, d5, d6, d7, df⟩ := (HP.out.still HS1.out).cells
    obtain ⟨c0, c1, c2, c3, c4, c5, c6, c7, cf⟩ := (HL.out.still HS1.out).cells
    go_wp2_with fail
    go_ret
    exact ⟨by rw [HE.out, e1, b2, e3]; rfl, HS.out.trans HS1.out⟩
   ·have e3 : decide (lead < d.mrk - 48) = false := by simpa using b3
    have HE3 : Hid (brkB s d lead = (latB s d || misB s.mq d.mrk s.G (frs s d))) := hid (by rw [HE.out, e1, b2, e3]; rfl)
    have hal := HF.out.a1
    go_enter Tryd.func28, Tryd.ntmps28
    go_wp2_with fail
    refine region_all (by kernel_rfl) (by kernel_rfl) ?_
    repeat (go_big_quiet_step (rfl))
    refine wpQuiet_nil ?_
    intro w1 h1
    have HS1 := hid h1
    clear h1 q7 r3 hne eW
    obtain ⟨d0, d1, d2, d3, d4, d5, d6, d7, df⟩ := (HP.out.still HS1.out).cells
    obtain ⟨c0, c1, c2, c3, c4, c5, c6, c7, cf⟩ := (HL.out.still HS1.out).cells
    go_wp2_with fail
    clear d0 d1 d2 d3 d4 d5 d6 d7 df c0 c1 c2 c3 c4 c5 c6 c7 cf
    go_loopw [7] (fun u7 wr => ∃ i : Nat, s.ak <= i /\ i <= s.O.length /\ u7 = .int .i64 (i : Int) /\ Hid (∀ j, s.ak <= j -> j < i -> ¬ (d.ak < (cc s.O j).sq /\ (cc s.O j).fr <= d.mrk - 48)) /\ Hid (Still W wr)) (fun u7 _ => s.O.length - (intOf u7).toNat)
    case atStart => exact ⟨s.ak, by omega, by omega, rfl, hid (fun j h1 h2 => by omega), HS1⟩
    case round =>
     obtain ⟨i, hi0, hi, rfl, HI, HT⟩ := hrel
     have hx3 := (HL.out.still HT.out).cells.2.2.2.1
     by_cases hin : i < s.O.length
     ·have hlt : (i : Int) < (s.O.length : Int) := by omega
      obtain ⟨go8, cap8, e8, _, _⟩ := (HL.out.still HT.out).ow.head (by omega)
      have ho8 := (HL.out.still HT.out).ow
      injection e8 with e81 e82 e83
      subst e81
      clear e82 e83
      obtain ⟨x0, x1, x2, x3, x4, x5, x6, xf⟩ := owCc ho8 (i := i) hin
      obtain ⟨c0, c1, c2, c3, c4, c5, c6, c7, cf⟩ := (HL.out.still HT.out).cells
      obtain ⟨d0, d1, d2, d3, d4, d5, d6, d7, df⟩ := (HP.out.still HT.out).cells
      have HY : Hid (d.ak < (cc s.O i).sq -> (cc s.O i).fr <= d.mrk - 48 -> latB s d = true) := hid (fun h3 h4 => latB_yes HF.out hak.1 hi0 hin h3 h4)
      have HNo : Hid (¬ (d.ak < (cc s.O i).sq /\ (cc s.O i).fr <= d.mrk - 48) -> ∀ j, s.ak <= j -> j < i + 1 -> ¬ (d.ak < (cc s.O j).sq /\ (cc s.O j).fr <= d.mrk - 48)) := hid (fun h3 j h1 h2 => by
       by_cases e : j = i
       ·rw [e]; exact h3
       ·exact HI.out j h1 (by omega))
      obtain ⟨x, ex⟩ : ∃ x, cc s.O i = x := ⟨_, rfl⟩
      rw [ex] at x0 x2 HY HNo
      have q0 := Cl.cell x0
      have q2 := Cl.cell x2
      have r3 := Cl.cell c3
      have p4 := Cl.cell d4
      have p7 := Cl.cell d7
      have hne := Aft.here wr
      clear ex ho8 x1 x3 x4 x5 x6 xf c0 c1 c2 c4 c5 c6 c7 cf d0 d1 d2 d3 d5 d6 df x0 x2 d4 d7
      by_cases k1 : d.ak < x.sq
      ·have k1' : decide (d.ak < x.sq) = true := by simpa using k1
       by_cases k2 : x.fr <= d.mrk - 48
       ·have k2' : decide (x.fr <= d.mrk - 48) = true := by simpa using k2
        have HLt := hid (HY.out k1 k2)
        go_wp2_with fail
        refine region_all (by kernel_rfl) (by kernel_rfl) ?_
        repeat (go_big_quiet_step (rfl))
        refine wpQuiet_nil ?_
        intro w3 h3
        have HS3 := hid (HT.out.trans h3)
        clear h3 q0 q2 r3 p4 p7 hne c3
        go_wp2_with fail
        go_ret
        exact ⟨by rw [HE3.out, HLt.out]; rfl, HS.out.trans HS3.out⟩
       ·have k2' : decide (x.fr <= d.mrk - 48) = false := by simpa using k2
        have HNn := hid (HNo.out (fun e => k2 e.2))
        go_wp2_with fail
        refine region_all (by kernel_rfl) (by kernel_rfl) ?_
        repeat (go_big_quiet_step (rfl))
        refine wpQuiet_nil ?_
        intro w3 h3
        have HS3 := hid (HT.out.trans h3)
        clear h3 q0 q2 r3 p4 p7 hne c3
        go_wp2_with fail
        go_roundw
        case rel => exact ⟨i + 1, by omega, by omega, by go_num, HNn, HS3⟩
        case measure => simp [intOf]; omega
      ·have k1' : decide (d.ak < x.sq) = false := by simpa using k1
       have HNn := hid (HNo.out (fun e => k1 e.1))
       go_wp2_with fail
       refine region_all (by kernel_rfl) (by kernel_rfl) ?_
       repeat (go_big_quiet_step (rfl))
       refine wpQuiet_nil ?_
       intro w3 h3
       have HS3 := hid (HT.out.trans h3)
       clear h3 q0 q2 r3 p4 p7 hne c3
       go_wp2_with fail
       go_roundw
       case rel => exact ⟨i + 1, by omega, by omega, by go_num, HNn, HS3⟩
       case measure => simp [intOf]; omega
     ·have hlt : ¬ (i : Int) < (s.O.length : Int) := by omega
      have HE4 : Hid (brkB s d lead = misB s.mq d.mrk s.G (frs s d)) := hid (by rw [HE3.out, latB_no HF.out hak.1 (fun j h1 h2 => HI.out j h1 (by omega))]; rfl)
      have hx5 := (HL.out.still HT.out).cells.2.2.2.2.2.1
      have HSr := hid (SrG.own (HL.out.still HT.out).gw (by have := HF.out.g; omega))
      have hg40 := HF.out.g
      have HZ : Hid ((Value.agg (KCc.f KCc.d).toArray).cells.size = KCc.k) := hid rfl
      go_wp2_with (
       at_builtin
       refine wpList_appMG KCc _ rfl _ _ _ rfl Tryd.underlying37 56 _ HZ.out infoCc wr.heap.size _ [] s.G go s.G.length gc rfl rfl rfl (OwG.nil _ _) HSr.out (by simp only [List.length_nil]; omega) (by simp only [List.length_nil]; omega) (Nat.le_refl _) ?_
       intro v4 w4 ho4 hf4
       rw [List.nil_append] at ho4
       have HO4 : Hid (OwG KCc 36 w4 W.heap.size v4 s.G) := hid (ho4.less (by have := HT.out.size; omega))
       have HS4 : Hid (Still W w4) := hid (HT.out.trans (hf4.mono (fun k _ e => by cases e)))
       obtain ⟨d0, d1, d2, d3, d4, d5, d6, d7, df⟩ := (HP.out.still HS4.out).cells
       clear ho4 hf4)
      have HFl : Hid ((frs s d).length = cn - frI s d) := hid (by rw [frs_frI, List.length_drop, HN.out])
      have HFc : Hid (∀ i, frI s d <= i -> cc (frs s d) (i - frI s d) = cc d.cs i) := hid (fun i hi => by rw [frs_frI, drop_cc]; congr 1; omega)
      have HFi : Hid (∀ i, i < cn -> ((i < frI s d) ↔ d.fi + (i : Int) <= (s.G.length : Int))) := hid (fun i hi => by unfold frI; rw [HN.out]; omega)
      have HSq : Hid (∀ i, i < cn -> (cc d.cs i).sq = d.fi + (i : Int) /\ 1 <= (cc d.cs i).fr /\ (cc d.cs i).fr <= 1099511627776) := hid (fun i hi => by have := okD_cs HOk.out i (by rw [HN.out]; exact hi); exact ⟨this.1, this.2.2.1, this.2.2.2⟩)
      obtain ⟨F, eF⟩ : ∃ F, frs s d = F := ⟨_, rfl⟩
      obtain ⟨f0, ef0⟩ : ∃ f, frI s d = f := ⟨_, rfl⟩
      rw [eF] at HFl HFc HE4
      rw [ef0] at HFl HFc HFi
      clear eF ef0 hx3 hx5 HSr HI
      go_loopw [8, 9, 10] (fun u8 u9 _ wr => ∃ i : Nat, i <= cn /\ u9 = .int .i64 (i : Int) /\ Hid (OwG KCc 36 wr W.heap.size u8 (s.G ++ F.take (i - f0))) /\ Hid (misB s.mq d.mrk s.G F = misB s.mq d.mrk (s.G ++ F.take (i - f0)) (F.drop (i - f0))) /\ Hid (Still W wr)) (fun _ u9 _ _ => cn - (intOf u9).toNat)
      case atStart => exact ⟨0, by omega, rfl, hid (by simpa using HO4.out), hid (by simp), HS4⟩
      case round =>
       clear d0 d1 d2 d3 d4 d5 d6 d7 df HT HS4 HO4
       obtain ⟨i, hi, rfl, HO, HMi, HT⟩ := hrel
       obtain ⟨d0, d1, d2, d3, d4, d5, d6, d7, df⟩ := (HP.out.still HT.out).cells
       by_cases hin : i < cn
       ·have hlt : (i : Int) < (cn : Int) := by omega
        obtain ⟨Bq, oq, eco⟩ := HR.out.at (by omega)
        subst eco
        obtain ⟨k0, k1, k2, k3, k4, k5, k6⟩ := rdCc (HR.out.still HT.out) hin
        have hsq := HSq.out i hin
        have hfi2 := HFi.out i hin
        have HFc2 := hid (HFc.out i)
        obtain ⟨x, ex⟩ : ∃ x, cc d.cs i = x := ⟨_, rfl⟩
        rw [ex] at k0 k1 k2 k3 k4 k5 k6 hsq HFc2
        clear ex
        have A5 := Still.alloc wr (.cells (kmc x) 36)
        have b5 := newCc_b wr x
        unfold newCc at b5
        obtain ⟨W5, eW5⟩ : ∃ V, wr.alloc (.cells (kmc x) 36) = V := ⟨_, rfl⟩
        obtain ⟨g5, eg5⟩ : ∃ g, wr.heap.size = g := ⟨_, rfl⟩
        rw [eW5] at A5 b5
        rw [eg5] at b5
        have HS5 := hid (HT.out.trans A5)
        have HO5 := hid (HO.out.still A5)
        have HB5 := hid b5
        obtain ⟨y0, y1, y2, y3, y4, y5, y6, yf⟩ := b5.cells
        clear A5 b5
        by_cases hsk : i < f0
        ·have hle : x.sq <= (s.G.length : Int) := by have := hfi2.1 hsk; omega
         have hle' : decide (x.sq <= (s.G.length : Int)) = true := by simpa using hle
         have HE0 : Hid (i + 1 - f0 = 0 /\ i - f0 = 0) := hid (by omega)
         clear hsq hfi2
         go_wp2_with fail
         obtain ⟨c0, c1, c2, c3, c4, c5, c6, c7, cf⟩ := (HL.out.still HS5.out).cells
         have r5 := Cl.cell c5
         have q2 := Cl.cell y2
         have hne := Aft.here W5
         clear c0 c1 c2 c3 c4 c5 c6 c7 cf d0 d1 d2 d3 d4 d5 d6 d7 df k0 k1 k2 k3 k4 k5 k6
         refine region_all (by kernel_rfl) (by kernel_rfl) ?_
         repeat (go_big_quiet_step (rfl))
         refine wpQuiet_nil ?_
         intro w6 h6
         have HS6 := hid (HS5.out.trans h6)
         have HO6 := hid (HO5.out.still h6)
         have HB6 := hid (HB5.out.still h6)
         clear h6 r5 q2 hne y0 y1 y2 y3 y4 y5 y6 yf eW5 eg5
         go_wp2_with fail
         go_roundw
         case rel => exact ⟨i + 1, by omega, by go_num, hid (by rw [HE0.out.1]; have := HO6.out; rw [HE0.out.2] at this; exact this), hid (by rw [HE0.out.1]; have := HMi.out; rw [HE0.out.2] at this; exact this), HS6⟩
         case measure => simp [intOf]; omega
        ·have hle : ¬ x.sq <= (s.G.length : Int) := fun e => hsk (hfi2.2 (by omega))
         have hle' : decide (x.sq <= (s.G.length : Int)) = false := by simpa using hle
         obtain ⟨k, ek⟩ : ∃ k, i - f0 = k := ⟨_, rfl⟩
         have HE0 : Hid (i + 1 - f0 = k + 1) := hid (by omega)
         have hkl : k < F.length := by rw [HFl.out]; omega
         have hxk := HFc2.out (by omega)
         rw [ek] at hxk HMi HO5
         have ht1 := take_one (L := F) (i := k) hkl
         rw [hxk] at ht1
         have HTk : Hid (F.take (k + 1) = F.take k ++ [x]) := hid ht1.1
         have HX : Hid (misB s.mq d.mrk (s.G ++ F.take k) (F.drop k) = ((decide (x.fr <= s.mq) || (decide (d.mrk + 16 < x.fr) || decide (3 <= onN (s.G ++ F.take k) x.fr))) || misB s.mq d.mrk (s.G ++ F.take k ++ [x]) (F.drop (k + 1)))) := hid (by rw [ht1.2]; rfl)
         obtain ⟨ao8, cap8, e8, _⟩ := HO5.out.slice
         obtain ⟨n8, en8⟩ : ∃ n, (s.G ++ F.take k).length = n := ⟨_, rfl⟩
         have hn8 : n8 <= 1099511628776 := by rw [<- en8, List.length_append, List.length_take]; omega
         have HLn8 := hid en8
         rw [en8] at e8
         subst e8
         obtain ⟨v, ev⟩ : ∃ v, onN (s.G ++ F.take k) x.fr = v := ⟨_, rfl⟩
         have HV := hid ev
         have hvn : v <= n8 := by rw [<- ev, <- en8]; exact onN_le _ _
         clear ek hxk ht1 en8 hkl hsq hfi2 ev
         by_cases b4 : x.fr <= s.mq
         ·have e4 : decide (x.fr <= s.mq) = true := by simpa using b4
          go_wp2_with fail
          obtain ⟨c0, c1, c2, c3, c4, c5, c6, c7, cf⟩ := (HL.out.still HS5.out).cells
          have r5 := Cl.cell c5
          have q2 := Cl.cell y2
          have hne := Aft.here W5
          clear c0 c1 c2 c3 c4 c5 c6 c7 cf d0 d1 d2 d3 d4 d5 d6 d7 df k0 k1 k2 k3 k4 k5 k6
          refine region_all (by kernel_rfl) (by kernel_rfl) ?_
          repeat (go_big_quiet_step (rfl))
          refine wpQuiet_nil ?_
          intro w6 h6
          have HS6 := hid (HS5.out.trans h6)
          have HO6 := hid (HO5.out.still h6)
          have HB6 := hid (HB5.out.still h6)
          clear h6 r5 q2 hne y0 y1 y2 y3 y4 y5 y6 yf eW5 eg5
          go_wp2_with fail
          obtain ⟨c0, c1, c2, c3, c4, c5, c6, c7, cf⟩ := (HL.out.still HS6.out).cells
          obtain ⟨d0, d1, d2, d3, d4, d5, d6, d7, df⟩ := (HP.out.still HS6.out).cells
          have q0 := Cl.cell HB6.out.cells.1
          have r6 := Cl.cell c6
          have p4 := Cl.cell d4
          have hne := Aft.here w6
          have HOn : Hid (∀ z : Aft w6, Calls Tryd.prog 42 #[.slice ao8 n8 cap8, .int .i64 x.fr] z.u fun e w' => e = .returned (.int .i64 ((onN (s.G ++ F.take k) x.fr : Nat) : Int)) /\ w' = z.u) := hid (fun z => ron_any ao8 n8 cap8 (s.G ++ F.take k) x.fr z.u (by
           have h1 := (HO6.out.still z.s)
           have h2 := HLn8.out
           rw [<- h2] at h1 ⊢
           exact (SrG.own h1 (by rw [h2]; omega)).rd))
          clear c0 c1 c2 c3 c4 c5 c6 c7 cf d0 d1 d2 d3 d4 d5 d6 d7 df
          refine region_all (by kernel_rfl) (by kernel_rfl) ?_
          repeat (go_big_quiet_step ((go_at_call 42; exact Calls.cl_same (HOn.out _))))
          refine wpQuiet_nil ?_
          intro w7 h7
          have HS7 := hid (HS6.out.trans h7)
          have HO7 := hid (HO6.out.still h7)
          have HB7 := hid (HB6.out.still h7)
          clear h7 q0 r6 p4 hne HOn
          go_wp2_with fail
          go_ret
          exact ⟨by rw [HE4.out, HMi.out, HX.out]; simp [e4], HS.out.trans HS7.out⟩
         ·have e4 : decide (x.fr <= s.mq) = false := by simpa using b4
          by_cases b5 : d.mrk + 16 < x.fr
          ·have e5 : decide (d.mrk + 16 < x.fr) = true := by simpa using b5
           go_wp2_with fail
           obtain ⟨c0, c1, c2, c3, c4, c5, c6, c7, cf⟩ := (HL.out.still HS5.out).cells
           have r5 := Cl.cell c5
           have q2 := Cl.cell y2
           have hne := Aft.here W5
           clear c0 c1 c2 c3 c4 c5 c6 c7 cf d0 d1 d2 d3 d4 d5 d6 d7 df k0 k1 k2 k3 k4 k5 k6
           refine region_all (by kernel_rfl) (by kernel_rfl) ?_
           repeat (go_big_quiet_step (rfl))
           refine wpQuiet_nil ?_
           intro w6 h6
           have HS6 := hid (HS5.out.trans h6)
           have HO6 := hid (HO5.out.still h6)
           have HB6 := hid (HB5.out.still h6)
           clear h6 r5 q2 hne y0 y1 y2 y3 y4 y5 y6 yf eW5 eg5
           go_wp2_with fail
           obtain ⟨c0, c1, c2, c3, c4, c5, c6, c7, cf⟩ := (HL.out.still HS6.out).cells
           obtain ⟨d0, d1, d2, d3, d4, d5, d6, d7, df⟩ := (HP.out.still HS6.out).cells
           have q0 := Cl.cell HB6.out.cells.1
           have r6 := Cl.cell c6
           have p4 := Cl.cell d4
           have hne := Aft.here w6
           have HOn : Hid (∀ z : Aft w6, Calls Tryd.prog 42 #[.slice ao8 n8 cap8, .int .i64 x.fr] z.u fun e w' => e = .returned (.int .i64 ((onN (s.G ++ F.take k) x.fr : Nat) : Int)) /\ w' = z.u) := hid (fun z => ron_any ao8 n8 cap8 (s.G ++ F.take k) x.fr z.u (by
            have h1 := (HO6.out.still z.s)
            have h2 := HLn8.out
            rw [<- h2] at h1 ⊢
            exact (SrG.own h1 (by rw [h2]; omega)).rd))
           clear c0 c1 c2 c3 c4 c5 c6 c7 cf d0 d1 d2 d3 d4 d5 d6 d7 df
           refine region_all (by kernel_rfl) (by kernel_rfl) ?_
           repeat (go_big_quiet_step ((go_at_call 42; exact Calls.cl_same (HOn.out _))))
           refine wpQuiet_nil ?_
           intro w7 h7
           have HS7 := hid (HS6.out.trans h7)
           have HO7 := hid (HO6.out.still h7)
           have HB7 := hid (HB6.out.still h7)
           clear h7 q0 r6 p4 hne HOn
           go_wp2_with fail
           go_ret
           exact ⟨by rw [HE4.out, HMi.out, HX.out]; simp [e4, e5], HS.out.trans HS7.out⟩
          ·have e5 : decide (d.mrk + 16 < x.fr) = false := by simpa using b5
           by_cases b6 : 3 <= v
           ·have b6' : (3 : Int) <= (v : Int) := by omega
            have e6 : decide ((3 : Int) <= (v : Int)) = true := by simpa using b6'
            have HE6 : Hid (decide (3 <= onN (s.G ++ F.take k) x.fr) = true) := hid (by rw [HV.out]; simpa using b6)
            go_wp2_with fail
            obtain ⟨c0, c1, c2, c3, c4, c5, c6, c7, cf⟩ := (HL.out.still HS5.out).cells
            have r5 := Cl.cell c5
            have q2 := Cl.cell y2
            have hne := Aft.here W5
            clear c0 c1 c2 c3 c4 c5 c6 c7 cf d0 d1 d2 d3 d4 d5 d6 d7 df k0 k1 k2 k3 k4 k5 k6
            refine region_all (by kernel_rfl) (by kernel_rfl) ?_
            repeat (go_big_quiet_step (rfl))
            refine wpQuiet_nil ?_
            intro w6 h6
            have HS6 := hid (HS5.out.trans h6)
            have HO6 := hid (HO5.out.still h6)
            have HB6 := hid (HB5.out.still h6)
            clear h6 r5 q2 hne y0 y1 y2 y3 y4 y5 y6 yf eW5 eg5
            go_wp2_with fail
            obtain ⟨c0, c1, c2, c3, c4, c5, c6, c7, cf⟩ := (HL.out.still HS6.out).cells
            obtain ⟨d0, d1, d2, d3, d4, d5, d6, d7, df⟩ := (HP.out.still HS6.out).cells
            have q0 := Cl.cell HB6.out.cells.1
            have r6 := Cl.cell c6
            have p4 := Cl.cell d4
            have hne := Aft.here w6
            have HOn : Hid (∀ z : Aft w6, Calls Tryd.prog 42 #[.slice ao8 n8 cap8, .int .i64 x.fr] z.u fun e w' => e = .returned (.int .i64 (v : Int)) /\ w' = z.u) := hid (fun z => HV.out ▸ ron_any ao8 n8 cap8 (s.G ++ F.take k) x.fr z.u (by
             have h1 := (HO6.out.still z.s)
             have h2 := HLn8.out
             rw [<- h2] at h1 ⊢
             exact (SrG.own h1 (by rw [h2]; omega)).rd))
            clear c0 c1 c2 c3 c4 c5 c6 c7 cf d0 d1 d2 d3 d4 d5 d6 d7 df
            refine region_all (by kernel_rfl) (by kernel_rfl) ?_
            repeat (go_big_quiet_step ((go_at_call 42; exact Calls.cl_same (HOn.out _))))
            refine wpQuiet_nil ?_
            intro w7 h7
            have HS7 := hid (HS6.out.trans h7)
            have HO7 := hid (HO6.out.still h7)
            have HB7 := hid (HB6.out.still h7)
            clear h7 q0 r6 p4 hne HOn
            go_wp2_with fail
            go_ret
            exact ⟨by rw [HE4.out, HMi.out, HX.out]; simp [e4, e5, HE6.out], HS.out.trans HS7.out⟩
           ·have b6' : ¬ (3 : Int) <= (v : Int) := by omega
            have e6 : decide ((3 : Int) <= (v : Int)) = false := by simpa using b6'
            have HE6 : Hid (decide (3 <= onN (s.G ++ F.take k) x.fr) = false) := hid (by rw [HV.out]; simpa using b6)
            go_wp2_with fail
            obtain ⟨c0, c1, c2, c3, c4, c5, c6, c7, cf⟩ := (HL.out.still HS5.out).cells
            have r5 := Cl.cell c5
            have q2 := Cl.cell y2
            have hne := Aft.here W5
            clear c0 c1 c2 c3 c4 c5 c6 c7 cf d0 d1 d2 d3 d4 d5 d6 d7 df k0 k1 k2 k3 k4 k5 k6
            refine region_all (by kernel_rfl) (by kernel_rfl) ?_
            repeat (go_big_quiet_step (rfl))
            refine wpQuiet_nil ?_
            intro w6 h6
            have HS6 := hid (HS5.out.trans h6)
            have HO6 := hid (HO5.out.still h6)
            have HB6 := hid (HB5.out.still h6)
            clear h6 r5 q2 hne y0 y1 y2 y3 y4 y5 y6 yf eW5 eg5
            go_wp2_with fail
            obtain ⟨c0, c1, c2, c3, c4, c5, c6, c7, cf⟩ := (HL.out.still HS6.out).cells
            obtain ⟨d0, d1, d2, d3, d4, d5, d6, d7, df⟩ := (HP.out.still HS6.out).cells
            have q0 := Cl.cell HB6.out.cells.1
            have r6 := Cl.cell c6
            have p4 := Cl.cell d4
            have hne := Aft.here w6
            have HOn : Hid (∀ z : Aft w6, Calls Tryd.prog 42 #[.slice ao8 n8 cap8, .int .i64 x.fr] z.u fun e w' => e = .returned (.int .i64 (v : Int)) /\ w' = z.u) := hid (fun z => HV.out ▸ ron_any ao8 n8 cap8 (s.G ++ F.take k) x.fr z.u (by
             have h1 := (HO6.out.still z.s)
             have h2 := HLn8.out
             rw [<- h2] at h1 ⊢
             exact (SrG.own h1 (by rw [h2]; omega)).rd))
            clear c0 c1 c2 c3 c4 c5 c6 c7 cf d0 d1 d2 d3 d4 d5 d6 d7 df
            refine region_all (by kernel_rfl) (by kernel_rfl) ?_
            repeat (go_big_quiet_step ((go_at_call 42; exact Calls.cl_same (HOn.out _))))
            refine wpQuiet_nil ?_
            intro w7 h7
            have HS7 := hid (HS6.out.trans h7)
            have HO7 := hid (HO6.out.still h7)
            have HB7 := hid (HB6.out.still h7)
            clear h7 q0 r6 p4 hne HOn
            obtain ⟨y0, y1, y2, y3, y4, y5, y6, yf⟩ := HB7.out.cells
            have HO8 := hid (HO7.out.still (Still.alloc w7 (.cells (kmc x) 36)))
            have HG8 : Hid ((w7.alloc (.cells (kmc x) 36)).heap[w7.heap.size]? = some (.cells (KCc.f x).toArray 36 (0, 0))) := hid (newCc_b w7 x)
            have HS8 := hid (HS7.out.trans (Still.alloc w7 (.cells (kmc x) 36)))
            have HB8 : Hid (W.heap.size <= (w7.alloc (.cells (kmc x) 36)).heap.size) := hid HS8.out.size
            go_wp2_with (
             at_builtin
             refine wpList_appQ KCc _ rfl _ _ _ rfl Tryd.underlying37 56 infoCc W.heap.size w7.heap.size _ (s.G ++ F.take k) x rfl rfl HO8.out HG8.out (by rw [HLn8.out]; omega) (by rw [HLn8.out]; omega) HB8.out ?_
             intro v9 w9 ho9 hf9 hb9
             have HO9 := hid ho9
             have HS9 : Hid (Still W w9) := hid (Fr.trans HS8.out hf9 (fun k hk e => by have := (HO8.out.block e).1; omega))
             clear ho9 hf9 hb9
             go_frame)
            go_roundw
            case rel => exact ⟨i + 1, by omega, by go_num, hid (by rw [HE0.out, HTk.out, <- List.append_assoc]; exact HO9.out), hid (by rw [HE0.out, HMi.out, HX.out, HTk.out, <- List.append_assoc]; simp [e4, e5, HE6.out]), HS9⟩
            case measure => simp [intOf]; omega
       ·have hlt : ¬ (i : Int) < (cn : Int) := by omega
        have HZ0 : Hid (F.drop (i - f0) = []) := hid (List.drop_of_length_le (by rw [HFl.out]; omega))
        go_wp2_with fail
        go_ret
        exact ⟨by rw [HE4.out, HMi.out, HZ0.out]; rfl, HS.out.trans HT.out⟩
end Go.Proofs.YtnbofjaecchnaaaDoor
namespace Go.Proofs.YtnbofjaecchnaaaDoor
open Go.RowKit
open Wp Vp Lp
set_option maxRecDepth 100000
set_option linter.unusedVariables false
set_option linter.unusedSimpArgs false
set_option maxHeartbeats 8000000 in
theorem rref_any (q : Nat) (oo : Option Addr) (oc : Nat) (go : Option Addr) (gc B : Nat) (s : Ln) (d : Dg) (co : Option Addr) (cn cp : Nat) (lead : Int) (hO : s.O.length <= 1000000000000) (hf : Fits s) (hn : d.cs.length = cn) (w : World) (ht : OTab w) (h : Ydl w B q oo oc go gc s) (hr : RdG KCc w co cn d.cs) : Calls Tryd.prog 9 #[.pointer (some ⟨q, 0, none⟩), dgv d co cn cp, .int .i64 lead] w fun e w' => e = .returned (.int .i64 (refE s d lead)) /\ Still w w' := by
 have A0 := Still.alloc w (.cells (dgc d co cn cp) 39)
 have p0 := newDg_b w d co cn cp
 have L0 := h.still A0
 have r0 := hr.still A0
 obtain ⟨g, eg⟩ : ∃ g, w.heap.size = g := ⟨_, rfl⟩
 unfold newDg at p0
 have HC := hid (rchkd_any d co cn cp _ (ht.still A0) r0)
 obtain ⟨W, eW⟩ : ∃ W, w.alloc (.cells (dgc d co cn cp) 39) = W := ⟨_, rfl⟩
 rw [eW] at A0 p0 L0 r0 HC
 rw [eg] at p0
 obtain ⟨d0, d1, d2, d3, d4, d5, d6, d7, df⟩ := p0.cells
 have HS := hid A0
 have HL := hid L0
 have HP := hid p0
 rw [chkD_b] at HC
 have HR := hid r0
 have HN := hid hn
 have HF := hid hf
 have hwg : IntKind.i64.wrap ((s.G.length : Int) + 1) = (s.G.length : Int) + 1 := by have := hf.g; exact wr64 (by omega) (by omega)
 have HE : Hid (refE s d lead = if okD d = true then (if d.ss = s.ss then (if d.fr = s.ot /\ d.to = s.se then (if d.kd = 1 /\ (s.G.length : Int) + 1 < d.fi then 182 else if brkB s d lead = true then 183 else 0) else 181) else 180) else 162) := hid rfl
 clear A0 p0 L0 r0 h hr hn hf
 cases hk : okD d with
 | false =>
  rw [hk] at HC HE
  simp only [Bool.false_eq_true, if_false] at HC
  go_enter Tryd.func9, Tryd.ntmps9
  go_wp2_with fail
  refine HC.out.mono ?_
  rintro e w1 ⟨he, h1⟩
  rw [he]
  have HS1 := hid h1
  clear he h1 HC d0 d1 d2 d3 d4 d5 d6 d7 df eW
  go_wp2_with fail
  go_ret
  exact ⟨by rw [HE.out]; simp [], HS.out.trans HS1.out⟩
 | true =>
  rw [hk] at HC HE
  simp only [if_true] at HC
  cases b1 : (d.ss == s.ss) with
  | false =>
   have n1 : Hid (d.ss ≠ s.ss) := hid (by simpa using b1)
   have y1 : (d.ss != s.ss) = true := by rw [bne, b1]; rfl
   go_enter Tryd.func9, Tryd.ntmps9
   go_wp2_with fail
   refine HC.out.mono ?_
   rintro e w1 ⟨he, h1⟩
   rw [he]
   have HS1 := hid h1
   clear he h1 HC d0 d1 d2 d3 d4 d5 d6 d7 df eW
   go_wp2_with fail
   obtain ⟨d0, d1, d2, d3, d4, d5, d6, d7, df⟩ := (HP.out.still HS1.out).cells
   obtain ⟨c0, c1, c2, c3, c4, c5, c6, c7, cf⟩ := (HL.out.still HS1.out).cells
   have q0 := Cl.cell d0
   have q1 := Cl.cell d1
   have q2 := Cl.cell d2
   have q3 := Cl.cell d3
   have q5 := Cl.cell d5
   have r0 := Cl.cell c0
   have r1 := Cl.cell c1
   have r2 := Cl.cell c2
   have r5 := Cl.cell c5
   have hne := Aft.here w1
   clear d0 d1 d2 d3 d4 d5 d6 d7 df c0 c1 c2 c3 c4 c5 c6 c7 cf
   refine region_all (by kernel_rfl) (by kernel_rfl) ?_
   repeat (go_big_quiet_step (rfl))
   refine wpQuiet_nil ?_
   intro w2 h2
   have HS2 := hid (HS1.out.trans h2)
   clear h2 q0 q1 q2 q3 q5 r0 r1 r2 r5 hne
   go_wp2_with fail
   go_ret
   exact ⟨by rw [HE.out]; simp [n1.out], HS.out.trans HS2.out⟩
  | true =>
   have n1 : Hid (d.ss = s.ss) := hid (by simpa using b1)
   have y1 : (d.ss != s.ss) = false := by rw [bne, b1]; rfl
   cases b2 : (d.fr == s.ot) with
   | false =>
    have n2 : Hid (d.fr ≠ s.ot) := hid (by simpa using b2)
    have y2 : (d.fr != s.ot) = true := by rw [bne, b2]; rfl
    go_enter Tryd.func9, Tryd.ntmps9
    go_wp2_with fail
    refine HC.out.mono ?_
    rintro e w1 ⟨he, h1⟩
    rw [he]
    have HS1 := hid h1
    clear he h1 HC d0 d1 d2 d3 d4 d5 d6 d7 df eW
    go_wp2_with fail
    obtain ⟨d0, d1, d2, d3, d4, d5, d6, d7, df⟩ := (HP.out.still HS1.out).cells
    obtain ⟨c0, c1, c2, c3, c4, c5, c6, c7, cf⟩ := (HL.out.still HS1.out).cells
    have q0 := Cl.cell d0
    have q1 := Cl.cell d1
    have q2 := Cl.cell d2
    have q3 := Cl.cell d3
    have q5 := Cl.cell d5
    have r0 := Cl.cell c0
    have r1 := Cl.cell c1
    have r2 := Cl.cell c2
    have r5 := Cl.cell c5
    have hne := Aft.here w1
    clear d0 d1 d2 d3 d4 d5 d6 d7 df c0 c1 c2 c3 c4 c5 c6 c7 cf
    refine region_all (by kernel_rfl) (by kernel_rfl) ?_
    repeat (go_big_quiet_step (rfl))
    refine wpQuiet_nil ?_
    intro w2 h2
    have HS2 := hid (HS1.out.trans h2)
    clear h2 q0 q1 q2 q3 q5 r0 r1 r2 r5 hne
    go_wp2_with fail
    obtain ⟨d0, d1, d2, d3, d4, d5, d6, d7, df⟩ := (HP.out.still HS2.out).cells
    obtain ⟨c0, c1, c2, c3, c4, c5, c6, c7, cf⟩ := (HL.out.still HS2.out).cells
    have q0 := Cl.cell d0
    have q1 := Cl.cell d1
    have q2 := Cl.cell d2
    have q3 := Cl.cell d3
    have q5 := Cl.cell d5
    have r0 := Cl.cell c0
    have r1 := Cl.cell c1
    have r2 := Cl.cell c2
    have r5 := Cl.cell c5
    have hne := Aft.here w2
    clear d0 d1 d2 d3 d4 d5 d6 d7 df c0 c1 c2 c3 c4 c5 c6 c7 cf
    refine region_all (by kernel_rfl) (by kernel_rfl) ?_
    repeat (go_big_quiet_step (rfl))
    refine wpQuiet_nil ?_
    intro w3 h3
    have HS3 := hid (HS2.out.trans h3)
    clear h3 q0 q1 q2 q3 q5 r0 r1 r2 r5 hne
    go_wp2_with fail
    go_ret
    exact ⟨by rw [HE.out]; simp [n1.out, n2.out], HS.out.trans HS3.out⟩
   | true =>
    have n2 : Hid (d.fr = s.ot) := hid (by simpa using b2)
    have y2 : (d.fr != s.ot) = false := by rw [bne, b2]; rfl
    cases b3 : (d.to == s.se) with
    | false =>
     have n3 : Hid (d.to ≠ s.se) := hid (by simpa using b3)
     have y3 : (d.to != s.se) = true := by rw [bne, b3]; rfl
     go_enter Tryd.func9, Tryd.ntmps9
     go_wp2_with fail
     refine HC.out.mono ?_
     rintro e w1 ⟨he, h1⟩
     rw [he]
     have HS1 := hid h1
     clear he h1 HC d0 d1 d2 d3 d4 d5 d6 d7 df eW
     go_wp2_with fail
     obtain ⟨d0, d1, d2, d3, d4, d5, d6, d7, df⟩ := (HP.out.still HS1.out).cells
     obtain ⟨c0, c1, c2, c3, c4, c5, c6, c7, cf⟩ := (HL.out.still HS1.out).cells
     have q0 := Cl.cell d0
     have q1 := Cl.cell d1
     have q2 := Cl.cell d2
     have q3 := Cl.cell d3
     have q5 := Cl.cell d5
     have r0 := Cl.cell c0
     have r1 := Cl.cell c1
     have r2 := Cl.cell c2
     have r5 := Cl.cell c5
     have hne := Aft.here w1
     clear d0 d1 d2 d3 d4 d5 d6 d7 df c0 c1 c2 c3 c4 c5 c6 c7 cf
     refine region_all (by kernel_rfl) (by kernel_rfl) ?_
     repeat (go_big_quiet_step (rfl))
     refine wpQuiet_nil ?_
     intro w2 h2
     have HS2 := hid (HS1.out.trans h2)
     clear h2 q0 q1 q2 q3 q5 r0 r1 r2 r5 hne
     go_wp2_with fail
     obtain ⟨d0, d1, d2, d3, d4, d5, d6, d7, df⟩ := (HP.out.still HS2.out).cells
     obtain ⟨c0, c1, c2, c3, c4, c5, c6, c7, cf⟩ := (HL.out.still HS2.out).cells
     have q0 := Cl.cell d0
     have q1 := Cl.cell d1
     have q2 := Cl.cell d2
     have q3 := Cl.cell d3
     have q5 := Cl.cell d5
     have r0 := Cl.cell c0
     have r1 := Cl.cell c1
     have r2 := Cl.cell c2
     have r5 := Cl.cell c5
     have hne := Aft.here w2
     clear d0 d1 d2 d3 d4 d5 d6 d7 df c0 c1 c2 c3 c4 c5 c6 c7 cf
     refine region_all (by kernel_rfl) (by kernel_rfl) ?_
     repeat (go_big_quiet_step (rfl))
     refine wpQuiet_nil ?_
     intro w3 h3
     have HS3 := hid (HS2.out.trans h3)
     clear h3 q0 q1 q2 q3 q5 r0 r1 r2 r5 hne
     go_wp2_with fail
     go_ret
     exact ⟨by rw [HE.out]; simp [n1.out, n2.out, n3.out], HS.out.trans HS3.out⟩
    | true =>
     have n3 : Hid (d.to = s.se) := hid (by simpa using b3)
     have y3 : (d.to != s.se) = false := by rw [bne, b3]; rfl
     cases b4 : (d.kd == 1) with
     | false =>
      have n4 : Hid (d.kd ≠ 1) := hid (by simpa using b4)
      have HGp : Hid (d.kd = 1 -> d.fi <= (s.G.length : Int) + 1) := hid (fun e => absurd e n4.out)
      have HBr : Hid (∀ u, Still W u -> Calls Tryd.prog 28 #[.pointer (some ⟨q, 0, none⟩), dgv d co cn cp, .int .i64 lead] u fun e w' => e = .returned (.bool (brkB s d lead)) /\ Still u w') := hid (fun u hu => rbrk_any q oo oc go gc B s d co cn cp lead hO HF.out hk HGp.out HN.out u (HL.out.still hu) (HR.out.still hu))
      obtain ⟨bk, ebk⟩ : ∃ b, brkB s d lead = b := ⟨_, rfl⟩
      rw [ebk] at HBr HE
      clear ebk
      cases bk with
      | true =>
       go_enter Tryd.func9, Tryd.ntmps9
       go_wp2_with fail
       refine HC.out.mono ?_
       rintro e w1 ⟨he, h1⟩
       rw [he]
       have HS1 := hid h1
       clear he h1 HC d0 d1 d2 d3 d4 d5 d6 d7 df eW
       go_wp2_with fail
       obtain ⟨d0, d1, d2, d3, d4, d5, d6, d7, df⟩ := (HP.out.still HS1.out).cells
       obtain ⟨c0, c1, c2, c3, c4, c5, c6, c7, cf⟩ := (HL.out.still HS1.out).cells
       have q0 := Cl.cell d0
       have q1 := Cl.cell d1
       have q2 := Cl.cell d2
       have q3 := Cl.cell d3
       have q5 := Cl.cell d5
       have r0 := Cl.cell c0
       have r1 := Cl.cell c1
       have r2 := Cl.cell c2
       have r5 := Cl.cell c5
       have hne := Aft.here w1
       clear d0 d1 d2 d3 d4 d5 d6 d7 df c0 c1 c2 c3 c4 c5 c6 c7 cf
       refine region_all (by kernel_rfl) (by kernel_rfl) ?_
       repeat (go_big_quiet_step (rfl))
       refine wpQuiet_nil ?_
       intro w2 h2
       have HS2 := hid (HS1.out.trans h2)
       clear h2 q0 q1 q2 q3 q5 r0 r1 r2 r5 hne
       go_wp2_with fail
       obtain ⟨d0, d1, d2, d3, d4, d5, d6, d7, df⟩ := (HP.out.still HS2.out).cells
       obtain ⟨c0, c1, c2, c3, c4, c5, c6, c7, cf⟩ := (HL.out.still HS2.out).cells
       have q0 := Cl.cell d0
       have q1 := Cl.cell d1
       have q2 := Cl.cell d2
       have q3 := Cl.cell d3
       have q5 := Cl.cell d5
       have r0 := Cl.cell c0
       have r1 := Cl.cell c1
       have r2 := Cl.cell c2
       have r5 := Cl.cell c5
       have hne := Aft.here w2
       clear d0 d1 d2 d3 d4 d5 d6 d7 df c0 c1 c2 c3 c4 c5 c6 c7 cf
       refine region_all (by kernel_rfl) (by kernel_rfl) ?_
       repeat (go_big_quiet_step (rfl))
       refine wpQuiet_nil ?_
       intro w3 h3
       have HS3 := hid (HS2.out.trans h3)
       clear h3 q0 q1 q2 q3 q5 r0 r1 r2 r5 hne
       go_wp2_with fail
       obtain ⟨d0, d1, d2, d3, d4, d5, d6, d7, df⟩ := (HP.out.still HS3.out).cells
       obtain ⟨c0, c1, c2, c3, c4, c5, c6, c7, cf⟩ := (HL.out.still HS3.out).cells
       have q0 := Cl.cell d0
       have q1 := Cl.cell d1
       have q2 := Cl.cell d2
       have q3 := Cl.cell d3
       have q5 := Cl.cell d5
       have r0 := Cl.cell c0
       have r1 := Cl.cell c1
       have r2 := Cl.cell c2
       have r5 := Cl.cell c5
       have hne := Aft.here w3
       clear d0 d1 d2 d3 d4 d5 d6 d7 df c0 c1 c2 c3 c4 c5 c6 c7 cf
       refine region_all (by kernel_rfl) (by kernel_rfl) ?_
       repeat (go_big_quiet_step (rfl))
       refine wpQuiet_nil ?_
       intro w4 h4
       have HS4 := hid (HS3.out.trans h4)
       clear h4 q0 q1 q2 q3 q5 r0 r1 r2 r5 hne
       obtain ⟨d0, d1, d2, d3, d4, d5, d6, d7, df⟩ := (HP.out.still HS4.out).cells
       go_wp2_with fail
       refine (HBr.out _ HS4.out).mono ?_
       rintro e w5 ⟨he, h5⟩
       rw [he]
       have HS5 := hid (HS4.out.trans h5)
       clear he h5 d0 d1 d2 d3 d4 d5 d6 d7 df
       go_wp2_with fail
       go_ret
       exact ⟨by rw [HE.out]; simp [n1.out, n2.out, n3.out, n4.out], HS.out.trans HS5.out⟩
      | false =>
       go_enter Tryd.func9, Tryd.ntmps9
       go_wp2_with fail
       refine HC.out.mono ?_
       rintro e w1 ⟨he, h1⟩
       rw [he]
       have HS1 := hid h1
       clear he h1 HC d0 d1 d2 d3 d4 d5 d6 d7 df eW
       go_wp2_with fail
       obtain ⟨d0, d1, d2, d3, d4, d5, d6, d7, df⟩ := (HP.out.still HS1.out).cells
       obtain ⟨c0, c1, c2, c3, c4, c5, c6, c7, cf⟩ := (HL.out.still HS1.out).cells
       have q0 := Cl.cell d0
       have q1 := Cl.cell d1
       have q2 := Cl.cell d2
       have q3 := Cl.cell d3
       have q5 := Cl.cell d5
       have r0 := Cl.cell c0
       have r1 := Cl.cell c1
       have r2 := Cl.cell c2
       have r5 := Cl.cell c5
       have hne := Aft.here w1
       clear d0 d1 d2 d3 d4 d5 d6 d7 df c0 c1 c2 c3 c4 c5 c6 c7 cf
       refine region_all (by kernel_rfl) (by kernel_rfl) ?_
       repeat (go_big_quiet_step (rfl))
       refine wpQuiet_nil ?_
       intro w2 h2
       have HS2 := hid (HS1.out.trans h2)
       clear h2 q0 q1 q2 q3 q5 r0 r1 r2 r5 hne
       go_wp2_with fail
       obtain ⟨d0, d1, d2, d3, d4, d5, d6, d7, df⟩ := (HP.out.still HS2.out).cells
       obtain ⟨c0, c1, c2, c3, c4, c5, c6, c7, cf⟩ := (HL.out.still HS2.out).cells
       have q0 := Cl.cell d0
       have q1 := Cl.cell d1
       have q2 := Cl.cell d2
       have q3 := Cl.cell d3
       have q5 := Cl.cell d5
       have r0 := Cl.cell c0
       have r1 := Cl.cell c1
       have r2 := Cl.cell c2
       have r5 := Cl.cell c5
       have hne := Aft.here w2
       clear d0 d1 d2 d3 d4 d5 d6 d7 df c0 c1 c2 c3 c4 c5 c6 c7 cf
       refine region_all (by kernel_rfl) (by kernel_rfl) ?_
       repeat (go_big_quiet_step (rfl))
       refine wpQuiet_nil ?_
       intro w3 h3
       have HS3 := hid (HS2.out.trans h3)
       clear h3 q0 q1 q2 q3 q5 r0 r1 r2 r5 hne
       go_wp2_with fail
       obtain ⟨d0, d1, d2, d3, d4, d5, d6, d7, df⟩ := (HP.out.still HS3.out).cells
       obtain ⟨c0, c1, c2, c3, c4, c5, c6, c7, cf⟩ := (HL.out.still HS3.out).cells
       have q0 := Cl.cell d0
       have q1 := Cl.cell d1
       have q2 := Cl.cell d2
       have q3 := Cl.cell d3
       have q5 := Cl.cell d5
       have r0 := Cl.cell c0
       have r1 := Cl.cell c1
       have r2 := Cl.cell c2
       have r5 := Cl.cell c5
       have hne := Aft.here w3
       clear d0 d1 d2 d3 d4 d5 d6 d7 df c0 c1 c2 c3 c4 c5 c6 c7 cf
       refine region_all (by kernel_rfl) (by kernel_rfl) ?_
       repeat (go_big_quiet_step (rfl))
       refine wpQuiet_nil ?_
       intro w4 h4
       have HS4 := hid (HS3.out.trans h4)
       clear h4 q0 q1 q2 q3 q5 r0 r1 r2 r5 hne
       obtain ⟨d0, d1, d2, d3, d4, d5, d6, d7, df⟩ := (HP.out.still HS4.out).cells
       go_wp2_with fail
       refine (HBr.out _ HS4.out).mono ?_
       rintro e w5 ⟨he, h5⟩
       rw [he]
       have HS5 := hid (HS4.out.trans h5)
       clear he h5 d0 d1 d2 d3 d4 d5 d6 d7 df
       go_wp2_with fail
       go_ret
       exact ⟨by rw [HE.out]; simp [n1.out, n2.out, n3.out, n4.out], HS.out.trans HS5.out⟩
     | true =>
      have n4 : Hid (d.kd = 1) := hid (by simpa using b4)
      by_cases b6 : (s.G.length : Int) + 1 < d.fi
      ·have e6 : decide ((s.G.length : Int) + 1 < d.fi) = true := by simpa using b6
       go_enter Tryd.func9, Tryd.ntmps9
       go_wp2_with fail
       refine HC.out.mono ?_
       rintro e w1 ⟨he, h1⟩
       rw [he]
       have HS1 := hid h1
       clear he h1 HC d0 d1 d2 d3 d4 d5 d6 d7 df eW
       go_wp2_with fail
       obtain ⟨d0, d1, d2, d3, d4, d5, d6, d7, df⟩ := (HP.out.still HS1.out).cells
       obtain ⟨c0, c1, c2, c3, c4, c5, c6, c7, cf⟩ := (HL.out.still HS1.out).cells
       have q0 := Cl.cell d0
       have q1 := Cl.cell d1
       have q2 := Cl.cell d2
       have q3 := Cl.cell d3
       have q5 := Cl.cell d5
       have r0 := Cl.cell c0
       have r1 := Cl.cell c1
       have r2 := Cl.cell c2
       have r5 := Cl.cell c5
       have hne := Aft.here w1
       clear d0 d1 d2 d3 d4 d5 d6 d7 df c0 c1 c2 c3 c4 c5 c6 c7 cf
       refine region_all (by kernel_rfl) (by kernel_rfl) ?_
       repeat (go_big_quiet_step (rfl))
       refine wpQuiet_nil ?_
       intro w2 h2
       have HS2 := hid (HS1.out.trans h2)
       clear h2 q0 q1 q2 q3 q5 r0 r1 r2 r5 hne
       go_wp2_with fail
       obtain ⟨d0, d1, d2, d3, d4, d5, d6, d7, df⟩ := (HP.out.still HS2.out).cells
       obtain ⟨c0, c1, c2, c3, c4, c5, c6, c7, cf⟩ := (HL.out.still HS2.out).cells
       have q0 := Cl.cell d0
       have q1 := Cl.cell d1
       have q2 := Cl.cell d2
       have q3 := Cl.cell d3
       have q5 := Cl.cell d5
       have r0 := Cl.cell c0
       have r1 := Cl.cell c1
       have r2 := Cl.cell c2
       have r5 := Cl.cell c5
       have hne := Aft.here w2
       clear d0 d1 d2 d3 d4 d5 d6 d7 df c0 c1 c2 c3 c4 c5 c6 c7 cf
       refine region_all (by kernel_rfl) (by kernel_rfl) ?_
       repeat (go_big_quiet_step (rfl))
       refine wpQuiet_nil ?_
       intro w3 h3
       have HS3 := hid (HS2.out.trans h3)
       clear h3 q0 q1 q2 q3 q5 r0 r1 r2 r5 hne
       go_wp2_with fail
       obtain ⟨d0, d1, d2, d3, d4, d5, d6, d7, df⟩ := (HP.out.still HS3.out).cells
       obtain ⟨c0, c1, c2, c3, c4, c5, c6, c7, cf⟩ := (HL.out.still HS3.out).cells
       have q0 := Cl.cell d0
       have q1 := Cl.cell d1
       have q2 := Cl.cell d2
       have q3 := Cl.cell d3
       have q5 := Cl.cell d5
       have r0 := Cl.cell c0
       have r1 := Cl.cell c1
       have r2 := Cl.cell c2
       have r5 := Cl.cell c5
       have hne := Aft.here w3
       clear d0 d1 d2 d3 d4 d5 d6 d7 df c0 c1 c2 c3 c4 c5 c6 c7 cf
       refine region_all (by kernel_rfl) (by kernel_rfl) ?_
       repeat (go_big_quiet_step (rfl))
       refine wpQuiet_nil ?_
       intro w4 h4
       have HS4 := hid (HS3.out.trans h4)
       clear h4 q0 q1 q2 q3 q5 r0 r1 r2 r5 hne
       go_wp2_with fail
       go_ret
       exact ⟨by rw [HE.out]; simp [n1.out, n2.out, n3.out, n4.out, b6], HS.out.trans HS4.out⟩
      ·have e6 : decide ((s.G.length : Int) + 1 < d.fi) = false := by simpa using b6
       have HGp : Hid (d.kd = 1 -> d.fi <= (s.G.length : Int) + 1) := hid (fun e => by omega)
       have HBr : Hid (∀ u, Still W u -> Calls Tryd.prog 28 #[.pointer (some ⟨q, 0, none⟩), dgv d co cn cp, .int .i64 lead] u fun e w' => e = .returned (.bool (brkB s d lead)) /\ Still u w') := hid (fun u hu => rbrk_any q oo oc go gc B s d co cn cp lead hO HF.out hk HGp.out HN.out u (HL.out.still hu) (HR.out.still hu))
       obtain ⟨bk, ebk⟩ : ∃ b, brkB s d lead = b := ⟨_, rfl⟩
       rw [ebk] at HBr HE
       clear ebk
       cases bk with
       | true =>
        go_enter Tryd.func9, Tryd.ntmps9
        go_wp2_with fail
        refine HC.out.mono ?_
        rintro e w1 ⟨he, h1⟩
        rw [he]
        have HS1 := hid h1
        clear he h1 HC d0 d1 d2 d3 d4 d5 d6 d7 df eW
        go_wp2_with fail
        obtain ⟨d0, d1, d2, d3, d4, d5, d6, d7, df⟩ := (HP.out.still HS1.out).cells
        obtain ⟨c0, c1, c2, c3, c4, c5, c6, c7, cf⟩ := (HL.out.still HS1.out).cells
        have q0 := Cl.cell d0
        have q1 := Cl.cell d1
        have q2 := Cl.cell d2
        have q3 := Cl.cell d3
        have q5 := Cl.cell d5
        have r0 := Cl.cell c0
        have r1 := Cl.cell c1
        have r2 := Cl.cell c2
        have r5 := Cl.cell c5
        have hne := Aft.here w1
        clear d0 d1 d2 d3 d4 d5 d6 d7 df c0 c1 c2 c3 c4 c5 c6 c7 cf
        refine region_all (by kernel_rfl) (by kernel_rfl) ?_
        repeat (go_big_quiet_step (rfl))
        refine wpQuiet_nil ?_
        intro w2 h2
        have HS2 := hid (HS1.out.trans h2)
        clear h2 q0 q1 q2 q3 q5 r0 r1 r2 r5 hne
        go_wp2_with fail
        obtain ⟨d0, d1, d2, d3, d4, d5, d6, d7, df⟩ := (HP.out.still HS2.out).cells
        obtain ⟨c0, c1, c2, c3, c4, c5, c6, c7, cf⟩ := (HL.out.still HS2.out).cells
        have q0 := Cl.cell d0
        have q1 := Cl.cell d1
        have q2 := Cl.cell d2
        have q3 := Cl.cell d3
        have q5 := Cl.cell d5
        have r0 := Cl.cell c0
        have r1 := Cl.cell c1
        have r2 := Cl.cell c2
        have r5 := Cl.cell c5
        have hne := Aft.here w2
        clear d0 d1 d2 d3 d4 d5 d6 d7 df c0 c1 c2 c3 c4 c5 c6 c7 cf
        refine region_all (by kernel_rfl) (by kernel_rfl) ?_
        repeat (go_big_quiet_step (rfl))
        refine wpQuiet_nil ?_
        intro w3 h3
        have HS3 := hid (HS2.out.trans h3)
        clear h3 q0 q1 q2 q3 q5 r0 r1 r2 r5 hne
        go_wp2_with fail
        obtain ⟨d0, d1, d2, d3, d4, d5, d6, d7, df⟩ := (HP.out.still HS3.out).cells
        obtain ⟨c0, c1, c2, c3, c4, c5, c6, c7, cf⟩ := (HL.out.still HS3.out).cells
        have q0 := Cl.cell d0
        have q1 := Cl.cell d1
        have q2 := Cl.cell d2
        have q3 := Cl.cell d3
        have q5 := Cl.cell d5
        have r0 := Cl.cell c0
        have r1 := Cl.cell c1
        have r2 := Cl.cell c2
        have r5 := Cl.cell c5
        have hne := Aft.here w3
        clear d0 d1 d2 d3 d4 d5 d6 d7 df c0 c1 c2 c3 c4 c5 c6 c7 cf
        refine region_all (by kernel_rfl) (by kernel_rfl) ?_
        repeat (go_big_quiet_step (rfl))
        refine wpQuiet_nil ?_
        intro w4 h4
        have HS4 := hid (HS3.out.trans h4)
        clear h4 q0 q1 q2 q3 q5 r0 r1 r2 r5 hne
        obtain ⟨d0, d1, d2, d3, d4, d5, d6, d7, df⟩ := (HP.out.still HS4.out).cells
        go_wp2_with fail
        refine (HBr.out _ HS4.out).mono ?_
        rintro e w5 ⟨he, h5⟩
        rw [he]
        have HS5 := hid (HS4.out.trans h5)
        clear he h5 d0 d1 d2 d3 d4 d5 d6 d7 df
        go_wp2_with fail
        go_ret
        exact ⟨by rw [HE.out]; simp [n1.out, n2.out, n3.out, n4.out, b6], HS.out.trans HS5.out⟩
       | false =>
        go_enter Tryd.func9, Tryd.ntmps9
        go_wp2_with fail
        refine HC.out.mono ?_
        rintro e w1 ⟨he, h1⟩
        rw [he]
        have HS1 := hid h1
        clear he h1 HC d0 d1 d2 d3 d4 d5 d6 d7 df eW
        go_wp2_with fail
        obtain ⟨d0, d1, d2, d3, d4, d5, d6, d7, df⟩ := (HP.out.still HS1.out).cells
        obtain ⟨c0, c1, c2, c3, c4, c5, c6, c7, cf⟩ := (HL.out.still HS1.out).cells
        have q0 := Cl.cell d0
        have q1 := Cl.cell d1
        have q2 := Cl.cell d2
        have q3 := Cl.cell d3
        have q5 := Cl.cell d5
        have r0 := Cl.cell c0
        have r1 := Cl.cell c1
        have r2 := Cl.cell c2
        have r5 := Cl.cell c5
        have hne := Aft.here w1
        clear d0 d1 d2 d3 d4 d5 d6 d7 df c0 c1 c2 c3 c4 c5 c6 c7 cf
        refine region_all (by kernel_rfl) (by kernel_rfl) ?_
        repeat (go_big_quiet_step (rfl))
        refine wpQuiet_nil ?_
        intro w2 h2
        have HS2 := hid (HS1.out.trans h2)
        clear h2 q0 q1 q2 q3 q5 r0 r1 r2 r5 hne
        go_wp2_with fail
        obtain ⟨d0, d1, d2, d3, d4, d5, d6, d7, df⟩ := (HP.out.still HS2.out).cells
        obtain ⟨c0, c1, c2, c3, c4, c5, c6, c7, cf⟩ := (HL.out.still HS2.out).cells
        have q0 := Cl.cell d0
        have q1 := Cl.cell d1
        have q2 := Cl.cell d2
        have q3 := Cl.cell d3
        have q5 := Cl.cell d5
        have r0 := Cl.cell c0
        have r1 := Cl.cell c1
        have r2 := Cl.cell c2
        have r5 := Cl.cell c5
        have hne := Aft.here w2
        clear d0 d1 d2 d3 d4 d5 d6 d7 df c0 c1 c2 c3 c4 c5 c6 c7 cf
        refine region_all (by kernel_rfl) (by kernel_rfl) ?_
        repeat (go_big_quiet_step (rfl))
        refine wpQuiet_nil ?_
        intro w3 h3
        have HS3 := hid (HS2.out.trans h3)
        clear h3 q0 q1 q2 q3 q5 r0 r1 r2 r5 hne
        go_wp2_with fail
        obtain ⟨d0, d1, d2, d3, d4, d5, d6, d7, df⟩ := (HP.out.still HS3.out).cells
        obtain ⟨c0, c1, c2, c3, c4, c5, c6, c7, cf⟩ := (HL.out.still HS3.out).cells
        have q0 := Cl.cell d0
        have q1 := Cl.cell d1
        have q2 := Cl.cell d2
        have q3 := Cl.cell d3
        have q5 := Cl.cell d5
        have r0 := Cl.cell c0
        have r1 := Cl.cell c1
        have r2 := Cl.cell c2
        have r5 := Cl.cell c5
        have hne := Aft.here w3
        clear d0 d1 d2 d3 d4 d5 d6 d7 df c0 c1 c2 c3 c4 c5 c6 c7 cf
        refine region_all (by kernel_rfl) (by kernel_rfl) ?_
        repeat (go_big_quiet_step (rfl))
        refine wpQuiet_nil ?_
        intro w4 h4
        have HS4 := hid (HS3.out.trans h4)
        clear h4 q0 q1 q2 q3 q5 r0 r1 r2 r5 hne
        obtain ⟨d0, d1, d2, d3, d4, d5, d6, d7, df⟩ := (HP.out.still HS4.out).cells
        go_wp2_with fail
        refine (HBr.out _ HS4.out).mono ?_
        rintro e w5 ⟨he, h5⟩
        rw [he]
        have HS5 := hid (HS4.out.trans h5)
        clear he h5 d0 d1 d2 d3 d4 d5 d6 d7 df
        go_wp2_with fail
        go_ret
        exact ⟨by rw [HE.out]; simp [n1.out, n2.out, n3.out, n4.out, b6], HS.out.trans HS5.out⟩
end Go.Proofs.YtnbofjaecchnaaaDoor
namespace Go.Proofs.YtnbofjaecchnaaaDoor
open Go.RowKit
open Wp Vp Lp
set_option maxRecDepth 100000
set_option linter.unusedVariables false
set_option linter.unusedSimpArgs false
set_option maxHeartbeats 2000000 in
theorem rtake_no (q : Nat) (oo : Option Addr) (oc : Nat) (go : Option Addr) (gc B : Nat) (s : Ln) (d : Dg) (co : Option Addr) (cn cp : Nat) (lead : Int) (hO : s.O.length <= 1000000000000) (hf : Fits s) (hn : d.cs.length = cn) (w : World) (ht : OTab w) (h : Ydl w B q oo oc go gc s) (hr : RdG KCc w co cn d.cs) (he : refE s d lead ≠ 0) : Calls Tryd.prog 38 #[.pointer (some ⟨q, 0, none⟩), dgv d co cn cp, .int .i64 lead] w fun e w' => e = .returned (.tuple #[.slice none 0 0, .bool false, .int .i64 (refE s d lead)]) /\ Still w w' := by
 have A0 := Still.alloc w (.cells (dgc d co cn cp) 39)
 have p0 := newDg_b w d co cn cp
 obtain ⟨g, eg⟩ : ∃ g, w.heap.size = g := ⟨_, rfl⟩
 unfold newDg at p0
 have HC := hid (rref_any q oo oc go gc B s d co cn cp lead hO hf hn _ (ht.still A0) (h.still A0) (hr.still A0))
 obtain ⟨W, eW⟩ : ∃ W, w.alloc (.cells (dgc d co cn cp) 39) = W := ⟨_, rfl⟩
 rw [eW] at A0 p0 HC
 rw [eg] at p0
 obtain ⟨d0, d1, d2, d3, d4, d5, d6, d7, df⟩ := p0.cells
 have HS := hid A0
 obtain ⟨r, er⟩ : ∃ r, refE s d lead = r := ⟨_, rfl⟩
 rw [er] at HC he ⊢
 have hb : (r == 0) = false := by simpa using he
 have hb2 : (r != 0) = true := by rw [bne, hb]; rfl
 clear er A0 p0 h hr he
 go_enter Tryd.func38, Tryd.ntmps38
 go_wp2_with fail
 refine HC.out.mono ?_
 rintro e w1 ⟨he, h1⟩
 rw [he]
 have HS1 := hid h1
 clear he h1 HC
 go_wp2_with fail
 go_ret3
 exact ⟨rfl, HS.out.trans HS1.out⟩
theorem Ydl.ak {w : World} {B q : Nat} {oo : Option Addr} {oc : Nat} {go : Option Addr} {gc : Nat} {s : Ln} (h : Ydl w B q oo oc go gc s) {d : Dg} (ha : (s.ak : Int) < d.ak) : Ydl (w.setCell ⟨q, 4, none⟩ (.int .i64 d.ak)) B q oo oc go gc (akS s d) := by
 have f1 : Fr (fun k => k = q) w (w.setCell ⟨q, 4, none⟩ (.int .i64 d.ak)) := Fr.setCell (Fr.refl _ _) _ _ (.inl rfl)
 have b1 := heap_setCell_same w q 4 _ _ (.int .i64 d.ak) h.bk
 have e0 : max s.ak d.ak.toNat = d.ak.toNat := by omega
 have e1 : ((d.ak.toNat : Nat) : Int) = d.ak := by omega
 refine ⟨b1.trans ?_, h.ow.keep f1 (fun k hk e => ?_), h.gw.keep f1 (fun k hk e => ?_), h.lo, h.ne⟩
 ·show _ = some (Obj.cells (ydc (akS s d) oo oc go gc) _ _)
  unfold ydc akS
  simp only [e0, e1]
  rfl
 ·obtain ⟨a, ha, e2⟩ := own_some.1 e; exact (h.ob a ha).2.2 (by omega)
 ·obtain ⟨a, ha, e2⟩ := own_some.1 e; exact (h.gb a ha).2.2 (by omega)
theorem Ydl.mrk {w : World} {B q : Nat} {oo : Option Addr} {oc : Nat} {go : Option Addr} {gc : Nat} {s : Ln} (h : Ydl w B q oo oc go gc s) {d : Dg} (ha : s.mq < d.mrk) : Ydl (w.setCell ⟨q, 6, none⟩ (.int .i64 d.mrk)) B q oo oc go gc (mkS s d) := by
 have f1 : Fr (fun k => k = q) w (w.setCell ⟨q, 6, none⟩ (.int .i64 d.mrk)) := Fr.setCell (Fr.refl _ _) _ _ (.inl rfl)
 have b1 := heap_setCell_same w q 6 _ _ (.int .i64 d.mrk) h.bk
 have e0 : max s.mq d.mrk = d.mrk := by omega
 refine ⟨b1.trans ?_, h.ow.keep f1 (fun k hk e => ?_), h.gw.keep f1 (fun k hk e => ?_), h.lo, h.ne⟩
 ·show _ = some (Obj.cells (ydc (mkS s d) oo oc go gc) _ _)
  unfold ydc mkS
  simp only [e0]
  rfl
 ·obtain ⟨a, ha, e2⟩ := own_some.1 e; exact (h.ob a ha).2.2 (by omega)
 ·obtain ⟨a, ha, e2⟩ := own_some.1 e; exact (h.gb a ha).2.2 (by omega)
theorem Ydl.met {w : World} {B q : Nat} {oo : Option Addr} {oc : Nat} {go : Option Addr} {gc : Nat} {s : Ln} (h : Ydl w B q oo oc go gc s) : Ydl (w.setCell ⟨q, 7, none⟩ (.bool true)) B q oo oc go gc (mtS s) := by
 have f1 : Fr (fun k => k = q) w (w.setCell ⟨q, 7, none⟩ (.bool true)) := Fr.setCell (Fr.refl _ _) _ _ (.inl rfl)
 have b1 := heap_setCell_same w q 7 _ _ (.bool true) h.bk
 refine ⟨b1.trans (by rfl), h.ow.keep f1 (fun k hk e => ?_), h.gw.keep f1 (fun k hk e => ?_), h.lo, h.ne⟩
 ·obtain ⟨a, ha, e2⟩ := own_some.1 e; exact (h.ob a ha).2.2 (by omega)
 ·obtain ⟨a, ha, e2⟩ := own_some.1 e; exact (h.gb a ha).2.2 (by omega)
theorem Ydl.got {w : World} {B q : Nat} {oo : Option Addr} {oc : Nat} {go go' : Option Addr} {gc gc' : Nat} {s : Ln} {c : Cc} (hb : w.heap[q]? = some (.cells (ydc s oo oc go gc) 64 (0, 0))) (ho : OwG KCc 36 w B (.slice oo s.O.length oc) s.O) (hg : OwG KCc 36 w B (.slice go' (s.G.length + 1) gc') (s.G ++ [c])) (hl : B <= q) (hne : ∀ a b, oo = some a -> go' = some b -> a.block ≠ b.block) : Ydl (w.setCell ⟨q, 5, none⟩ (.slice go' (s.G.length + 1) gc')) B q oo oc go' gc' (gtS s [c]) := by
 have f1 : Fr (fun k => k = q) w (w.setCell ⟨q, 5, none⟩ (.slice go' (s.G.length + 1) gc')) := Fr.setCell (Fr.refl _ _) _ _ (.inl rfl)
 have b1 := heap_setCell_same w q 5 _ _ (.slice go' (s.G.length + 1) gc') hb
 have e1 : (gtS s [c]).G.length = s.G.length + 1 := by simp [gtS]
 refine ⟨b1.trans ?_, ho.keep f1 (fun k hk e => ?_), ?_, hl, hne⟩
 ·show _ = some (Obj.cells (ydc (gtS s [c]) oo oc go' gc') _ _)
  unfold ydc
  rw [e1]
  rfl
 ·subst hk
  obtain ⟨cur, hc⟩ := ow_ty ho e
  exact ty_ne hc hb (by decide) rfl
 ·rw [e1]
  refine hg.keep f1 (fun k hk e => ?_)
  subst hk
  obtain ⟨cur, hc⟩ := ow_ty hg e
  exact ty_ne hc hb (by decide) rfl
theorem gtS_snoc (s : Ln) (L : List Cc) (c : Cc) : gtS (gtS s L) [c] = gtS s (L ++ [c]) := by
 unfold gtS
 simp only [List.append_assoc]
theorem gtS_nil (s : Ln) : gtS s [] = s := by
 unfold gtS
 simp only [List.append_nil]
end Go.Proofs.YtnbofjaecchnaaaDoor
namespace Go.Proofs.YtnbofjaecchnaaaDoor
open Go.RowKit
open Wp Vp Lp
set_option maxRecDepth 100000
set_option linter.unusedVariables false
set_option linter.unusedSimpArgs false
theorem RdG.kept0 {α : Type} {K : Kd α} {w w' : World} {ao : Option Addr} {n : Nat} {L : List α} {F : Nat -> Prop} (h : RdG K w ao n L) (hf : Fr F w w') (hF : ∀ a, 0 < n /\ ao = some a -> ¬ F a.block) : RdG K w' ao n L := by
 by_cases h0 : 0 < n
 ·exact h.kept hf (fun a ha => hF a ⟨h0, ha⟩)
 ·exact ⟨h.1, h.2.1, .inl (by omega)⟩
theorem SrG.kept0 {α : Type} {K : Kd α} {w w' : World} {ao : Option Addr} {c : Nat} {L : List α} {F : Nat -> Prop} (h : SrG K w ao c L) (hf : Fr F w w') (hF : ∀ a, 0 < L.length /\ ao = some a -> ¬ F a.block) : SrG K w' ao c L := ⟨h.rd.kept0 hf hF, h.le, h.nl⟩
set_option maxHeartbeats 16000000 in
theorem rtake_yes (q : Nat) (oo : Option Addr) (oc : Nat) (go : Option Addr) (gc B : Nat) (s : Ln) (d : Dg) (co : Option Addr) (cn cp : Nat) (lead : Int) (hO : s.O.length <= 1000000000000) (hf : Fits s) (hn : d.cs.length = cn) (w : World) (ht : OTab w) (h : Ydl w B q oo oc go gc s) (hr : RdG KCc w co cn d.cs) (hro : ∀ a, 0 < cn /\ co = some a -> a.block ≠ q /\ ∀ b, go = some b -> a.block ≠ b.block) (hrl : ∀ a, 0 < cn /\ co = some a -> a.block < w.heap.size) (he : refE s d lead = 0) : Calls Tryd.prog 38 #[.pointer (some ⟨q, 0, none⟩), dgv d co cn cp, .int .i64 lead] w fun e w' => ∃ fo fc go' gc', e = .returned (.tuple #[.slice fo (frs s d).length fc, .bool (broB s d), .int .i64 0]) /\ SrG KCc w' fo fc (frs s d) /\ Ydl w' B q oo oc go' gc' (takS s d) /\ Fr (fun k => k = q \/ ∃ b, go = some b /\ b.block = k) w w' /\ ∀ b, go' = some b -> (∃ b0, go = some b0 /\ b0.block = b.block) \/ w.heap.size <= b.block := by
 have A0 := Still.alloc w (.cells (dgc d co cn cp) 39)
 have p0 := newDg_b w d co cn cp
 have L0 := h.still A0
 have r0 := hr.still A0
 obtain ⟨g, eg⟩ : ∃ g, w.heap.size = g := ⟨_, rfl⟩
 unfold newDg at p0
 have HC := hid (rref_any q oo oc go gc B s d co cn cp lead hO hf hn _ (ht.still A0) L0 r0)
 obtain ⟨W, eW⟩ : ∃ W, w.alloc (.cells (dgc d co cn cp) 39) = W := ⟨_, rfl⟩
 have HSz : Hid (W.heap.size = w.heap.size + 1) := hid (by rw [<- eW, size_alloc])
 rw [eW] at A0 p0 L0 r0 HC
 rw [eg] at p0
 rw [he] at HC
 obtain ⟨d0, d1, d2, d3, d4, d5, d6, d7, df⟩ := p0.cells
 obtain ⟨o1, o2, o3, o4, o5, o6⟩ := refE_ok he
 obtain ⟨t1, t2, t3⟩ := okD_parts o1
 have hcn : cn <= 336 := by
  rcases t3 with ⟨_, _, _, qq, _⟩ | ⟨_, _, _, qq⟩
  ·omega
  ·rw [qq] at hn; simp at hn; omega
 have hg40 := hf.g
 have HFl : Hid ((frs s d).length = cn - frI s d) := hid (by rw [frs_frI, List.length_drop, hn])
 have HFc : Hid (∀ i, frI s d <= i -> cc (frs s d) (i - frI s d) = cc d.cs i) := hid (fun i hi => by rw [frs_frI, drop_cc]; congr 1; omega)
 have HFi : Hid (∀ i, i < cn -> ((i < frI s d) ↔ d.fi + (i : Int) <= (s.G.length : Int))) := hid (fun i hi => by unfold frI; rw [hn]; omega)
 have HFz : Hid (∀ i, i < cn -> frI s d <= i -> d.fi + (frI s d : Int) = (s.G.length : Int) + 1) := hid (fun i hi h2 => by
  have hfi : d.fi <= (s.G.length : Int) + 1 := by
   rcases t3 with ⟨k1, _⟩ | ⟨_, _, _, qq⟩
   ·exact o5 k1
   ·rw [qq] at hn; simp at hn; omega
  unfold frI at h2 ⊢
  rw [hn] at h2 ⊢
  omega)
 have HSq : Hid (∀ i, i < cn -> (cc d.cs i).sq = d.fi + (i : Int)) := hid (fun i hi => (okD_cs o1 i (by rw [hn]; exact hi)).1)
 have HS := hid A0
 have HP := hid p0
 have HL := hid L0
 have HR := hid r0
 have HN := hid hn
 have HRo := hid hro
 have HGq : Hid (g ≠ q) := hid (by have := h.lt; omega)
 have HGg : Hid (∀ b, go = some b -> g ≠ b.block) := hid (fun b hb => by have := (h.gb b hb).2.1; omega)
 have HGW : Hid (g < W.heap.size) := hid (block_lt p0)
 have HRl : Hid (∀ a, 0 < cn /\ co = some a -> a.block < W.heap.size) := hid (fun a ha => by have := hrl a ha; have := A0.size; omega)
 have HQl : Hid (q < W.heap.size) := hid L0.lt
 have HBr : Hid (broB s d = (decide ((s.ak : Int) < d.ak) || (decide (0 < (frs s d).length) || decide (s.mq < d.mrk)))) := hid rfl
 have HT0 := hid (takS_four s d)
 obtain ⟨B1, e1⟩ : ∃ b, decide ((s.ak : Int) < d.ak) = b := ⟨_, rfl⟩
 obtain ⟨b2, e2⟩ : ∃ b, decide (0 < (frs s d).length) = b := ⟨_, rfl⟩
 have HB1 := hid e1
 have HB2 := hid e2
 obtain ⟨F, eF⟩ : ∃ F, frs s d = F := ⟨_, rfl⟩
 obtain ⟨f0, ef0⟩ : ∃ i, frI s d = i := ⟨_, rfl⟩
 rw [eF] at HFl HFc HT0 HBr HB2 ⊢
 rw [ef0] at HFl HFc HFi HFz
 obtain ⟨bb, ebb⟩ : ∃ b, broB s d = b := ⟨_, rfl⟩
 rw [ebb] at HBr ⊢
 have q7 := Cl.cell p0.cells.2.2.2.2.2.2.2.1
 clear e2 eF ef0 ebb A0 p0 L0 r0 h hr he o1 o2 o3 o4 o5 o6 t1 t2 t3 hf hro hrl q7 hn
 go_enter Tryd.func38, Tryd.ntmps38
 go_wp2_with fail
 refine HC.out.mono ?_
 rintro e w1 ⟨he, h1⟩
 rw [he]
 have HS1 := hid h1
 clear he h1 HC d0 d1 d2 d3 d4 d5 d6 d7 df eW
 have q7 := Cl.cell (HP.out.still HS1.out).cells.2.2.2.2.2.2.2.1
 have r4 := Cl.cell (HL.out.still HS1.out).cells.2.2.2.2.1
 have hne := Aft.here w1
 cases B1 with
 | true =>
  have hlk : (s.ak : Int) < d.ak := by simpa using e1
  have hlk' : decide ((s.ak : Int) < d.ak) = true := e1
  go_wp2_with fail
  refine region_all (by kernel_rfl) (by kernel_rfl) ?_
  repeat (go_big_quiet_step (rfl))
  refine wpQuiet_nil ?_
  intro w2 h2
  have hs2 := HS1.out.trans h2
  have l2 := HL.out.still hs2
  obtain ⟨d0, d1, d2, d3, d4, d5, d6, d7, df⟩ := (HP.out.still hs2).cells
  obtain ⟨c0, c1, c2, c3, c4, c5, c6, c7, cf⟩ := l2.cells
  have l5 := l2.ak hlk
  have f5 : Fr (fun k => k = q) w2 (w2.setCell ⟨q, 4, none⟩ (.int .i64 d.ak)) := Fr.setCell (Fr.refl _ _) _ _ (.inl rfl)
  have dd := (HP.out.still hs2).keepD f5 (fun e => HGq.out e)
  obtain ⟨w5, e5⟩ : ∃ V, w2.setCell ⟨q, 4, none⟩ (.int .i64 d.ak) = V := ⟨_, rfl⟩
  rw [e5] at l5 f5 dd
  have HL5 := hid l5
  have HF5 : Hid (Fr (fun k => k = q \/ ∃ b, go = some b /\ b.block = k) W w5) := hid (Fr.trans (Still.to hs2) f5 (fun _ _ e => .inl e))
  clear h2 hs2 l2 l5 f5 q7 r4 hne e1
  go_upto_region 7 with fail
  clear d0 d1 d2 d3 d4 d5 d6 d7 df c0 c1 c2 c3 c4 c5 c6 c7 cf e5
  obtain ⟨d0, d1, d2, d3, d4, d5, d6, d7, df⟩ := dd.cells
  clear dd
  go_wp2_with fail
  clear d0 d1 d2 d3 d4 d5 d6 d7 df
  go_loopw [10, 11, 12] (fun u10 u11 u12 wr => ∃ i : Nat, i <= cn /\ u12 = .int .i64 (i : Int) /\ u10 = .bool (true || decide (0 < i - f0)) /\ Hid (∃ go1 gc1, Ydl wr B q oo oc go1 gc1 (gtS (akS s d) (F.take (i - f0))) /\ OwG KCc 36 wr w.heap.size u11 (F.take (i - f0)) /\ (∀ k, u11.ownBlock = some k -> ∀ b, go1 = some b -> k ≠ b.block) /\ (∀ k, u11.ownBlock = some k -> ∀ b, oo = some b -> k ≠ b.block) /\ (∀ k, u11.ownBlock = some k -> W.heap.size <= k) /\ (∀ b, go1 = some b -> (∃ b0, go = some b0 /\ b0.block = b.block) \/ W.heap.size <= b.block)) /\ Hid (Fr (fun k => k = q \/ ∃ b, go = some b /\ b.block = k) W wr)) (fun _ _ u12 _ => cn - (intOf u12).toNat)
  case atStart => exact ⟨0, by omega, rfl, by simp, hid ⟨go, gc, by simpa [gtS_nil] using HL5.out, by simpa using OwG.nil _ _, (fun k e => by cases e), (fun k e => by cases e), (fun k e => by cases e), fun b hb => .inl ⟨b, hb, rfl⟩⟩, HF5⟩
  case round =>
   obtain ⟨i, hi, rfl, rfl, HI, HT⟩ := hrel
   have hdT : Dgb wr g d co cn cp := HP.out.keepD HT.out (fun e => by rcases e with e | ⟨b, hb, e⟩; exact HGq.out e; exact HGg.out b hb e.symm)
   have HDT := hid hdT
   obtain ⟨d0, d1, d2, d3, d4, d5, d6, d7, df⟩ := hdT.cells
   clear hdT
   by_cases hin : i < cn
   ·have hlt : (i : Int) < (cn : Int) := by omega
    obtain ⟨go1, gc1, l1, o1, n1, n2, n3, n4⟩ := HI.out
    have hrT : RdG KCc wr co cn d.cs := HR.out.kept0 HT.out (fun a ha e => by
     rcases e with e | ⟨b, hb, e⟩
     ·exact (HRo.out a ha).1 e
     ·exact (HRo.out a ha).2 b hb e.symm)
    obtain ⟨Bq, oq, eco⟩ := hrT.at (by omega)
    subst eco
    obtain ⟨k0, k1, k2, k3, k4, k5, k6⟩ := rdCc hrT hin
    have HRT := hid hrT
    have hsq := HSq.out i hin
    have hfi2 := HFi.out i hin
    have HFc2 := hid (HFc.out i)
    obtain ⟨x, ex⟩ : ∃ x, cc d.cs i = x := ⟨_, rfl⟩
    rw [ex] at k0 k1 k2 k3 k4 k5 k6 hsq HFc2
    have HEx := hid ex
    have c5 := l1.cells.2.2.2.2.2.1
    obtain ⟨m1, em1⟩ : ∃ m, (gtS (akS s d) (F.take (i - f0))).G.length = m := ⟨_, rfl⟩
    have HM1 : Hid (m1 = s.G.length + (F.take (i - f0)).length) := hid (by rw [<- em1]; show (s.G ++ F.take (i - f0)).length = _; rw [List.length_append])
    have hm1 : m1 <= 1099511628776 := by rw [HM1.out, List.length_take]; omega
    rw [em1] at c5
    have hwm : IntKind.i64.wrap ((m1 : Int) + 1) = (m1 : Int) + 1 := wr64 (by omega) (by omega)
    have q2 := Cl.cell k2
    have p6 := Cl.cell d6
    have r5 := Cl.cell c5
    have hne := Aft.here wr
    have HL1 := hid l1
    have HO1 := hid o1
    have HN1 := hid n1
    have HN2 := hid n2
    have HN3 := hid n3
    have HN4 := hid n4
    clear ex l1 o1 n1 n2 n3 n4 hrT c5 k0 k1 k2 k3 k4 k5 k6 d0 d1 d2 d3 d4 d5 d7 df
    by_cases hsk : i < f0
    ·have hbq : (x.sq == (m1 : Int) + 1) = false := by
      have h1 := hfi2.1 hsk
      have h2 := HM1.out
      rw [show i - f0 = 0 by omega] at h2
      simp at h2
      simp only [beq_eq_false_iff_ne]
      omega
     have HE0 : Hid (i + 1 - f0 = 0 /\ i - f0 = 0) := hid (by omega)
     clear hsq hfi2
     go_wp2_with fail
     refine region_all (by kernel_rfl) (by kernel_rfl) ?_
     repeat (go_big_quiet_step (rfl))
     refine wpQuiet_nil ?_
     intro w6 h6
     have HT6 : Hid (Fr (fun k => k = q \/ ∃ b, go = some b /\ b.block = k) W w6) := hid (Fr.trans HT.out h6 (fun _ _ e => e.elim))
     have HI6 := hid (And.intro (HL1.out.still h6) (HO1.out.still h6))
     clear h6 q2 p6 r5 hne d6
     go_wp2_with fail
     go_roundw
     case rel => exact ⟨i + 1, by omega, by go_num, by rw [HE0.out.1, HE0.out.2], hid (by rw [HE0.out.1]; have h1 := HI6.out; rw [HE0.out.2] at h1; exact ⟨go1, gc1, h1.1, h1.2, HN1.out, HN2.out, HN3.out, HN4.out⟩), HT6⟩
     case measure => simp [intOf]; omega
    ·obtain ⟨k, ek⟩ : ∃ k, i - f0 = k := ⟨_, rfl⟩
     have HE0 : Hid (i + 1 - f0 = k + 1) := hid (by omega)
     have hkl : k < F.length := by rw [HFl.out]; omega
     have hbq : (x.sq == (m1 : Int) + 1) = true := by
      have h2 := HM1.out
      rw [ek, List.length_take] at h2
      have h3 := HFz.out i hin (by omega)
      simp only [beq_iff_eq]
      omega
     have hxk := HFc2.out (by omega)
     rw [ek] at hxk HL1 HO1
     have ht1 := take_one (L := F) (i := k) hkl
     rw [hxk] at ht1
     have HTk : Hid (F.take (k + 1) = F.take k ++ [x]) := hid ht1.1
     have HKl : Hid ((F.take k).length = k) := hid (by rw [List.length_take]; omega)
     have hk336 : k <= 336 := by have := HFl.out; omega
     clear hxk ht1 hsq hfi2
     go_wp2_with fail
     refine region_all (by kernel_rfl) (by kernel_rfl) ?_
     repeat (go_big_quiet_step (rfl))
     refine wpQuiet_nil ?_
     intro w6 h6
     have HT6 : Hid (Fr (fun k => k = q \/ ∃ b, go = some b /\ b.block = k) W w6) := hid (Fr.trans HT.out h6 (fun _ _ e => e.elim))
     have HL6 := hid (HL1.out.still h6)
     have HO6 := hid (HO1.out.still h6)
     have HD6 := hid (HDT.out.still h6)
     have HR6 := hid (HRT.out.still h6)
     clear h6 q2 p6 r5 hne HL1 HO1 HDT HRT HT d6
     go_wp2_with fail
     refine region_laid 10 1 (by kernel_rfl) (by kernel_rfl) (by kernel_rfl) ?_
     apply Exists.intro
     refine And.intro ?_ (And.intro ?_ ?_)
     ·intro u hu
      have z5 := (HL6.out.still hu).cells.2.2.2.2.2.1
      rw [ek] at em1
      rw [em1] at z5
      have z6 := (HD6.out.still hu).cells.2.2.2.2.2.2.1
      obtain ⟨k0, k1, k2, k3, k4, k5, k6⟩ := rdCc (HR6.out.still hu) hin
      rw [HEx.out] at k0 k1 k2 k3 k4 k5 k6
      have q0 := Cl.cell z5
      have q1 := Cl.cell z6
      have t0 := Cl.cell k0
      have t1 := Cl.cell k1
      have t2 := Cl.cell k2
      have t3 := Cl.cell k3
      have t4 := Cl.cell k4
      have t5 := Cl.cell k5
      have t6 := Cl.cell k6
      have hne := Aft.here u
      clear z5 z6 k0 k1 k2 k3 k4 k5 k6
      simp only [List.take_succ_cons, List.take_zero]
      repeat (go_big_quiet_step (fail))
      exact wpQuiet_nil rfl
     ·intro _ o ho u hu
      obtain rfl := Option.some.inj ho
      exact ⟨_, _, bs_cc rfl rfl u, Still.alloc u _⟩
     intro w7 h7
     simp only [List.drop_succ_cons, List.drop_zero]
     rw [ek] at em1
     have A8 := Still.alloc w7 (.cells (kmc x) 36)
     have HL8 := hid ((HL6.out.still h7).still A8)
     have HO8 := hid ((HO6.out.still h7).still A8)
     have HD8 := hid ((HD6.out.still h7).still A8)
     have HR8 := hid ((HR6.out.still h7).still A8)
     have HG8 : Hid ((w7.alloc (.cells (kmc x) 36)).heap[w7.heap.size]? = some (.cells (KCc.f x).toArray 36 (0, 0))) := hid (newCc_b w7 x)
     have HT8 : Hid (Fr (fun k => k = q \/ ∃ b, go = some b /\ b.block = k) W (w7.alloc (.cells (kmc x) 36))) := hid (Fr.trans (Fr.trans HT6.out h7 (fun _ _ e => e.elim)) A8 (fun _ _ e => e.elim))
     have HB8 : Hid (B <= (w7.alloc (.cells (kmc x) 36)).heap.size) := hid (by have := HL8.out.lo; have := HL8.out.lt; omega)
     have HEm := hid em1
     clear h7 A8 HL6 HO6 HD6 HR6 HT6
     go_wp2_with (
      at_builtin
      refine wpList_appQ KCc _ rfl _ _ _ rfl Tryd.underlying37 56 infoCc B w7.heap.size _ (gtS (akS s d) (F.take k)).G x rfl (by rfl) (by have := HL8.out.gw; rw [HEm.out] at this; exact this) HG8.out (by rw [HEm.out]; omega) (by rw [HEm.out]; omega) HB8.out ?_
      intro v9 w9 ho9 hf9 hb9
      obtain ⟨go2, gc2, ev, _⟩ := ho9.slice
      rw [List.length_append, List.length_singleton, HEm.out] at ev
      subst ev
      have hgq : ∀ k', (Value.slice go1 m1 gc1).ownBlock = some k' -> k' ≠ q /\ ∃ b, go1 = some b /\ b.block = k' := fun k' hk => by obtain ⟨a, ha, e2⟩ := own_some.1 hk; exact ⟨fun e => (HL8.out.gb a ha).2.2 (by omega), a, ha, e2⟩
      have hb' := hf9.kept HL8.out.bk (fun e => (hgq q e).1 rfl)
      have ho' := HL8.out.ow.keep hf9 (fun k' hk e => by
       obtain ⟨_, b, hb, e2⟩ := hgq k' hk
       obtain ⟨a, ha, e3⟩ := own_some.1 e
       exact HL8.out.ne a b ha hb (by omega))
      have hf' := HO8.out.keep hf9 (fun k' hk e => by
       obtain ⟨_, b, hb, e2⟩ := hgq k' hk
       exact HN1.out k' e b hb e2.symm)
      have hd' := HD8.out.keepD hf9 (fun e => by
       obtain ⟨_, b, hb, e2⟩ := hgq g e
       rcases HN4.out b hb with ⟨b0, hb0, e3⟩ | e3
       ·exact HGg.out b0 hb0 (by omega)
       ·have := HGW.out; omega)
      have hr' := HR8.out.kept0 hf9 (fun a ha e => by
       obtain ⟨_, b, hb, e2⟩ := hgq _ e
       rcases HN4.out b hb with ⟨b0, hb0, e3⟩ | e3
       ·exact (HRo.out a ha).2 b0 hb0 (by omega)
       ·have := HRl.out a ha; omega)
      have hs8 : W.heap.size <= (w7.alloc (.cells (kmc x) 36)).heap.size := HT8.out.size
      have HN42 : Hid (∀ b, go2 = some b -> (∃ b0, go = some b0 /\ b0.block = b.block) \/ W.heap.size <= b.block) := hid (fun b hb => by
       rcases hb9 b.block (own_some.2 ⟨b, hb, rfl⟩) with e | e
       ·obtain ⟨_, b1, hb1, e2⟩ := hgq _ e
        rcases HN4.out b1 hb1 with ⟨b0, hb0, e3⟩ | e3
        ·exact .inl ⟨b0, hb0, by omega⟩
        ·exact .inr (by omega)
       ·have e' : (w7.alloc (.cells (kmc x) 36)).heap.size <= b.block := e
        exact .inr (by omega))
      have HN12 : Hid (∀ k', u11.ownBlock = some k' -> ∀ b, go2 = some b -> k' ≠ b.block) := hid (fun k' hk b hb => by
       rcases hb9 b.block (own_some.2 ⟨b, hb, rfl⟩) with e | e
       ·obtain ⟨_, b1, hb1, e2⟩ := hgq _ e
        have := HN1.out k' hk b1 hb1
        omega
       ·have e' : (w7.alloc (.cells (kmc x) 36)).heap.size <= b.block := e
        have := (HO8.out.block hk).2
        omega)
      have HNo2 : Hid (∀ a b, oo = some a -> go2 = some b -> a.block ≠ b.block) := hid (fun a b ha hb => by
       rcases hb9 b.block (own_some.2 ⟨b, hb, rfl⟩) with e | e
       ·obtain ⟨_, b1, hb1, e2⟩ := hgq _ e
        have := HL8.out.ne a b1 ha hb1
        omega
       ·have e' : (w7.alloc (.cells (kmc x) 36)).heap.size <= b.block := e
        have := (HL8.out.ob a ha).2.1
        omega)
      have hT9 : Fr (fun k => k = q \/ ∃ b, go = some b /\ b.block = k) W w9 := Fr.trans HT8.out hf9 (fun k' hk e => by
       obtain ⟨_, b, hb, e2⟩ := hgq k' e
       rcases HN4.out b hb with ⟨b0, hb0, e3⟩ | e3
       ·exact .inr ⟨b0, hb0, by omega⟩
       ·omega)
      have hg9 : OwG KCc 36 w9 B (.slice go2 ((gtS (akS s d) (F.take k)).G.length + 1) gc2) ((gtS (akS s d) (F.take k)).G ++ [x]) := by rw [HEm.out]; exact ho9
      have hY := Ydl.got hb' ho' hg9 HL8.out.lo HNo2.out
      rw [gtS_snoc, HEm.out] at hY
      have f10 : Fr (fun k => k = q) w9 (w9.setCell ⟨q, 5, none⟩ (.slice go2 (m1 + 1) gc2)) := Fr.setCell (Fr.refl _ _) _ _ (.inl rfl)
      obtain ⟨W10, eW10⟩ : ∃ V, w9.setCell ⟨q, 5, none⟩ (.slice go2 (m1 + 1) gc2) = V := ⟨_, rfl⟩
      rw [eW10] at hY f10
      have HY := hid hY
      have HO10 := hid (hf'.keep f10 (fun k' hk e => by
       obtain ⟨cur, hc⟩ := ow_ty hf' e
       subst hk
       exact ty_ne hc hb' (by decide) rfl))
      have HD10 := hid (hd'.keepD f10 (fun e => HGq.out e))
      have HR10 := hid (hr'.kept0 f10 (fun a ha e => (HRo.out a ha).1 e))
      have HT10 : Hid (Fr (fun k => k = q \/ ∃ b, go = some b /\ b.block = k) W W10) := hid (Fr.trans hT9 f10 (fun k' _ e => .inl e))
      have e5 : w9.cell? ⟨q, 5, none⟩ = some (.slice go1 m1 gc1) := by rw [cell_of_row _ _ _ _ _ _ hb']; show some (Value.slice go1 (gtS (akS s d) (F.take k)).G.length gc1) = _; rw [HEm.out]
      have ef := fun o => frozen_of_row w9 q o _ _ hb'
      have z6 := HD10.out.cells.2.2.2.2.2.2.1
      obtain ⟨k0, k1, k2, k3, k4, k5, k6⟩ := rdCc HR10.out hin
      rw [HEx.out] at k0 k1 k2 k3 k4 k5 k6
      obtain ⟨fo1, fc1, e11, _⟩ := HO10.out.slice
      have HE11 := hid e11
      clear e11 ho9 hf9 hb9 hgq hb' ho' hf' hd' hr' hT9 hg9 hY f10 HL8 HO8 HD8 HR8 HT8 HG8)
     refine ⟨rfl, ?_⟩
     have e11 := HE11.out
     rw [HKl.out] at e11
     subst e11
     have HO11 := hid (HO10.out.still (Still.alloc W10 (.cells (kmc x) 36)))
     have HG11 : Hid ((W10.alloc (.cells (kmc x) 36)).heap[W10.heap.size]? = some (.cells (KCc.f x).toArray 36 (0, 0))) := hid (newCc_b W10 x)
     have Htrue1 : Hid (w.heap.size <= (W10.alloc (.cells (kmc x) 36)).heap.size) := hid (by have := HS.out.size; have := HT10.out.size; rw [size_alloc]; omega)
     go_wp2_with (
      at_builtin
      refine wpList_appQ KCc _ rfl _ _ _ rfl Tryd.underlying37 56 infoCc w.heap.size W10.heap.size _ (F.take k) x rfl rfl HO11.out HG11.out (by rw [HKl.out]; omega) (by rw [HKl.out]; omega) Htrue1.out ?_
      intro v12 w12 ho12 hf12 hb12
      have HX12 : Hid (∃ go1 gc1, Ydl w12 B q oo oc go1 gc1 (gtS (akS s d) (F.take k ++ [x])) /\ OwG KCc 36 w12 w.heap.size v12 (F.take k ++ [x]) /\ (∀ k, v12.ownBlock = some k -> ∀ b, go1 = some b -> k ≠ b.block) /\ (∀ k, v12.ownBlock = some k -> ∀ b, oo = some b -> k ≠ b.block) /\ (∀ k, v12.ownBlock = some k -> W.heap.size <= k) /\ (∀ b, go1 = some b -> (∃ b0, go = some b0 /\ b0.block = b.block) \/ W.heap.size <= b.block)) := hid (by
       have A11 := Still.alloc W10 (.cells (kmc x) 36)
       have hy := HY.out.still A11
       have hsz : W.heap.size <= (W10.alloc (.cells (kmc x) 36)).heap.size := by have := HT10.out.size; rw [size_alloc]; omega
       have hq : q < W.heap.size := HQl.out
       refine ⟨go2, gc2, hy.keep hf12 (fun e => ?_) (fun a ha e => HN2.out _ e a ha rfl) (fun b hb e => HN12.out _ e b hb rfl), ho12, fun k' hk b hb => ?_, fun k' hk b hb => ?_, fun k' hk => ?_, HN42.out⟩
       ·have := HN3.out q e; omega
       ·rcases hb12 k' hk with e | e
        ·exact HN12.out k' e b hb
        ·have e' : (W10.alloc (.cells (kmc x) 36)).heap.size <= k' := e
         have := (hy.gb b hb).2.1
         omega
       ·rcases hb12 k' hk with e | e
        ·exact HN2.out k' e b hb
        ·have e' : (W10.alloc (.cells (kmc x) 36)).heap.size <= k' := e
         have := (hy.ob b hb).2.1
         omega
       ·rcases hb12 k' hk with e | e
        ·exact HN3.out k' e
        ·have e' : (W10.alloc (.cells (kmc x) 36)).heap.size <= k' := e
         omega)
      have HT12 : Hid (Fr (fun k => k = q \/ ∃ b, go = some b /\ b.block = k) W w12) := hid (Fr.trans (Fr.trans HT10.out (Still.alloc W10 (.cells (kmc x) 36)) (fun _ _ e => e.elim)) hf12 (fun k' hk e => by have := HN3.out k' e; omega))
      clear ho12 hf12 hb12
      go_frame)
     (try simp only [Exit.inBlock, Exit.then])
     go_wp2_with fail
     go_roundw
     case rel => exact ⟨i + 1, by omega, by go_num, by rw [HE0.out]; simp, hid (by rw [HE0.out, HTk.out]; exact HX12.out), HT12⟩
     case measure => simp [intOf]; omega
   ·have hlt : ¬ (i : Int) < (cn : Int) := by omega
    have HFt : Hid (F.take (i - f0) = F) := hid (List.take_of_length_le (by rw [HFl.out]; omega))
    have HFd : Hid (decide (0 < i - f0) = b2) := hid (by rw [<- HB2.out]; have := HFl.out; congr 1; exact propext ⟨fun h => by omega, fun h => by omega⟩)
    obtain ⟨go1, gc1, l1, o1, n1, n2, n3, n4⟩ := HI.out
    rw [HFt.out] at l1 o1
    obtain ⟨fo1, fc1, e11, _⟩ := o1.slice
    subst e11
    have HL1 := hid l1
    have HO1 := hid o1
    have HN4 := hid n4
    have HNo : Hid (∀ k, (Value.slice fo1 F.length fc1).ownBlock = some k -> W.heap.size <= k) := hid n3
    have q4 := Cl.cell d4
    have r6 : ∀ z : Aft wr, z.u.cell? ⟨q, 6, none⟩ = some (.int .i64 s.mq) := Cl.cell l1.cells.2.2.2.2.2.2.1
    have hne := Aft.here wr
    rw [HFd.out]
    clear l1 o1 n1 n2 n3 n4 d0 d1 d2 d3 d4 d5 d7 df
    by_cases hmk : s.mq < d.mrk
    ·have hmk' : decide (s.mq < d.mrk) = true := by simpa using hmk
     go_wp2_with fail
     refine region_all (by kernel_rfl) (by kernel_rfl) ?_
     repeat (go_big_quiet_step (rfl))
     refine wpQuiet_nil ?_
     intro w6 h6
     have hT6 : Fr (fun k => k = q \/ ∃ b, go = some b /\ b.block = k) W w6 := Fr.trans HT.out h6 (fun _ _ e => e.elim)
     have l6 := HL1.out.still h6
     have o6 := HO1.out.still h6
     obtain ⟨d0, d1, d2, d3, d4, d5, d6, d7, df⟩ := (HDT.out.still h6).cells
     obtain ⟨c0, c1, c2, c3, c4, c5, c6, c7, cf⟩ := l6.cells
     have l7 := l6.mrk (d := d) hmk
     have f7 : Fr (fun k => k = q) w6 (w6.setCell ⟨q, 6, none⟩ (.int .i64 d.mrk)) := Fr.setCell (Fr.refl _ _) _ _ (.inl rfl)
     obtain ⟨w7, e7⟩ : ∃ V, w6.setCell ⟨q, 6, none⟩ (.int .i64 d.mrk) = V := ⟨_, rfl⟩
     rw [e7] at l7 f7
     have l8 := l7.met
     have f8 : Fr (fun k => k = q) w7 (w7.setCell ⟨q, 7, none⟩ (.bool true)) := Fr.setCell (Fr.refl _ _) _ _ (.inl rfl)
     obtain ⟨g0, g1, g2, g3, g4, g5, g6, g7, gf⟩ := l7.cells
     have HL8 := hid l8
     have HT8 : Hid (Fr (fun k => k = q \/ ∃ b, go = some b /\ b.block = k) w (w7.setCell ⟨q, 7, none⟩ (.bool true))) := hid (Fr.trans (Fr.trans (Fr.trans (Still.to HS.out) hT6 (fun _ _ e => e)) f7 (fun _ _ e => .inl e)) f8 (fun _ _ e => .inl e))
     have HR8 : Hid (SrG KCc (w7.setCell ⟨q, 7, none⟩ (.bool true)) fo1 fc1 F) := hid (SrG.own (e := 36) (B := w.heap.size) ((o6.keep f7 (fun k' hk e => by have := HNo.out k' e; have := HQl.out; omega)).keep f8 (fun k' hk e => by have := HNo.out k' e; have := HQl.out; omega)) (by have := HFl.out; omega))
     have HBb : Hid (bb = (true || b2 || true)) := hid (by rw [HBr.out, HB1.out, HB2.out, hmk']; cases b2 <;> rfl)
     have HBt : Hid ((true || b2 || true) = true) := hid (by cases b2 <;> rfl)
     clear h6 hT6 l6 o6 l7 l8 f7 f8 q4 r6 hne
     go_wp2_with fail
     (try simp only [Exit.inBlock, Exit.then])
     go_ret3
     exact ⟨fo1, fc1, go1, gc1, by rw [HBb.out, HBt.out]; rfl, HR8.out, by rw [HT0.out]; exact HL8.out, HT8.out, fun b hb => (HN4.out b hb).imp id (fun e => Nat.le_trans HS.out.size e)⟩
    ·have hmk' : decide (s.mq < d.mrk) = false := by simpa using hmk
     go_wp2_with fail
     refine region_all (by kernel_rfl) (by kernel_rfl) ?_
     repeat (go_big_quiet_step (rfl))
     refine wpQuiet_nil ?_
     intro w6 h6
     have hT6 : Fr (fun k => k = q \/ ∃ b, go = some b /\ b.block = k) W w6 := Fr.trans HT.out h6 (fun _ _ e => e.elim)
     have l6 := HL1.out.still h6
     have o6 := HO1.out.still h6
     obtain ⟨c0, c1, c2, c3, c4, c5, c6, c7, cf⟩ := l6.cells
     have l8 := l6.met
     have f8 : Fr (fun k => k = q) w6 (w6.setCell ⟨q, 7, none⟩ (.bool true)) := Fr.setCell (Fr.refl _ _) _ _ (.inl rfl)
     have HL8 := hid l8
     have HT8 : Hid (Fr (fun k => k = q \/ ∃ b, go = some b /\ b.block = k) w (w6.setCell ⟨q, 7, none⟩ (.bool true))) := hid (Fr.trans (Fr.trans (Still.to HS.out) hT6 (fun _ _ e => e)) f8 (fun _ _ e => .inl e))
     have HR8 : Hid (SrG KCc (w6.setCell ⟨q, 7, none⟩ (.bool true)) fo1 fc1 F) := hid (SrG.own (e := 36) (B := w.heap.size) (o6.keep f8 (fun k' hk e => by have := HNo.out k' e; have := HQl.out; omega)) (by have := HFl.out; omega))
     have HBb : Hid (bb = (true || b2)) := hid (by rw [HBr.out, HB1.out, HB2.out, hmk']; cases b2 <;> rfl)
     have HMk : Hid (mkS (gtS (akS s d) F) d = gtS (akS s d) F) := hid (mkS_no (by show d.mrk <= s.mq; omega))
     clear h6 hT6 l6 o6 l8 f8 q4 r6 hne
     go_wp2_with fail
     (try simp only [Exit.inBlock, Exit.then])
     go_ret3
     exact ⟨fo1, fc1, go1, gc1, by rw [HBb.out]; rfl, HR8.out, by rw [HT0.out, HMk.out]; exact HL8.out, HT8.out, fun b hb => (HN4.out b hb).imp id (fun e => Nat.le_trans HS.out.size e)⟩
 | false =>
  have hlk : ¬ (s.ak : Int) < d.ak := by simpa using e1
  have hlk' : decide ((s.ak : Int) < d.ak) = false := e1
  have HAk : Hid (akS s d = s) := hid (akS_no (by omega))
  go_wp2_with fail
  refine region_all (by kernel_rfl) (by kernel_rfl) ?_
  repeat (go_big_quiet_step (rfl))
  refine wpQuiet_nil ?_
  intro w2 h2
  have hs2 := HS1.out.trans h2
  obtain ⟨d0, d1, d2, d3, d4, d5, d6, d7, df⟩ := (HP.out.still hs2).cells
  have HL5 : Hid (Ydl w2 B q oo oc go gc (akS s d)) := hid (by rw [HAk.out]; exact HL.out.still hs2)
  have HF5 : Hid (Fr (fun k => k = q \/ ∃ b, go = some b /\ b.block = k) W w2) := hid (Still.to hs2)
  clear h2 hs2 q7 r4 hne e1
  go_wp2_with fail
  clear d0 d1 d2 d3 d4 d5 d6 d7 df
  go_loopw [10, 11, 12] (fun u10 u11 u12 wr => ∃ i : Nat, i <= cn /\ u12 = .int .i64 (i : Int) /\ u10 = .bool (false || decide (0 < i - f0)) /\ Hid (∃ go1 gc1, Ydl wr B q oo oc go1 gc1 (gtS (akS s d) (F.take (i - f0))) /\ OwG KCc 36 wr w.heap.size u11 (F.take (i - f0)) /\ (∀ k, u11.ownBlock = some k -> ∀ b, go1 = some b -> k ≠ b.block) /\ (∀ k, u11.ownBlock = some k -> ∀ b, oo = some b -> k ≠ b.block) /\ (∀ k, u11.ownBlock = some k -> W.heap.size <= k) /\ (∀ b, go1 = some b -> (∃ b0, go = some b0 /\ b0.block = b.block) \/ W.heap.size <= b.block)) /\ Hid (Fr (fun k => k = q \/ ∃ b, go = some b /\ b.block = k) W wr)) (fun _ _ u12 _ => cn - (intOf u12).toNat)
  case atStart => exact ⟨0, by omega, rfl, by simp, hid ⟨go, gc, by simpa [gtS_nil] using HL5.out, by simpa using OwG.nil _ _, (fun k e => by cases e), (fun k e => by cases e), (fun k e => by cases e), fun b hb => .inl ⟨b, hb, rfl⟩⟩, HF5⟩
  case round =>
   obtain ⟨i, hi, rfl, rfl, HI, HT⟩ := hrel
   have hdT : Dgb wr g d co cn cp := HP.out.keepD HT.out (fun e => by rcases e with e | ⟨b, hb, e⟩; exact HGq.out e; exact HGg.out b hb e.symm)
   have HDT := hid hdT
   obtain ⟨d0, d1, d2, d3, d4, d5, d6, d7, df⟩ := hdT.cells
   clear hdT
   by_cases hin : i < cn
   ·have hlt : (i : Int) < (cn : Int) := by omega
    obtain ⟨go1, gc1, l1, o1, n1, n2, n3, n4⟩ := HI.out
    have hrT : RdG KCc wr co cn d.cs := HR.out.kept0 HT.out (fun a ha e => by
     rcases e with e | ⟨b, hb, e⟩
     ·exact (HRo.out a ha).1 e
     ·exact (HRo.out a ha).2 b hb e.symm)
    obtain ⟨Bq, oq, eco⟩ := hrT.at (by omega)
    subst eco
    obtain ⟨k0, k1, k2, k3, k4, k5, k6⟩ := rdCc hrT hin
    have HRT := hid hrT
    have hsq := HSq.out i hin
    have hfi2 := HFi.out i hin
    have HFc2 := hid (HFc.out i)
    obtain ⟨x, ex⟩ : ∃ x, cc d.cs i = x := ⟨_, rfl⟩
    rw [ex] at k0 k1 k2 k3 k4 k5 k6 hsq HFc2
    have HEx := hid ex
    have c5 := l1.cells.2.2.2.2.2.1
    obtain ⟨m1, em1⟩ : ∃ m, (gtS (akS s d) (F.take (i - f0))).G.length = m := ⟨_, rfl⟩
    have HM1 : Hid (m1 = s.G.length + (F.take (i - f0)).length) := hid (by rw [<- em1]; show (s.G ++ F.take (i - f0)).length = _; rw [List.length_append])
    have hm1 : m1 <= 1099511628776 := by rw [HM1.out, List.length_take]; omega
    rw [em1] at c5
    have hwm : IntKind.i64.wrap ((m1 : Int) + 1) = (m1 : Int) + 1 := wr64 (by omega) (by omega)
    have q2 := Cl.cell k2
    have p6 := Cl.cell d6
    have r5 := Cl.cell c5
    have hne := Aft.here wr
    have HL1 := hid l1
    have HO1 := hid o1
    have HN1 := hid n1
    have HN2 := hid n2
    have HN3 := hid n3
    have HN4 := hid n4
    clear ex l1 o1 n1 n2 n3 n4 hrT c5 k0 k1 k2 k3 k4 k5 k6 d0 d1 d2 d3 d4 d5 d7 df
    by_cases hsk : i < f0
    ·have hbq : (x.sq == (m1 : Int) + 1) = false := by
      have h1 := hfi2.1 hsk
      have h2 := HM1.out
      rw [show i - f0 = 0 by omega] at h2
      simp at h2
      simp only [beq_eq_false_iff_ne]
      omega
     have HE0 : Hid (i + 1 - f0 = 0 /\ i - f0 = 0) := hid (by omega)
     clear hsq hfi2
     go_wp2_with fail
     refine region_all (by kernel_rfl) (by kernel_rfl) ?_
     repeat (go_big_quiet_step (rfl))
     refine wpQuiet_nil ?_
     intro w6 h6
     have HT6 : Hid (Fr (fun k => k = q \/ ∃ b, go = some b /\ b.block = k) W w6) := hid (Fr.trans HT.out h6 (fun _ _ e => e.elim))
     have HI6 := hid (And.intro (HL1.out.still h6) (HO1.out.still h6))
     clear h6 q2 p6 r5 hne d6
     go_wp2_with fail
     go_roundw
     case rel => exact ⟨i + 1, by omega, by go_num, by rw [HE0.out.1, HE0.out.2], hid (by rw [HE0.out.1]; have h1 := HI6.out; rw [HE0.out.2] at h1; exact ⟨go1, gc1, h1.1, h1.2, HN1.out, HN2.out, HN3.out, HN4.out⟩), HT6⟩
     case measure => simp [intOf]; omega
    ·obtain ⟨k, ek⟩ : ∃ k, i - f0 = k := ⟨_, rfl⟩
     have HE0 : Hid (i + 1 - f0 = k + 1) := hid (by omega)
     have hkl : k < F.length := by rw [HFl.out]; omega
     have hbq : (x.sq == (m1 : Int) + 1) = true := by
      have h2 := HM1.out
      rw [ek, List.length_take] at h2
      have h3 := HFz.out i hin (by omega)
      simp only [beq_iff_eq]
      omega
     have hxk := HFc2.out (by omega)
     rw [ek] at hxk HL1 HO1
     have ht1 := take_one (L := F) (i := k) hkl
     rw [hxk] at ht1
     have HTk : Hid (F.take (k + 1) = F.take k ++ [x]) := hid ht1.1
     have HKl : Hid ((F.take k).length = k) := hid (by rw [List.length_take]; omega)
     have hk336 : k <= 336 := by have := HFl.out; omega
     clear hxk ht1 hsq hfi2
     go_wp2_with fail
     refine region_all (by kernel_rfl) (by kernel_rfl) ?_
     repeat (go_big_quiet_step (rfl))
     refine wpQuiet_nil ?_
     intro w6 h6
     have HT6 : Hid (Fr (fun k => k = q \/ ∃ b, go = some b /\ b.block = k) W w6) := hid (Fr.trans HT.out h6 (fun _ _ e => e.elim))
     have HL6 := hid (HL1.out.still h6)
     have HO6 := hid (HO1.out.still h6)
     have HD6 := hid (HDT.out.still h6)
     have HR6 := hid (HRT.out.still h6)
     clear h6 q2 p6 r5 hne HL1 HO1 HDT HRT HT d6
     go_wp2_with fail
     refine region_laid 10 1 (by kernel_rfl) (by kernel_rfl) (by kernel_rfl) ?_
     apply Exists.intro
     refine And.intro ?_ (And.intro ?_ ?_)
     ·intro u hu
      have z5 := (HL6.out.still hu).cells.2.2.2.2.2.1
      rw [ek] at em1
      rw [em1] at z5
      have z6 := (HD6.out.still hu).cells.2.2.2.2.2.2.1
      obtain ⟨k0, k1, k2, k3, k4, k5, k6⟩ := rdCc (HR6.out.still hu) hin
      rw [HEx.out] at k0 k1 k2 k3 k4 k5 k6
      have q0 := Cl.cell z5
      have q1 := Cl.cell z6
      have t0 := Cl.cell k0
      have t1 := Cl.cell k1
      have t2 := Cl.cell k2
      have t3 := Cl.cell k3
      have t4 := Cl.cell k4
      have t5 := Cl.cell k5
      have t6 := Cl.cell k6
      have hne := Aft.here u
      clear z5 z6 k0 k1 k2 k3 k4 k5 k6
      simp only [List.take_succ_cons, List.take_zero]
      repeat (go_big_quiet_step (fail))
      exact wpQuiet_nil rfl
     ·intro _ o ho u hu
      obtain rfl := Option.some.inj ho
      exact ⟨_, _, bs_cc rfl rfl u, Still.alloc u _⟩
     intro w7 h7
     simp only [List.drop_succ_cons, List.drop_zero]
     rw [ek] at em1
     have A8 := Still.alloc w7 (.cells (kmc x) 36)
     have HL8 := hid ((HL6.out.still h7).still A8)
     have HO8 := hid ((HO6.out.still h7).still A8)
     have HD8 := hid ((HD6.out.still h7).still A8)
     have HR8 := hid ((HR6.out.still h7).still A8)
     have HG8 : Hid ((w7.alloc (.cells (kmc x) 36)).heap[w7.heap.size]? = some (.cells (KCc.f x).toArray 36 (0, 0))) := hid (newCc_b w7 x)
     have HT8 : Hid (Fr (fun k => k = q \/ ∃ b, go = some b /\ b.block = k) W (w7.alloc (.cells (kmc x) 36))) := hid (Fr.trans (Fr.trans HT6.out h7 (fun _ _ e => e.elim)) A8 (fun _ _ e => e.elim))
     have HB8 : Hid (B <= (w7.alloc (.cells (kmc x) 36)).heap.size) := hid (by have := HL8.out.lo; have := HL8.out.lt; omega)
     have HEm := hid em1
     clear h7 A8 HL6 HO6 HD6 HR6 HT6
     go_wp2_with (
      at_builtin
      refine wpList_appQ KCc _ rfl _ _ _ rfl Tryd.underlying37 56 infoCc B w7.heap.size _ (gtS (akS s d) (F.take k)).G x rfl (by rfl) (by have := HL8.out.gw; rw [HEm.out] at this; exact this) HG8.out (by rw [HEm.out]; omega) (by rw [HEm.out]; omega) HB8.out ?_
      intro v9 w9 ho9 hf9 hb9
      obtain ⟨go2, gc2, ev, _⟩ := ho9.slice
      rw [List.length_append, List.length_singleton, HEm.out] at ev
      subst ev
      have hgq : ∀ k', (Value.slice go1 m1 gc1).ownBlock = some k' -> k' ≠ q /\ ∃ b, go1 = some b /\ b.block = k' := fun k' hk => by obtain ⟨a, ha, e2⟩ := own_some.1 hk; exact ⟨fun e => (HL8.out.gb a ha).2.2 (by omega), a, ha, e2⟩
      have hb' := hf9.kept HL8.out.bk (fun e => (hgq q e).1 rfl)
      have ho' := HL8.out.ow.keep hf9 (fun k' hk e => by
       obtain ⟨_, b, hb, e2⟩ := hgq k' hk
       obtain ⟨a, ha, e3⟩ := own_some.1 e
       exact HL8.out.ne a b ha hb (by omega))
      have hf' := HO8.out.keep hf9 (fun k' hk e => by
       obtain ⟨_, b, hb, e2⟩ := hgq k' hk
       exact HN1.out k' e b hb e2.symm)
      have hd' := HD8.out.keepD hf9 (fun e => by
       obtain ⟨_, b, hb, e2⟩ := hgq g e
       rcases HN4.out b hb with ⟨b0, hb0, e3⟩ | e3
       ·exact HGg.out b0 hb0 (by omega)
       ·have := HGW.out; omega)
      have hr' := HR8.out.kept0 hf9 (fun a ha e => by
       obtain ⟨_, b, hb, e2⟩ := hgq _ e
       rcases HN4.out b hb with ⟨b0, hb0, e3⟩ | e3
       ·exact (HRo.out a ha).2 b0 hb0 (by omega)
       ·have := HRl.out a ha; omega)
      have hs8 : W.heap.size <= (w7.alloc (.cells (kmc x) 36)).heap.size := HT8.out.size
      have HN42 : Hid (∀ b, go2 = some b -> (∃ b0, go = some b0 /\ b0.block = b.block) \/ W.heap.size <= b.block) := hid (fun b hb => by
       rcases hb9 b.block (own_some.2 ⟨b, hb, rfl⟩) with e | e
       ·obtain ⟨_, b1, hb1, e2⟩ := hgq _ e
        rcases HN4.out b1 hb1 with ⟨b0, hb0, e3⟩ | e3
        ·exact .inl ⟨b0, hb0, by omega⟩
        ·exact .inr (by omega)
       ·have e' : (w7.alloc (.cells (kmc x) 36)).heap.size <= b.block := e
        exact .inr (by omega))
      have HN12 : Hid (∀ k', u11.ownBlock = some k' -> ∀ b, go2 = some b -> k' ≠ b.block) := hid (fun k' hk b hb => by
       rcases hb9 b.block (own_some.2 ⟨b, hb, rfl⟩) with e | e
       ·obtain ⟨_, b1, hb1, e2⟩ := hgq _ e
        have := HN1.out k' hk b1 hb1
        omega
       ·have e' : (w7.alloc (.cells (kmc x) 36)).heap.size <= b.block := e
        have := (HO8.out.block hk).2
        omega)
      have HNo2 : Hid (∀ a b, oo = some a -> go2 = some b -> a.block ≠ b.block) := hid (fun a b ha hb => by
       rcases hb9 b.block (own_some.2 ⟨b, hb, rfl⟩) with e | e
       ·obtain ⟨_, b1, hb1, e2⟩ := hgq _ e
        have := HL8.out.ne a b1 ha hb1
        omega
       ·have e' : (w7.alloc (.cells (kmc x) 36)).heap.size <= b.block := e
        have := (HL8.out.ob a ha).2.1
        omega)
      have hT9 : Fr (fun k => k = q \/ ∃ b, go = some b /\ b.block = k) W w9 := Fr.trans HT8.out hf9 (fun k' hk e => by
       obtain ⟨_, b, hb, e2⟩ := hgq k' e
       rcases HN4.out b hb with ⟨b0, hb0, e3⟩ | e3
       ·exact .inr ⟨b0, hb0, by omega⟩
       ·omega)
      have hg9 : OwG KCc 36 w9 B (.slice go2 ((gtS (akS s d) (F.take k)).G.length + 1) gc2) ((gtS (akS s d) (F.take k)).G ++ [x]) := by rw [HEm.out]; exact ho9
      have hY := Ydl.got hb' ho' hg9 HL8.out.lo HNo2.out
      rw [gtS_snoc, HEm.out] at hY
      have f10 : Fr (fun k => k = q) w9 (w9.setCell ⟨q, 5, none⟩ (.slice go2 (m1 + 1) gc2)) := Fr.setCell (Fr.refl _ _) _ _ (.inl rfl)
      obtain ⟨W10, eW10⟩ : ∃ V, w9.setCell ⟨q, 5, none⟩ (.slice go2 (m1 + 1) gc2) = V := ⟨_, rfl⟩
      rw [eW10] at hY f10
      have HY := hid hY
      have HO10 := hid (hf'.keep f10 (fun k' hk e => by
       obtain ⟨cur, hc⟩ := ow_ty hf' e
       subst hk
       exact ty_ne hc hb' (by decide) rfl))
      have HD10 := hid (hd'.keepD f10 (fun e => HGq.out e))
      have HR10 := hid (hr'.kept0 f10 (fun a ha e => (HRo.out a ha).1 e))
      have HT10 : Hid (Fr (fun k => k = q \/ ∃ b, go = some b /\ b.block = k) W W10) := hid (Fr.trans hT9 f10 (fun k' _ e => .inl e))
      have e5 : w9.cell? ⟨q, 5, none⟩ = some (.slice go1 m1 gc1) := by rw [cell_of_row _ _ _ _ _ _ hb']; show some (Value.slice go1 (gtS (akS s d) (F.take k)).G.length gc1) = _; rw [HEm.out]
      have ef := fun o => frozen_of_row w9 q o _ _ hb'
      have z6 := HD10.out.cells.2.2.2.2.2.2.1
      obtain ⟨k0, k1, k2, k3, k4, k5, k6⟩ := rdCc HR10.out hin
      rw [HEx.out] at k0 k1 k2 k3 k4 k5 k6
      obtain ⟨fo1, fc1, e11, _⟩ := HO10.out.slice
      have HE11 := hid e11
      clear e11 ho9 hf9 hb9 hgq hb' ho' hf' hd' hr' hT9 hg9 hY f10 HL8 HO8 HD8 HR8 HT8 HG8)
     refine ⟨rfl, ?_⟩
     have e11 := HE11.out
     rw [HKl.out] at e11
     subst e11
     have HO11 := hid (HO10.out.still (Still.alloc W10 (.cells (kmc x) 36)))
     have HG11 : Hid ((W10.alloc (.cells (kmc x) 36)).heap[W10.heap.size]? = some (.cells (KCc.f x).toArray 36 (0, 0))) := hid (newCc_b W10 x)
     have Hfalse1 : Hid (w.heap.size <= (W10.alloc (.cells (kmc x) 36)).heap.size) := hid (by have := HS.out.size; have := HT10.out.size; rw [size_alloc]; omega)
     go_wp2_with (
      at_builtin
      refine wpList_appQ KCc _ rfl _ _ _ rfl Tryd.underlying37 56 infoCc w.heap.size W10.heap.size _ (F.take k) x rfl rfl HO11.out HG11.out (by rw [HKl.out]; omega) (by rw [HKl.out]; omega) Hfalse1.out ?_
      intro v12 w12 ho12 hf12 hb12
      have HX12 : Hid (∃ go1 gc1, Ydl w12 B q oo oc go1 gc1 (gtS (akS s d) (F.take k ++ [x])) /\ OwG KCc 36 w12 w.heap.size v12 (F.take k ++ [x]) /\ (∀ k, v12.ownBlock = some k -> ∀ b, go1 = some b -> k ≠ b.block) /\ (∀ k, v12.ownBlock = some k -> ∀ b, oo = some b -> k ≠ b.block) /\ (∀ k, v12.ownBlock = some k -> W.heap.size <= k) /\ (∀ b, go1 = some b -> (∃ b0, go = some b0 /\ b0.block = b.block) \/ W.heap.size <= b.block)) := hid (by
       have A11 := Still.alloc W10 (.cells (kmc x) 36)
       have hy := HY.out.still A11
       have hsz : W.heap.size <= (W10.alloc (.cells (kmc x) 36)).heap.size := by have := HT10.out.size; rw [size_alloc]; omega
       have hq : q < W.heap.size := HQl.out
       refine ⟨go2, gc2, hy.keep hf12 (fun e => ?_) (fun a ha e => HN2.out _ e a ha rfl) (fun b hb e => HN12.out _ e b hb rfl), ho12, fun k' hk b hb => ?_, fun k' hk b hb => ?_, fun k' hk => ?_, HN42.out⟩
       ·have := HN3.out q e; omega
       ·rcases hb12 k' hk with e | e
        ·exact HN12.out k' e b hb
        ·have e' : (W10.alloc (.cells (kmc x) 36)).heap.size <= k' := e
         have := (hy.gb b hb).2.1
         omega
       ·rcases hb12 k' hk with e | e
        ·exact HN2.out k' e b hb
        ·have e' : (W10.alloc (.cells (kmc x) 36)).heap.size <= k' := e
         have := (hy.ob b hb).2.1
         omega
       ·rcases hb12 k' hk with e | e
        ·exact HN3.out k' e
        ·have e' : (W10.alloc (.cells (kmc x) 36)).heap.size <= k' := e
         omega)
      have HT12 : Hid (Fr (fun k => k = q \/ ∃ b, go = some b /\ b.block = k) W w12) := hid (Fr.trans (Fr.trans HT10.out (Still.alloc W10 (.cells (kmc x) 36)) (fun _ _ e => e.elim)) hf12 (fun k' hk e => by have := HN3.out k' e; omega))
      clear ho12 hf12 hb12
      go_frame)
     (try simp only [Exit.inBlock, Exit.then])
     go_wp2_with fail
     go_roundw
     case rel => exact ⟨i + 1, by omega, by go_num, by rw [HE0.out]; simp, hid (by rw [HE0.out, HTk.out]; exact HX12.out), HT12⟩
     case measure => simp [intOf]; omega
   ·have hlt : ¬ (i : Int) < (cn : Int) := by omega
    have HFt : Hid (F.take (i - f0) = F) := hid (List.take_of_length_le (by rw [HFl.out]; omega))
    have HFd : Hid (decide (0 < i - f0) = b2) := hid (by rw [<- HB2.out]; have := HFl.out; congr 1; exact propext ⟨fun h => by omega, fun h => by omega⟩)
    obtain ⟨go1, gc1, l1, o1, n1, n2, n3, n4⟩ := HI.out
    rw [HFt.out] at l1 o1
    obtain ⟨fo1, fc1, e11, _⟩ := o1.slice
    subst e11
    have HL1 := hid l1
    have HO1 := hid o1
    have HN4 := hid n4
    have HNo : Hid (∀ k, (Value.slice fo1 F.length fc1).ownBlock = some k -> W.heap.size <= k) := hid n3
    have q4 := Cl.cell d4
    have r6 : ∀ z : Aft wr, z.u.cell? ⟨q, 6, none⟩ = some (.int .i64 s.mq) := Cl.cell l1.cells.2.2.2.2.2.2.1
    have hne := Aft.here wr
    rw [HFd.out]
    clear l1 o1 n1 n2 n3 n4 d0 d1 d2 d3 d4 d5 d7 df
    by_cases hmk : s.mq < d.mrk
    ·have hmk' : decide (s.mq < d.mrk) = true := by simpa using hmk
     go_wp2_with fail
     refine region_all (by kernel_rfl) (by kernel_rfl) ?_
     repeat (go_big_quiet_step (rfl))
     refine wpQuiet_nil ?_
     intro w6 h6
     have hT6 : Fr (fun k => k = q \/ ∃ b, go = some b /\ b.block = k) W w6 := Fr.trans HT.out h6 (fun _ _ e => e.elim)
     have l6 := HL1.out.still h6
     have o6 := HO1.out.still h6
     obtain ⟨d0, d1, d2, d3, d4, d5, d6, d7, df⟩ := (HDT.out.still h6).cells
     obtain ⟨c0, c1, c2, c3, c4, c5, c6, c7, cf⟩ := l6.cells
     have l7 := l6.mrk (d := d) hmk
     have f7 : Fr (fun k => k = q) w6 (w6.setCell ⟨q, 6, none⟩ (.int .i64 d.mrk)) := Fr.setCell (Fr.refl _ _) _ _ (.inl rfl)
     obtain ⟨w7, e7⟩ : ∃ V, w6.setCell ⟨q, 6, none⟩ (.int .i64 d.mrk) = V := ⟨_, rfl⟩
     rw [e7] at l7 f7
     have l8 := l7.met
     have f8 : Fr (fun k => k = q) w7 (w7.setCell ⟨q, 7, none⟩ (.bool true)) := Fr.setCell (Fr.refl _ _) _ _ (.inl rfl)
     obtain ⟨g0, g1, g2, g3, g4, g5, g6, g7, gf⟩ := l7.cells
     have HL8 := hid l8
     have HT8 : Hid (Fr (fun k => k = q \/ ∃ b, go = some b /\ b.block = k) w (w7.setCell ⟨q, 7, none⟩ (.bool true))) := hid (Fr.trans (Fr.trans (Fr.trans (Still.to HS.out) hT6 (fun _ _ e => e)) f7 (fun _ _ e => .inl e)) f8 (fun _ _ e => .inl e))
     have HR8 : Hid (SrG KCc (w7.setCell ⟨q, 7, none⟩ (.bool true)) fo1 fc1 F) := hid (SrG.own (e := 36) (B := w.heap.size) ((o6.keep f7 (fun k' hk e => by have := HNo.out k' e; have := HQl.out; omega)).keep f8 (fun k' hk e => by have := HNo.out k' e; have := HQl.out; omega)) (by have := HFl.out; omega))
     have HBb : Hid (bb = (false || b2 || true)) := hid (by rw [HBr.out, HB1.out, HB2.out, hmk']; cases b2 <;> rfl)
     have HBt : Hid ((false || b2 || true) = true) := hid (by cases b2 <;> rfl)
     clear h6 hT6 l6 o6 l7 l8 f7 f8 q4 r6 hne
     go_wp2_with fail
     (try simp only [Exit.inBlock, Exit.then])
     go_ret3
     exact ⟨fo1, fc1, go1, gc1, by rw [HBb.out, HBt.out]; rfl, HR8.out, by rw [HT0.out]; exact HL8.out, HT8.out, fun b hb => (HN4.out b hb).imp id (fun e => Nat.le_trans HS.out.size e)⟩
    ·have hmk' : decide (s.mq < d.mrk) = false := by simpa using hmk
     go_wp2_with fail
     refine region_all (by kernel_rfl) (by kernel_rfl) ?_
     repeat (go_big_quiet_step (rfl))
     refine wpQuiet_nil ?_
     intro w6 h6
     have hT6 : Fr (fun k => k = q \/ ∃ b, go = some b /\ b.block = k) W w6 := Fr.trans HT.out h6 (fun _ _ e => e.elim)
     have l6 := HL1.out.still h6
     have o6 := HO1.out.still h6
     obtain ⟨c0, c1, c2, c3, c4, c5, c6, c7, cf⟩ := l6.cells
     have l8 := l6.met
     have f8 : Fr (fun k => k = q) w6 (w6.setCell ⟨q, 7, none⟩ (.bool true)) := Fr.setCell (Fr.refl _ _) _ _ (.inl rfl)
     have HL8 := hid l8
     have HT8 : Hid (Fr (fun k => k = q \/ ∃ b, go = some b /\ b.block = k) w (w6.setCell ⟨q, 7, none⟩ (.bool true))) := hid (Fr.trans (Fr.trans (Still.to HS.out) hT6 (fun _ _ e => e)) f8 (fun _ _ e => .inl e))
     have HR8 : Hid (SrG KCc (w6.setCell ⟨q, 7, none⟩ (.bool true)) fo1 fc1 F) := hid (SrG.own (e := 36) (B := w.heap.size) (o6.keep f8 (fun k' hk e => by have := HNo.out k' e; have := HQl.out; omega)) (by have := HFl.out; omega))
     have HBb : Hid (bb = (false || b2)) := hid (by rw [HBr.out, HB1.out, HB2.out, hmk']; cases b2 <;> rfl)
     have HMk : Hid (mkS (gtS (akS s d) F) d = gtS (akS s d) F) := hid (mkS_no (by show d.mrk <= s.mq; omega))
     clear h6 hT6 l6 o6 l8 f8 q4 r6 hne
     go_wp2_with fail
     (try simp only [Exit.inBlock, Exit.then])
     go_ret3
     exact ⟨fo1, fc1, go1, gc1, by rw [HBb.out]; rfl, HR8.out, by rw [HT0.out, HMk.out]; exact HL8.out, HT8.out, fun b hb => (HN4.out b hb).imp id (fun e => Nat.le_trans HS.out.size e)⟩
end Go.Proofs.YtnbofjaecchnaaaDoor
namespace Go.Proofs.YtnbofjaecchnaaaDoor
open Go.RowKit
open Wp Vp Lp
set_option maxRecDepth 100000
set_option linter.unusedVariables false
set_option linter.unusedSimpArgs false
theorem eqI_int (d : Nat) (x y : Int) (w : World) : (Op.equalIn (d + 1) 3 (.int .i64 x) (.int .i64 y)).run Tryd.prog w = .ok (x == y) w := by
 go_simp
theorem eqI_i64 (d : Nat) (x y : Int) (w : World) : (Op.equalIn (d + 1) 2 (.int .i64 x) (.int .i64 y)).run Tryd.prog w = .ok (x == y) w := by
 go_simp
theorem stC {b c : Bool} {w : World} {R : Result Bool} (h : R = .ok c w) : (if (!b) = true then Result.ok false w else R) = .ok (b && c) w := by
 cases b <;> simp [h]
theorem stC1 (b : Bool) {w : World} : (if (!b) = true then Result.ok false w else Result.ok true w) = .ok b w := by
 cases b <;> rfl
abbrev odc (x : Cc) : Array Value := #[.int .i64 x.v, .int .i64 x.a, .int .i64 x.b, .int .i64 x.c]
theorem odpart (x : Cc) (w : World) : (part 3 (odc x) 0).run Tryd.prog w = .ok (.int .i64 x.v) w /\ (part 3 (odc x) 1).run Tryd.prog w = .ok (.int .i64 x.a) w /\ (part 3 (odc x) 2).run Tryd.prog w = .ok (.int .i64 x.b) w /\ (part 3 (odc x) 3).run Tryd.prog w = .ok (.int .i64 x.c) w := by
 refine ⟨?_, ?_, ?_, ?_⟩ <;> go_simp
theorem equal_od (x y : Cc) (w : World) : (Op.equalIn 9999 34 (.agg (odc x)) (.agg (odc y))).run Tryd.prog w = .ok ((x.v == y.v) && ((x.a == y.a) && ((x.b == y.b) && (x.c == y.c)))) w := by
 have c0 := fun w => (odpart x w).1
 have d0 := fun w => (odpart y w).1
 have r0 := fun w => eqI_int 9997 x.v y.v w
 have c1 := fun w => (odpart x w).2.1
 have d1 := fun w => (odpart y w).2.1
 have r1 := fun w => eqI_int 9997 x.a y.a w
 have c2 := fun w => (odpart x w).2.2.1
 have d2 := fun w => (odpart y w).2.2.1
 have r2 := fun w => eqI_int 9997 x.b y.b w
 have c3 := fun w => (odpart x w).2.2.2
 have d3 := fun w => (odpart y w).2.2.2
 have r3 := fun w => eqI_int 9997 x.c y.c w
 rw [run_equalIn_struct w 9998 _ _ _ (by kernel_rfl) (by kernel_rfl)]
 have e : (Tryd.prog.fieldsOf 34) = #[⟨ "Verb", 3, 0, false, "", "", 0⟩, ⟨ "A", 3, 1, false, "", "", 8⟩, ⟨ "B", 3, 2, false, "", "", 16⟩, ⟨ "C", 3, 3, false, "", "", 24⟩] := by kernel_rfl
 rw [e]
 simp only [Op.eqFields, ne_eq, String.reduceEq, not_false_eq_true, if_true, Sem.run_bind, c0, c1, c2, c3, d0, d1, d2, d3, Result.andThen_ok, r0, r1, r2, r3, Sem.run_ite, Sem.run_pure]
 exact stC (stC (stC (stC1 _)))
theorem kmpart (x : Cc) (w : World) : (part 2 (kmc x) 0).run Tryd.prog w = .ok (.int .i64 x.fr) w /\ (part 3 (kmc x) 1).run Tryd.prog w = .ok (.int .i64 x.pe) w /\ (part 3 (kmc x) 2).run Tryd.prog w = .ok (.int .i64 x.sq) w /\ (part 34 (kmc x) 3).run Tryd.prog w = .ok (.agg (odc x)) w := by
 refine ⟨?_, ?_, ?_, ?_⟩ <;> go_simp
def eqCc (x y : Cc) : Bool := (x.fr == y.fr) && ((x.pe == y.pe) && ((x.sq == y.sq) && ((x.v == y.v) && ((x.a == y.a) && ((x.b == y.b) && (x.c == y.c))))))
theorem eqCc_refl (x : Cc) : eqCc x x = true := by unfold eqCc; simp
theorem equal_km (x y : Cc) (w : World) : (Op.equalIn 10000 36 (kmv x) (kmv y)).run Tryd.prog w = .ok (eqCc x y) w := by
 have c0 := fun w => (kmpart x w).1
 have d0 := fun w => (kmpart y w).1
 have r0 := fun w => eqI_i64 9998 x.fr y.fr w
 have c1 := fun w => (kmpart x w).2.1
 have d1 := fun w => (kmpart y w).2.1
 have r1 := fun w => eqI_int 9998 x.pe y.pe w
 have c2 := fun w => (kmpart x w).2.2.1
 have d2 := fun w => (kmpart y w).2.2.1
 have r2 := fun w => eqI_int 9998 x.sq y.sq w
 have c3 := fun w => (kmpart x w).2.2.2
 have d3 := fun w => (kmpart y w).2.2.2
 have r3 := fun w => equal_od x y w
 rw [run_equalIn_struct w 9999 _ _ _ (by kernel_rfl) (by kernel_rfl)]
 have e : (Tryd.prog.fieldsOf 36) = #[⟨ "Frame", 2, 0, false, "", "", 0⟩, ⟨ "Peer", 3, 1, false, "", "", 8⟩, ⟨ "Seq", 3, 2, false, "", "", 16⟩, ⟨ "Order", 34, 3, false, "", "", 24⟩] := by kernel_rfl
 rw [e]
 simp only [Op.eqFields, ne_eq, String.reduceEq, not_false_eq_true, if_true, Sem.run_bind, c0, c1, c2, c3, d0, d1, d2, d3, Result.andThen_ok, r0, r1, r2, r3, Sem.run_ite, Sem.run_pure]
 unfold eqCc
 exact stC (stC (stC (stC1 _)))
theorem eql_km_t (x : Cc) (w : World) : (binOp .eql 36 (kmv x) (kmv x)).run Tryd.prog w = .ok (.bool true) w := by
 rw [run_eql_struct, equal_km, eqCc_refl]; rfl
theorem neq_km_f (x : Cc) (w : World) : (binOp .neq 36 (kmv x) (kmv x)).run Tryd.prog w = .ok (.bool false) w := by
 rw [run_neq_struct, equal_km, eqCc_refl]; rfl
theorem guard_km (op : BinOp) (a b : Operand) (xs ys : Array Value) (w : World) : (eqGuard op 36 a b (.agg xs) (.agg ys)).run Tryd.prog w = .ok () w := run_eqGuard_agg w op _ a b xs ys (by kernel_rfl)
set_option maxHeartbeats 4000000 in
theorem rsame16_t (d : Dg) (ao bo : Option Addr) (n c1 c2 : Nat) (w : World) (ha : RdG KCc w ao n d.cs) (hb : RdG KCc w bo n d.cs) : Calls Tryd.prog 12 #[dgv d ao n c1, dgv d bo n c2] w fun e w' => e = .returned (.bool true) /\ Still w w' := by
 have h47 := ha.2.1
 have A0 := Still.alloc w (.cells (dgc d ao n c1) 39)
 have A1 := Still.alloc (newDg w d ao n c1) (.cells (dgc d bo n c2) 39)
 have p0 := (newDg_b w d ao n c1).still A1
 have q0 := newDg_b (newDg w d ao n c1) d bo n c2
 simp only [size_alloc] at q0
 have HS0 := hid (A0.trans A1)
 have HA := hid (ha.still (A0.trans A1))
 have HB := hid (hb.still (A0.trans A1))
 have HP := hid p0
 have HQ := hid q0
 obtain ⟨e0, e1, e2, e3, e4, e5, e6, e7, ef⟩ := p0.cells
 obtain ⟨f0, f1, f2, f3, f4, f5, f6, f7, ff⟩ := q0.cells
 obtain ⟨W, eW⟩ : ∃ W, newDg (newDg w d ao n c1) d bo n c2 = W := ⟨_, rfl⟩
 obtain ⟨g, eg⟩ : ∃ g, w.heap.size = g := ⟨_, rfl⟩
 have eW' : (w.alloc (.cells (dgc d ao n c1) 39)).alloc (.cells (dgc d bo n c2) 39) = W := eW
 unfold newDg at HP HQ
 rw [eW'] at HS0 HA HB HP HQ
 rw [eg] at HP HQ
 have hnn : ((n : Int) != (n : Int)) = false := by simp
 clear ha hb A0 A1 p0 q0 e0 e1 e2 e3 e4 e5 e6 e7 ef f0 f1 f2 f3 f4 f5 f6 f7 ff eW
 obtain ⟨_, _, _, _, _, _, e6, _, _⟩ := HP.out.cells
 obtain ⟨_, _, _, _, _, _, f6, _, _⟩ := HQ.out.cells
 go_enter Tryd.func12, Tryd.ntmps12
 go_wp2_with fail
 clear e6 f6
 go_loopw [5] (fun u wr => ∃ k : Nat, k <= n /\ u = .int .i64 (k : Int) /\ Hid (Still W wr)) (fun u _ => n - (intOf u).toNat)
 case atStart => exact ⟨0, by omega, rfl, hid (Fr.refl _ _)⟩
 case round =>
  obtain ⟨k, hk, rfl, HS⟩ := hrel
  obtain ⟨m0, m1, m2, m3, m4, m5, m6, m7, _⟩ := (HP.out.still HS.out).cells
  obtain ⟨n0, n1, n2, n3, n4, n5, n6, n7, _⟩ := (HQ.out.still HS.out).cells
  by_cases hkn : k < n
  ·have hlt : (k : Int) < (n : Int) := by omega
   obtain ⟨B1, o1, rfl⟩ := HA.out.at (by omega)
   obtain ⟨B2, o2, rfl⟩ := HB.out.at (by omega)
   obtain ⟨c0, c1', c2', c3, c4, c5, c6⟩ := rdCc (HA.out.still HS.out) hkn
   obtain ⟨d0, d1, d2, d3, d4, d5, d6⟩ := rdCc (HB.out.still HS.out) hkn
   obtain ⟨x, ex⟩ : ∃ x, cc d.cs k = x := ⟨_, rfl⟩
   rw [ex] at c0 c1' c2' c3 c4 c5 c6 d0 d1 d2 d3 d4 d5 d6
   clear ex
   have k0 := Cl.cell c0
   have k1 := Cl.cell c1'
   have k2 := Cl.cell c2'
   have k3 := Cl.cell c3
   have k4 := Cl.cell c4
   have k5 := Cl.cell c5
   have k6 := Cl.cell c6
   have l0 := Cl.cell d0
   have l1 := Cl.cell d1
   have l2 := Cl.cell d2
   have l3 := Cl.cell d3
   have l4 := Cl.cell d4
   have l5 := Cl.cell d5
   have l6 := Cl.cell d6
   have o6 := Cl.cell m6
   have o7 := Cl.cell n6
   have hne := Aft.here wr
   have hq := fun w => neq_km_f x w
   have hg := fun a b w => guard_km .neq a b (kmc x) (kmc x) w
   clear c0 c1' c2' c3 c4 c5 c6 d0 d1 d2 d3 d4 d5 d6 m0 m1 m2 m3 m4 m5 m7 n0 n1 n2 n3 n4 n5 n7
   go_upto_region 6 with fail
   clear m6 n6
   refine region_all (by kernel_rfl) (by kernel_rfl) ?_
   repeat (go_big_quiet_step (fail))
   refine wpQuiet_nil ?_
   intro w3 h3
   have HS3 := hid (HS.out.trans h3)
   clear h3 hne k0 k1 k2 k3 k4 k5 k6 l0 l1 l2 l3 l4 l5 l6 hq hg o6 o7
   go_wp2_with fail
   go_roundw
   case rel => exact ⟨k + 1, by omega, by go_num, HS3⟩
   case measure => simp [intOf]; omega
  ·have hge : ¬ (k : Int) < (n : Int) := by omega
   go_wp2_with fail
   go_ret
   exact ⟨rfl, HS0.out.trans HS.out⟩
set_option maxHeartbeats 4000000 in
theorem rsamc_t (L : List Cc) (ao bo : Option Addr) (n c1 c2 : Nat) (w : World) (ha : RdG KCc w ao n L) (hb : RdG KCc w bo n L) : Calls Tryd.prog 39 #[.slice ao n c1, .slice bo n c2] w fun e w' => e = .returned (.bool true) /\ Still w w' := by
 have h47 := ha.2.1
 have HA := hid ha
 have HB := hid hb
 have hnn : ((n : Int) != (n : Int)) = false := by simp
 clear ha hb
 go_enter Tryd.func39, Tryd.ntmps39
 go_wp2_with fail
 go_loopw [5] (fun u wr => ∃ k : Nat, k <= n /\ u = .int .i64 (k : Int) /\ Hid (Still w wr)) (fun u _ => n - (intOf u).toNat)
 case atStart => exact ⟨0, by omega, rfl, hid (Fr.refl _ _)⟩
 case round =>
  obtain ⟨k, hk, rfl, HS⟩ := hrel
  by_cases hkn : k < n
  ·have hlt : (k : Int) < (n : Int) := by omega
   obtain ⟨B1, o1, rfl⟩ := HA.out.at (by omega)
   obtain ⟨B2, o2, rfl⟩ := HB.out.at (by omega)
   obtain ⟨c0, c1', c2', c3, c4, c5, c6⟩ := rdCc (HA.out.still HS.out) hkn
   obtain ⟨d0, d1, d2, d3, d4, d5, d6⟩ := rdCc (HB.out.still HS.out) hkn
   obtain ⟨x, ex⟩ : ∃ x, cc L k = x := ⟨_, rfl⟩
   rw [ex] at c0 c1' c2' c3 c4 c5 c6 d0 d1 d2 d3 d4 d5 d6
   clear ex
   have k0 := Cl.cell c0
   have k1 := Cl.cell c1'
   have k2 := Cl.cell c2'
   have k3 := Cl.cell c3
   have k4 := Cl.cell c4
   have k5 := Cl.cell c5
   have k6 := Cl.cell c6
   have l0 := Cl.cell d0
   have l1 := Cl.cell d1
   have l2 := Cl.cell d2
   have l3 := Cl.cell d3
   have l4 := Cl.cell d4
   have l5 := Cl.cell d5
   have l6 := Cl.cell d6
   have hne := Aft.here wr
   have hq := fun w => neq_km_f x w
   have hg := fun a b w => guard_km .neq a b (kmc x) (kmc x) w
   clear c0 c1' c2' c3 c4 c5 c6 d0 d1 d2 d3 d4 d5 d6
   go_upto_region 6 with fail
   refine region_all (by kernel_rfl) (by kernel_rfl) ?_
   repeat (go_big_quiet_step (fail))
   refine wpQuiet_nil ?_
   intro w3 h3
   have HS3 := hid (HS.out.trans h3)
   clear h3 hne k0 k1 k2 k3 k4 k5 k6 l0 l1 l2 l3 l4 l5 l6 hq hg
   go_wp2_with fail
   go_roundw
   case rel => exact ⟨k + 1, by omega, by go_num, HS3⟩
   case measure => simp [intOf]; omega
  ·have hge : ¬ (k : Int) < (n : Int) := by omega
   go_wp2_with fail
   go_ret
   exact ⟨rfl, HS.out⟩
set_option maxHeartbeats 4000000 in
theorem lown_any (d : Dg) (co : Option Addr) (cn cp : Nat) (w : World) (hn : d.cs.length = cn) (h47 : cn <= 2513169434843) (hr : SrG KCc w co cp d.cs) : Calls Tryd.prog 11 #[dgv d co cn cp] w fun e w' => ∃ co' cp', e = .returned (dgv d co' cn cp') /\ OwG KCc 36 w' w.heap.size (.slice co' cn cp') d.cs /\ Still w w' := by
 have A0 := Still.alloc w (.cells (dgc d co cn cp) 39)
 have p0 := newDg_b w d co cn cp
 obtain ⟨g, eg⟩ : ∃ g, w.heap.size = g := ⟨_, rfl⟩
 unfold newDg at p0
 obtain ⟨W, eW⟩ : ∃ W, w.alloc (.cells (dgc d co cn cp) 39) = W := ⟨_, rfl⟩
 have hsW : W.heap.size = g + 1 := by rw [<- eW, size_alloc, eg]
 rw [eW] at A0 p0
 rw [eg] at p0
 have A1 := Still.alloc W (.cells (dgc zD none 0 0) 39)
 have p1 := newDg_b W zD none 0 0
 unfold newDg at p1
 obtain ⟨W1, eW1⟩ : ∃ V, W.alloc (.cells (dgc zD none 0 0) 39) = V := ⟨_, rfl⟩
 rw [eW1] at A1 p1
 rw [hsW] at p1
 have hr1 := (hr.still A0).still A1
 have HSr := hid hr1
 have HS1 := hid (A0.trans A1)
 have HP0 := hid (p0.still A1)
 have HP1 := hid p1
 have HN := hid hn
 have HG : Hid (w.heap.size = g) := hid eg
 have HZ : Hid ((Value.agg (KCc.f KCc.d).toArray).cells.size = KCc.k) := hid rfl
 have HL1 : Hid (w.heap.size <= W1.heap.size) := hid (A0.trans A1).size
 obtain ⟨d0, d1, d2, d3, d4, d5, d6, d7, df⟩ := (p0.still A1).cells
 simp only [zD] at eW1
 clear A0 p0 A1 p1 hr hr1 hn
 go_enter Tryd.func11, Tryd.ntmps11
 go_wp2_with (
  at_builtin
  refine wpList_appMG KCc _ rfl _ _ _ rfl Tryd.underlying37 56 _ HZ.out infoCc W1.heap.size _ [] d.cs co cn cp rfl rfl HN.out (OwG.nil _ _) HSr.out (by simp only [List.length_nil, HN.out]; omega) (by simp only [List.length_nil, HN.out]; omega) (Nat.le_refl _) ?_
  intro v4 w4 ho4 hf4
  rw [List.nil_append] at ho4
  obtain ⟨co', cp', e4, _⟩ := ho4.slice
  rw [HN.out] at e4
  subst e4
  have s4 : Still W1 w4 := hf4.mono (fun k _ e => by cases e)
  have p4 := HP0.out.still s4
  have z4 := HP1.out.still s4
  clear d0 d1 d2 d3 d4 d5 d6 d7 df
  obtain ⟨d0, d1, d2, d3, d4, d5, d6, d7, df⟩ := p4.cells
  have q7 := dset6 p4 d.cs co' cn cp'
  have f7 : Fr (fun k => k = g) w4 (w4.setCell ⟨g, 6, none⟩ (.slice co' cn cp')) := Fr.setCell (Fr.refl _ _) _ _ (.inl rfl)
  have z7 := z4.keepD f7 (by omega)
  have hsz : g + 1 < W1.heap.size := block_lt HP1.out
  have hob : ∀ k, (Value.slice co' cn cp').ownBlock = some k -> W1.heap.size <= k := fun k hk => (ho4.block hk).1
  have o7 := ho4.keep f7 (fun k hk e => by have := hob k e; omega)
  obtain ⟨W7, eW7⟩ : ∃ V, w4.setCell ⟨g, 6, none⟩ (.slice co' cn cp') = V := ⟨_, rfl⟩
  rw [eW7] at q7 f7 z7 o7
  have q7' : Dgb W7 g d co' cn cp' := q7
  obtain ⟨e0, e1, e2, e3, e4, e5, e6, e7, ef⟩ := q7'.cells
  obtain ⟨i0, i1, i2, i3, i4, i5, i6, i7, iF⟩ := z7.cells
  have HZ8 := hid (z7.set d co' cn cp')
  have f8 : Fr (fun k => k = g + 1) W7 (setDg W7 (g + 1) d co' cn cp') := setDg_fr (Fr.refl _ _) _ _ _ _ _ (.inl rfl)
  have HO8 := hid ((o7.keep f8 (fun k hk e => by have := hob k e; omega)).less (B' := w.heap.size) HL1.out)
  have HS8 : Hid (Still w (setDg W7 (g + 1) d co' cn cp')) := hid (by
   have s7 : Still w W7 := Fr.trans (HS1.out.trans s4) f7 (fun k hk e => by have := HG.out; omega)
   exact setDg_fr s7 _ _ _ _ _ (.inr (by have := HG.out; omega)))
  clear ho4 hf4 s4 p4 z4 q7 q7' f7 z7 hob o7 f8 HSr hsz)
 (try simp only [Exit.inBlock, Exit.then])
 refine bodyPost_ret (HZ8.out.res rfl _ rfl) rfl ?_
 exact ⟨co', cp', rfl, by first | exact HO8.out | (have := HO8.out; rw [HG.out] at this; exact this), HS8.out⟩
end Go.Proofs.YtnbofjaecchnaaaDoor
