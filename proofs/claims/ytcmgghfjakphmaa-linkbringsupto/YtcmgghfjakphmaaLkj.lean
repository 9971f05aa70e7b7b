/- The program's misplaces. -/
import Derived.Test.YtcmgghfjakphmaaLki
import Derived.Test.YtcmgghfjakphmaaSlM
namespace Go.Proofs.Ytcmgghfjakphmaa
open Go.RowKit
open Wp Vp Lp
set_option maxRecDepth 100000
set_option linter.unusedVariables false
set_option linter.unusedSimpArgs false

theorem Ccb.keepC {F : Nat → Prop} {w w' : World} {g : Nat} {x : Cc} (h : Ccb w g x) (hf : Fr F w w') (hn : ¬ F g) : Ccb w' g x := hf.kept h hn
theorem lclo_any {w : World} {mb n : Nat} {D : DataW Value} (h : w.ownsMap Try.prog 2 RI mb n D) : Calls Try.prog 41 #[.map (some mb)] w fun e w' => e = .returned (.map (some w.heap.size)) ∧ w'.ownsMap Try.prog 2 RI w.heap.size n D ∧ Still w w' := by
  obtain ⟨es, clock, hb, F, hs, hD⟩ := h
  have hc : Calls Try.prog 41 #[.map (some mb)] w (fun e w' => e = .returned (.map (some w.heap.size)) ∧ w' = w.alloc (.map es clock)) := AnyW.maps_Clone Try.cloM mb es clock w hb
  refine hc.mono fun e w' ⟨he, hw⟩ => ?_
  subst hw
  exact ⟨he, ⟨es, clock, (MapKept.heap_alloc w _).1, F, hs, hD⟩, Still.alloc w _⟩
theorem take_one {L : List Cc} {i : Nat} (h : i < L.length) : L.take (i + 1) = L.take i ++ [cc L i] ∧ L.drop i = cc L i :: L.drop (i + 1) := by
  rw [cc_at h]
  exact ⟨by rw [List.take_succ_eq_append_getElem h], by rw [List.drop_eq_getElem_cons h]⟩
set_option maxHeartbeats 8000000 in
theorem lmis_any (p : Nat) (ko : Option Addr) (kc mb B : Nat) (s : Ln) (d : Dg) (co : Option Addr) (cn cp : Nat) (hn : d.cs.length = cn) (hg : s.G.length ≤ 1099511627776) (hfi : 0 ≤ d.fi ∧ d.fi ≤ (s.G.length : Int) + 1) (hcn : cn ≤ 1000000) (hmk : 0 ≤ d.mrk ∧ d.mrk ≤ 1099511627776) (hcs : ∀ c ∈ d.cs, 1 ≤ c.fr ∧ c.fr ≤ 1099511627776) (w : World) (h : Lkk w B p mb ko kc s) (hr : SrG KCc w co cp d.cs) : Calls Try.prog 29 #[.pointer (some ⟨p, 0, none⟩), dgv d co cn cp] w fun e w' => e = .returned (.bool (misB s.mq d.mrk s.G (frs s d))) ∧ Still w w' := by
  have A0 := Still.alloc w (.cells (dgc d co cn cp) 51)
  have p0 := newDg_b w d co cn cp
  have L0 := h.still A0
  have r0 := hr.still A0
  obtain ⟨g, eg⟩ : ∃ g, w.heap.size = g := ⟨_, rfl⟩
  unfold newDg at p0
  obtain ⟨W, eW⟩ : ∃ W, w.alloc (.cells (dgc d co cn cp) 51) = W := ⟨_, rfl⟩
  rw [eW] at A0 p0 L0 r0
  rw [eg] at p0
  obtain ⟨d0, d1, d2, d3, d4, d5, d6, d7, df⟩ := p0.cells
  have c9 := L0.cells.2.2.2.2.2.2.2.2.2.1
  obtain ⟨D0, hD0, hC0⟩ := L0.mp
  have HC1 := hid (lclo_any hD0)
  have HC0 := hid hC0
  have HS := hid A0
  have HL := hid L0
  have HP := hid p0
  have hcp : cn ≤ cp := by have := hr.le; omega
  have HC2 : Hid (∀ u, Still W u → Calls Try.prog 20 #[.pointer (some ⟨p, 0, none⟩), dgv d co cn cp] u fun e w' => e = .returned (.slice (cutG 7 co cn (frI s d)) (cn - frI s d) (cn - frI s d)) ∧ Still u w') := hid (fun u hu => lfresh_any p ko kc mb B s d co cn cp hn hg hfi hcp (by omega) u (HL.out.still hu))
  have hfr := r0.fresh s
  rw [hn] at hfr
  have HF := hid hfr.rd
  have HFl : Hid ((frs s d).length = cn - frI s d) := hid (by rw [frs_frI, List.length_drop, hn])
  have HFc : Hid (∀ c ∈ frs s d, 1 ≤ c.fr ∧ c.fr ≤ 1099511627776) := hid (fun c hc => hcs c (List.mem_of_mem_drop hc))
  have hnl : cn - frI s d ≤ 1000000 := by omega
  obtain ⟨F, eF⟩ : ∃ F, frs s d = F := ⟨_, rfl⟩
  obtain ⟨i0, ei0⟩ : ∃ i, frI s d = i := ⟨_, rfl⟩
  rw [eF] at HF HFl HFc ⊢
  rw [ei0] at HC2 HF HFl hnl
  have HHn := hid hn
  have HHc := hid hcs
  clear eF ei0 A0 p0 L0 r0 h hr hD0 hC0 hfr hn hcs hcp hcn
  go_enter Try.func29, Try.ntmps29
  go_wp2_with fail
  refine HC1.out.mono ?_
  rintro e w2 ⟨he, hm2, h2⟩
  rw [he]
  have HM2 := hid hm2
  have HS2 := hid h2
  have HCb : Hid (W.heap.size ≤ W.heap.size) := hid (Nat.le_refl _)
  obtain ⟨cb, ecb⟩ : ∃ cb, W.heap.size = cb := ⟨_, rfl⟩
  rw [ecb] at HM2
  have HCb : Hid (W.heap.size ≤ cb) := hid (by omega)
  obtain ⟨d0, d1, d2, d3, d4, d5, d6, d7, df⟩ := (HP.out.still h2).cells
  rw [ecb]
  clear he hm2 h2 HC1 c9 ecb eW
  go_wp2_with fail
  refine (HC2.out _ HS2.out).mono ?_
  rintro e w3 ⟨he, h3⟩
  rw [he]
  have HM3 : Hid (Mpc w3 cb s.G.length s.mq s.G) := hid ⟨D0, grown_of h3 (fun e => e) HM2.out.lt HM2.out, HC0.out⟩
  have HS3 := hid (HS2.out.trans h3)
  clear he h3 HC2 HS2 HM2 HC0 d0 d1 d2 d3 d4 d5 d6 d7 df
  have HF : Hid (RdG KCc W (cutG 7 co cn i0) (cn - i0) F) := hid (by have := HF.out; rw [HFl.out] at this; exact this)
  obtain ⟨n, en⟩ : ∃ n, cn - i0 = n := ⟨_, rfl⟩
  rw [en] at HF HFl hnl ⊢
  obtain ⟨fo, efo⟩ : ∃ fo, cutG 7 co cn i0 = fo := ⟨_, rfl⟩
  rw [efo] at HF ⊢
  clear en efo
  have HE : Hid (misB s.mq d.mrk s.G F = misB s.mq d.mrk s.G F) := hid rfl
  go_wp2_with fail
  go_loopw [17] (fun u17 wr => ∃ i : Nat, i ≤ n ∧ u17 = .int .i64 (i : Int) ∧ Hid (Mpc wr cb (s.G.length + i) s.mq (s.G ++ F.take i)) ∧ Hid (misB s.mq d.mrk s.G F = misB s.mq d.mrk (s.G ++ F.take i) (F.drop i)) ∧ Hid (Still W wr)) (fun u17 _ => n - (intOf u17).toNat)
  case atStart => exact ⟨0, by omega, rfl, hid (by simpa using HM3.out), hid (by simp), HS3⟩
  case round =>
    obtain ⟨i, hi, rfl, HM, HI, HL3⟩ := hrel
    by_cases hin : i < n
    · have hlt : (i : Int) < (n : Int) := by omega
      obtain ⟨B', o, eco⟩ := HF.out.at (by omega)
      subst eco
      obtain ⟨k0, k1, k2, k3, k4, k5, k6⟩ := rdCc (HF.out.still HL3.out) hin
      obtain ⟨D, hD, hC⟩ := HM.out
      have hxr1 := HFc.out (cc F i) (by rw [cc_at (by rw [HFl.out]; exact hin)]; exact List.getElem_mem _)
      have ht1 := take_one (L := F) (i := i) (by rw [HFl.out]; exact hin)
      obtain ⟨x, ex⟩ : ∃ x, cc F i = x := ⟨_, rfl⟩
      rw [ex] at k0 k1 k2 k3 k4 k5 k6 hxr1 ht1
      obtain ⟨v, hv, v0, v1, v2⟩ := hC x.fr
      have hxr : -9223372036854775808 ≤ x.fr ∧ x.fr ≤ 9223372036854775807 := by omega
      have HTk : Hid (F.take (i + 1) = F.take i ++ [x]) := hid ht1.1
      have HX : Hid (misB s.mq d.mrk (s.G ++ F.take i) (F.drop i) = ((decide (x.fr ≤ s.mq) || (decide (d.mrk + 16 < x.fr) || decide (3 ≤ onN (s.G ++ F.take i) x.fr))) || misB s.mq d.mrk (s.G ++ F.take i ++ [x]) (F.drop (i + 1)))) := hid (by rw [ht1.2]; rfl)
      have A3 := Still.alloc wr (.cells (kmc x) 47)
      have HB3 : Hid (Ccb (wr.alloc (.cells (kmc x) 47)) wr.heap.size x) := hid (newCc_b wr x)
      have HS3 := hid (HL3.out.trans A3)
      have HCl : Hid (cb < wr.heap.size) := hid hD.lt
      have HD := hid (grown_of A3 (fun e => e) hD.lt hD)
      have hlk := own_look HD.out hxr hv
      have HCn := hid hC
      have HLk : Hid (∀ u : World, u.ownsMap Try.prog 2 RI cb (s.G.length + i + 1) (D.put (.int .i64 x.fr) (.held (.int .i64 (v + 1)))) → (Instr.lookup 55 (.map (some cb)) (.int .i64 x.fr) false).run Try.prog u = .ok (.int .i64 (v + 1)) u) := hid (fun u hu => own_look hu hxr (Maps.atKey_put_same HD.out.isMap (lawI6.key (keyI6 hxr)) _ _))
      have HK : Hid (keyOf Try.prog 2 (.int .i64 x.fr) = some (.int .i64 x.fr)) := hid (keyI6 hxr)
      have v1' : v ≤ 1099512627776 := by rw [List.length_append, List.length_take] at v1; omega
      have HNl : Hid (s.G.length + i < maxLen) := hid (by unfold maxLen; omega)
      have HZ : Hid (RI (.int .i64 (v + 1)) = some (.held (.int .i64 (v + 1)), [])) := hid rfl
      have hw : IntKind.i64.wrap (v + 1) = v + 1 := wr64 (by omega) (by omega)
      have hw2 : IntKind.i64.wrap (d.mrk + 16) = d.mrk + 16 := wr64 (by omega) (by omega)
      have HV2 := hid v2
      clear ex ht1 hxr1 hD hC A3 HM HL3 v1 v2
      by_cases b1 : x.fr ≤ s.mq
      · have e1 : decide (x.fr ≤ s.mq) = true := by simpa using b1
        go_wp2_with (
          at_mapUpdate
          refine wpList_mapUpdate_in _ rfl _ _ _ 55 rfl 2 3 lawI6 Try.underlying55 RI cb (s.G.length + i) D rfl HD.out HNl.out _ _ (.int .i64 x.fr) rfl rfl HK.out (.held (.int .i64 (v + 1))) [] HZ.out ?_
          intro w4 hm4 ht4
          have hf4 := turned_fr ht4
          have HM4 := hid (Mpc.put HD.out HCn.out hxr hv hm4)
          have HS4 : Hid (Still W w4) := hid (Fr.trans HS3.out hf4 (fun k hk e => by have := HCb.out; omega))
          have hk0 : w4.cell? ⟨wr.heap.size, 0, none⟩ = some (.int .i64 x.fr) := (HB3.out.keepC hf4 (fun e => by have := HCl.out; omega)).cells.1
          have hk6 := (HL.out.still HS4.out).cells.2.2.2.2.2.2.1
          have hd4 := (HP.out.still HS4.out).cells.2.2.2.2.1
          have hv4 := HLk.out w4 hm4
          have q0 := Cl.cell hk0
          have q6 := Cl.cell hk6
          have q4 := Cl.cell hd4
          have qv : ∀ z : Aft w4, (Instr.lookup 55 (.map (some cb)) (.int .i64 x.fr) false).run Try.prog z.u = .ok (.int .i64 (v + 1)) z.u := fun z => HLk.out z.u (grown_of z.s (fun e => e) hm4.lt hm4)
          have hne := Aft.here w4
          clear hm4 ht4 hf4 hk0 hk6 hd4 hv4 k0 k1 k2 k3 k4 k5 k6 hlk
          go_frame)
        refine region_all (by kernel_rfl) (by kernel_rfl) ?_
        repeat (go_big_quiet_step (rfl))
        refine wpQuiet_nil ?_
        intro w5 h5
        clear q0 q6 q4 qv hne
        go_wp2_with fail
        go_ret
        exact ⟨by rw [HI.out, HX.out]; simp [e1], HS.out.trans (HS4.out.trans h5)⟩
      · have e1 : decide (x.fr ≤ s.mq) = false := by simpa using b1
        by_cases b2 : d.mrk + 16 < x.fr
        · have e2 : decide (d.mrk + 16 < x.fr) = true := by simpa using b2
          go_wp2_with (
            at_mapUpdate
            refine wpList_mapUpdate_in _ rfl _ _ _ 55 rfl 2 3 lawI6 Try.underlying55 RI cb (s.G.length + i) D rfl HD.out HNl.out _ _ (.int .i64 x.fr) rfl rfl HK.out (.held (.int .i64 (v + 1))) [] HZ.out ?_
            intro w4 hm4 ht4
            have hf4 := turned_fr ht4
            have HM4 := hid (Mpc.put HD.out HCn.out hxr hv hm4)
            have HS4 : Hid (Still W w4) := hid (Fr.trans HS3.out hf4 (fun k hk e => by have := HCb.out; omega))
            have hk0 : w4.cell? ⟨wr.heap.size, 0, none⟩ = some (.int .i64 x.fr) := (HB3.out.keepC hf4 (fun e => by have := HCl.out; omega)).cells.1
            have hk6 := (HL.out.still HS4.out).cells.2.2.2.2.2.2.1
            have hd4 := (HP.out.still HS4.out).cells.2.2.2.2.1
            have hv4 := HLk.out w4 hm4
            have q0 := Cl.cell hk0
            have q6 := Cl.cell hk6
            have q4 := Cl.cell hd4
            have qv : ∀ z : Aft w4, (Instr.lookup 55 (.map (some cb)) (.int .i64 x.fr) false).run Try.prog z.u = .ok (.int .i64 (v + 1)) z.u := fun z => HLk.out z.u (grown_of z.s (fun e => e) hm4.lt hm4)
            have hne := Aft.here w4
            clear hm4 ht4 hf4 hk0 hk6 hd4 hv4 k0 k1 k2 k3 k4 k5 k6 hlk
            go_frame)
          refine region_all (by kernel_rfl) (by kernel_rfl) ?_
          repeat (go_big_quiet_step (rfl))
          refine wpQuiet_nil ?_
          intro w5 h5
          clear q0 q6 q4 qv hne
          go_wp2_with fail
          go_ret
          exact ⟨by rw [HI.out, HX.out]; simp [e1, e2], HS.out.trans (HS4.out.trans h5)⟩
        · have e2 : decide (d.mrk + 16 < x.fr) = false := by simpa using b2
          have HV3 := hid (HV2.out (by omega))
          by_cases b3 : 3 < v + 1
          · have e3 : decide (3 < v + 1) = true := by simpa using b3
            have HE3 : Hid (decide (3 ≤ onN (s.G ++ F.take i) x.fr) = true) := hid (by have := HV3.out; simp only [decide_eq_true_eq]; omega)
            go_wp2_with (
              at_mapUpdate
              refine wpList_mapUpdate_in _ rfl _ _ _ 55 rfl 2 3 lawI6 Try.underlying55 RI cb (s.G.length + i) D rfl HD.out HNl.out _ _ (.int .i64 x.fr) rfl rfl HK.out (.held (.int .i64 (v + 1))) [] HZ.out ?_
              intro w4 hm4 ht4
              have hf4 := turned_fr ht4
              have HM4 := hid (Mpc.put HD.out HCn.out hxr hv hm4)
              have HS4 : Hid (Still W w4) := hid (Fr.trans HS3.out hf4 (fun k hk e => by have := HCb.out; omega))
              have hk0 : w4.cell? ⟨wr.heap.size, 0, none⟩ = some (.int .i64 x.fr) := (HB3.out.keepC hf4 (fun e => by have := HCl.out; omega)).cells.1
              have hk6 := (HL.out.still HS4.out).cells.2.2.2.2.2.2.1
              have hd4 := (HP.out.still HS4.out).cells.2.2.2.2.1
              have hv4 := HLk.out w4 hm4
              have q0 := Cl.cell hk0
              have q6 := Cl.cell hk6
              have q4 := Cl.cell hd4
              have qv : ∀ z : Aft w4, (Instr.lookup 55 (.map (some cb)) (.int .i64 x.fr) false).run Try.prog z.u = .ok (.int .i64 (v + 1)) z.u := fun z => HLk.out z.u (grown_of z.s (fun e => e) hm4.lt hm4)
              have hne := Aft.here w4
              clear hm4 ht4 hf4 hk0 hk6 hd4 hv4 k0 k1 k2 k3 k4 k5 k6 hlk
              go_frame)
            refine region_all (by kernel_rfl) (by kernel_rfl) ?_
            repeat (go_big_quiet_step (rfl))
            refine wpQuiet_nil ?_
            intro w5 h5
            clear q0 q6 q4 qv hne
            go_wp2_with fail
            go_ret
            exact ⟨by rw [HI.out, HX.out]; simp [e1, e2, HE3.out], HS.out.trans (HS4.out.trans h5)⟩
          · have e3 : decide (3 < v + 1) = false := by simpa using b3
            have HE3 : Hid (decide (3 ≤ onN (s.G ++ F.take i) x.fr) = false) := hid (by have := HV3.out; simp only [decide_eq_false_iff_not]; omega)
            go_wp2_with (
              at_mapUpdate
              refine wpList_mapUpdate_in _ rfl _ _ _ 55 rfl 2 3 lawI6 Try.underlying55 RI cb (s.G.length + i) D rfl HD.out HNl.out _ _ (.int .i64 x.fr) rfl rfl HK.out (.held (.int .i64 (v + 1))) [] HZ.out ?_
              intro w4 hm4 ht4
              have hf4 := turned_fr ht4
              have HM4 := hid (Mpc.put HD.out HCn.out hxr hv hm4)
              have HS4 : Hid (Still W w4) := hid (Fr.trans HS3.out hf4 (fun k hk e => by have := HCb.out; omega))
              have hk0 : w4.cell? ⟨wr.heap.size, 0, none⟩ = some (.int .i64 x.fr) := (HB3.out.keepC hf4 (fun e => by have := HCl.out; omega)).cells.1
              have hk6 := (HL.out.still HS4.out).cells.2.2.2.2.2.2.1
              have hd4 := (HP.out.still HS4.out).cells.2.2.2.2.1
              have hv4 := HLk.out w4 hm4
              have q0 := Cl.cell hk0
              have q6 := Cl.cell hk6
              have q4 := Cl.cell hd4
              have qv : ∀ z : Aft w4, (Instr.lookup 55 (.map (some cb)) (.int .i64 x.fr) false).run Try.prog z.u = .ok (.int .i64 (v + 1)) z.u := fun z => HLk.out z.u (grown_of z.s (fun e => e) hm4.lt hm4)
              have hne := Aft.here w4
              clear hm4 ht4 hf4 hk0 hk6 hd4 hv4 k0 k1 k2 k3 k4 k5 k6 hlk
              go_frame)
            refine region_all (by kernel_rfl) (by kernel_rfl) ?_
            repeat (go_big_quiet_step (rfl))
            refine wpQuiet_nil ?_
            intro w5 h5
            clear q0 q6 q4 qv hne
            have HM5 := hid (HM4.out.keep h5 (fun e => e))
            have HS5 := hid (HS4.out.trans h5)
            clear h5 HM4 HS4
            go_wp2_with fail
            go_roundw
            case rel => exact ⟨i + 1, by omega, by go_num, hid (by rw [HTk.out, ← List.append_assoc]; exact HM5.out), hid (by rw [HI.out, HX.out, HTk.out, ← List.append_assoc]; simp [e1, e2, HE3.out]), HS5⟩
            case measure => simp [intOf]; omega
    · have hnl : ¬ (i : Int) < (n : Int) := by omega
      have HT : Hid (F.drop i = []) := hid (List.drop_of_length_le (by rw [HFl.out]; omega))
      go_wp2_with fail
      go_ret
      exact ⟨by rw [HI.out, HT.out]; rfl, HS.out.trans HL3.out⟩
end Go.Proofs.Ytcmgghfjakphmaa
