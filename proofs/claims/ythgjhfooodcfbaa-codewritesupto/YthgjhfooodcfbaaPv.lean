/- pair.wrote: both writers go alike. -/
import Derived.Test.YthgjhfooodcfbaaPw
namespace Go.Proofs.Ythgjhfooodcfbaa
open Go.RowKit

set_option maxHeartbeats 4000000 in
set_option maxRecDepth 100000 in
theorem wrote_any (O : Nat → Prop) (xp yp : Nat) (room : Int) (bs : List UInt8) (e : Int) (m : Nat) (o : Op) (w : World) (hp : Pw w O xp yp room bs e m) (ho : o.ok w) (hO : ∀ k, O k → k < w.heap.size) (hoO : ∀ a, o.ao = some a → 0 < o.len → ¬ O a.block) (hm : m + o.len + 40 ≤ 140737488355328) :
    Calls Try.prog 11 #[.agg #[.pointer (some ⟨xp, 0, none⟩), .pointer (some ⟨yp, 0, none⟩)], .agg o.val] w fun r w' => r = .returned (.bool true) ∧ WroteS w w' O xp yp room (m + o.len + 20) := by
  have hst0 := Still.alloc w (.cells #[.pointer (some ⟨xp, 0, none⟩), .pointer (some ⟨yp, 0, none⟩)] 35)
  have hst1 := hst0.trans (Still.alloc _ (.cells o.val 28))
  have hp1 := hp.still hst1
  have hok1 := ho.still hst1
  have hbc := heap_alloc2_old w (.cells #[.pointer (some ⟨xp, 0, none⟩), .pointer (some ⟨yp, 0, none⟩)] 35) (.cells o.val 28)
  have hbo := heap_alloc2_new w (.cells #[.pointer (some ⟨xp, 0, none⟩), .pointer (some ⟨yp, 0, none⟩)] 35) (.cells o.val 28)
  obtain ⟨xo, xn, xc, yo, yn, yc, yb, hx, hy, h1, h2, h3, h4, h5, h6, h7, h8, h9, h10, h11⟩ := hp1
  obtain ⟨p0, p1, pf⟩ := two hbc
  have hp0 := Cp.pick_lo o.kind (n := 6) (by omega)
  have hp6 := Cp.pick_hi o.kind (n := 6) (by omega)
  have hpk := pick_any o.kind 6 ho.k1 ho.k2 (by omega) (by omega)
  obtain ⟨q, hq⟩ : ∃ q, q = Cp.pick o.kind 6 := ⟨_, rfl⟩
  rw [← hq] at hp0 hp6
  simp only [← hq] at hpk
  have HP := hid hpk
  clear hpk hq
  have hn1 := ho.n1
  have hi1 := ho.i1
  have hi2 := ho.i2
  obtain ⟨kind, which, on, oi, oa, ol, oc, ob, most⟩ := o
  simp only [Op.val] at *
  obtain ⟨q0, q1, q2, q3, q4, q5⟩ := six' hbo
  obtain ⟨W1, hW1⟩ : ∃ W1, W1 = (w.alloc (.cells #[.pointer (some ⟨xp, 0, none⟩), .pointer (some ⟨yp, 0, none⟩)] 35)).alloc (.cells #[.int .i64 kind, .int .i64 which, .int .u64 (on : Int), .int .i64 oi, .slice oa ol oc, .int .i64 most] 28) := ⟨_, rfl⟩
  have HW1 := hid hW1
  have hsz : W1.heap.size = w.heap.size + 2 := by rw [hW1]; simp
  rw [← hW1] at hst1 hok1 hbc hbo hx hy p0 p1 q0 q1 q2 q3 q4 q5
  clear hW1 pf hst0
  have hO1 : ∀ k, O k → k < W1.heap.size := fun k hk => by have := hO k hk; omega
  have hWx : ∀ k, Wf xp xo k → k < w.heap.size := by
    rintro k (rfl | ⟨a, h, rfl⟩)
    · exact hO _ h7
    · exact hO _ (h9 a h)
  have hWy : ∀ k, Wf yp yo k → k < w.heap.size := by
    rintro k (rfl | ⟨a, h, rfl⟩)
    · exact hO _ h8
    · exact hO _ (h10 a h)
  have HSZ := hid hsz
  clear hsz
  have H1 := hid h1
  have H2 := hid h2
  clear h1 h2
  have HON := hid hn1
  by_cases hq1 : q < 1
  · go_enter Try.func11, Try.ntmps11
    go_wp2_with fail
    rw [← HW1.out]
    refine (HP.out _).mono ?_
    rintro r w1 ⟨rfl, rfl⟩
    go_wp2
    go_ret
    exact ⟨rfl, WroteS.from hst1 ⟨bs, e, ((hp.still hst1).more (fun _ h => .inl h) (by omega)), Fr.refl _ _⟩⟩
  · by_cases hq2 : q < 2
    · have hten := Cp.form_ten hn1
      go_enter Try.func11, Try.ntmps11
      go_wp2_with fail
      rw [← HW1.out]
      refine (HP.out _).mono ?_
      rintro r w1 ⟨rfl, rfl⟩
      go_wp2_with fail
      refine (wuint_any xp xo xn xc room bs e on hn1 _ hx h5 h6 (by omega)).mono ?_
      rintro r w2 ⟨rfl, hl⟩
      have hbc2 := laid_block hl hbc (fun hk => by have := hWx _ hk; omega)
      have hbo2 := laid_block hl hbo (fun hk => by have := hWx _ hk; omega)
      obtain ⟨u0, u1, _⟩ := two hbc2
      obtain ⟨r0, r1, r2, r3, r4, r5⟩ := six' hbo2
      go_wp2_with fail
      refine (rform_any on hn1 _).mono ?_
      rintro r w3 ⟨fo, fc, rfl, hfo, hst3, hnew⟩
      have hy3 := wy_mid (w0 := w1) hx hy h8 h10 h11 hO1 hl hst3 (fun _ e => e.elim)
      obtain ⟨z0, z1, _⟩ := two (Fr.kept_still hst3 hbc2)
      obtain ⟨v0, v1, v2, v3, v4, v5⟩ := six' (Fr.kept_still hst3 hbo2)
      go_wp2_with fail
      refine (lay_y yp yo yn yc room yb e fo _ fc _ w3 hy3 hfo.rd h5 h6 (by omega)).mono ?_
      rintro r w4 ⟨rfl, hu⟩
      have hR := (pw_step (Fr.refl _ w1) hx hy H1.out H2.out h3 h4 h5 h6 h7 h8 h9 h10 h11 hO1 hl hst3 (fun _ e => e.elim) hu).more (m' := m + ol + 20) (by omega)
      go_wp2
      go_ret
      exact ⟨rfl, WroteS.from hst1 hR⟩
    · by_cases hq3 : q < 3
      · have hfl := Cp.fold_lt hi1 hi2
        have hten := Cp.form_ten hfl
        go_enter Try.func11, Try.ntmps11
        go_wp2_with fail
        rw [← HW1.out]
        refine (HP.out _).mono ?_
        rintro r w1 ⟨rfl, rfl⟩
        go_wp2_with fail
        refine (wint_any xp xo xn xc room bs e oi hi1 hi2 _ hx h5 h6 (by omega)).mono ?_
        rintro r w2 ⟨rfl, hl⟩
        have hbc2 := laid_block hl hbc (fun hk => by have := hWx _ hk; omega)
        have hbo2 := laid_block hl hbo (fun hk => by have := hWx _ hk; omega)
        obtain ⟨u0, u1, _⟩ := two hbc2
        obtain ⟨r0, r1, r2, r3, r4, r5⟩ := six' hbo2
        go_wp2_with fail
        refine (turned_any oi hi1 hi2 _).mono ?_
        rintro r w2' ⟨rfl, rfl⟩
        go_wp2_with fail
        refine (rform_any (Cp.fold oi) hfl _).mono ?_
        rintro r w3 ⟨fo, fc, rfl, hfo, hst3, hnew⟩
        have hy3 := wy_mid (w0 := w1) hx hy h8 h10 h11 hO1 hl hst3 (fun _ e => e.elim)
        obtain ⟨z0, z1, _⟩ := two (Fr.kept_still hst3 hbc2)
        obtain ⟨v0, v1, v2, v3, v4, v5⟩ := six' (Fr.kept_still hst3 hbo2)
        go_wp2_with fail
        refine (lay_y yp yo yn yc room yb e fo _ fc _ w3 hy3 hfo.rd h5 h6 (by omega)).mono ?_
        rintro r w4 ⟨rfl, hu⟩
        have hR := (pw_step (Fr.refl _ w1) hx hy H1.out H2.out h3 h4 h5 h6 h7 h8 h9 h10 h11 hO1 hl hst3 (fun _ e => e.elim) hu).more (m' := m + ol + 20) (by omega)
        go_wp2
        go_ret
        exact ⟨rfl, WroteS.from hst1 hR⟩
      · by_cases hq4 : q < 4
        · have hwrap : IntKind.u8.wrap (on : Int) = ((on % 256 : Nat) : Int) := by rw [IntKind.wrap_u8]; omega
          have HB := hid (show ((on % 256 : Nat) : Int) = ((UInt8.ofNat (on % 256)).toNat : Int) by rw [Cp.ofNat_toNat (by omega)])
          go_enter Try.func11, Try.ntmps11
          go_wp2_with fail
          rw [← HW1.out]
          refine (HP.out _).mono ?_
          rintro r w1 ⟨rfl, rfl⟩
          go_wp2_with fail
          refine (wbyte_any xp xo xn xc room bs e (UInt8.ofNat (on % 256)) ((on % 256 : Nat) : Int) HB.out _ hx h5 h6 (by omega)).mono ?_
          rintro r w2 ⟨rfl, hl⟩
          have hbc2 := laid_block hl hbc (fun hk => by have := hWx _ hk; omega)
          have hbo2 := laid_block hl hbo (fun hk => by have := hWx _ hk; omega)
          obtain ⟨u0, u1, _⟩ := two hbc2
          obtain ⟨r0, r1, r2, r3, r4, r5⟩ := six' hbo2
          have hst3 := Still.alloc w2 (.cells #[.int .u8 ((on % 256 : Nat) : Int)] 5)
          have hy3 := wy_mid (w0 := w1) hx hy h8 h10 h11 hO1 hl hst3 (fun _ e => e.elim)
          obtain ⟨z0, z1, _⟩ := two (Fr.kept_still hst3 hbc2)
          obtain ⟨v0, v1, v2, v3, v4, v5⟩ := six' (Fr.kept_still hst3 hbo2)
          have HYC := hid (lay_y yp yo yn yc room yb e (some ⟨w2.heap.size, 0, none⟩) 1 1 [UInt8.ofNat (on % 256)] _ hy3 (Rd.one w2 _ _ HB.out) h5 h6 (by omega))
          go_wp2_with fail
          refine HYC.out.mono ?_
          rintro r w4 ⟨rfl, hu⟩
          have hR := (pw_step (Fr.refl _ w1) hx hy H1.out H2.out h3 h4 h5 h6 h7 h8 h9 h10 h11 hO1 hl hst3 (fun _ e => e.elim) hu).more (m' := m + ol + 20) (by simp; omega)
          go_wp2
          go_ret
          exact ⟨rfl, WroteS.from hst1 hR⟩
        · by_cases hq5 : q < 5
          · obtain ⟨i0, hi, hz, hs1, hb1⟩ := info_parts info_u8
            have hrd1 : Rd W1 oa ol oc ob := hok1.rd
            have hlen1 : ob.length = ol := hrd1.len
            have hten := Cp.form_ten (n := ol) (by omega)
            have hcl : (Cp.counted ob).length = (Cp.form ol).length + ol := by unfold Cp.counted; rw [hlen1, List.length_append, hlen1]
            have hsz1 := HSZ.out
            go_enter Try.func11, Try.ntmps11
            go_wp2_with fail
            rw [← HW1.out]
            refine (HP.out _).mono ?_
            rintro r w1 ⟨rfl, rfl⟩
            go_wp2_with fail
            refine (lent_any oa ol oc ob _ hrd1 (by omega)).mono ?_
            rintro r w2 ⟨g, rfl, ho2, hst2, hg2⟩
            have hglt : g < w2.heap.size := ho2.lt _ rfl
            have hbc2 := Fr.kept_still hst2 hbc
            have hbo2 := Fr.kept_still hst2 hbo
            obtain ⟨u0, u1, _⟩ := two hbc2
            obtain ⟨r0, r1, r2, r3, r4, r5⟩ := six' hbo2
            have hsu : ∀ W' : World, (Instr.slice 26 (.slice (some ⟨g, 0, none⟩) (ol + 3) (ol + 3)) none (some (.int .i64 (ol : Int))) none).run Try.prog W' = .ok (.slice (some ⟨g, 0, none⟩) ol (ol + 3)) W' := fun W' => by
              have := run_upto (P := Try.prog) W' 26 5 i0 Try.underlying26 hi hs1 .i64 (some ⟨g, 0, none⟩) (ol + 3) (ol + 3) (ol : Int) (by omega) (by omega)
              simpa using this
            have hrdo : Rd w2 (some ⟨g, 0, none⟩) ol (ol + 3) ob := by
              have := ho2.rd.take (i := ol) (by omega)
              rw [← hlen1, List.take_left, hlen1] at this
              exact this
            have hx2 := hx.still (hst2.trans (Still.drewN w2 1))
            have hy2 := hy.still (hst2.trans (Still.drewN w2 1))
            have hgW : ¬ Wf xp xo g := fun hk => by have := hWx _ hk; omega
            have HWB := hid (wbytes_any xp xo xn xc room bs e (some ⟨g, 0, none⟩) ol (ol + 3) ob (w2.drewN 1) hx2 (hrdo.drewN 1) (fun a ha _ hk => by cases ha; exact hgW hk) h5 h6 (by omega))
            have HLEN := hid hlen1
            have HCL := hid hcl
            clear hlen1 hcl
            go_wp2
            go_region_with (go_at_call 20; refine HWB.out.mono ?_; rintro r w3 ⟨rfl, hl⟩)
            all_goals
              have hbc3 := laid_block hl (k := w.heap.size) hbc2 (fun hk => by have := hWx _ hk; omega)
              have hbo3 := laid_block hl (k := w.heap.size + 1) hbo2 (fun hk => by have := hWx _ hk; omega)
              obtain ⟨t0, t1, _⟩ := two hbc3
              obtain ⟨v0, v1, v2, v3, v4, v5⟩ := six' hbo3
              have hl' := hl
              obtain ⟨_, _, _, _, hf3, _⟩ := hl'
              have ho3 := (ho2.drewN 1).kept hf3 (fun a ha => by cases ha; exact hgW)
              have hrd3 : Rd w3 oa ol oc ob := ((hrd1.still hst2).drewN 1).kept hf3 (fun a ha hlo hk => by
                refine hoO a ha hlo ?_
                rcases hk with hk | ⟨c, hc, hk⟩
                · rw [hk]; exact h7
                · rw [← hk]; exact h9 c hc)
              have hro3 : Rd w3 (some ⟨g, 0, none⟩) ol (ol + 3) ob := (hrdo.drewN 1).kept hf3 (fun a ha _ => by cases ha; exact hgW)
              have hc200 : w3.cell? ⟨g, ol, none⟩ = some (.int .u8 200) := by
                have h := ho3.rd.byte (k := ol) (by have := HLEN.out; simp; omega)
                rw [Nat.zero_add] at h
                rw [h, List.getElem_append_right (by have := HLEN.out; omega)]
                simp [HLEN.out]
              have d1 : ∀ nq, (convert 26 9 (.slice (some ⟨g, 0, none⟩) ol (ol + 3))).run Try.prog (w3.drewN nq) = .ok (.string ⟨ob.toArray⟩) (w3.drewN nq) := fun nq =>
                run_string (P := Try.prog) _ 26 5 9 Try.underlying26 Try.underlying5 Try.underlying9 (hro3.drewN nq)
              have d2 : ∀ nq, (convert 26 9 (.slice oa ol oc)).run Try.prog (w3.drewN nq) = .ok (.string ⟨ob.toArray⟩) (w3.drewN nq) := fun nq =>
                run_string (P := Try.prog) _ 26 5 9 Try.underlying26 Try.underlying5 Try.underlying9 (hrd3.drewN nq)
              obtain ⟨str, hstr⟩ : ∃ str : ByteArray, str = ⟨ob.toArray⟩ := ⟨_, rfl⟩
              rw [← hstr] at d1 d2
              clear hstr
              go_wp2
              go_quiet (fail)
              go_wp2_with fail
              refine (spoil_any (some ⟨g, 0, none⟩) (ol + 3) (ol + 3) _ 77 77 rfl _ (ho3.drewN _) (by omega)).mono ?_
              rintro r w4 ⟨rfl, hf4⟩
              have hG : ∀ k, (∃ a : Addr, some (⟨g, 0, none⟩ : Addr) = some a ∧ a.block = k) → k = g := by
                rintro k ⟨a, h, rfl⟩
                cases h
                rfl
              have hbc4 := hf4.kept (k := w.heap.size) hbc3 (fun hk => by have := hG _ hk; omega)
              have hbo4 := hf4.kept (k := w.heap.size + 1) hbo3 (fun hk => by have := hG _ hk; omega)
              obtain ⟨x0, x1, _⟩ := two hbc4
              obtain ⟨y0, y1, y2, y3, y4, y5⟩ := six' hbo4
              have hrd4 : Rd w4 oa ol oc ob := (hrd3.drewN _).kept hf4 (fun a ha hlo hk => by have := hG _ hk; have := hrd1.lt hlo a ha; omega)
              go_wp2_with fail
              refine (counted_y oa ol oc ob w4 hrd4 (by omega)).mono ?_
              rintro r w5 ⟨fo, fc, rfl, hfo, hst5⟩
              have hg35 : Fr (fun k => ∃ a : Addr, some (⟨g, 0, none⟩ : Addr) = some a ∧ a.block = k) w3 w5 := (((Fr.refl _ w3).drewN _).trans hf4 (fun _ _ h => h)).trans (Still.to hst5) (fun _ _ h => h)
              have hO2 : ∀ k, O k → k < w1.heap.size := hO1
              have hy5 := wy_mid (w0 := w1) hx2 hy2 h8 h10 h11 hO2 hl hg35 (fun k hk => by have := hG _ hk; omega)
              obtain ⟨z0, z1, _⟩ := two (Fr.kept_still hst5 hbc4)
              have hcl5 := HCL.out
              have HLY := hid (lay_y yp yo yn yc room yb e fo _ fc _ w5 hy5 hfo.rd h5 h6 (by omega))
              clear hcl5
              go_wp2_with fail
              refine HLY.out.mono ?_
              rintro r w6 ⟨rfl, hu⟩
              have hR := (pw_step (w0 := w1) (hst2.trans (Still.drewN w2 1)) hx2 hy2 H1.out H2.out h3 h4 h5 h6 h7 h8 h9 h10 h11 hO2 hl hg35 (fun k hk => by have := hG _ hk; exact ⟨by omega, by simp; omega⟩) hu).more (m' := m + ol + 20) (by have := HCL.out; omega)
              go_wp2
              go_ret
              exact ⟨rfl, WroteS.from hst1 hR⟩
          · have hbs : (if e ≠ 0 then [] else yb) = bs := by
              by_cases he : e = 0
              · rw [if_neg (by omega)]; exact H1.out he
              · rw [if_pos he]; exact (H2.out he).symm
            have hd2 := hy.own.rd
            go_enter Try.func11, Try.ntmps11
            go_wp2_with fail
            rw [← HW1.out]
            refine (HP.out _).mono ?_
            rintro r w1 ⟨rfl, rfl⟩
            go_wp2_with fail
            refine (wdone_any xp xo xn xc room bs e _ hx (by omega)).mono ?_
            rintro r w2 ⟨ao2, cap2, rfl, ho2, hst2, hao2⟩
            have hbc2 := Fr.kept_still hst2 hbc
            obtain ⟨u0, u1, _⟩ := two hbc2
            have hcy := done_y yp yo yn yc room yb e w2 (hy.still hst2) (by omega)
            rw [hbs] at hcy
            have HCY := hid hcy
            clear hcy hbs
            go_wp2_with fail
            refine HCY.out.mono ?_
            rintro r w3 ⟨bo, bn, bc, rfl, hr3, hst3⟩
            have ho3 := ho2.still hst3
            have d1 := run_string (P := Try.prog) w3 26 5 9 Try.underlying26 Try.underlying5 Try.underlying9 ho3.rd
            have d2 := run_string (P := Try.prog) w3 26 5 9 Try.underlying26 Try.underlying5 Try.underlying9 hr3
            obtain ⟨str, hstr⟩ : ∃ str : ByteArray, str = ⟨bs.toArray⟩ := ⟨_, rfl⟩
            rw [← hstr] at d1 d2
            clear hstr
            go_wp2_with fail
            refine (spoil_any ao2 xn cap2 bs 99 99 rfl w3 ho3 (by omega)).mono ?_
            rintro r w4 ⟨rfl, hf4⟩
            have hst13 := hst2.trans hst3
            have hlow : ∀ k, (∃ a, ao2 = some a ∧ a.block = k) → w1.heap.size ≤ k := by rintro k ⟨a, h, rfl⟩; exact hao2 a h
            have hR : WroteS w1 w4 O xp yp room (m + ol + 20) := ⟨bs, e, (((hp.still hst1).still hst13).kept hf4 (fun k hk hk2 => by have := hlow k hk2; have := hO1 k hk; omega)).more (fun _ h => .inl h) (by omega), (Still.to hst13).trans hf4 (fun k hk hk2 => by have := hlow k hk2; omega)⟩
            go_wp2
            go_ret
            exact ⟨rfl, WroteS.from hst1 hR⟩
end Go.Proofs.Ythgjhfooodcfbaa
