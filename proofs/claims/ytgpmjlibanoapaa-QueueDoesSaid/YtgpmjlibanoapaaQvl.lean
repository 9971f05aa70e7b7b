/- The law's does: Push, Below, All. -/
import Derived.Test.YtgpmjlibanoapaaQvk
namespace Go.Proofs.Ytgpmjlibanoapaa
open Go.RowKit
set_option maxRecDepth 100000

theorem cut_parts {S : List En} (h : Srt S) {k : Nat} {f : Int} (hk : k ≤ S.length) (h1 : ∀ t, t < k → (att S t).fr ≤ f) (h2 : k < S.length → f < (att S k).fr) : S.filter (fun x => decide (x.fr ≤ f)) = S.take k ∧ S.filter (fun x => !decide (x.fr ≤ f)) = S.drop k := by
  have ht : ∀ x ∈ S.take k, x.fr ≤ f := fun x hx => by
    obtain ⟨t, ht, rfl⟩ := att_of_mem hx
    have e : att (S.take k) t = att S t := by unfold att; rw [List.getD_eq_getElem?_getD, List.getD_eq_getElem?_getD, List.getElem?_take_of_lt (by simp at ht; omega)]
    rw [e]
    exact h1 t (by simp at ht; omega)
  have hd : ∀ x ∈ S.drop k, f < x.fr := fun x hx => by
    obtain ⟨t, ht, rfl⟩ := att_of_mem hx
    have e : att (S.drop k) t = att S (k + t) := by unfold att; rw [List.getD_eq_getElem?_getD, List.getD_eq_getElem?_getD, List.getElem?_drop]
    rw [e]
    simp at ht
    have h3 := h2 (by omega)
    by_cases h0 : t = 0
    · subst h0; exact h3
    · have := srt_at h k (k + t) (by omega) (by omega)
      rw [kc_lt] at this
      omega
  have e1 : (S.take k).filter (fun x => decide (x.fr ≤ f)) = S.take k := List.filter_eq_self.2 (fun x hx => decide_eq_true (ht x hx))
  have e2 : (S.drop k).filter (fun x => decide (x.fr ≤ f)) = [] := List.filter_eq_nil_iff.2 (fun x hx => by have := hd x hx; simp; omega)
  have e3 : (S.take k).filter (fun x => !decide (x.fr ≤ f)) = [] := List.filter_eq_nil_iff.2 (fun x hx => by have := ht x hx; simp; omega)
  have e4 : (S.drop k).filter (fun x => !decide (x.fr ≤ f)) = S.drop k := List.filter_eq_self.2 (fun x hx => by have := hd x hx; simp; omega)
  have e : S = S.take k ++ S.drop k := (List.take_append_drop k S).symm
  have g1 : S.filter (fun x => decide (x.fr ≤ f)) = (S.take k ++ S.drop k).filter (fun x => decide (x.fr ≤ f)) := by rw [← e]
  have g2 : S.filter (fun x => !decide (x.fr ≤ f)) = (S.take k ++ S.drop k).filter (fun x => !decide (x.fr ≤ f)) := by rw [← e]
  rw [List.filter_append, e1, e2, List.append_nil] at g1
  rw [List.filter_append, e3, e4, List.nil_append] at g2
  exact ⟨g1, g2⟩
set_option maxHeartbeats 4000000 in
theorem does_push (B : Nat) (P : Pd) (o : Oq) (ho : -9223372036854775808 ≤ o.k ∧ o.k ≤ 9223372036854775807) (hk : pk o.k 8 = 0) (w : World) (hP : Ok B w P) : Calls Try.prog 12 #[.agg (pvs P), .agg (oqs o)] w fun e w' => e = .returned (.bool true) ∧ ∃ P', Eff B w w' P P' := by
  have hk8 := hk
  have A0 := Still.alloc w (.cells (pvs P) 31)
  have A1 := Still.alloc (w.alloc (.cells (pvs P) 31)) (.cells (oqs o) 40)
  obtain ⟨W, eW⟩ : ∃ W, (w.alloc (.cells (pvs P) 31)).alloc (.cells (oqs o) 40) = W := ⟨_, rfl⟩
  obtain ⟨b2, eb2⟩ : ∃ g, w.heap.size = g := ⟨_, rfl⟩
  have HS0 : Hid (Still w W) := hid (by rw [← eW]; exact A0.trans A1)
  have HBx : Hid (Bx W b2 (b2 + 1) P o) := hid (by
    rw [← eW, ← eb2]
    refine ⟨A1.kept_still (heap_alloc_new w _), ?_⟩
    have := heap_alloc_new (w.alloc (.cells (pvs P) 31)) (.cells (oqs o) 40)
    rw [size_alloc] at this
    exact this)
  have HK0 := hid (hP.still HS0.out)
  have HWl : Hid (∀ k, Wt P k → k < b2) := hid (fun k hk => by rw [← eb2]; exact (hP.wlt k hk).2)
  have HBl : Hid (B ≤ w.heap.size) := hid (by have := (hP.wlt _ (.inl rfl)); omega)
  have HP := hid hP
  obtain ⟨c20, c21, c30, c32, c33, c34, c35, c36, c37, c38, c39, c310⟩ := HBx.out.cells
  have HPk := hid (fun w => pick_any o.k 8 ho (by omega) (by omega) w)
  rw [hk8] at HPk
  have HEb := hid eb2
  clear A0 A1 hP hk8
  go_enter Try.func12, Try.ntmps12
  go_wp2_with fail
  refine (HPk.out _).mono ?_
  rintro e w1 ⟨he, hw⟩
  rw [he, hw]
  clear he hw w1 HPk
  have HC := hid (qPush_any o.e P.M B P.p P.v HK0.out.m W (by have := HBl.out; have := HS0.out.size; omega) HK0.out.q)
  go_wp2_with fail
  refine HC.out.mono ?_
  rintro e w2 ⟨cc, v2, M2, he, hp2, hq2, hf2, hb2⟩
  rw [he]
  have hB2 := HBx.out.keep hf2 (fun e => by have := HWl.out b2 (by rcases e with e | e; exact .inl e; exact .inr (.inl e)); omega) (fun e => by have := HWl.out (b2 + 1) (by rcases e with e | e; exact .inl e; exact .inr (.inl e)); omega)
  have HF2 : Hid (Fr (fun k => k = P.p ∨ P.v.ownBlock = some k) w w2) := hid (Fr.trans (Still.to HS0.out) hf2 (fun _ _ e => e))
  have HY2 := hid (HP.out.yk1 HF2.out)
  have hSl : P.S.length ≤ 4096 := by rw [← HP.out.pm.length_eq]; exact HP.out.m.le
  have HQ2 := hid hq2
  have HOb : Hid (∀ k, v2.ownBlock = some k → P.v.ownBlock = some k ∨ w.heap.size ≤ k) := hid (fun k hk => by
    rcases hb2 k hk with h | h
    · exact .inl h
    · exact .inr (by have := HS0.out.size; omega))
  have HPs := hid hp2
  clear he hp2 hq2 hf2 hb2 HC c20 c21 c30 c32 c33 c34 c35 c36 c37 c38 c39 c310
  obtain ⟨c20, c21, c30, c32, c33, c34, c35, c36, c37, c38, c39, c310⟩ := hB2.cells
  have hlen := HP.out.pm.length_eq
  rcases HPs.out.2 with ⟨h1, rfl, rfl⟩ | ⟨h1, h2, rfl, rfl⟩ | ⟨h1, h2, rfl, h3⟩
  · have h1S : hasK o.e P.S = true := by rw [← hasK_perm HP.out.pm]; exact h1
    have HC := hid (rPush_old o.e P.S P.yb P.cap P.ao hSl HP.out.sr h1S w2 HY2.out)
    go_wp2_with fail
    refine HC.out.mono ?_
    rintro e w3 ⟨he, h3⟩
    rw [he]
    have HE3 := hid ((HP.out.both HF2.out HQ2.out HPs.out.1 HOb.out (Fr.refl (fun k => k = P.yb) w2) HY2.out HP.out.pm HP.out.sr (fun a ha h0 => .inl ⟨a, ha, h0, rfl⟩)).still h3)
    clear he h3 HC c20 c21 c30 c32 c33 c34 c35 c36 c37 c38 c39 c310
    go_wp2_with fail
    go_ret
    exact ⟨by simp, _, HE3.out⟩
  · have h1S : hasK o.e P.S = false := by rw [← hasK_perm HP.out.pm]; exact h1
    have HC := hid (rPush_new o.e P.S P.yb P.cap P.ao hSl HP.out.sr h1S w2 HY2.out)
    go_wp2_with fail
    refine HC.out.mono ?_
    rintro e w3 h3
    rcases h3 with ⟨_, he, h3⟩ | ⟨h3, _⟩
    · rw [he]
      have HE3 := hid ((HP.out.both HF2.out HQ2.out HPs.out.1 HOb.out (Fr.refl (fun k => k = P.yb) w2) HY2.out HP.out.pm HP.out.sr (fun a ha h0 => .inl ⟨a, ha, h0, rfl⟩)).still h3)
      clear he h3 HC c20 c21 c30 c32 c33 c34 c35 c36 c37 c38 c39 c310
      go_wp2_with fail
      go_ret
      exact ⟨by simp, _, HE3.out⟩
    · omega
  · have h1S : hasK o.e P.S = false := by rw [← hasK_perm HP.out.pm]; exact h1
    have HC := hid (rPush_new o.e P.S P.yb P.cap P.ao hSl HP.out.sr h1S w2 HY2.out)
    go_wp2_with fail
    refine HC.out.mono ?_
    rintro e w3 h4
    rcases h4 with ⟨h4, _⟩ | ⟨_, he, ao', cap', S', hp', hs', hy', hf', ha'⟩
    · omega
    · rw [he]
      have HE3 := hid (HP.out.both HF2.out HQ2.out HPs.out.1 HOb.out hf' hy' ((h3.trans (HP.out.pm.append_right [o.e])).trans hp'.symm) hs' (fun a ha h0 => .inr (ha' a ha)))
      clear he hp' hs' hy' hf' ha' HC c20 c21 c30 c32 c33 c34 c35 c36 c37 c38 c39 c310
      go_wp2_with fail
      go_ret
      exact ⟨by simp, _, HE3.out⟩
set_option maxHeartbeats 4000000 in
theorem does_below (B : Nat) (P : Pd) (o : Oq) (ho : -9223372036854775808 ≤ o.k ∧ o.k ≤ 9223372036854775807) (hk : pk o.k 8 = 3) (w : World) (hP : Ok B w P) : Calls Try.prog 12 #[.agg (pvs P), .agg (oqs o)] w fun e w' => e = .returned (.bool true) ∧ ∃ P', Eff B w w' P P' := by
  have hk8 := hk
  have A0 := Still.alloc w (.cells (pvs P) 31)
  have A1 := Still.alloc (w.alloc (.cells (pvs P) 31)) (.cells (oqs o) 40)
  obtain ⟨W, eW⟩ : ∃ W, (w.alloc (.cells (pvs P) 31)).alloc (.cells (oqs o) 40) = W := ⟨_, rfl⟩
  obtain ⟨b2, eb2⟩ : ∃ g, w.heap.size = g := ⟨_, rfl⟩
  have HS0 : Hid (Still w W) := hid (by rw [← eW]; exact A0.trans A1)
  have HBx : Hid (Bx W b2 (b2 + 1) P o) := hid (by
    rw [← eW, ← eb2]
    refine ⟨A1.kept_still (heap_alloc_new w _), ?_⟩
    have := heap_alloc_new (w.alloc (.cells (pvs P) 31)) (.cells (oqs o) 40)
    rw [size_alloc] at this
    exact this)
  have HK0 := hid (hP.still HS0.out)
  have HWl : Hid (∀ k, Wt P k → k < b2) := hid (fun k hk => by rw [← eb2]; exact (hP.wlt k hk).2)
  have HBl : Hid (B ≤ w.heap.size) := hid (by have := (hP.wlt _ (.inl rfl)); omega)
  have HP := hid hP
  obtain ⟨c20, c21, c30, c32, c33, c34, c35, c36, c37, c38, c39, c310⟩ := HBx.out.cells
  have HPk := hid (fun w => pick_any o.k 8 ho (by omega) (by omega) w)
  rw [hk8] at HPk
  have HEb := hid eb2
  clear A0 A1 hP hk8
  go_enter Try.func12, Try.ntmps12
  go_wp2_with fail
  refine (HPk.out _).mono ?_
  rintro e w1 ⟨he, hw⟩
  rw [he, hw]
  clear he hw w1 HPk
  have HC := hid (qBelow_any P.M o.f B P.p P.v HK0.out.m W HK0.out.q)
  go_wp2_with fail
  refine HC.out.mono ?_
  rintro e w2 ⟨ov, v2, O, M2, he, ho2, hc2, hl1, hl2, hu2, hq2, hf2, hb2⟩
  rw [he]
  have hB2 := HBx.out.keep hf2 (fun e => by have := HWl.out b2 (by rcases e with e | e; exact .inl e; exact .inr (.inl e)); omega) (fun e => by have := HWl.out (b2 + 1) (by rcases e with e | e; exact .inl e; exact .inr (.inl e)); omega)
  have HF2 : Hid (Fr (fun k => k = P.p ∨ P.v.ownBlock = some k) w w2) := hid (Fr.trans (Still.to HS0.out) hf2 (fun _ _ e => e))
  have HY2 := hid (HP.out.yk1 HF2.out)
  have hSl : P.S.length ≤ 4096 := by rw [← HP.out.pm.length_eq]; exact HP.out.m.le
  have HQ2 := hid hq2
  have HU2 := hid hu2
  have HO2 := hid ho2
  have HPt := hid (hc2.parts HP.out.pm hl1 hl2)
  have HSo := hid hc2.sr
  have HW2 := hid hf2.size
  have HWs := hid HS0.out.size
  have HOb : Hid (v2.ownBlock = P.v.ownBlock) := hid hb2
  obtain ⟨a2, cp2, e2, _⟩ := ho2.slice
  subst e2
  clear he ho2 hc2 hl1 hl2 hu2 hq2 hf2 hb2 HC c20 c21 c30 c32 c33 c34 c35 c36 c37 c38 c39 c310
  obtain ⟨c20, c21, c30, c32, c33, c34, c35, c36, c37, c38, c39, c310⟩ := hB2.cells
  have HC := hid (rBelow_any o.f P.S P.yb P.cap P.ao hSl w2 HY2.out (fun a ha h0 => HY2.out.sr.ne HY2.out.bk ⟨_, _, _, rfl⟩ a ha h0))
  go_wp2_with fail
  refine HC.out.mono ?_
  rintro e w3 ⟨v3, k, he, hk3, hk1, hk2, ho3, hy3, hf3⟩
  rw [he]
  obtain ⟨eF, eG⟩ := cut_parts HP.out.sr hk3 hk1 hk2
  have hOt : O = P.S.take k := srt_eq HSo.out (List.Pairwise.sublist (List.take_sublist k P.S) HP.out.sr) (by have := HPt.out.1; rw [eF] at this; exact this)
  subst hOt
  have HEf := hid (HP.out.both HF2.out HQ2.out HU2.out (fun k hk => .inl (by rw [← HOb.out]; exact hk)) hf3 hy3 (by have := HPt.out.2; rw [eG] at this; exact this) (List.Pairwise.sublist (List.drop_sublist k P.S) HP.out.sr) (fun a ha h0 => by
    obtain ⟨a0, e0, e1⟩ := cutE_block a ha
    rw [e1]
    exact .inl ⟨a0, e0, by simp at h0; omega, rfl⟩))
  obtain ⟨a3, cp3, e3, _⟩ := ho3.slice
  subst e3
  have HO3 := hid (HO2.out.keep hf3 (fun k hk e => by
    subst hk
    have := (HO2.out.block e).1
    have := (HP.out.wlt P.yb (.inr (.inr rfl))).2
    have := HWs.out
    omega))
  have hB3 : W.heap.size ≤ w3.heap.size := Nat.le_trans HW2.out hf3.size
  have hTl : (P.S.take k).length ≤ 4096 := by simp; omega
  have HC := hid (alike_t (P.S.take k) W.heap.size _ a3 cp3 hTl w3 hB3 HO3.out (ho3.rdE rfl (by omega)))
  have HRy := hid (fun k' (h : Rb ⟨P.p, v2, M2, P.yb, cutE P.ao P.cap k, P.cap - k, P.S.drop k⟩ k') => show Rb P k' by
    obtain ⟨a, ha, h0, e⟩ := h
    obtain ⟨a0, e0, e1⟩ := cutE_block a ha
    exact ⟨a0, e0, by simp at h0; omega, by rw [← e1]; exact e⟩)
  obtain ⟨NT, eNT⟩ : ∃ N, (P.S.take k).length = N := ⟨_, rfl⟩
  rw [eNT] at HC HO3 ⊢
  clear he ho3 hy3 hf3 hk1 hk2 eF eG c20 c21 c30 c32 c33 c34 c35 c36 c37 c38 c39 c310 hB2 HO2
  go_wp2_with fail
  refine HC.out.mono ?_
  rintro e w4 ⟨he, hf4⟩
  rw [he]
  have HE4 := hid (HEf.out.then hf4 (fun k hk => by have := (HO3.out.block hk).1; have := HWs.out; omega) (fun k' hk => by
    have h5 := (HO3.out.block hk).1
    have h6 := HWs.out
    refine ⟨fun e => ?_, fun e => by have := HP.out.rlt k' (HRy.out k' e); omega⟩
    have : Wt P k' := by
      rcases e with e | e | e
      · exact .inl e
      · exact .inr (.inl (by rw [← HOb.out]; exact e))
      · exact .inr (.inr e)
    have := (HP.out.wlt k' this).2
    omega))
  clear he hf4 HC
  go_wp2_with fail
  go_ret
  exact ⟨rfl, _, HE4.out⟩
set_option maxHeartbeats 4000000 in
theorem does_all (B : Nat) (P : Pd) (o : Oq) (ho : -9223372036854775808 ≤ o.k ∧ o.k ≤ 9223372036854775807) (hk : pk o.k 8 = 4) (w : World) (hP : Ok B w P) : Calls Try.prog 12 #[.agg (pvs P), .agg (oqs o)] w fun e w' => e = .returned (.bool true) ∧ ∃ P', Eff B w w' P P' := by
  have hk8 := hk
  have A0 := Still.alloc w (.cells (pvs P) 31)
  have A1 := Still.alloc (w.alloc (.cells (pvs P) 31)) (.cells (oqs o) 40)
  obtain ⟨W, eW⟩ : ∃ W, (w.alloc (.cells (pvs P) 31)).alloc (.cells (oqs o) 40) = W := ⟨_, rfl⟩
  obtain ⟨b2, eb2⟩ : ∃ g, w.heap.size = g := ⟨_, rfl⟩
  have HS0 : Hid (Still w W) := hid (by rw [← eW]; exact A0.trans A1)
  have HBx : Hid (Bx W b2 (b2 + 1) P o) := hid (by
    rw [← eW, ← eb2]
    refine ⟨A1.kept_still (heap_alloc_new w _), ?_⟩
    have := heap_alloc_new (w.alloc (.cells (pvs P) 31)) (.cells (oqs o) 40)
    rw [size_alloc] at this
    exact this)
  have HK0 := hid (hP.still HS0.out)
  have HWl : Hid (∀ k, Wt P k → k < b2) := hid (fun k hk => by rw [← eb2]; exact (hP.wlt k hk).2)
  have HBl : Hid (B ≤ w.heap.size) := hid (by have := (hP.wlt _ (.inl rfl)); omega)
  have HP := hid hP
  obtain ⟨c20, c21, c30, c32, c33, c34, c35, c36, c37, c38, c39, c310⟩ := HBx.out.cells
  have HPk := hid (fun w => pick_any o.k 8 ho (by omega) (by omega) w)
  rw [hk8] at HPk
  have HEb := hid eb2
  clear A0 A1 hP hk8
  go_enter Try.func12, Try.ntmps12
  go_wp2_with fail
  refine (HPk.out _).mono ?_
  rintro e w1 ⟨he, hw⟩
  rw [he, hw]
  clear he hw w1 HPk
  have HC := hid (qAll_any P.M B P.p P.v HK0.out.m W HK0.out.q)
  have hSl : P.S.length ≤ 4096 := by rw [← HP.out.pm.length_eq]; exact HP.out.m.le
  go_wp2_with fail
  refine HC.out.mono ?_
  rintro e w2 ⟨v2, L2, he, hp2, hs2, ho2, h2⟩
  rw [he]
  obtain rfl : L2 = P.S := srt_eq hs2 HP.out.sr (hp2.trans HP.out.pm)
  have hB2 := HBx.out.keep h2 (fun e => e) (fun e => e)
  have HY2 := hid (HK0.out.y.still h2)
  have HO2 := hid ho2
  have HS2 := hid (HS0.out.trans h2)
  have HWs := hid HS0.out.size
  have HW2 := hid h2.size
  obtain ⟨a2, cp2, e2, _⟩ := ho2.slice
  subst e2
  clear he hp2 hs2 ho2 h2 HC c20 c21 c30 c32 c33 c34 c35 c36 c37 c38 c39 c310
  obtain ⟨c20, c21, _, _, _, _, _, _, _, _, _, _⟩ := hB2.cells
  have HC := hid (rAll_any P.S P.yb P.cap P.ao hSl w2 HY2.out)
  go_wp2_with fail
  refine HC.out.mono ?_
  rintro e w3 ⟨v3, he, ho3, h3⟩
  rw [he]
  obtain ⟨a3, cp3, e3, _⟩ := ho3.slice
  subst e3
  have HO3 := hid (HO2.out.still h3)
  have HS3 := hid (HS2.out.trans h3)
  have hB3 : W.heap.size ≤ w3.heap.size := Nat.le_trans HW2.out h3.size
  have HC := hid (alike_t P.S W.heap.size _ a3 cp3 hSl w3 hB3 HO3.out (ho3.rdE rfl (by omega)))
  clear he ho3 h3 c20 c21 hB2
  go_wp2_with fail
  refine HC.out.mono ?_
  rintro e w4 ⟨he, hf4⟩
  rw [he]
  have HE4 := hid ((Eff.same HP.out HS3.out).then hf4 (fun k hk => by have := (HO3.out.block hk).1; have := HWs.out; omega) (fun k hk => by
    have h5 := (HO3.out.block hk).1
    have h6 := HWs.out
    exact ⟨fun e => by have := (HP.out.wlt k e).2; omega, fun e => by have := HP.out.rlt k e; omega⟩))
  clear he hf4 HC
  go_wp2_with fail
  go_ret
  exact ⟨rfl, P, HE4.out⟩
theorem does_any (B : Nat) (P : Pd) (o : Oq) (ho : -9223372036854775808 ≤ o.k ∧ o.k ≤ 9223372036854775807) (w : World) (hP : Ok B w P) : Calls Try.prog 12 #[.agg (pvs P), .agg (oqs o)] w fun e w' => e = .returned (.bool true) ∧ ∃ P', Eff B w w' P P' := by
  have h := pk_in o.k 8 (by omega)
  have : pk o.k 8 = 0 ∨ pk o.k 8 = 1 ∨ pk o.k 8 = 2 ∨ pk o.k 8 = 3 ∨ pk o.k 8 = 4 ∨ (pk o.k 8 = 5 ∨ pk o.k 8 = 6 ∨ pk o.k 8 = 7) := by omega
  rcases this with h | h | h | h | h | h
  · exact does_push B P o ho h w hP
  · exact does_peek B P o ho h w hP
  · exact does_pop B P o ho h w hP
  · exact does_below B P o ho h w hP
  · exact does_all B P o ho h w hP
  · exact does_len B P o ho h w hP
end Go.Proofs.Ytgpmjlibanoapaa
