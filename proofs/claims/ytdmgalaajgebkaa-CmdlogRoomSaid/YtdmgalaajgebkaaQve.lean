/- The document's Put. -/
import Derived.Test.YtdmgalaajgebkaaQvd
namespace Go.Proofs.Ytdmgalaajgebkaa
open Go.RowKit
set_option maxRecDepth 100000

theorem srt_at {S : List En} (h : Srt S) : ∀ i j, i < j → j < S.length → kc (att S i) (att S j) < 0 := by
  intro i j hij hj
  have := List.pairwise_iff_getElem.1 h i j (by omega) hj hij
  have e : ∀ k (hk : k < S.length), att S k = S[k] := fun k hk => by unfold att; rw [List.getD_eq_getElem?_getD, List.getElem?_eq_getElem hk]; rfl
  rw [e i (by omega), e j hj]
  exact this
theorem att_of_mem {S : List En} {y : En} (h : y ∈ S) : ∃ k, k < S.length ∧ att S k = y := by
  obtain ⟨k, hk, e⟩ := List.getElem_of_mem h
  exact ⟨k, hk, by unfold att; rw [List.getD_eq_getElem?_getD, List.getElem?_eq_getElem hk, e]; rfl⟩
/-- put in at its place -/
theorem ins_srt {S : List En} (h : Srt S) {x : En} {k : Nat} (hk : k ≤ S.length) (h1 : ∀ t, t < k → kc (att S t) x < 0) (h2 : k < S.length → 0 < kc (att S k) x) : hasK x S = false ∧ (S.take k ++ [x] ++ S.drop k).Perm (S ++ [x]) ∧ Srt (S.take k ++ [x] ++ S.drop k) := by
  have hx : ∀ t, k ≤ t → t < S.length → kc x (att S t) < 0 := fun t ht hl => by
    have h3 := h2 (by omega)
    have h4 : kc x (att S k) < 0 := by
      have n1 : ¬ kc (att S k) x < 0 := by omega
      have n2 : ¬ kc (att S k) x = 0 := by omega
      rw [kc_lt] at n1 ⊢
      rw [kc_eq] at n2
      omega
    by_cases e : t = k
    · rw [e]; exact h4
    · exact lt_tr h4 (srt_at h k t (by omega) hl)
  refine ⟨?_, ?_, ?_⟩
  · cases hb : hasK x S with
    | false => rfl
    | true =>
      exfalso
      obtain ⟨y, hy, he⟩ := List.any_eq_true.1 hb
      have he := of_decide_eq_true he
      obtain ⟨t, ht, rfl⟩ := att_of_mem hy
      by_cases htk : t < k
      · have := h1 t htk
        rw [kc_eq] at he
        rw [kc_lt] at this
        omega
      · have := hx t (by omega) ht
        omega
  · have e : S ++ [x] = S.take k ++ (S.drop k ++ [x]) := by rw [← List.append_assoc, List.take_append_drop]
    rw [e, List.append_assoc]
    exact List.Perm.append_left _ (List.perm_append_comm)
  · refine List.pairwise_append.2 ⟨List.pairwise_append.2 ⟨List.Pairwise.sublist (List.take_sublist k S) h, List.pairwise_singleton _ _, fun a ha b hb => ?_⟩, List.Pairwise.sublist (List.drop_sublist k S) h, fun a ha b hb => ?_⟩
    · rw [List.mem_singleton] at hb
      subst hb
      obtain ⟨t, ht, rfl⟩ := att_of_mem ha
      have e : att (S.take k) t = att S t := by unfold att; rw [List.getD_eq_getElem?_getD, List.getD_eq_getElem?_getD, List.getElem?_take_of_lt (by simp at ht; omega)]
      rw [e]
      exact h1 t (by simp at ht; omega)
    · obtain ⟨t, ht, rfl⟩ := att_of_mem hb
      have e : att (S.drop k) t = att S (k + t) := by unfold att; rw [List.getD_eq_getElem?_getD, List.getD_eq_getElem?_getD, List.getElem?_drop]
      rw [e]
      simp at ht
      rcases List.mem_append.1 ha with ha | ha
      · obtain ⟨t', ht', rfl⟩ := att_of_mem ha
        have e' : att (S.take k) t' = att S t' := by unfold att; rw [List.getD_eq_getElem?_getD, List.getD_eq_getElem?_getD, List.getElem?_take_of_lt (by simp at ht'; omega)]
        rw [e']
        simp at ht'
        exact srt_at h t' (k + t) (by omega) (by omega)
      · rw [List.mem_singleton] at ha
        subst ha
        exact hx (k + t) (by omega) (by omega)
set_option maxHeartbeats 8000000 in
theorem rPut_any (x : En) (S : List En) (cap : Nat) (ao : Option Addr) (hl : S.length ≤ 4096) (hS : Srt S) (w : World) (hr : Sr w ao cap S) : Calls Try.prog 41 #[.slice ao S.length cap, ev x] w fun e w' => (hasK x S = true ∧ e = .returned (.tuple #[.slice ao S.length cap, .bool false]) ∧ Still w w') ∨ (hasK x S = false ∧ ∃ ao' cap' S', e = .returned (.tuple #[.slice ao' S'.length cap', .bool true]) ∧ S'.Perm (S ++ [x]) ∧ Srt S' ∧ OwG KE 44 w' w.heap.size (.slice ao' S'.length cap') S' ∧ Still w w') := by
  have A0 := Still.alloc w (.cells (ecs x) 44)
  obtain ⟨W, eW⟩ : ∃ W, newE w x = W := ⟨_, rfl⟩
  obtain ⟨bx, ebx⟩ : ∃ g, w.heap.size = g := ⟨_, rfl⟩
  have HS0 : Hid (Still w W) := hid (by rw [← eW]; exact A0)
  have HXW : Hid (Eb W bx x) := hid (by rw [← eW, ← ebx]; exact newE_eb w x)
  have HSr := hid hr
  have HSS := hid hS
  have HEb := hid ebx
  clear A0 hr hS
  go_enter Try.func41, Try.ntmps41
  go_wp2_with fail
  clear eW ebx
  go_loopw [6] (fun u wr => ∃ k : Nat, k ≤ S.length ∧ u = .int .i64 (k : Int) ∧ Hid (Still W wr ∧ ∀ t, t < k → kc (att S t) x < 0)) (fun u _ => S.length - (intOf u).toNat)
  case atStart => exact ⟨0, by omega, rfl, hid ⟨Fr.refl _ _, fun t ht => by omega⟩⟩
  case round =>
    obtain ⟨k, hk, rfl, HK⟩ := hrel
    by_cases hkn : k < S.length
    · have hlt : (k : Int) < (S.length : Int) := by omega
      obtain ⟨B, o, e⟩ := HSr.out.rd.at (by omega)
      subst e
      obtain ⟨d0, d1, d2, d3, d4, d5, d6, d7⟩ := rdE (HSr.out.still (HS0.out.trans HK.out.1)).rd hkn
      obtain ⟨b0, b1, b2, b3, b4, b5, b6, b7, _⟩ := (HXW.out.still HK.out.1).cells
      have HOr := hid (fun w => rord_any (att S k) x w)
      have HRX := hid (fun w' (h : Still w w') => rdE (HSr.out.still h).rd hkn)
      obtain ⟨z, ez⟩ : ∃ z, att S k = z := ⟨_, rfl⟩
      rw [ez] at d0 d1 d2 d3 d4 d5 d6 d7 HOr HRX
      obtain ⟨rr, err⟩ : ∃ r, kc z x = r := ⟨_, rfl⟩
      rw [err] at HOr
      have HZ : Hid (kc (att S k) x = rr) := hid (by rw [ez]; exact err)
      have k0 := Cl.cell d0
      have k1 := Cl.cell d1
      have k2 := Cl.cell d2
      have k3 := Cl.cell d3
      have k4 := Cl.cell d4
      have k5 := Cl.cell d5
      have k6 := Cl.cell d6
      have k7 := Cl.cell d7
      have l0 := Cl.cell b0
      have l1 := Cl.cell b1
      have l2 := Cl.cell b2
      have l3 := Cl.cell b3
      have l4 := Cl.cell b4
      have l5 := Cl.cell b5
      have l6 := Cl.cell b6
      have l7 := Cl.cell b7
      have hne := Aft.here wr
      clear ez err d0 d1 d2 d3 d4 d5 d6 d7 b0 b1 b2 b3 b4 b5 b6 b7
      by_cases hr0 : rr < 0
      · have HK2 : Hid (∀ t, t < k + 1 → kc (att S t) x < 0) := hid (fun t ht => if e : t = k then (by rw [e, HZ.out]; exact hr0) else HK.out.2 t (by omega))
        go_upto_region 2 with fail
        refine region_all (by kernel_rfl) (by kernel_rfl) ?_
        repeat (go_big_quiet_step ((first | (go_at_call 20; with_reducible exact Calls.cl (HOr.out _)) | rfl)))
        refine wpQuiet_nil ?_
        intro w2 h2
        have HS2 := hid (HK.out.1.trans h2)
        clear h2 hne HK k0 k1 k2 k3 k4 k5 k6 k7 l0 l1 l2 l3 l4 l5 l6 l7
        go_wp2_with fail
        go_roundw
        case rel => exact ⟨k + 1, by omega, by go_num, hid ⟨HS2.out, HK2.out⟩⟩
        case measure => simp [intOf]; omega
      · go_upto_region 2 with fail
        refine region_all (by kernel_rfl) (by kernel_rfl) ?_
        repeat (go_big_quiet_step ((first | (go_at_call 20; with_reducible exact Calls.cl (HOr.out _)) | rfl)))
        refine wpQuiet_nil ?_
        intro w2 h2
        have HSt := hid (HK.out.1.trans h2)
        have HK1 := hid HK.out.2
        clear h2 hne HK k0 k1 k2 k3 k4 k5 k6 k7 l0 l1 l2 l3 l4 l5 l6 l7
        go_upto_region 4 with fail
        obtain ⟨d0, d1, d2, d3, d4, d5, d6, d7⟩ := HRX.out w2 (HS0.out.trans HSt.out)
        obtain ⟨b0, b1, b2, b3, b4, b5, b6, b7, _⟩ := (HXW.out.still HSt.out).cells
        have k0 := Cl.cell d0
        have k1 := Cl.cell d1
        have k2 := Cl.cell d2
        have k3 := Cl.cell d3
        have k4 := Cl.cell d4
        have k5 := Cl.cell d5
        have k6 := Cl.cell d6
        have k7 := Cl.cell d7
        have l0 := Cl.cell b0
        have l1 := Cl.cell b1
        have l2 := Cl.cell b2
        have l3 := Cl.cell b3
        have l4 := Cl.cell b4
        have l5 := Cl.cell b5
        have l6 := Cl.cell b6
        have l7 := Cl.cell b7
        have hne := Aft.here w2
        clear d0 d1 d2 d3 d4 d5 d6 d7 b0 b1 b2 b3 b4 b5 b6 b7
        by_cases hr1 : rr = 0
        · subst hr1
          refine region_all (by kernel_rfl) (by kernel_rfl) ?_
          repeat (go_big_quiet_step ((first | (go_at_call 20; with_reducible exact Calls.cl (HOr.out _)) | rfl)))
          refine wpQuiet_nil ?_
          intro w3 h3
          have HS3 := hid ((HS0.out.trans HSt.out).trans h3)
          have HH : Hid (hasK x S = true) := hid (List.any_eq_true.2 ⟨_, att_mem hkn, decide_eq_true (by have := HZ.out; rw [kc_eq] at this ⊢; omega)⟩)
          clear h3 hne k0 k1 k2 k3 k4 k5 k6 k7 l0 l1 l2 l3 l4 l5 l6 l7
          go_wp2_with fail
          go_ret2
          exact .inl ⟨HH.out, rfl, HS3.out⟩
        · have hr2 : (rr == 0) = false := beq_eq_false_iff_ne.2 hr1
          have HIN := hid (ins_srt HSS.out hk HK1.out (fun _ => by rw [HZ.out]; omega))
          refine region_all (by kernel_rfl) (by kernel_rfl) ?_
          repeat (go_big_quiet_step ((first | (go_at_call 20; with_reducible exact Calls.cl (HOr.out _)) | rfl)))
          refine wpQuiet_nil ?_
          intro wc h3
          have HSt2 := hid (HSt.out.trans h3)
          clear h3 hne k0 k1 k2 k3 k4 k5 k6 k7 l0 l1 l2 l3 l4 l5 l6 l7 HSt
          have HSt := HSt2
          clear HSt2
          have HSA : Hid (Sr wc (some ⟨B, o, none⟩) cap (S.take k)) := hid ((HSr.out.still (HS0.out.trans HSt.out)).take hk)
          have hcut := fun w => run_uptoE w (some ⟨B, o, none⟩) S.length cap k (by have := HSr.out.le; omega)
          have htk : (S.take k).length = k := by simp; omega
          have hwc : w.heap.size ≤ wc.heap.size := (HS0.out.trans HSt.out).size
          by_cases hck : cap = k
          · obtain rfl : k = cap := hck.symm
            clear hck
            go_upto_region 8 with (
              at_builtin
              refine wpList_appM _ rfl _ _ rfl w.heap.size (.slice none 0 0) [] (S.take k) (some ⟨B, o, none⟩) k k rfl rfl htk (OwG.nil _ _) HSA.out (by simp; omega) hwc ?_
              intro v1 w1 ho1 hf1
              rw [List.nil_append] at ho1
              have hs1 : Still wc w1 := hf1.mono (fun k _ e => by cases e)
              have HS1 := hid (HSt.out.trans hs1)
              have HO1 := hid ho1
              obtain ⟨ao1, cap1, e1, _⟩ := ho1.slice
              subst e1
              rw [htk] at HO1 ⊢
              clear ho1 hf1 hs1)
            obtain ⟨c0, c1, c2, c3, c4, c5, c6, c7, _⟩ := (HXW.out.still HS1.out).cells
            have A2 := Still.alloc w1 (.cells (ecs x) 44)
            have HO2 := hid (HO1.out.still A2)
            have HX2 : Hid ((newE w1 x).heap[w1.heap.size]? = some (.cells (KE.f x).toArray 44 (0, 0))) := hid (newE_eb w1 x)
            have HS2 := hid ((HS0.out.trans HS1.out).trans A2)
            have hw2 : w.heap.size ≤ (newE w1 x).heap.size := HS2.out.size
            clear A2
            go_upto_region 9 with (
              at_builtin
              refine wpList_appG KE _ rfl _ _ _ rfl rfl 64 infoE (by omega) w.heap.size w1.heap.size (.slice ao1 k cap1) (S.take k) x rfl rfl HO2.out HX2.out (by omega) hw2 ?_
              intro v3 w3 ho3 hf3
              have HS3 : Hid (Still w w3) := hid (still_appG HS2.out HO2.out hf3 (Nat.le_refl _))
              have HO3 := hid ho3
              obtain ⟨ao3, cap3, e3, _⟩ := ho3.slice
              subst e3
              rw [show (S.take k ++ [x]).length = k + 1 by simp; omega] at HO3 ⊢
              clear ho3 hf3)
            have HSD : Hid (Sr w3 (cutE (some ⟨B, o, none⟩) k k) (k - k) (S.drop k)) := hid ((HSr.out.still HS3.out).drop hk)
            have hZ : cutE (some ⟨B, o, none⟩) k k = (some ⟨B, o, none⟩) := by simp [cutE]
            rw [hZ, Nat.sub_self] at HSD
            have hdl : (S.drop k).length = S.length - k := by simp
            have hw3 : w.heap.size ≤ w3.heap.size := HS3.out.size
            have hl3 : (S.take k ++ [x]).length + (S.drop k).length ≤ 100000 := by simp; omega
            clear c0 c1 c2 c3 c4 c5 c6 c7 hZ
            go_wp2_with (
              at_builtin
              refine wpList_appM _ rfl _ _ rfl w.heap.size (.slice ao3 (k + 1) cap3) (S.take k ++ [x]) (S.drop k) (some ⟨B, o, none⟩) (S.length - k) 0 rfl rfl hdl HO3.out HSD.out hl3 hw3 ?_
              intro v4 w4 ho4 hf4
              have HS4 : Hid (Still w w4) := hid (still_appG HS3.out HO3.out hf4 (Nat.le_refl _))
              have HO4 := hid ho4
              obtain ⟨ao4, cap4, e4, _⟩ := ho4.slice
              subst e4
              obtain ⟨N4, eN4⟩ : ∃ N, (S.take k ++ [x] ++ S.drop k).length = N := ⟨_, rfl⟩
              have HN4 := hid eN4
              rw [eN4] at HO4 ⊢
              clear ho4 hf4 eN4)
            go_ret2
            exact .inr ⟨HIN.out.1, ao4, cap4, S.take k ++ [x] ++ S.drop k, by rw [HN4.out]; rfl, HIN.out.2.1, HIN.out.2.2, by rw [HN4.out]; exact HO4.out, HS4.out⟩
          · go_upto_region 8 with (
              at_builtin
              refine wpList_appM _ rfl _ _ rfl w.heap.size (.slice none 0 0) [] (S.take k) (some ⟨B, o, none⟩) k cap rfl rfl htk (OwG.nil _ _) HSA.out (by simp; omega) hwc ?_
              intro v1 w1 ho1 hf1
              rw [List.nil_append] at ho1
              have hs1 : Still wc w1 := hf1.mono (fun k _ e => by cases e)
              have HS1 := hid (HSt.out.trans hs1)
              have HO1 := hid ho1
              obtain ⟨ao1, cap1, e1, _⟩ := ho1.slice
              subst e1
              rw [htk] at HO1 ⊢
              clear ho1 hf1 hs1)
            obtain ⟨c0, c1, c2, c3, c4, c5, c6, c7, _⟩ := (HXW.out.still HS1.out).cells
            have A2 := Still.alloc w1 (.cells (ecs x) 44)
            have HO2 := hid (HO1.out.still A2)
            have HX2 : Hid ((newE w1 x).heap[w1.heap.size]? = some (.cells (KE.f x).toArray 44 (0, 0))) := hid (newE_eb w1 x)
            have HS2 := hid ((HS0.out.trans HS1.out).trans A2)
            have hw2 : w.heap.size ≤ (newE w1 x).heap.size := HS2.out.size
            clear A2
            go_upto_region 9 with (
              at_builtin
              refine wpList_appG KE _ rfl _ _ _ rfl rfl 64 infoE (by omega) w.heap.size w1.heap.size (.slice ao1 k cap1) (S.take k) x rfl rfl HO2.out HX2.out (by omega) hw2 ?_
              intro v3 w3 ho3 hf3
              have HS3 : Hid (Still w w3) := hid (still_appG HS2.out HO2.out hf3 (Nat.le_refl _))
              have HO3 := hid ho3
              obtain ⟨ao3, cap3, e3, _⟩ := ho3.slice
              subst e3
              rw [show (S.take k ++ [x]).length = k + 1 by simp; omega] at HO3 ⊢
              clear ho3 hf3)
            have HSD : Hid (Sr w3 (cutE (some ⟨B, o, none⟩) cap k) (cap - k) (S.drop k)) := hid ((HSr.out.still HS3.out).drop hk)
            have hZ : cutE (some ⟨B, o, none⟩) cap k = (some ⟨B, o + k * 8, none⟩) := by simp [cutE, hck, add_plain]
            rw [hZ] at HSD
            have hdl : (S.drop k).length = S.length - k := by simp
            have hw3 : w.heap.size ≤ w3.heap.size := HS3.out.size
            have hl3 : (S.take k ++ [x]).length + (S.drop k).length ≤ 100000 := by simp; omega
            clear c0 c1 c2 c3 c4 c5 c6 c7 hZ
            go_wp2_with (
              at_builtin
              refine wpList_appM _ rfl _ _ rfl w.heap.size (.slice ao3 (k + 1) cap3) (S.take k ++ [x]) (S.drop k) (some ⟨B, o + k * 8, none⟩) (S.length - k) (cap - k) rfl rfl hdl HO3.out HSD.out hl3 hw3 ?_
              intro v4 w4 ho4 hf4
              have HS4 : Hid (Still w w4) := hid (still_appG HS3.out HO3.out hf4 (Nat.le_refl _))
              have HO4 := hid ho4
              obtain ⟨ao4, cap4, e4, _⟩ := ho4.slice
              subst e4
              obtain ⟨N4, eN4⟩ : ∃ N, (S.take k ++ [x] ++ S.drop k).length = N := ⟨_, rfl⟩
              have HN4 := hid eN4
              rw [eN4] at HO4 ⊢
              clear ho4 hf4 eN4)
            go_ret2
            exact .inr ⟨HIN.out.1, ao4, cap4, S.take k ++ [x] ++ S.drop k, by rw [HN4.out]; rfl, HIN.out.2.1, HIN.out.2.2, by rw [HN4.out]; exact HO4.out, HS4.out⟩
    · have hge : ¬ (k : Int) < (S.length : Int) := by omega
      have HIN := hid (ins_srt HSS.out hk HK.out.2 (fun h => absurd h hkn))
      have hne := Aft.here wr
      go_upto_region 2 with fail
      refine region_all (by kernel_rfl) (by kernel_rfl) ?_
      repeat (go_big_quiet_step (rfl))
      refine wpQuiet_nil ?_
      intro w2 h2
      have HSt1 := hid (HK.out.1.trans h2)
      clear h2 hne HK
      have hne := Aft.here w2
      go_upto_region 4 with fail
      refine region_all (by kernel_rfl) (by kernel_rfl) ?_
      repeat (go_big_quiet_step (rfl))
      refine wpQuiet_nil ?_
      intro wc h3
      have HSt := hid (HSt1.out.trans h3)
      clear h3 hne HSt1
      have HSA : Hid (Sr wc ao cap (S.take k)) := hid ((HSr.out.still (HS0.out.trans HSt.out)).take hk)
      have hcut := fun w => run_uptoE w ao S.length cap k (by have := HSr.out.le; omega)
      have htk : (S.take k).length = k := by simp; omega
      have hwc : w.heap.size ≤ wc.heap.size := (HS0.out.trans HSt.out).size
      by_cases hck : cap = k
      · obtain rfl : k = cap := hck.symm
        clear hck
        go_upto_region 8 with (
          at_builtin
          refine wpList_appM _ rfl _ _ rfl w.heap.size (.slice none 0 0) [] (S.take k) ao k k rfl rfl htk (OwG.nil _ _) HSA.out (by simp; omega) hwc ?_
          intro v1 w1 ho1 hf1
          rw [List.nil_append] at ho1
          have hs1 : Still wc w1 := hf1.mono (fun k _ e => by cases e)
          have HS1 := hid (HSt.out.trans hs1)
          have HO1 := hid ho1
          obtain ⟨ao1, cap1, e1, _⟩ := ho1.slice
          subst e1
          rw [htk] at HO1 ⊢
          clear ho1 hf1 hs1)
        obtain ⟨c0, c1, c2, c3, c4, c5, c6, c7, _⟩ := (HXW.out.still HS1.out).cells
        have A2 := Still.alloc w1 (.cells (ecs x) 44)
        have HO2 := hid (HO1.out.still A2)
        have HX2 : Hid ((newE w1 x).heap[w1.heap.size]? = some (.cells (KE.f x).toArray 44 (0, 0))) := hid (newE_eb w1 x)
        have HS2 := hid ((HS0.out.trans HS1.out).trans A2)
        have hw2 : w.heap.size ≤ (newE w1 x).heap.size := HS2.out.size
        clear A2
        go_upto_region 9 with (
          at_builtin
          refine wpList_appG KE _ rfl _ _ _ rfl rfl 64 infoE (by omega) w.heap.size w1.heap.size (.slice ao1 k cap1) (S.take k) x rfl rfl HO2.out HX2.out (by omega) hw2 ?_
          intro v3 w3 ho3 hf3
          have HS3 : Hid (Still w w3) := hid (still_appG HS2.out HO2.out hf3 (Nat.le_refl _))
          have HO3 := hid ho3
          obtain ⟨ao3, cap3, e3, _⟩ := ho3.slice
          subst e3
          rw [show (S.take k ++ [x]).length = k + 1 by simp; omega] at HO3 ⊢
          clear ho3 hf3)
        have HSD : Hid (Sr w3 (cutE ao k k) (k - k) (S.drop k)) := hid ((HSr.out.still HS3.out).drop hk)
        have hZ : cutE ao k k = ao := by simp [cutE]
        rw [hZ, Nat.sub_self] at HSD
        have hdl : (S.drop k).length = S.length - k := by simp
        have hw3 : w.heap.size ≤ w3.heap.size := HS3.out.size
        have hl3 : (S.take k ++ [x]).length + (S.drop k).length ≤ 100000 := by simp; omega
        clear c0 c1 c2 c3 c4 c5 c6 c7 hZ
        go_wp2_with (
          at_builtin
          refine wpList_appM _ rfl _ _ rfl w.heap.size (.slice ao3 (k + 1) cap3) (S.take k ++ [x]) (S.drop k) ao (S.length - k) 0 rfl rfl hdl HO3.out HSD.out hl3 hw3 ?_
          intro v4 w4 ho4 hf4
          have HS4 : Hid (Still w w4) := hid (still_appG HS3.out HO3.out hf4 (Nat.le_refl _))
          have HO4 := hid ho4
          obtain ⟨ao4, cap4, e4, _⟩ := ho4.slice
          subst e4
          obtain ⟨N4, eN4⟩ : ∃ N, (S.take k ++ [x] ++ S.drop k).length = N := ⟨_, rfl⟩
          have HN4 := hid eN4
          rw [eN4] at HO4 ⊢
          clear ho4 hf4 eN4)
        go_ret2
        exact .inr ⟨HIN.out.1, ao4, cap4, S.take k ++ [x] ++ S.drop k, by rw [HN4.out]; rfl, HIN.out.2.1, HIN.out.2.2, by rw [HN4.out]; exact HO4.out, HS4.out⟩
      · go_upto_region 8 with (
          at_builtin
          refine wpList_appM _ rfl _ _ rfl w.heap.size (.slice none 0 0) [] (S.take k) ao k cap rfl rfl htk (OwG.nil _ _) HSA.out (by simp; omega) hwc ?_
          intro v1 w1 ho1 hf1
          rw [List.nil_append] at ho1
          have hs1 : Still wc w1 := hf1.mono (fun k _ e => by cases e)
          have HS1 := hid (HSt.out.trans hs1)
          have HO1 := hid ho1
          obtain ⟨ao1, cap1, e1, _⟩ := ho1.slice
          subst e1
          rw [htk] at HO1 ⊢
          clear ho1 hf1 hs1)
        obtain ⟨c0, c1, c2, c3, c4, c5, c6, c7, _⟩ := (HXW.out.still HS1.out).cells
        have A2 := Still.alloc w1 (.cells (ecs x) 44)
        have HO2 := hid (HO1.out.still A2)
        have HX2 : Hid ((newE w1 x).heap[w1.heap.size]? = some (.cells (KE.f x).toArray 44 (0, 0))) := hid (newE_eb w1 x)
        have HS2 := hid ((HS0.out.trans HS1.out).trans A2)
        have hw2 : w.heap.size ≤ (newE w1 x).heap.size := HS2.out.size
        clear A2
        go_upto_region 9 with (
          at_builtin
          refine wpList_appG KE _ rfl _ _ _ rfl rfl 64 infoE (by omega) w.heap.size w1.heap.size (.slice ao1 k cap1) (S.take k) x rfl rfl HO2.out HX2.out (by omega) hw2 ?_
          intro v3 w3 ho3 hf3
          have HS3 : Hid (Still w w3) := hid (still_appG HS2.out HO2.out hf3 (Nat.le_refl _))
          have HO3 := hid ho3
          obtain ⟨ao3, cap3, e3, _⟩ := ho3.slice
          subst e3
          rw [show (S.take k ++ [x]).length = k + 1 by simp; omega] at HO3 ⊢
          clear ho3 hf3)
        have HSD : Hid (Sr w3 (cutE ao cap k) (cap - k) (S.drop k)) := hid ((HSr.out.still HS3.out).drop hk)
        have hZ : cutE ao cap k = (Option.map (fun x => x.add (k * 8)) ao) := by simp [cutE, hck]
        rw [hZ] at HSD
        have hdl : (S.drop k).length = S.length - k := by simp
        have hw3 : w.heap.size ≤ w3.heap.size := HS3.out.size
        have hl3 : (S.take k ++ [x]).length + (S.drop k).length ≤ 100000 := by simp; omega
        clear c0 c1 c2 c3 c4 c5 c6 c7 hZ
        go_wp2_with (
          at_builtin
          refine wpList_appM _ rfl _ _ rfl w.heap.size (.slice ao3 (k + 1) cap3) (S.take k ++ [x]) (S.drop k) (Option.map (fun x => x.add (k * 8)) ao) (S.length - k) (cap - k) rfl rfl hdl HO3.out HSD.out hl3 hw3 ?_
          intro v4 w4 ho4 hf4
          have HS4 : Hid (Still w w4) := hid (still_appG HS3.out HO3.out hf4 (Nat.le_refl _))
          have HO4 := hid ho4
          obtain ⟨ao4, cap4, e4, _⟩ := ho4.slice
          subst e4
          obtain ⟨N4, eN4⟩ : ∃ N, (S.take k ++ [x] ++ S.drop k).length = N := ⟨_, rfl⟩
          have HN4 := hid eN4
          rw [eN4] at HO4 ⊢
          clear ho4 hf4 eN4)
        go_ret2
        exact .inr ⟨HIN.out.1, ao4, cap4, S.take k ++ [x] ++ S.drop k, by rw [HN4.out]; rfl, HIN.out.2.1, HIN.out.2.2, by rw [HN4.out]; exact HO4.out, HS4.out⟩
end Go.Proofs.Ytdmgalaajgebkaa
