/- BagDoubles: the law's walk. -/
import Derived.Test.YtakdfckkljbghaaBgn
namespace Go.Proofs.Ytakdfckkljbghaa
open Go.RowKit
set_option maxRecDepth 100000
set_option linter.unusedVariables false

/-- what the j-th double says -/
def dpD (bs : List UInt8) (j : Nat) : Int × Int × Int × List UInt8 := ((j : Int) + 1, 4, 5, bs)
theorem all_at {bs : List UInt8} {m : Nat} {L : List Pcl} (h : L.map abP = (List.range m).map (dpD bs)) {j : Nat} (hj : j < m) : abP (atP L j) = dpD bs j := by
  have hl : L.length = m := by simpa using congrArg List.length h
  have := congrArg (fun l => l[j]?) h
  simp only [List.getElem?_map] at this
  rw [List.getElem?_range hj, List.getElem?_eq_getElem (by omega)] at this
  unfold atP
  rw [List.getD_eq_getElem?_getD, List.getElem?_eq_getElem (by omega)]
  simpa using this
theorem dp_more {bs : List UInt8} {m : Nat} {L : List Pcl} {x : Pcl} (h : L.map abP = (List.range m).map (dpD bs)) (hx : abP x = dpD bs m) : (L ++ [x]).map abP = (List.range (m + 1)).map (dpD bs) := by
  rw [List.map_append, h, List.range_succ, List.map_append, List.map_singleton, List.map_singleton, hx]
theorem all_fnd {bs : List UInt8} {m : Nat} {L : List Pcl} (h : L.map abP = (List.range m).map (dpD bs)) {j : Nat} (hj : j < m) : ∃ x, fndP L ((j : Int) + 1) = some x ∧ x.fr = 4 ∧ x.td = 5 ∧ x.bs = bs := by
  have hl : L.length = m := by simpa using congrArg List.length h
  have hm := atP_mem (L := L) (i := j) (by omega)
  have ha := all_at h hj
  cases hf : fndP L ((j : Int) + 1) with
  | none => exact absurd (congrArg Prod.fst ha) (fndP_none hf _ hm)
  | some y =>
    refine ⟨y, rfl, ?_⟩
    have hy := (fndP_some hf).1
    have h2 := List.mem_map_of_mem (f := abP) hy
    rw [h] at h2
    obtain ⟨k, _, e⟩ := List.mem_map.1 h2
    simp only [dpD, abP, Prod.mk.injEq] at e
    exact ⟨e.2.1.symm, e.2.2.1.symm, e.2.2.2.symm⟩
theorem del_out {bs : List UInt8} {m : Nat} {L : List Pcl} (h : L.map abP = (List.range m).map (dpD bs)) (hu : UpP L) {g : Nat} (hg : g < m) : delP L ((g : Int) + 1) = outP L g := by
  have hl : L.length = m := by simpa using congrArg List.length h
  have hgl : g < L.length := by omega
  have hno : (L[g]).no = (g : Int) + 1 := by
    have := congrArg Prod.fst (all_at h hg)
    unfold atP at this
    rw [List.getD_eq_getElem?_getD, List.getElem?_eq_getElem hgl] at this
    exact this
  have e : L = L.take g ++ L[g] :: L.drop (g + 1) := by
    conv => lhs; rw [← List.take_append_drop g L, List.drop_eq_getElem_cons hgl]
  have hu2 := hu
  rw [e] at hu2
  unfold UpP at hu2
  rw [List.pairwise_append] at hu2
  obtain ⟨_, h2, h3⟩ := hu2
  obtain ⟨h4, _⟩ := List.pairwise_cons.1 h2
  unfold delP outP
  conv => lhs; rw [e]
  rw [List.filter_append, List.filter_cons]
  have e1 : (L.take g).filter (fun x => !(x.no == (g : Int) + 1)) = L.take g := List.filter_eq_self.2 (fun x hx => by
    have := h3 x hx _ (List.mem_cons_self ..)
    simp
    omega)
  have e2 : (L.drop (g + 1)).filter (fun x => !(x.no == (g : Int) + 1)) = L.drop (g + 1) := List.filter_eq_self.2 (fun x hx => by
    have := h4 x hx
    simp
    omega)
  rw [e1, e2, hno]
  simp
theorem out_at {L : List Pcl} {g i : Nat} (hg : g < L.length) (hi : i + 1 < L.length) : atP (outP L g) i = if i < g then atP L i else atP L (i + 1) := by
  unfold atP outP
  rw [List.getD_eq_getElem?_getD, List.getElem?_append]
  have hl : (L.take g).length = g := by simp; omega
  rw [hl]
  by_cases h : i < g
  · rw [if_pos h, if_pos h, List.getElem?_take_of_lt h, List.getD_eq_getElem?_getD]
  · rw [if_neg h, if_neg h, List.getElem?_drop, List.getD_eq_getElem?_getD, show g + 1 + (i - g) = i + 1 by omega]
set_option maxHeartbeats 8000000 in
theorem doubles_law (ao : Option Addr) (n cap : Nat) (bs : List UInt8) (oo : Option Addr) (n2 c2 : Nat) (T : List Int) (dr : Int) (hn : n ≤ 1048576) (hn2 : n2 ≤ 1048576) (hT : ∀ i, i < n2 → -9223372036854775808 ≤ T.getD i 0 ∧ T.getD i 0 ≤ 9223372036854775807) (hdr : -9223372036854775808 ≤ dr ∧ dr ≤ 9223372036854775807) (w : World) (hr : Rd w ao n cap bs) (hO : RdG KIn w oo n2 T) : Calls Try.prog 5 #[.slice ao n cap, .slice oo n2 c2, .int .i64 dr] w fun e w' => e = .returned (.bool true) ∧ Still w w' := by
  have HR := hid hr
  have HO := hid hO
  have HT := hid hT
  have HA := hid (fun w => awake17_any w)
  have HN := hid (fun w => bnew_any w)
  have HDr := hid hdr
  clear hr hO hT hdr
  go_enter Try.func5, Try.ntmps5
  go_wp2_with fail
  refine (HA.out _).mono ?_
  rintro e w1 ⟨he, h1⟩
  rw [he]
  have HS1 := hid h1
  clear he h1 HA
  go_wp2_with fail
  refine (HN.out _).mono ?_
  rintro e w2 ⟨p, mb, he, hb2, hs2, hp, hm⟩
  rw [he]
  have HS2 := hid (HS1.out.trans hs2)
  have HP : Hid (w.heap.size ≤ p ∧ w.heap.size ≤ mb) := hid ⟨Nat.le_trans HS1.out.size hp, Nat.le_trans HS1.out.size hm⟩
  have HC := hid (bsend_any p mb 0 [] 4 5 ao n cap bs (by omega) (by omega) w2 hb2 (HR.out.still HS2.out))
  clear he hb2 hs2 hp hm HN HS1
  go_wp2_with fail
  refine HC.out.mono ?_
  rintro e w3 ⟨he, y0, hy0, _, hb3, hf3⟩
  rw [he]
  have HH0 : Hid (Bk w3 p mb (((0 : Nat) : Int) + 1) [y0] ∧ [y0].map abP = (List.range (0 + 1)).map (dpD bs) ∧ Still w w3) := hid ⟨hb3, by simp [dpD, hy0, List.range_succ], still_bag HS2.out hf3 HP.out.1 HP.out.2⟩
  clear he hy0 hb3 hf3 HC HS2
  go_wp2_with fail
  go_loopw [9, 10] (fun u9 u10 wr => ∃ (i : Nat) (L : List Pcl), i ≤ n2 ∧ u9 = .int .i64 ((i : Int) + 1) ∧ u10 = .int .i64 (i : Int) ∧ Hid (Bk wr p mb ((i : Int) + 1) L ∧ L.map abP = (List.range (i + 1)).map (dpD bs) ∧ Still w wr)) (fun _ u _ => n2 - (intOf u).toNat)
  case atStart => exact ⟨0, [y0], by omega, rfl, rfl, HH0⟩
  case round =>
    clear HH0
    obtain ⟨i, L, hi, rfl, rfl, HH⟩ := hrel
    by_cases hin : i < n2
    · have hlt : (i : Int) < (n2 : Int) := by omega
      have hO9 := HO.out.still HH.out.2.2
      obtain ⟨Bo, oo', eo⟩ := hO9.at (by omega)
      rw [eo] at hO9
      have d0 := rdIn hO9 hin
      have HPk := hid (fun w => pick_any (T.getD i 0) ((i : Int) + 1) (HT.out i hin) (by omega) (by omega) w)
      obtain ⟨hj0, hj1⟩ := pk_in (T.getD i 0) ((i : Int) + 1) (by omega)
      obtain ⟨a, ea⟩ : ∃ a : Nat, pk (T.getD i 0) ((i : Int) + 1) = (a : Int) := ⟨(pk (T.getD i 0) ((i : Int) + 1)).toNat, by omega⟩
      rw [ea] at HPk hj1
      have ha : a < i + 1 := by omega
      obtain ⟨q, eq⟩ : ∃ q, T.getD i 0 = q := ⟨_, rfl⟩
      rw [eq] at d0 HPk
      obtain ⟨x, hfx, hx1, hx2, hx3⟩ := all_fnd HH.out.2.1 ha
      have hk1 : -9223372036854775808 ≤ (a : Int) + 1 ∧ (a : Int) + 1 ≤ 9223372036854775807 := by omega
      have hk2 : -9223372036854775808 ≤ (i : Int) + 1 ∧ (i : Int) + 1 ≤ 9223372036854775807 := by omega
      have hk3 : -9223372036854775808 ≤ (i : Int) + 1 + 1 ∧ (i : Int) + 1 + 1 ≤ 9223372036854775807 := by omega
      have HC := hid (bdouble_yes p mb ((i : Int) + 1) L ((a : Int) + 1) x (by omega) hk1 wr HH.out.1 hfx)
      have HX := hid (And.intro hx1 (And.intro hx2 hx3))
      subst eo
      clear hO9 ea hj0 hj1 eq hfx hx1 hx2 hx3
      obtain ⟨hw1, hw2⟩ := wrI hk1
      obtain ⟨hw3, hw4⟩ := wrI hk2
      obtain ⟨hw5, hw6⟩ := wrI hk3
      go_wp2_with fail
      refine (HPk.out _).mono ?_
      rintro e w2 ⟨he, hw⟩
      rw [he, hw]
      clear he hw w2 HPk d0
      go_wp2_with fail
      refine HC.out.mono ?_
      rintro e w4 ⟨he, hb4, hf4⟩
      rw [he]
      have HN4 : Hid (Bk w4 p mb (((i + 1 : Nat) : Int) + 1) (L ++ [noP x ((i : Int) + 1 + 1)]) ∧ (L ++ [noP x ((i : Int) + 1 + 1)]).map abP = (List.range (i + 1 + 1)).map (dpD bs) ∧ Still w w4) := hid (by
        refine ⟨?_, ?_, still_bag HH.out.2.2 hf4 HP.out.1 HP.out.2⟩
        · rw [show (((i + 1 : Nat) : Int) + 1) = (i : Int) + 1 + 1 from rfl]; exact hb4
        · exact dp_more HH.out.2.1 (by
            simp only [abP, noP, dpD, HX.out.1, HX.out.2.1, HX.out.2.2]
            rfl))
      clear he hb4 hf4 HC
      go_wp2_with fail
      clear hw1 hw2 hw3 hw4 hw5 hw6
      go_roundw
      case rel => exact ⟨i + 1, _, by omega, by go_num, by go_num, HN4⟩
      case measure => simp [intOf]; omega
    · have hge : ¬ (i : Int) < (n2 : Int) := by omega
      have HPk := hid (fun w => pick_any dr ((i : Int) + 1) HDr.out (by omega) (by omega) w)
      obtain ⟨hj0, hj1⟩ := pk_in dr ((i : Int) + 1) (by omega)
      obtain ⟨g, eg⟩ : ∃ a : Nat, pk dr ((i : Int) + 1) = (a : Int) := ⟨(pk dr ((i : Int) + 1)).toNat, by omega⟩
      rw [eg] at HPk hj1
      have hgi : g < i + 1 := by omega
      obtain ⟨x, hfx, _, _, _⟩ := all_fnd HH.out.2.1 hgi
      have hk1 : -9223372036854775808 ≤ (g : Int) + 1 ∧ (g : Int) + 1 ≤ 9223372036854775807 := by omega
      have HLl : Hid (L.length = i + 1) := hid (by simpa using congrArg List.length HH.out.2.1)
      have HC := hid (bdrop_any p mb ((i : Int) + 1) L ((g : Int) + 1) hk1 wr HH.out.1)
      rw [hfx] at HC
      rw [show (if (some x).isSome = true then (0 : Int) else 170) = 0 from rfl, del_out HH.out.2.1 HH.out.1.up hgi] at HC
      clear eg hj0 hj1 hfx
      obtain ⟨hw1, hw2⟩ := wrI hk1
      go_wp2_with fail
      refine (HPk.out _).mono ?_
      rintro e w2 ⟨he, hw⟩
      rw [he, hw]
      clear he hw w2 HPk
      go_wp2_with fail
      refine HC.out.mono ?_
      rintro e w4 ⟨he, hb4, hf4⟩
      rw [he]
      clear hw1 hw2
      have HOl : Hid ((outP L g).length = i) := hid (by have := outP_len (S := L) (i := g) (by have := HLl.out; omega); have := HLl.out; omega)
      have HS4 := hid (still_map HH.out.2.2 hf4 HP.out.2)
      have HC2 := hid (bflight_any p mb ((i : Int) + 1) (outP L g) (by rw [HOl.out]; omega) w4 hb4)
      have HM : Hid (L.map abP = (List.range (i + 1)).map (dpD bs)) := hid HH.out.2.1
      clear he hb4 hf4 HC HH
      go_wp2_with fail
      refine HC2.out.mono ?_
      rintro e w5 ⟨v5, A, he, hfl⟩
      rw [he]
      have HAl : Hid (A.length = i) := hid (by have := congrArg List.length hfl.ab; simp only [List.length_map] at this; rw [this]; exact HOl.out)
      obtain ⟨a5, cp5, e5, _⟩ := hfl.ow.slice
      rw [HAl.out] at e5
      subst e5
      have HF := hid hfl
      have HS5 := hid (HS4.out.trans hfl.st)
      have hk2 : -9223372036854775808 ≤ (i : Int) + 1 - 1 ∧ (i : Int) + 1 - 1 ≤ 9223372036854775807 := by omega
      have hsb : (i : Int) + 1 - 1 = (i : Int) := by omega
      clear he hfl HC2 HS4
      obtain ⟨hw1, hw2⟩ := wrI hk2
      rw [hsb] at hw1 hw2
      go_wp2_with fail
      clear hw1 hw2 hsb
      go_loopw [16] (fun u wr => ∃ k : Nat, k ≤ i ∧ u = .int .i64 (k : Int) ∧ Hid (Still w5 wr)) (fun u _ => i - (intOf u).toNat)
      case atStart => exact ⟨0, by omega, rfl, hid (Fr.refl _ _)⟩
      case round =>
        obtain ⟨k, hk, rfl, HW⟩ := hrel
        by_cases hki : k < i
        · have hlt : (k : Int) < (i : Int) := by omega
          obtain ⟨g5, cap5, e5, _, _⟩ := HF.out.ow.head (by have := HAl.out; omega)
          cases e5
          have hoA := HF.out.ow.still HW.out
          obtain ⟨s0, s1, s2, s3, _⟩ := owPl hoA (i := k) (by have := HAl.out; omega)
          have hq := (HF.out.rq _ (atP_mem (L := A) (i := k) (by have := HAl.out; omega))).1.still HW.out
          have hab := map_at HF.out.ab (i := k) (by have := HAl.out; omega)
          rw [out_at (by have := HLl.out; omega) (by have := HLl.out; omega)] at hab
          obtain ⟨y, ey⟩ : ∃ y, atP A k = y := ⟨_, rfl⟩
          rw [ey] at s0 s1 s2 s3 hq hab
          have hk5 : -9223372036854775808 ≤ (k : Int) + 1 ∧ (k : Int) + 1 ≤ 9223372036854775807 := by omega
          have hk6 : -9223372036854775808 ≤ (k : Int) + 1 + 1 ∧ (k : Int) + 1 + 1 ≤ 9223372036854775807 := by omega
          obtain ⟨b, eb⟩ : ∃ b, wr.heap.size = b := ⟨_, rfl⟩
          obtain ⟨W6, eW6⟩ : ∃ W, newPl wr y = W := ⟨_, rfl⟩
          have A6 : Still wr W6 := by rw [← eW6]; exact Still.alloc _ _
          have p6 : Plb W6 b y := by rw [← eW6, ← eb]; exact newPl_b wr y
          have HS6 := hid (HW.out.trans A6)
          obtain ⟨c0, c1, c2, c3, _⟩ := p6.cells
          have k1 := run_string (P := Try.prog) W6 33 5 9 Try.underlying33 Try.underlying5 Try.underlying9 (hq.still A6).ow.rd
          have k2 := run_string (P := Try.prog) W6 33 5 9 Try.underlying33 Try.underlying5 Try.underlying9 (HR.out.still (HS5.out.trans HS6.out))
          simp only [newPl] at eW6
          by_cases hkg : k < g
          · rw [if_pos hkg, all_at HM.out (by omega)] at hab
            simp only [abP, dpD, Prod.mk.injEq] at hab
            rw [hab.1] at c0
            rw [hab.2.1] at c1
            rw [hab.2.2.1] at c2
            rw [hab.2.2.2] at k1
            have hlg : ¬ (g : Int) + 1 ≤ (k : Int) + 1 := by omega
            clear hab ey hq hoA A6 p6
            obtain ⟨hw1, hw2⟩ := wrI hk5
            go_wp2_with fail
            clear hw1 hw2
            go_roundw
            case rel => exact ⟨k + 1, by omega, by go_num, HS6⟩
            case measure => simp [intOf]; omega
          · rw [if_neg hkg, all_at HM.out (by omega)] at hab
            simp only [abP, dpD, Prod.mk.injEq] at hab
            rw [show ((k + 1 : Nat) : Int) + 1 = (k : Int) + 1 + 1 from rfl] at hab
            rw [hab.1] at c0
            rw [hab.2.1] at c1
            rw [hab.2.2.1] at c2
            rw [hab.2.2.2] at k1
            have hlg : (g : Int) + 1 ≤ (k : Int) + 1 := by omega
            clear hab ey hq hoA A6 p6
            obtain ⟨hw1, hw2⟩ := wrI hk5
            obtain ⟨hw3, hw4⟩ := wrI hk6
            go_wp2_with fail
            clear hw1 hw2 hw3 hw4
            go_roundw
            case rel => exact ⟨k + 1, by omega, by go_num, HS6⟩
            case measure => simp [intOf]; omega
        · have hge2 : ¬ (k : Int) < (i : Int) := by omega
          go_wp2_with fail
          go_ret
          exact ⟨rfl, HS5.out.trans HW.out⟩
end Go.Proofs.Ytakdfckkljbghaa
