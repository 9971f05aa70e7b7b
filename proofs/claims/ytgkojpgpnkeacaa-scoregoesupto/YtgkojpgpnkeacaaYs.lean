/- The program's Ranking; what the laws of scores ask of the program. -/
import Derived.Test.YtgkojpgpnkeacaaYsf
import Derived.Test.YtgkojpgpnkeacaaYsc
import Derived.Test.YtgkojpgpnkeacaaEe
namespace Go.Proofs.Ytgkojpgpnkeacaa
open Go.RowKit
open Ea
set_option maxRecDepth 100000

theorem all_may {L : List Scr} (h : ∀ i, i < L.length → MayC (sc L i)) : L.all mayC = true := by
  rw [List.all_eq_true]
  intro x hx
  obtain ⟨i, hi, rfl⟩ := List.mem_iff_getElem.1 hx
  rw [← sc_at hi]
  exact mayC_iff.2 (h i hi)
theorem all_not {L : List Scr} {k : Nat} (hk : k < L.length) (h : ¬ MayC (sc L k)) : L.all mayC = false := by
  cases e : L.all mayC with
  | false => rfl
  | true =>
    rw [List.all_eq_true] at e
    exact absurd (mayC_iff.1 (e _ (List.getElem_mem hk))) (by rw [← sc_at hk]; exact h)
set_option maxHeartbeats 1000000 in
theorem sall_any (L : List Scr) (ao : Option Addr) (n cap : Nat) (w : World) (hr : RdG KC w ao n L) : Calls Try.prog 23 #[.slice ao n cap] w fun e w' => e = .returned (.bool (L.all mayC)) ∧ Still w w' := by
  have HR := hid hr
  have h47 : n ≤ 281474976710656 := hr.2.1
  have HL : Hid (n = L.length) := hid (by have := hr.1; omega)
  clear hr
  go_enter Try.func23, Try.ntmps23
  go_wp2_with fail
  go_loopw [7] (fun u wr => ∃ k : Nat, k ≤ n ∧ u = .int .i64 (k : Int) ∧ Hid (∀ i, i < k → MayC (sc L i)) ∧ Still w wr) (fun u _ => n - (intOf u).toNat)
  case atStart => exact ⟨0, by omega, rfl, hid (fun i hi => by omega), Fr.refl _ _⟩
  case round =>
    obtain ⟨k, hk, rfl, HK, hs⟩ := hrel
    by_cases hkn : k < n
    · have hlt : (k : Int) < (n : Int) := by omega
      have hr1 := HR.out.still hs
      obtain ⟨B, o, rfl⟩ := hr1.at (by omega)
      obtain ⟨c0, c1, c2, c3⟩ := rdC hr1 hkn
      have HM := hid (fun u => smay_any (sc L k) u)
      by_cases hm : MayC (sc L k)
      · rw [mayC_iff.2 hm] at HM
        have HE := hid (show ∀ i, i < k + 1 → MayC (sc L i) from fun i hi => by
          by_cases e : i = k
          · subst e; exact hm
          · exact HK.out i (by omega))
        obtain ⟨x, ex⟩ : ∃ x, sc L k = x := ⟨_, rfl⟩
        rw [ex] at c0 c1 c2 c3 HM
        obtain ⟨e0, e1, e2, e3, ef⟩ := (newC_cb wr x).cells
        have HS1 := hid (hs.trans (Still.alloc wr (.cells (ccs x) 23)))
        clear hs hr1 hm HK ex
        go_wp2_with fail
        refine (HM.out _).mono ?_
        rintro e w1 ⟨rfl, h1⟩
        have HS2 := hid (HS1.out.trans h1)
        clear h1 HS1 c0 c1 c2 c3 e0 e1 e2 e3 ef
        go_wp2_with fail
        go_roundw
        case rel => exact ⟨k + 1, by omega, by go_num, HE, HS2.out⟩
        case measure => simp [intOf]; omega
      · rw [mayC_no hm] at HM
        have HE := hid (all_not (L := L) (k := k) (by have := HL.out; omega) hm)
        obtain ⟨x, ex⟩ : ∃ x, sc L k = x := ⟨_, rfl⟩
        rw [ex] at c0 c1 c2 c3 HM
        obtain ⟨e0, e1, e2, e3, ef⟩ := (newC_cb wr x).cells
        have HS1 := hid (hs.trans (Still.alloc wr (.cells (ccs x) 23)))
        clear hs hr1 hm HK ex
        go_wp2_with fail
        refine (HM.out _).mono ?_
        rintro e w1 ⟨rfl, h1⟩
        have HS2 := hid (HS1.out.trans h1)
        clear h1 HS1 c0 c1 c2 c3 e0 e1 e2 e3 ef
        go_wp2_with fail
        (first | rw [Exit.noGoto_ret] | skip)
        go_ret
        exact ⟨by rw [HE.out]; rfl, HS2.out⟩
    · have hge : ¬ (k : Int) < (n : Int) := by omega
      have HE := hid (all_may (L := L) (fun i hi => HK.out i (by have := HL.out; omega)))
      have HS1 := hid hs
      clear hs HK
      go_wp2_with fail
      go_ret
      exact ⟨by rw [HE.out]; rfl, HS1.out⟩
theorem srank_many (L : List Scr) (ao : Option Addr) (n cap : Nat) (h6 : 6 < n) (w : World) (hr : RdG KC w ao n L) : Calls Try.prog 14 #[.slice ao n cap] w fun e w' => ∃ bo m cp, e = .returned (.tuple #[.slice bo m cp, .int .i64 (errR L)]) ∧ OwI 3 w' bo m cp (rnkA L) ∧ Still w w' ∧ ∀ a, bo = some a → w.heap.size ≤ a.block := by
  have h6' : (6 : Int) < (n : Int) := by omega
  have h47 : n ≤ 281474976710656 := hr.2.1
  have HE : Hid (errR L = 120 ∧ rnkA L = []) := hid (by
    have e : rnkE L = false := by
      cases e : rnkE L with
      | false => rfl
      | true => have := (rnkE_iff.1 e).1; have := hr.1; omega
    exact ⟨by unfold errR; rw [e]; rfl, by unfold rnkA; rw [e]; rfl⟩)
  clear hr
  go_enter Try.func14, Try.ntmps14
  go_wp2_with fail
  go_ret2
  refine ⟨none, 0, 0, by rw [HE.out.1]; rfl, ?_, Fr.refl _ _, fun a h => by cases h⟩
  rw [HE.out.2]
  exact OwI.empty _ _
theorem srank_not (L : List Scr) (ao : Option Addr) (n cap : Nat) (h6 : n ≤ 6) (hn : L.all mayC = false) (w : World) (hr : RdG KC w ao n L) : Calls Try.prog 14 #[.slice ao n cap] w fun e w' => ∃ bo m cp, e = .returned (.tuple #[.slice bo m cp, .int .i64 (errR L)]) ∧ OwI 3 w' bo m cp (rnkA L) ∧ Still w w' ∧ ∀ a, bo = some a → w.heap.size ≤ a.block := by
  have h6' : decide ((6 : Int) < (n : Int)) = false := by simp; omega
  have HA := hid (sall_any L ao n cap w hr)
  rw [hn] at HA
  have HE : Hid (errR L = 120 ∧ rnkA L = []) := hid (by
    have e : rnkE L = false := by unfold rnkE; rw [hn]; simp
    exact ⟨by unfold errR; rw [e]; rfl, by unfold rnkA; rw [e]; rfl⟩)
  clear hr hn
  go_enter Try.func14, Try.ntmps14
  go_wp2_with fail
  refine HA.out.mono ?_
  rintro e w1 ⟨rfl, h1⟩
  have HS := hid h1
  clear h1 HA
  go_wp2_with fail
  go_ret2
  refine ⟨none, 0, 0, by rw [HE.out.1]; rfl, ?_, HS.out, fun a h => by cases h⟩
  rw [HE.out.2]
  exact OwI.empty _ _
set_option maxHeartbeats 2000000 in
theorem srank_yes (L : List Scr) (ao : Option Addr) (n cap : Nat) (h6 : n ≤ 6) (hn : L.all mayC = true) (w : World) (hr : RdG KC w ao n L) : Calls Try.prog 14 #[.slice ao n cap] w fun e w' => ∃ bo m cp, e = .returned (.tuple #[.slice bo m cp, .int .i64 (errR L)]) ∧ OwI 3 w' bo m cp (rnkA L) ∧ Still w w' ∧ ∀ a, bo = some a → w.heap.size ≤ a.block := by
  have h6' : decide ((6 : Int) < (n : Int)) = false := by simp; omega
  have HA := hid (sall_any L ao n cap w hr)
  rw [hn] at HA
  have HL : Hid (n = L.length) := hid (by have := hr.1; omega)
  have HE : Hid (errR L = 0 ∧ rnkA L = rnk L) := hid (by
    have e : rnkE L = true := by unfold rnkE; rw [hn]; have := HL.out; simp; omega
    exact ⟨by unfold errR; rw [e]; rfl, by unfold rnkA; rw [e]; rfl⟩)
  have HR := hid hr
  have hmk : ∀ W : World, (Instr.makeSlice 33 (.int .i64 (n : Int)) (.int .i64 (n : Int))).run Try.prog W = .ok (.slice (some ⟨W.heap.size, 0, none⟩) n n) (W.alloc (.cells (madeCells #[.int .i64 0] n) 3)) := fun W =>
    run_make_row' (P := Try.prog) 33 3 (.int .i64 0) 8 Try.underlying33 info_int rfl .i64 .i64 n (by omega) (by omega) W
  have HNew := hid (fun (W : World) => (OwI.fresh W (madeCells #[.int .i64 0] n) n n (List.replicate n 0) (by simp) (Nat.le_refl _) (by unfold maxLen; omega) (by rw [size_madeCells]) (fun j hj => by
      simp at hj
      simp [madeCells, hj]
      rw [Nat.mod_one]; rfl) : OwI 3 (W.alloc (.cells (madeCells #[.int .i64 0] n) 3)) (some ⟨W.heap.size, 0, none⟩) n n (List.replicate n 0)))
  obtain ⟨CS, hCS⟩ : ∃ CS, CS = madeCells #[.int .i64 0] n := ⟨_, rfl⟩
  rw [← hCS] at HNew
  simp only [← hCS] at hmk
  clear hCS hr hn
  go_enter Try.func14, Try.ntmps14
  go_wp2_with fail
  refine HA.out.mono ?_
  rintro e w1 ⟨rfl, h1⟩
  have HS1 := hid h1
  have HO := hid (HNew.out w1)
  have HS2 := hid (h1.trans (Still.alloc w1 (.cells CS 3)))
  have HG := hid h1.size
  obtain ⟨g, eg⟩ : ∃ g, w1.heap.size = g := ⟨_, rfl⟩
  rw [eg] at HO HG
  clear h1 HA HNew
  go_wp2_with fail
  (try rw [eg])
  clear hmk eg
  go_loopw [19] (fun vi wr => ∃ k : Nat, k ≤ n ∧ vi = .int .i64 (k : Int) ∧ OwI 3 wr (some ⟨g, 0, none⟩) n n (Rg.upTo k ++ List.replicate (n - k) 0) ∧ Still w wr) (fun vi _ => n - (intOf vi).toNat)
  case atStart => exact ⟨0, Nat.zero_le _, rfl, by simpa [Rg.upTo] using HO.out, HS2.out⟩
  case round =>
    obtain ⟨k, hk, rfl, ho, hst⟩ := hrel
    by_cases hlt : k < n
    · obtain ⟨⟨v, hv⟩, hfz⟩ := ho.cellAt hlt
      have hlt' : (k : Int) < (n : Int) := by omega
      have R := ho.set (x := (k : Int)) hlt
      rw [fill_step hlt] at R
      have R2 := hst.setCell ⟨g, k, none⟩ (.int .i64 (k : Int)) (.inr HG.out)
      have H2 := hid (And.intro R R2)
      clear ho hst R R2 HO HS1 HS2
      go_wp2_with fail
      go_roundw
      case rel => exact ⟨k + 1, by omega, by go_num, H2.out.1, H2.out.2⟩
      case measure => simp [intOf]; omega
    · have hge : ¬ (k : Int) < (n : Int) := by omega
      obtain rfl : k = n := by omega
      have ho1 : OwI 3 wr (some ⟨g, 0, none⟩) k k (Rg.upTo k) := by simpa using ho
      have HC := hid (ssort_any L ao k cap g (by omega) w wr HR.out HG.out hst (Rg.upTo k) (plc_up k) ho1)
      clear ho hst ho1 HO HS1 HS2 hlt
      go_wp2_with fail
      refine HC.out.mono ?_
      rintro e w3 ⟨rfl, h3⟩
      have H3 : Hid (OwI 3 w3 (some ⟨g, 0, none⟩) k k (rnk L) ∧ Still w w3) := hid (by
        obtain ⟨R', p1, p2, p3, p4⟩ := h3
        rw [HL.out] at p1 p2
        rw [← srt_done p1 p2]
        exact ⟨p3, p4⟩)
      clear h3 HC
      go_wp2_with fail
      go_ret2
      refine ⟨_, _, _, by rw [HE.out.1]; rfl, ?_, H3.out.2, fun a h => by cases h; exact HG.out⟩
      rw [HE.out.2]
      exact H3.out.1
theorem srank_any (L : List Scr) (ao : Option Addr) (n cap : Nat) (w : World) (hr : RdG KC w ao n L) : Calls Try.prog 14 #[.slice ao n cap] w fun e w' => ∃ bo m cp, e = .returned (.tuple #[.slice bo m cp, .int .i64 (errR L)]) ∧ OwI 3 w' bo m cp (rnkA L) ∧ Still w w' ∧ ∀ a, bo = some a → w.heap.size ≤ a.block := by
  by_cases h6 : n ≤ 6
  · cases hn : L.all mayC with
    | true => exact srank_yes L ao n cap h6 hn w hr
    | false => exact srank_not L ao n cap h6 hn w hr
  · exact srank_many L ao n cap (by omega) w hr
theorem cts12_any (w : World) : Cts12 w where
  chk x u _ _ := schk_any x u
  hit a b n out u _ _ _ _ := shit_any a b n out u
  gai a n u _ _ _ := sgain_any a n u
  rnk L ao n cap u _ hr _ _ := srank_any L ao n cap u hr
end Go.Proofs.Ytgkojpgpnkeacaa
