/- The law on rankings. -/
import Derived.Test.YtgkojpgpnkeacaaEe
namespace Go.Proofs.Ytgkojpgpnkeacaa
open Go.RowKit
open Ea
set_option maxRecDepth 100000

theorem set_endC {n : Nat} {L : List Scr} (hl : L.length = n) (x y : Scr) : (L ++ [x]).set n y = L ++ [y] := by subst hl; simp
theorem sc_end {n : Nat} {L : List Scr} (hl : L.length = n) (x : Scr) : sc (L ++ [x]) n = x := by subst hl; simp [sc]
theorem sc_app {L : List Scr} {x : Scr} {i : Nat} (h : i < L.length) : sc (L ++ [x]) i = sc L i := by simp [sc, List.getD, List.getElem?_append_left h]
def c7 : Scr := ⟨0, -7, 0, 0⟩
theorem rep_step {R : List Int} {i : Nat} (h : i < R.length) : (List.replicate i (-5 : Int) ++ R.drop i).set i (-5) = List.replicate (i + 1) (-5) ++ R.drop (i + 1) := by
  rw [List.drop_eq_getElem_cons h, set_midI (by simp), List.replicate_succ', List.append_assoc]
  rfl
theorem rep_at {R : List Int} {i : Nat} (h : i < R.length) : (List.replicate i (-5 : Int) ++ R.drop i)[i]? = some R[i] := by
  rw [List.getElem?_append_right (by simp), List.getElem?_drop]
  simp [h]
theorem OwI.at {e : TypeId} {w : World} {g n cap i : Nat} {bs : List Int} {x : Int} (h : OwI e w (some ⟨g, 0, none⟩) n cap bs) (hx : bs[i]? = some x) : w.cell? ⟨g, i, none⟩ = some (.int .i64 x) := by
  obtain ⟨hi, rfl⟩ := List.getElem?_eq_some_iff.1 hx
  have := h.rd.byte (k := i) hi
  rwa [Nat.zero_add] at this
set_option maxHeartbeats 8000000 in
theorem ranks_law (so : Option Addr) (n c : Nat) (L : List Scr) (hL : ∀ i, i < L.length → InC (sc L i)) (hc : so = none → c = 0) (h47 : 32 * (n + 1) ≤ 281474976710656) (w : World) (hr : RdG KC w so n L) (C : Cts12 w) : Calls Try.prog 4 #[.slice so n c] w fun e w' => e = .returned (.bool true) ∧ Still w w' := by
  have hn2 : n + 1 ≤ 281474976710656 := by omega
  have hlen := hr.1
  have HLn := hid hlen
  have HIL := hid hL
  have HR := hid hr
  have HC := hid hc
  have G1 := guard_cv
  have hmk0 := makeG KC (t := 32) Try.underlying32 32 infoC (n + 1) (by omega) (by omega)
  have hmk := hmk0.1
  obtain ⟨i0, hi, hz, hz1, hz2⟩ := info_parts info_int
  have HInfo := hid (And.intro hi (And.intro hz (And.intro hz1 hz2)))
  clear hr hL hc hi hz hz1 hz2
  go_enter Try.func4, Try.ntmps4
  go_wp2_with fail
  refine (awake12_any _ C).mono ?_
  rintro e w1 ⟨rfl, h1⟩
  have hfresh := hmk0.2 w1
  obtain ⟨CS, hCS⟩ : ∃ CS, madeCells (KC.f KC.d).toArray ((n + 1) * KC.k) = CS := ⟨_, rfl⟩
  rw [hCS] at hfresh
  simp only [hCS] at hmk
  have A1 := Still.alloc w1 (.cells CS 23)
  obtain ⟨W1, hcp, ho1, hf1⟩ := copyG (P := Try.prog) (t := 32) (c := c) Try.underlying32 (by obtain ⟨i, h, _, h2, _⟩ := infoC; exact ⟨i, h, h2⟩) hfresh ((HR.out.still h1).still A1) (by omega) HC.out
  have hst1 : Still w W1 := Fr.trans (F := fun _ => False) (h1.trans A1) hf1 fun k hk e => by have := h1.size; omega
  rw [List.drop_replicate, show n + 1 - n = 1 by omega, show List.replicate 1 KC.d = [zC] from rfl] at ho1
  have ho2 := ho1.put (i := n) (by simp; omega) c7
  rw [set_endC hlen] at ho2
  have HGw := hid (show w.heap.size ≤ w1.heap.size from h1.size)
  obtain ⟨g, eg⟩ : ∃ g, w1.heap.size = g := ⟨_, rfl⟩
  rw [eg] at ho1 ho2 hf1 HGw hcp
  have hst2 := setC_frC (setC_frC (setC_frC (setC_frC hst1 g (n * 4) (.int .i64 0) HGw.out) g (n * 4 + 1) (.int .i64 (-7)) HGw.out) g (n * 4 + 2) (.int .i64 0) HGw.out) g (n * 4 + 3) (.int .i64 0) HGw.out
  obtain ⟨c0, c1, c2, c3, cf⟩ := owC ho1 (i := n) (by simp; omega)
  rw [sc_end hlen] at c0 c1 c2 c3
  have ho2' : OwG KC 23 ((((W1.setCell ⟨g, n * 4, none⟩ (.int .i64 0)).setCell ⟨g, n * 4 + 1, none⟩ (.int .i64 (-7))).setCell ⟨g, n * 4 + 2, none⟩ (.int .i64 0)).setCell ⟨g, n * 4 + 3, none⟩ (.int .i64 0)) g (.slice (some ⟨g, 0, none⟩) (n + 1) (n + 1)) (L ++ [c7]) := ho2
  obtain ⟨W2, eW2⟩ : ∃ W, (((W1.setCell ⟨g, n * 4, none⟩ (.int .i64 0)).setCell ⟨g, n * 4 + 1, none⟩ (.int .i64 (-7))).setCell ⟨g, n * 4 + 2, none⟩ (.int .i64 0)).setCell ⟨g, n * 4 + 3, none⟩ (.int .i64 0) = W := ⟨_, rfl⟩
  rw [eW2] at ho2' hst2
  have HO2 := hid ho2'
  have HS2 := hid hst2
  have hup : ∀ W, (Instr.slice 32 (.slice (some ⟨g, 0, none⟩) (n + 1) (n + 1)) none (some (.int .i64 (n : Int))) none).run Try.prog W = .ok (.slice (some ⟨g, 0, none⟩) n (n + 1)) W := fun W => by
    have := run_uptoG (P := Try.prog) (t := 32) Try.underlying32 (by obtain ⟨i, h, _⟩ := infoC; exact ⟨i, h⟩) W (some ⟨g, 0, none⟩) (n + 1) (n + 1) (n : Int) (by omega) (by omega)
    simpa using this
  rw [show ((n + 1 : Nat) : Int) = (n : Int) + 1 by omega] at hmk
  have HGl := hid (show g < W2.heap.size from (ho2'.block (k := g) rfl).2)
  clear hCS hlen hfresh hf1 ho1 ho2 ho2' hst1 hst2 hmk0 A1 h1
  go_upto_region 5 with fail
  clear eW2 hmk hcp eg c0 c1 c2 c3 cf
  have HRo := hid (show RdG KC W2 (some ⟨g, 0, none⟩) n L by
    have := HO2.out.rd (by have := HLn.out; omega)
    rw [HLn.out] at this
    exact this)
  go_wp2_with fail
  refine (C.rnk L _ n (n + 1) _ HIL.out HRo.out (by omega) HS2.out).mono ?_
  rintro e w3 ⟨ao, m, ca, rfl, ha, h3, hag⟩
  have HRk := hid (fun (u : World) (hu : RdG KC u (some ⟨g, 0, none⟩) n L) (hs : Still w u) => C.rnk L _ n (n + 1) u HIL.out hu (by omega) hs)
  have HRf := hid (fun (u : World) (hu : RdG KC u so n L) => rrank_any L so n c u hu)
  have hml := rnkA_len L
  rw [HLn.out] at hml
  have hm6 := rnkA_six L
  obtain ⟨R, eR⟩ : ∃ R, rnkA L = R := ⟨_, rfl⟩
  obtain ⟨E, eE⟩ : ∃ E, errR L = E := ⟨_, rfl⟩
  rw [eR] at HRk HRf ha hml hm6
  rw [eE] at HRk HRf ⊢
  clear eR eE
  have HS3 := hid (HS2.out.trans h3)
  have HO3 := hid (HO2.out.still h3)
  have HA3 := hid ha
  have HAg := hid (show ∀ a, ao = some a → W2.heap.size ≤ a.block ∧ a.block < w3.heap.size from fun a h => ⟨hag a h, ha.lt a h⟩)
  have HGs := hid (show g < w3.heap.size from Nat.lt_of_lt_of_le HGl.out h3.size)
  have hmR : R.length = m := ha.rd.len
  rw [hmR] at hm6
  have hcaL : ca ≤ maxLen := ha.rd.max
  have HmR := hid hmR
  clear h3 ha hag HS2 HO2 HRo hcaL
  go_wp2_with fail
  refine (HRf.out _ (HR.out.still HS3.out)).mono ?_
  rintro e w4 ⟨bo, m', cb, rfl, hb, h4, hbg⟩
  obtain rfl : m' = m := by rw [← HmR.out]; exact hb.rd.len.symm
  have HS4 := hid (HS3.out.trans h4)
  have HO4 := hid (HO3.out.still h4)
  have HA4 := hid (HA3.out.still h4)
  have HB4 := hid hb
  have HBg := hid (show ∀ a, bo = some a → w3.heap.size ≤ a.block from hbg)
  obtain ⟨c0, c1, c2, c3, cf⟩ := owC HO4.out (i := n) (by have := HLn.out; simp; omega)
  rw [sc_end HLn.out] at c0 c1 c2 c3
  have c0' : w4.cell? ⟨g, n * 4, none⟩ = some (.int .i64 0) := c0
  have c1' : w4.cell? ⟨g, n * 4 + 1, none⟩ = some (.int .i64 (-7)) := c1
  have c2' : w4.cell? ⟨g, n * 4 + 2, none⟩ = some (.int .i64 0) := c2
  have c3' : w4.cell? ⟨g, n * 4 + 3, none⟩ = some (.int .i64 0) := c3
  have E7 : ∀ w, (binOp .neq 23 (.agg #[.int .i64 0, .int .i64 (-7), .int .i64 0, .int .i64 0]) (.agg #[.int .i64 0, .int .i64 (-7), .int .i64 0, .int .i64 0])).run Try.prog w = .ok (.bool false) w := neq_cv_f c7
  have hml' : m' ≤ n := by omega
  clear h4 hb hbg HS3 HO3 HA3 HRf c0 c1 c2 c3 hmR hml
  go_wp2_with fail
  clear c0' c1' c2' c3' cf E7
  go_loopw [9] (fun u wr => ∃ i : Nat, i ≤ m' ∧ u = .int .i64 (i : Int) ∧ OwI 3 wr ao m' ca (List.replicate i (-5) ++ R.drop i) ∧ Fr (fun k => ∃ a, ao = some a ∧ a.block = k) w4 wr) (fun u _ => m' - (intOf u).toNat)
  case atStart => exact ⟨0, Nat.zero_le _, rfl, by simpa using HA4.out, Fr.refl _ _⟩
  case round =>
    obtain ⟨i, hi, rfl, ha, hf⟩ := hrel
    have HS5 : Hid (Still w wr) := hid (Fr.trans HS4.out hf (fun k hk ⟨a, h1, h2⟩ => by have := (HAg.out a h1).1; have := HGl.out; have := HGw.out; omega))
    have HO5 : Hid (OwG KC 23 wr g (.slice (some ⟨g, 0, none⟩) (n + 1) (n + 1)) (L ++ [c7])) := hid (HO4.out.keep hf (fun k ⟨a, h1, h2⟩ e => by
      have := (HAg.out a h1).1
      have := HGl.out
      have e' : g = k := by simpa [Value.ownBlock] using e
      omega))
    have HB5 : Hid (OwI 3 wr bo m' cb R) := hid (HB4.out.kept hf (fun b hb ⟨a, h1, h2⟩ => by have := (HAg.out a h1).2; have := HBg.out b hb; omega))
    by_cases hlt : i < m'
    · have hlt' : (i : Int) < (m' : Int) := by omega
      have hiR : i < R.length := by rw [HmR.out]; exact hlt
      obtain ⟨ga, rfl⟩ := ha.head (by omega)
      have hb5 := HB5.out
      obtain ⟨gb, rfl⟩ := hb5.head (by omega)
      have a0 := ha.at (rep_at hiR)
      have b0 := hb5.at (i := i) (x := R[i]) (by simp [hiR])
      obtain ⟨c0, c1, c2, c3, cf⟩ := owC HO5.out (i := i) (by have := HLn.out; simp; omega)
      rw [sc_app (by have := HLn.out; omega)] at c0 c1 c2 c3
      have hr5 := HR.out.still HS5.out
      obtain ⟨B, o, rfl⟩ := hr5.at (by omega)
      obtain ⟨d0, d1, d2, d3⟩ := rdC hr5 (show i < n by omega)
      have HA := hid ha
      have HF := hid hf
      have E1 := neq_cv_f (sc L i)
      obtain ⟨x, ex⟩ : ∃ x, R[i] = x := ⟨_, rfl⟩
      obtain ⟨y, ey⟩ : ∃ y, sc L i = y := ⟨_, rfl⟩
      rw [ex] at a0 b0
      rw [ey] at c0 c1 c2 c3 d0 d1 d2 d3 E1
      have HiR := hid hiR
      have k0 := Cl.cell a0
      have k1 := Cl.cell b0
      have k2 := Cl.cell c0
      have k3 := Cl.cell c1
      have k4 := Cl.cell c2
      have k5 := Cl.cell c3
      have k6 := Cl.cell d0
      have k7 := Cl.cell d1
      have k8 := Cl.cell d2
      have k9 := Cl.cell d3
      have hxx : (x != x) = false := by simp
      have hin : (i : Int) < (n : Int) + 1 := by omega
      have hin2 : (i : Int) < (n : Int) := by omega
      have hne := Aft.here wr
      clear ex ey a0 b0 c0 c1 c2 c3 cf d0 d1 d2 d3 ha hb5 hr5 hiR hf
      go_wp2_with fail
      refine region_all (by kernel_rfl) (by kernel_rfl) ?_
      repeat (go_big_quiet_step (fail))
      refine wpQuiet_nil ?_
      intro w6 h6
      have ha6 := HA.out.still h6
      have HA7 := hid (ha6.set (x := -5) hlt)
      rw [rep_step HiR.out] at HA7
      have HF7 := hid ((Fr.trans HF.out h6 (fun _ _ e => e.elim)).setCell ⟨ga, i, none⟩ (.int .i64 (-5)) (.inl ⟨_, rfl, rfl⟩))
      obtain ⟨⟨v0, hv0⟩, hfz⟩ := ha6.cellAt hlt
      clear ha6 h6 HA HF k0 k1 k2 k3 k4 k5 k6 k7 k8 k9 hne E1 hxx
      go_wp2_with fail
      go_roundw
      case rel => exact ⟨i + 1, by omega, by go_num, HA7.out, HF7.out⟩
      case measure => simp [intOf]; omega
    · have hge : ¬ (i : Int) < (m' : Int) := by omega
      obtain rfl : i = m' := by omega
      rw [List.drop_of_length_le (by have := HmR.out; omega), List.append_nil] at ha
      have HA := hid ha
      clear ha hf
      obtain ⟨hi1, hz, hz1, hz2⟩ := HInfo.out
      go_wp2_with (
        at_builtin
        refine wpList_appI _ rfl _ _ 33 rfl 3 i0 Try.underlying33 hi1 hz hz1 hz2 ao (some ⟨wr.heap.size, 0, none⟩) i ca 1 1 (List.replicate i (-5)) [-6] rfl rfl (HA.out.alloc _) (OwI.one _ wr _).rd (by omega) ?_
        intro ao' ca' w6 ho' hf' hn' _
        have HS6 : Hid (Still w w6) := hid (Fr.trans (HS5.out.trans (Still.alloc wr _)) hf' (fun k hk ⟨a, h1, h2⟩ => by have := (HAg.out a h1).1; have := HGl.out; have := HGw.out; omega))
        have HO6 : Hid (OwG KC 23 w6 g (.slice (some ⟨g, 0, none⟩) (n + 1) (n + 1)) (L ++ [c7])) := hid ((HO5.out.still (Still.alloc wr _)).keep hf' (fun k ⟨a, h1, h2⟩ e => by
          have := (HAg.out a h1).1
          have := HGl.out
          have e' : g = k := by simpa [Value.ownBlock] using e
          omega))
        have HB6 : Hid (OwI 3 w6 bo i cb R) := hid ((HB5.out.alloc _).kept hf' (fun b hb ⟨a, h1, h2⟩ => by have := (HAg.out a h1).2; have := HBg.out b hb; omega))
        clear ho' hf' hn' hi1 hz hz1 hz2)
      have HRo := hid (show RdG KC w6 (some ⟨g, 0, none⟩) n L by
        have := HO6.out.rd (by have := HLn.out; omega)
        rw [HLn.out] at this
        exact this)
      refine (HRk.out _ HRo.out HS6.out).mono ?_
      rintro e w7 ⟨co, m2, cc, rfl, hc7, h7, _⟩
      obtain rfl : m2 = i := by rw [← HmR.out]; exact hc7.rd.len.symm
      have HC7 := hid hc7
      have HB7 := hid (HB6.out.still h7)
      have HS7 := hid (HS6.out.trans h7)
      clear hc7 h7 HS6 HB6 HO6 HRo HA HS5 HO5 HB5
      go_wp2_with fail
      go_loopw [12] (fun u wx => ∃ j : Nat, j ≤ m2 ∧ u = .int .i64 (j : Int) ∧ Still w7 wx) (fun u _ => m2 - (intOf u).toNat)
      case atStart => exact ⟨0, Nat.zero_le _, rfl, Fr.refl _ _⟩
      case round =>
        obtain ⟨j, hj, rfl, hs⟩ := hrel
        by_cases hlt : j < m2
        · have hlt' : (j : Int) < (m2 : Int) := by omega
          have hjR : j < R.length := by rw [HmR.out]; exact hlt
          have hb8 := HB7.out.still hs
          have hc8 := HC7.out.still hs
          obtain ⟨gb, rfl⟩ := hb8.head (by omega)
          obtain ⟨gc, rfl⟩ := hc8.head (by omega)
          have b0 := hb8.at (i := j) (x := R[j]) (by simp [hjR])
          have d0 := hc8.at (i := j) (x := R[j]) (by simp [hjR])
          obtain ⟨x, ex⟩ : ∃ x, R[j] = x := ⟨_, rfl⟩
          rw [ex] at b0 d0
          have k0 := Cl.cell b0
          have k1 := Cl.cell d0
          have hxx : (x != x) = false := by simp
          have hne := Aft.here wr
          have HS8 := hid hs
          clear ex b0 d0 hb8 hc8 hs
          go_wp2_with fail
          refine region_all (by kernel_rfl) (by kernel_rfl) ?_
          repeat (go_big_quiet_step (fail))
          refine wpQuiet_nil ?_
          intro w9 h9
          have HS9 := hid (HS8.out.trans h9)
          clear h9 HS8 k0 k1 hne hxx
          go_wp2_with fail
          go_roundw
          case rel => exact ⟨j + 1, by omega, by go_num, HS9.out⟩
          case measure => simp [intOf]; omega
        · have hge2 : ¬ (j : Int) < (m2 : Int) := by omega
          have HS8 := hid (HS7.out.trans hs)
          clear hs hlt
          go_wp2_with fail
          go_ret
          exact ⟨rfl, HS8.out⟩
end Go.Proofs.Ytgkojpgpnkeacaa
