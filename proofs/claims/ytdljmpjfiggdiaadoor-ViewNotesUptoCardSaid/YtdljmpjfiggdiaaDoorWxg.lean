/- The program's Notes. -/
import Derived.Test.YtdljmpjfiggdiaaDoorWxf
namespace Go.Proofs.YtdljmpjfiggdiaaDoor
open Go.RowKit
set_option maxRecDepth 100000

theorem ok_1 (a b : Int) : okN ⟨1, a, b⟩ = (seatB a) := by simp [okN]
theorem ok_2 (a b : Int) : okN ⟨2, a, b⟩ = (seatB a && seatB b) := by simp [okN]
theorem ok_3 (a b : Int) : okN ⟨3, a, b⟩ = (seatB a && seatB b) := by simp [okN]
theorem ok_4 (a b : Int) : okN ⟨4, a, b⟩ = (seatB a) := by simp [okN]
theorem ok_5 (a b : Int) : okN ⟨5, a, b⟩ = (seatB a && kindB b) := by simp [okN]
theorem ok_6 (a b : Int) : okN ⟨6, a, b⟩ = (kindB b) := by simp [okN]
theorem ok_7 (a b : Int) : okN ⟨7, a, b⟩ = (seatB a && seatB b) := by simp [okN]
theorem ok_8 (a b : Int) : okN ⟨8, a, b⟩ = (seatB a) := by simp [okN]
theorem ok_0 {k a b : Int} (h : ∀ j : Nat, j < 8 → k ≠ (j : Int) + 1) : okN ⟨k, a, b⟩ = false := by
  have h0 := h 0 (by decide)
  have h1 := h 1 (by decide)
  have h2 := h 2 (by decide)
  have h3 := h 3 (by decide)
  have h4 := h 4 (by decide)
  have h5 := h 5 (by decide)
  have h6 := h 6 (by decide)
  have h7 := h 7 (by decide)
  simp at h0 h1 h2 h3 h4 h5 h6 h7
  simp [okN, h0, h1, h2, h3, h4, h5, h6, h7]
theorem map_step {L : List Nv} {i : Nat} (h : i < L.length) : (L.take (i + 1)).map lnS = (L.take i).map lnS ++ [lnS (nvd L i)] := by
  rw [List.take_succ_eq_append_getElem h, List.map_append, nvd_at h]
  rfl
theorem en_nt (L : List Nv) : enS (L.map lnS) = ntS L := by
  unfold enS ntS
  rw [List.foldl_map]
set_option maxHeartbeats 16000000 in
theorem vnotes_any (L : List Nv) (hL : ∀ x ∈ L, I64 x.a ∧ I64 x.b) (ao : Option Addr) (n cap : Nat) (w : World) (hr : RdG KNv w ao n L) (hn : n ≤ 2097152) (ht : PTabV w) (hk : KTab w) : Calls Tryd.prog 12 #[.slice ao n cap] w fun e w' => e = .returned (.tuple #[.string (ntR L), .int .i64 (ntE L)]) ∧ Still w w' := by
  have HR := hid hr
  have HL := hid hr.1
  have HX := hid hL
  have HT := hid ht
  have HK := hid hk
  have HZ := hid (ntS_sz hL)
  obtain ⟨R, eR⟩ : ∃ x, ntR L = x := ⟨_, rfl⟩
  obtain ⟨E, eE⟩ : ∃ x, ntE L = x := ⟨_, rfl⟩
  have HRn := hid (fun h => nt_no (L := L) h)
  have HRy := hid (fun h => nt_yes (L := L) h)
  rw [eR, eE] at HRn HRy ⊢
  clear hr hL ht hk eR eE
  go_enter Tryd.func12, Tryd.ntmps12
  go_wp2_with fail
  refine (vrows_any _).mono ?_
  rintro e w1 ⟨rfl, hrw, h1⟩
  have HRw := hid hrw
  have HS1 := hid h1
  obtain ⟨rb, erb⟩ : ∃ x, w.heap.size = x := ⟨_, rfl⟩
  rw [erb] at HRw ⊢
  clear hrw h1 erb
  go_wp2_with fail
  go_loopw [5, 13] (fun v u wr => ∃ i : Nat, i ≤ n ∧ u = .int .i64 (i : Int) ∧ OwG KSt 9 wr w1.heap.size v ((L.take i).map lnS) ∧ Hid ((L.take i).all okN = true) ∧ Still w1 wr) (fun _ u _ => n - (intOf u).toNat)
  case atStart => exact ⟨0, by omega, rfl, OwG.nil _ _, hid rfl, Fr.refl _ _⟩
  case round =>
    obtain ⟨i, hi, rfl, ho, HA, hs⟩ := hrel
    have HO := hid ho
    have HS := hid hs
    obtain ⟨lo, lcp, rfl, hlo⟩ := ho.slice
    have HLe : Hid (((L.take i).map lnS).length = i) := hid (by rw [List.length_map, List.length_take]; have := HL.out; omega)
    by_cases hin : i < n
    · have hlt : (i : Int) < (n : Int) := by omega
      have hiL : i < L.length := by have := HL.out; omega
      have hr1 := HR.out.still (HS1.out.trans hs)
      obtain ⟨B, o, rfl⟩ := hr1.at (by omega)
      obtain ⟨c0, c1, c2⟩ := rdNv hr1 hin
      have HXx := hid (HX.out (nvd L i) (by rw [nvd_at hiL]; exact List.getElem_mem _))
      have HSt := hid (map_step hiL)
      have HAl := hid (all_step hiL)
      have HNo := hid (fun e => all_no hiL e)
      obtain ⟨x, ex⟩ : ∃ x, nvd L i = x := ⟨_, rfl⟩
      rw [ex] at c0 c1 c2 HSt HAl HNo HXx
      obtain ⟨LL, eLL⟩ : ∃ m, (L.take i).map lnS = m := ⟨_, rfl⟩
      rw [eLL] at HO HSt HLe
      rw [eLL]
      have A2 := Still.alloc wr (.cells (nvcs x) 50)
      have p2 : Nvb (wr.alloc (.cells (nvcs x) 50)) wr.heap.size x := heap_alloc_new wr _
      have HP2 := hid p2
      have HS2 := hid (hs.trans A2)
      have HS2x := hid A2
      have HRw2 := hid (HRw.out.still (hs.trans A2))
      obtain ⟨xk, xa, xb⟩ := x
      dsimp only at c0 c1 c2 HXx
      obtain ⟨W2, eW2⟩ : ∃ X, wr.alloc (.cells (nvcs ⟨xk, xa, xb⟩) 50) = X := ⟨_, rfl⟩
      rw [eW2] at HP2 HS2 HS2x HRw2 p2
      obtain ⟨n0, n1, n2, nf⟩ := p2.cells
      clear ex eLL hr1 hs ho hiL A2 hlo hin p2
      rcases (show xk = 1 ∨ xk = 2 ∨ xk = 3 ∨ xk = 4 ∨ xk = 5 ∨ xk = 6 ∨ xk = 7 ∨ xk = 8 ∨ (∀ j : Nat, j < 8 → xk ≠ (j : Int) + 1) by
        by_cases h : 1 ≤ xk ∧ xk ≤ 8
        · omega
        · refine .inr (.inr (.inr (.inr (.inr (.inr (.inr (.inr (fun j hj e => ?_))))))))
          omega) with rfl | rfl | rfl | rfl | rfl | rfl | rfl | rfl | hno
      · have HRo : Hid (Calls Tryd.prog 21 #[.slice (some ⟨rb, 0, none⟩) 8 8, .int .i64 1] W2 fun e w' => e = .returned (.tuple #[.agg #[.int .i64 1, Value.func (.func 31) #[] #[], Value.func (.func 32) #[] #[], Value.func (.func 33) #[] #[]], .bool true]) ∧ Still W2 w') := hid (rowOf_yes 0 (by decide) _ 8 W2 HRw2.out)
        have EO := hid (ok_1 xa xb)
        rw [EO.out] at HAl HNo
        go_wp2_with fail
        refine HRo.out.mono ?_
        rintro e w3 ⟨rfl, h3⟩
        have A4 := Still.alloc w3 (.cells #[.int .i64 1, Value.func (.func 31) #[] #[], Value.func (.func 32) #[] #[], Value.func (.func 33) #[] #[]] 63)
        have p4 : Rwb (w3.alloc (.cells #[.int .i64 1, Value.func (.func 31) #[] #[], Value.func (.func 32) #[] #[], Value.func (.func 33) #[] #[]] 63)) w3.heap.size (.int .i64 1) (Value.func (.func 31) #[] #[]) (Value.func (.func 32) #[] #[]) (Value.func (.func 33) #[] #[]) := heap_alloc_new w3 _
        have HP4 := hid (HP2.out.still (h3.trans A4))
        have HS4 := hid (HS2.out.trans (h3.trans A4))
        have HS4x := hid (HS2x.out.trans (h3.trans A4))
        obtain ⟨W4, eW4⟩ : ∃ X, w3.alloc (.cells #[.int .i64 1, Value.func (.func 31) #[] #[], Value.func (.func 32) #[] #[], Value.func (.func 33) #[] #[]] 63) = X := ⟨_, rfl⟩
        rw [eW4] at p4 HP4 HS4 HS4x
        obtain ⟨m0, m1, m2, m3, mf⟩ := p4.cells
        clear n0 n1 n2 nf c0 c1 c2 h3 A4 p4 HRo eW2
        obtain ⟨n0, n1, n2, nf⟩ := HP4.out.cells
        cases ha : seatB xa with
        | false =>
          have HQa := hid (isSeat_any xa W4)
          rw [ha] at HQa HNo HAl
          (try rw [Bool.false_and] at HNo HAl)
          go_wp2_with fail
          refine HQa.out.mono ?_
          rintro e wa ⟨rfl, hwa⟩
          have hwa := hwa.symm
          subst hwa
          clear HQa
          obtain ⟨rfl, rfl⟩ := HRn.out (HNo.out (by first | trivial | rfl))
          clear HNo HAl EO
          go_wp2_with fail
          (first | rw [Exit.noGoto_ret] | skip)
          go_ret2
          exact ⟨rfl, HS1.out.trans HS4.out⟩
        | true =>
          have HQa := hid (isSeat_any xa W4)
          rw [ha] at HQa HNo HAl
          (try rw [Bool.true_and] at HNo HAl)
          have Ha := hid ha
          clear ha
          go_wp2_with fail
          refine HQa.out.mono ?_
          rintro e wa ⟨rfl, hwa⟩
          have hwa := hwa.symm
          subst hwa
          clear HQa
          have HQb := hid (isAny_any xb W4)
          go_wp2_with fail
          refine HQb.out.mono ?_
          rintro e wb ⟨rfl, hwb⟩
          have hwb := hwb.symm
          subst hwb
          clear HQb
          have HTe := hid (tell1_any ⟨1, xa, xb⟩ Ha.out HXx.out.2 W4 (HT.out.still (HS1.out.trans HS4.out)) (HK.out.still (HS1.out.trans HS4.out)))
          have HLn : Hid (lnS ⟨1, xa, xb⟩ = ((ltS xa.toNat ++ ⟨#[32, 102, 105, 114, 101, 100, 32]⟩) ++ itS xb)) := hid rfl
          dsimp only at HTe
          rw [← HLn.out] at HTe
          obtain ⟨l, el⟩ : ∃ l, lnS ⟨1, xa, xb⟩ = l := ⟨_, rfl⟩
          rw [el] at HTe HSt
          clear el HLn
          have HA1 : Hid ((L.take (i + 1)).all okN = true) := hid (by rw [HAl.out, HA.out]; rfl)
          clear HAl HNo EO
          go_wp2_with fail
          refine HTe.out.mono ?_
          rintro e w5 ⟨rfl, h5⟩
          have A6 := Still.alloc w5 (.cells #[.string l] 9)
          have HO6 := hid (HO.out.still (HS4x.out.trans (h5.trans A6)))
          have HS6 := hid (HS4.out.trans (h5.trans A6))
          have HY6 := hid (sr_st1 (show (w5.alloc (.cells #[.string l] 9)).heap[w5.heap.size]? = some (.cells #[.string l] 9 (0, 0)) from heap_alloc_new w5 _))
          have HB6 : Hid (w1.heap.size ≤ (w5.alloc (.cells #[.string l] 9)).heap.size) := hid HS6.out.size
          have HL4 : Hid ((LL.length + [l].length) * 16 ≤ 140737488355328) := hid (by have := HLe.out; simp only [List.length_cons, List.length_nil]; omega)
          have HL5 : Hid (LL.length + [l].length ≤ 281474976710656) := hid (by have := HLe.out; simp only [List.length_cons, List.length_nil]; omega)
          clear A6 h5 HTe m0 m1 m2 m3 mf n0 n1 n2 nf
          go_wp2_with (
            at_builtin
            refine wpList_appMG KSt _ rfl _ _ 59 rfl Tryd.underlying59 16 (.string ⟨#[]⟩) rfl infoSt w1.heap.size (.slice lo LL.length lcp) LL [l] (some ⟨w5.heap.size, 0, none⟩) 1 1 rfl rfl rfl HO6.out HY6.out HL4.out HL5.out HB6.out ?_
            intro v' w' ho' hf'
            have HO9 := hid ho'
            have HF9 := hid hf'
            clear ho' hf')
          go_roundw
          case rel => exact ⟨i + 1, by omega, by go_num, by rw [HSt.out]; exact HO9.out, HA1, still_appG HS6.out HO6.out HF9.out (Nat.le_refl _)⟩
          case measure => first | (simp [intOf]; done) | (simp [intOf]; omega)
      · have HRo : Hid (Calls Tryd.prog 21 #[.slice (some ⟨rb, 0, none⟩) 8 8, .int .i64 2] W2 fun e w' => e = .returned (.tuple #[.agg #[.int .i64 2, Value.func (.func 31) #[] #[], Value.func (.func 31) #[] #[], Value.func (.func 34) #[] #[]], .bool true]) ∧ Still W2 w') := hid (rowOf_yes 1 (by decide) _ 8 W2 HRw2.out)
        have EO := hid (ok_2 xa xb)
        rw [EO.out] at HAl HNo
        go_wp2_with fail
        refine HRo.out.mono ?_
        rintro e w3 ⟨rfl, h3⟩
        have A4 := Still.alloc w3 (.cells #[.int .i64 2, Value.func (.func 31) #[] #[], Value.func (.func 31) #[] #[], Value.func (.func 34) #[] #[]] 63)
        have p4 : Rwb (w3.alloc (.cells #[.int .i64 2, Value.func (.func 31) #[] #[], Value.func (.func 31) #[] #[], Value.func (.func 34) #[] #[]] 63)) w3.heap.size (.int .i64 2) (Value.func (.func 31) #[] #[]) (Value.func (.func 31) #[] #[]) (Value.func (.func 34) #[] #[]) := heap_alloc_new w3 _
        have HP4 := hid (HP2.out.still (h3.trans A4))
        have HS4 := hid (HS2.out.trans (h3.trans A4))
        have HS4x := hid (HS2x.out.trans (h3.trans A4))
        obtain ⟨W4, eW4⟩ : ∃ X, w3.alloc (.cells #[.int .i64 2, Value.func (.func 31) #[] #[], Value.func (.func 31) #[] #[], Value.func (.func 34) #[] #[]] 63) = X := ⟨_, rfl⟩
        rw [eW4] at p4 HP4 HS4 HS4x
        obtain ⟨m0, m1, m2, m3, mf⟩ := p4.cells
        clear n0 n1 n2 nf c0 c1 c2 h3 A4 p4 HRo eW2
        obtain ⟨n0, n1, n2, nf⟩ := HP4.out.cells
        cases ha : seatB xa with
        | false =>
          have HQa := hid (isSeat_any xa W4)
          rw [ha] at HQa HNo HAl
          (try rw [Bool.false_and] at HNo HAl)
          go_wp2_with fail
          refine HQa.out.mono ?_
          rintro e wa ⟨rfl, hwa⟩
          have hwa := hwa.symm
          subst hwa
          clear HQa
          obtain ⟨rfl, rfl⟩ := HRn.out (HNo.out (by first | trivial | rfl))
          clear HNo HAl EO
          go_wp2_with fail
          (first | rw [Exit.noGoto_ret] | skip)
          go_ret2
          exact ⟨rfl, HS1.out.trans HS4.out⟩
        | true =>
          have HQa := hid (isSeat_any xa W4)
          rw [ha] at HQa HNo HAl
          (try rw [Bool.true_and] at HNo HAl)
          have Ha := hid ha
          clear ha
          go_wp2_with fail
          refine HQa.out.mono ?_
          rintro e wa ⟨rfl, hwa⟩
          have hwa := hwa.symm
          subst hwa
          clear HQa
          cases hb : seatB xb with
          | false =>
            have HQb := hid (isSeat_any xb W4)
            rw [hb] at HQb HNo HAl
            go_wp2_with fail
            refine HQb.out.mono ?_
            rintro e wb ⟨rfl, hwb⟩
            have hwb := hwb.symm
            subst hwb
            clear HQb
            obtain ⟨rfl, rfl⟩ := HRn.out (HNo.out (by first | trivial | rfl))
            clear HNo HAl EO
            go_wp2_with fail
            (first | rw [Exit.noGoto_ret] | skip)
            go_ret2
            exact ⟨rfl, HS1.out.trans HS4.out⟩
          | true =>
            have HQb := hid (isSeat_any xb W4)
            rw [hb] at HQb HNo HAl
            have Hb := hid hb
            clear hb
            go_wp2_with fail
            refine HQb.out.mono ?_
            rintro e wb ⟨rfl, hwb⟩
            have hwb := hwb.symm
            subst hwb
            clear HQb
            have HTe := hid (tell2_any ⟨2, xa, xb⟩ Ha.out Hb.out W4 (HT.out.still (HS1.out.trans HS4.out)) (HK.out.still (HS1.out.trans HS4.out)))
            have HLn : Hid (lnS ⟨2, xa, xb⟩ = ((ltS xa.toNat ++ ⟨#[32, 104, 105, 116, 32, 98, 121, 32]⟩) ++ ltS xb.toNat)) := hid rfl
            dsimp only at HTe
            rw [← HLn.out] at HTe
            obtain ⟨l, el⟩ : ∃ l, lnS ⟨2, xa, xb⟩ = l := ⟨_, rfl⟩
            rw [el] at HTe HSt
            clear el HLn
            have HA1 : Hid ((L.take (i + 1)).all okN = true) := hid (by rw [HAl.out, HA.out]; rfl)
            clear HAl HNo EO
            go_wp2_with fail
            refine HTe.out.mono ?_
            rintro e w5 ⟨rfl, h5⟩
            have A6 := Still.alloc w5 (.cells #[.string l] 9)
            have HO6 := hid (HO.out.still (HS4x.out.trans (h5.trans A6)))
            have HS6 := hid (HS4.out.trans (h5.trans A6))
            have HY6 := hid (sr_st1 (show (w5.alloc (.cells #[.string l] 9)).heap[w5.heap.size]? = some (.cells #[.string l] 9 (0, 0)) from heap_alloc_new w5 _))
            have HB6 : Hid (w1.heap.size ≤ (w5.alloc (.cells #[.string l] 9)).heap.size) := hid HS6.out.size
            have HL4 : Hid ((LL.length + [l].length) * 16 ≤ 140737488355328) := hid (by have := HLe.out; simp only [List.length_cons, List.length_nil]; omega)
            have HL5 : Hid (LL.length + [l].length ≤ 281474976710656) := hid (by have := HLe.out; simp only [List.length_cons, List.length_nil]; omega)
            clear A6 h5 HTe m0 m1 m2 m3 mf n0 n1 n2 nf
            go_wp2_with (
              at_builtin
              refine wpList_appMG KSt _ rfl _ _ 59 rfl Tryd.underlying59 16 (.string ⟨#[]⟩) rfl infoSt w1.heap.size (.slice lo LL.length lcp) LL [l] (some ⟨w5.heap.size, 0, none⟩) 1 1 rfl rfl rfl HO6.out HY6.out HL4.out HL5.out HB6.out ?_
              intro v' w' ho' hf'
              have HO9 := hid ho'
              have HF9 := hid hf'
              clear ho' hf')
            go_roundw
            case rel => exact ⟨i + 1, by omega, by go_num, by rw [HSt.out]; exact HO9.out, HA1, still_appG HS6.out HO6.out HF9.out (Nat.le_refl _)⟩
            case measure => first | (simp [intOf]; done) | (simp [intOf]; omega)
      · have HRo : Hid (Calls Tryd.prog 21 #[.slice (some ⟨rb, 0, none⟩) 8 8, .int .i64 3] W2 fun e w' => e = .returned (.tuple #[.agg #[.int .i64 3, Value.func (.func 31) #[] #[], Value.func (.func 31) #[] #[], Value.func (.func 35) #[] #[]], .bool true]) ∧ Still W2 w') := hid (rowOf_yes 2 (by decide) _ 8 W2 HRw2.out)
        have EO := hid (ok_3 xa xb)
        rw [EO.out] at HAl HNo
        go_wp2_with fail
        refine HRo.out.mono ?_
        rintro e w3 ⟨rfl, h3⟩
        have A4 := Still.alloc w3 (.cells #[.int .i64 3, Value.func (.func 31) #[] #[], Value.func (.func 31) #[] #[], Value.func (.func 35) #[] #[]] 63)
        have p4 : Rwb (w3.alloc (.cells #[.int .i64 3, Value.func (.func 31) #[] #[], Value.func (.func 31) #[] #[], Value.func (.func 35) #[] #[]] 63)) w3.heap.size (.int .i64 3) (Value.func (.func 31) #[] #[]) (Value.func (.func 31) #[] #[]) (Value.func (.func 35) #[] #[]) := heap_alloc_new w3 _
        have HP4 := hid (HP2.out.still (h3.trans A4))
        have HS4 := hid (HS2.out.trans (h3.trans A4))
        have HS4x := hid (HS2x.out.trans (h3.trans A4))
        obtain ⟨W4, eW4⟩ : ∃ X, w3.alloc (.cells #[.int .i64 3, Value.func (.func 31) #[] #[], Value.func (.func 31) #[] #[], Value.func (.func 35) #[] #[]] 63) = X := ⟨_, rfl⟩
        rw [eW4] at p4 HP4 HS4 HS4x
        obtain ⟨m0, m1, m2, m3, mf⟩ := p4.cells
        clear n0 n1 n2 nf c0 c1 c2 h3 A4 p4 HRo eW2
        obtain ⟨n0, n1, n2, nf⟩ := HP4.out.cells
        cases ha : seatB xa with
        | false =>
          have HQa := hid (isSeat_any xa W4)
          rw [ha] at HQa HNo HAl
          (try rw [Bool.false_and] at HNo HAl)
          go_wp2_with fail
          refine HQa.out.mono ?_
          rintro e wa ⟨rfl, hwa⟩
          have hwa := hwa.symm
          subst hwa
          clear HQa
          obtain ⟨rfl, rfl⟩ := HRn.out (HNo.out (by first | trivial | rfl))
          clear HNo HAl EO
          go_wp2_with fail
          (first | rw [Exit.noGoto_ret] | skip)
          go_ret2
          exact ⟨rfl, HS1.out.trans HS4.out⟩
        | true =>
          have HQa := hid (isSeat_any xa W4)
          rw [ha] at HQa HNo HAl
          (try rw [Bool.true_and] at HNo HAl)
          have Ha := hid ha
          clear ha
          go_wp2_with fail
          refine HQa.out.mono ?_
          rintro e wa ⟨rfl, hwa⟩
          have hwa := hwa.symm
          subst hwa
          clear HQa
          cases hb : seatB xb with
          | false =>
            have HQb := hid (isSeat_any xb W4)
            rw [hb] at HQb HNo HAl
            go_wp2_with fail
            refine HQb.out.mono ?_
            rintro e wb ⟨rfl, hwb⟩
            have hwb := hwb.symm
            subst hwb
            clear HQb
            obtain ⟨rfl, rfl⟩ := HRn.out (HNo.out (by first | trivial | rfl))
            clear HNo HAl EO
            go_wp2_with fail
            (first | rw [Exit.noGoto_ret] | skip)
            go_ret2
            exact ⟨rfl, HS1.out.trans HS4.out⟩
          | true =>
            have HQb := hid (isSeat_any xb W4)
            rw [hb] at HQb HNo HAl
            have Hb := hid hb
            clear hb
            go_wp2_with fail
            refine HQb.out.mono ?_
            rintro e wb ⟨rfl, hwb⟩
            have hwb := hwb.symm
            subst hwb
            clear HQb
            have HTe := hid (tell3_any ⟨3, xa, xb⟩ Ha.out Hb.out W4 (HT.out.still (HS1.out.trans HS4.out)) (HK.out.still (HS1.out.trans HS4.out)))
            have HLn : Hid (lnS ⟨3, xa, xb⟩ = ((ltS xa.toNat ++ ⟨#[32, 111, 117, 116, 32, 98, 121, 32]⟩) ++ ltS xb.toNat)) := hid rfl
            dsimp only at HTe
            rw [← HLn.out] at HTe
            obtain ⟨l, el⟩ : ∃ l, lnS ⟨3, xa, xb⟩ = l := ⟨_, rfl⟩
            rw [el] at HTe HSt
            clear el HLn
            have HA1 : Hid ((L.take (i + 1)).all okN = true) := hid (by rw [HAl.out, HA.out]; rfl)
            clear HAl HNo EO
            go_wp2_with fail
            refine HTe.out.mono ?_
            rintro e w5 ⟨rfl, h5⟩
            have A6 := Still.alloc w5 (.cells #[.string l] 9)
            have HO6 := hid (HO.out.still (HS4x.out.trans (h5.trans A6)))
            have HS6 := hid (HS4.out.trans (h5.trans A6))
            have HY6 := hid (sr_st1 (show (w5.alloc (.cells #[.string l] 9)).heap[w5.heap.size]? = some (.cells #[.string l] 9 (0, 0)) from heap_alloc_new w5 _))
            have HB6 : Hid (w1.heap.size ≤ (w5.alloc (.cells #[.string l] 9)).heap.size) := hid HS6.out.size
            have HL4 : Hid ((LL.length + [l].length) * 16 ≤ 140737488355328) := hid (by have := HLe.out; simp only [List.length_cons, List.length_nil]; omega)
            have HL5 : Hid (LL.length + [l].length ≤ 281474976710656) := hid (by have := HLe.out; simp only [List.length_cons, List.length_nil]; omega)
            clear A6 h5 HTe m0 m1 m2 m3 mf n0 n1 n2 nf
            go_wp2_with (
              at_builtin
              refine wpList_appMG KSt _ rfl _ _ 59 rfl Tryd.underlying59 16 (.string ⟨#[]⟩) rfl infoSt w1.heap.size (.slice lo LL.length lcp) LL [l] (some ⟨w5.heap.size, 0, none⟩) 1 1 rfl rfl rfl HO6.out HY6.out HL4.out HL5.out HB6.out ?_
              intro v' w' ho' hf'
              have HO9 := hid ho'
              have HF9 := hid hf'
              clear ho' hf')
            go_roundw
            case rel => exact ⟨i + 1, by omega, by go_num, by rw [HSt.out]; exact HO9.out, HA1, still_appG HS6.out HO6.out HF9.out (Nat.le_refl _)⟩
            case measure => first | (simp [intOf]; done) | (simp [intOf]; omega)
      · have HRo : Hid (Calls Tryd.prog 21 #[.slice (some ⟨rb, 0, none⟩) 8 8, .int .i64 4] W2 fun e w' => e = .returned (.tuple #[.agg #[.int .i64 4, Value.func (.func 31) #[] #[], Value.func (.func 32) #[] #[], Value.func (.func 36) #[] #[]], .bool true]) ∧ Still W2 w') := hid (rowOf_yes 3 (by decide) _ 8 W2 HRw2.out)
        have EO := hid (ok_4 xa xb)
        rw [EO.out] at HAl HNo
        go_wp2_with fail
        refine HRo.out.mono ?_
        rintro e w3 ⟨rfl, h3⟩
        have A4 := Still.alloc w3 (.cells #[.int .i64 4, Value.func (.func 31) #[] #[], Value.func (.func 32) #[] #[], Value.func (.func 36) #[] #[]] 63)
        have p4 : Rwb (w3.alloc (.cells #[.int .i64 4, Value.func (.func 31) #[] #[], Value.func (.func 32) #[] #[], Value.func (.func 36) #[] #[]] 63)) w3.heap.size (.int .i64 4) (Value.func (.func 31) #[] #[]) (Value.func (.func 32) #[] #[]) (Value.func (.func 36) #[] #[]) := heap_alloc_new w3 _
        have HP4 := hid (HP2.out.still (h3.trans A4))
        have HS4 := hid (HS2.out.trans (h3.trans A4))
        have HS4x := hid (HS2x.out.trans (h3.trans A4))
        obtain ⟨W4, eW4⟩ : ∃ X, w3.alloc (.cells #[.int .i64 4, Value.func (.func 31) #[] #[], Value.func (.func 32) #[] #[], Value.func (.func 36) #[] #[]] 63) = X := ⟨_, rfl⟩
        rw [eW4] at p4 HP4 HS4 HS4x
        obtain ⟨m0, m1, m2, m3, mf⟩ := p4.cells
        clear n0 n1 n2 nf c0 c1 c2 h3 A4 p4 HRo eW2
        obtain ⟨n0, n1, n2, nf⟩ := HP4.out.cells
        cases ha : seatB xa with
        | false =>
          have HQa := hid (isSeat_any xa W4)
          rw [ha] at HQa HNo HAl
          (try rw [Bool.false_and] at HNo HAl)
          go_wp2_with fail
          refine HQa.out.mono ?_
          rintro e wa ⟨rfl, hwa⟩
          have hwa := hwa.symm
          subst hwa
          clear HQa
          obtain ⟨rfl, rfl⟩ := HRn.out (HNo.out (by first | trivial | rfl))
          clear HNo HAl EO
          go_wp2_with fail
          (first | rw [Exit.noGoto_ret] | skip)
          go_ret2
          exact ⟨rfl, HS1.out.trans HS4.out⟩
        | true =>
          have HQa := hid (isSeat_any xa W4)
          rw [ha] at HQa HNo HAl
          (try rw [Bool.true_and] at HNo HAl)
          have Ha := hid ha
          clear ha
          go_wp2_with fail
          refine HQa.out.mono ?_
          rintro e wa ⟨rfl, hwa⟩
          have hwa := hwa.symm
          subst hwa
          clear HQa
          have HQb := hid (isAny_any xb W4)
          go_wp2_with fail
          refine HQb.out.mono ?_
          rintro e wb ⟨rfl, hwb⟩
          have hwb := hwb.symm
          subst hwb
          clear HQb
          have HTe := hid (tell4_any ⟨4, xa, xb⟩ Ha.out W4 (HT.out.still (HS1.out.trans HS4.out)) (HK.out.still (HS1.out.trans HS4.out)))
          have HLn : Hid (lnS ⟨4, xa, xb⟩ = (ltS xa.toNat ++ ⟨#[32, 98, 97, 99, 107]⟩)) := hid rfl
          dsimp only at HTe
          rw [← HLn.out] at HTe
          obtain ⟨l, el⟩ : ∃ l, lnS ⟨4, xa, xb⟩ = l := ⟨_, rfl⟩
          rw [el] at HTe HSt
          clear el HLn
          have HA1 : Hid ((L.take (i + 1)).all okN = true) := hid (by rw [HAl.out, HA.out]; rfl)
          clear HAl HNo EO
          go_wp2_with fail
          refine HTe.out.mono ?_
          rintro e w5 ⟨rfl, h5⟩
          have A6 := Still.alloc w5 (.cells #[.string l] 9)
          have HO6 := hid (HO.out.still (HS4x.out.trans (h5.trans A6)))
          have HS6 := hid (HS4.out.trans (h5.trans A6))
          have HY6 := hid (sr_st1 (show (w5.alloc (.cells #[.string l] 9)).heap[w5.heap.size]? = some (.cells #[.string l] 9 (0, 0)) from heap_alloc_new w5 _))
          have HB6 : Hid (w1.heap.size ≤ (w5.alloc (.cells #[.string l] 9)).heap.size) := hid HS6.out.size
          have HL4 : Hid ((LL.length + [l].length) * 16 ≤ 140737488355328) := hid (by have := HLe.out; simp only [List.length_cons, List.length_nil]; omega)
          have HL5 : Hid (LL.length + [l].length ≤ 281474976710656) := hid (by have := HLe.out; simp only [List.length_cons, List.length_nil]; omega)
          clear A6 h5 HTe m0 m1 m2 m3 mf n0 n1 n2 nf
          go_wp2_with (
            at_builtin
            refine wpList_appMG KSt _ rfl _ _ 59 rfl Tryd.underlying59 16 (.string ⟨#[]⟩) rfl infoSt w1.heap.size (.slice lo LL.length lcp) LL [l] (some ⟨w5.heap.size, 0, none⟩) 1 1 rfl rfl rfl HO6.out HY6.out HL4.out HL5.out HB6.out ?_
            intro v' w' ho' hf'
            have HO9 := hid ho'
            have HF9 := hid hf'
            clear ho' hf')
          go_roundw
          case rel => exact ⟨i + 1, by omega, by go_num, by rw [HSt.out]; exact HO9.out, HA1, still_appG HS6.out HO6.out HF9.out (Nat.le_refl _)⟩
          case measure => first | (simp [intOf]; done) | (simp [intOf]; omega)
      · have HRo : Hid (Calls Tryd.prog 21 #[.slice (some ⟨rb, 0, none⟩) 8 8, .int .i64 5] W2 fun e w' => e = .returned (.tuple #[.agg #[.int .i64 5, Value.func (.func 31) #[] #[], Value.func (.func 37) #[] #[], Value.func (.func 38) #[] #[]], .bool true]) ∧ Still W2 w') := hid (rowOf_yes 4 (by decide) _ 8 W2 HRw2.out)
        have EO := hid (ok_5 xa xb)
        rw [EO.out] at HAl HNo
        go_wp2_with fail
        refine HRo.out.mono ?_
        rintro e w3 ⟨rfl, h3⟩
        have A4 := Still.alloc w3 (.cells #[.int .i64 5, Value.func (.func 31) #[] #[], Value.func (.func 37) #[] #[], Value.func (.func 38) #[] #[]] 63)
        have p4 : Rwb (w3.alloc (.cells #[.int .i64 5, Value.func (.func 31) #[] #[], Value.func (.func 37) #[] #[], Value.func (.func 38) #[] #[]] 63)) w3.heap.size (.int .i64 5) (Value.func (.func 31) #[] #[]) (Value.func (.func 37) #[] #[]) (Value.func (.func 38) #[] #[]) := heap_alloc_new w3 _
        have HP4 := hid (HP2.out.still (h3.trans A4))
        have HS4 := hid (HS2.out.trans (h3.trans A4))
        have HS4x := hid (HS2x.out.trans (h3.trans A4))
        obtain ⟨W4, eW4⟩ : ∃ X, w3.alloc (.cells #[.int .i64 5, Value.func (.func 31) #[] #[], Value.func (.func 37) #[] #[], Value.func (.func 38) #[] #[]] 63) = X := ⟨_, rfl⟩
        rw [eW4] at p4 HP4 HS4 HS4x
        obtain ⟨m0, m1, m2, m3, mf⟩ := p4.cells
        clear n0 n1 n2 nf c0 c1 c2 h3 A4 p4 HRo eW2
        obtain ⟨n0, n1, n2, nf⟩ := HP4.out.cells
        cases ha : seatB xa with
        | false =>
          have HQa := hid (isSeat_any xa W4)
          rw [ha] at HQa HNo HAl
          (try rw [Bool.false_and] at HNo HAl)
          go_wp2_with fail
          refine HQa.out.mono ?_
          rintro e wa ⟨rfl, hwa⟩
          have hwa := hwa.symm
          subst hwa
          clear HQa
          obtain ⟨rfl, rfl⟩ := HRn.out (HNo.out (by first | trivial | rfl))
          clear HNo HAl EO
          go_wp2_with fail
          (first | rw [Exit.noGoto_ret] | skip)
          go_ret2
          exact ⟨rfl, HS1.out.trans HS4.out⟩
        | true =>
          have HQa := hid (isSeat_any xa W4)
          rw [ha] at HQa HNo HAl
          (try rw [Bool.true_and] at HNo HAl)
          have Ha := hid ha
          clear ha
          go_wp2_with fail
          refine HQa.out.mono ?_
          rintro e wa ⟨rfl, hwa⟩
          have hwa := hwa.symm
          subst hwa
          clear HQa
          cases hb : kindB xb with
          | false =>
            have HQb := hid (isKind_any xb W4)
            rw [hb] at HQb HNo HAl
            go_wp2_with fail
            refine HQb.out.mono ?_
            rintro e wb ⟨rfl, hwb⟩
            have hwb := hwb.symm
            subst hwb
            clear HQb
            obtain ⟨rfl, rfl⟩ := HRn.out (HNo.out (by first | trivial | rfl))
            clear HNo HAl EO
            go_wp2_with fail
            (first | rw [Exit.noGoto_ret] | skip)
            go_ret2
            exact ⟨rfl, HS1.out.trans HS4.out⟩
          | true =>
            have HQb := hid (isKind_any xb W4)
            rw [hb] at HQb HNo HAl
            have Hb := hid hb
            clear hb
            go_wp2_with fail
            refine HQb.out.mono ?_
            rintro e wb ⟨rfl, hwb⟩
            have hwb := hwb.symm
            subst hwb
            clear HQb
            have HTe := hid (tell5_any ⟨5, xa, xb⟩ Ha.out Hb.out W4 (HT.out.still (HS1.out.trans HS4.out)) (HK.out.still (HS1.out.trans HS4.out)))
            have HLn : Hid (lnS ⟨5, xa, xb⟩ = ((ltS xa.toNat ++ ⟨#[32, 116, 111, 111, 107, 32]⟩) ++ thgS xb)) := hid rfl
            dsimp only at HTe
            rw [← HLn.out] at HTe
            obtain ⟨l, el⟩ : ∃ l, lnS ⟨5, xa, xb⟩ = l := ⟨_, rfl⟩
            rw [el] at HTe HSt
            clear el HLn
            have HA1 : Hid ((L.take (i + 1)).all okN = true) := hid (by rw [HAl.out, HA.out]; rfl)
            clear HAl HNo EO
            go_wp2_with fail
            refine HTe.out.mono ?_
            rintro e w5 ⟨rfl, h5⟩
            have A6 := Still.alloc w5 (.cells #[.string l] 9)
            have HO6 := hid (HO.out.still (HS4x.out.trans (h5.trans A6)))
            have HS6 := hid (HS4.out.trans (h5.trans A6))
            have HY6 := hid (sr_st1 (show (w5.alloc (.cells #[.string l] 9)).heap[w5.heap.size]? = some (.cells #[.string l] 9 (0, 0)) from heap_alloc_new w5 _))
            have HB6 : Hid (w1.heap.size ≤ (w5.alloc (.cells #[.string l] 9)).heap.size) := hid HS6.out.size
            have HL4 : Hid ((LL.length + [l].length) * 16 ≤ 140737488355328) := hid (by have := HLe.out; simp only [List.length_cons, List.length_nil]; omega)
            have HL5 : Hid (LL.length + [l].length ≤ 281474976710656) := hid (by have := HLe.out; simp only [List.length_cons, List.length_nil]; omega)
            clear A6 h5 HTe m0 m1 m2 m3 mf n0 n1 n2 nf
            go_wp2_with (
              at_builtin
              refine wpList_appMG KSt _ rfl _ _ 59 rfl Tryd.underlying59 16 (.string ⟨#[]⟩) rfl infoSt w1.heap.size (.slice lo LL.length lcp) LL [l] (some ⟨w5.heap.size, 0, none⟩) 1 1 rfl rfl rfl HO6.out HY6.out HL4.out HL5.out HB6.out ?_
              intro v' w' ho' hf'
              have HO9 := hid ho'
              have HF9 := hid hf'
              clear ho' hf')
            go_roundw
            case rel => exact ⟨i + 1, by omega, by go_num, by rw [HSt.out]; exact HO9.out, HA1, still_appG HS6.out HO6.out HF9.out (Nat.le_refl _)⟩
            case measure => first | (simp [intOf]; done) | (simp [intOf]; omega)
      · have HRo : Hid (Calls Tryd.prog 21 #[.slice (some ⟨rb, 0, none⟩) 8 8, .int .i64 6] W2 fun e w' => e = .returned (.tuple #[.agg #[.int .i64 6, Value.func (.func 32) #[] #[], Value.func (.func 37) #[] #[], Value.func (.func 39) #[] #[]], .bool true]) ∧ Still W2 w') := hid (rowOf_yes 5 (by decide) _ 8 W2 HRw2.out)
        have EO := hid (ok_6 xa xb)
        rw [EO.out] at HAl HNo
        go_wp2_with fail
        refine HRo.out.mono ?_
        rintro e w3 ⟨rfl, h3⟩
        have A4 := Still.alloc w3 (.cells #[.int .i64 6, Value.func (.func 32) #[] #[], Value.func (.func 37) #[] #[], Value.func (.func 39) #[] #[]] 63)
        have p4 : Rwb (w3.alloc (.cells #[.int .i64 6, Value.func (.func 32) #[] #[], Value.func (.func 37) #[] #[], Value.func (.func 39) #[] #[]] 63)) w3.heap.size (.int .i64 6) (Value.func (.func 32) #[] #[]) (Value.func (.func 37) #[] #[]) (Value.func (.func 39) #[] #[]) := heap_alloc_new w3 _
        have HP4 := hid (HP2.out.still (h3.trans A4))
        have HS4 := hid (HS2.out.trans (h3.trans A4))
        have HS4x := hid (HS2x.out.trans (h3.trans A4))
        obtain ⟨W4, eW4⟩ : ∃ X, w3.alloc (.cells #[.int .i64 6, Value.func (.func 32) #[] #[], Value.func (.func 37) #[] #[], Value.func (.func 39) #[] #[]] 63) = X := ⟨_, rfl⟩
        rw [eW4] at p4 HP4 HS4 HS4x
        obtain ⟨m0, m1, m2, m3, mf⟩ := p4.cells
        clear n0 n1 n2 nf c0 c1 c2 h3 A4 p4 HRo eW2
        obtain ⟨n0, n1, n2, nf⟩ := HP4.out.cells
        have HQa := hid (isAny_any xa W4)
        go_wp2_with fail
        refine HQa.out.mono ?_
        rintro e wa ⟨rfl, hwa⟩
        have hwa := hwa.symm
        subst hwa
        clear HQa
        cases hb : kindB xb with
        | false =>
          have HQb := hid (isKind_any xb W4)
          rw [hb] at HQb HNo HAl
          go_wp2_with fail
          refine HQb.out.mono ?_
          rintro e wb ⟨rfl, hwb⟩
          have hwb := hwb.symm
          subst hwb
          clear HQb
          obtain ⟨rfl, rfl⟩ := HRn.out (HNo.out (by first | trivial | rfl))
          clear HNo HAl EO
          go_wp2_with fail
          (first | rw [Exit.noGoto_ret] | skip)
          go_ret2
          exact ⟨rfl, HS1.out.trans HS4.out⟩
        | true =>
          have HQb := hid (isKind_any xb W4)
          rw [hb] at HQb HNo HAl
          have Hb := hid hb
          clear hb
          go_wp2_with fail
          refine HQb.out.mono ?_
          rintro e wb ⟨rfl, hwb⟩
          have hwb := hwb.symm
          subst hwb
          clear HQb
          have HTe := hid (tell6_any ⟨6, xa, xb⟩ HXx.out.1 Hb.out W4 (HT.out.still (HS1.out.trans HS4.out)) (HK.out.still (HS1.out.trans HS4.out)))
          have HLn : Hid (lnS ⟨6, xa, xb⟩ = ((((⟨#[115, 112, 111, 116, 32]⟩ : ByteArray) ++ itS xa) ++ ⟨#[32]⟩) ++ thgS xb)) := hid rfl
          dsimp only at HTe
          rw [← HLn.out] at HTe
          obtain ⟨l, el⟩ : ∃ l, lnS ⟨6, xa, xb⟩ = l := ⟨_, rfl⟩
          rw [el] at HTe HSt
          clear el HLn
          have HA1 : Hid ((L.take (i + 1)).all okN = true) := hid (by rw [HAl.out, HA.out]; rfl)
          clear HAl HNo EO
          go_wp2_with fail
          refine HTe.out.mono ?_
          rintro e w5 ⟨rfl, h5⟩
          have A6 := Still.alloc w5 (.cells #[.string l] 9)
          have HO6 := hid (HO.out.still (HS4x.out.trans (h5.trans A6)))
          have HS6 := hid (HS4.out.trans (h5.trans A6))
          have HY6 := hid (sr_st1 (show (w5.alloc (.cells #[.string l] 9)).heap[w5.heap.size]? = some (.cells #[.string l] 9 (0, 0)) from heap_alloc_new w5 _))
          have HB6 : Hid (w1.heap.size ≤ (w5.alloc (.cells #[.string l] 9)).heap.size) := hid HS6.out.size
          have HL4 : Hid ((LL.length + [l].length) * 16 ≤ 140737488355328) := hid (by have := HLe.out; simp only [List.length_cons, List.length_nil]; omega)
          have HL5 : Hid (LL.length + [l].length ≤ 281474976710656) := hid (by have := HLe.out; simp only [List.length_cons, List.length_nil]; omega)
          clear A6 h5 HTe m0 m1 m2 m3 mf n0 n1 n2 nf
          go_wp2_with (
            at_builtin
            refine wpList_appMG KSt _ rfl _ _ 59 rfl Tryd.underlying59 16 (.string ⟨#[]⟩) rfl infoSt w1.heap.size (.slice lo LL.length lcp) LL [l] (some ⟨w5.heap.size, 0, none⟩) 1 1 rfl rfl rfl HO6.out HY6.out HL4.out HL5.out HB6.out ?_
            intro v' w' ho' hf'
            have HO9 := hid ho'
            have HF9 := hid hf'
            clear ho' hf')
          go_roundw
          case rel => exact ⟨i + 1, by omega, by go_num, by rw [HSt.out]; exact HO9.out, HA1, still_appG HS6.out HO6.out HF9.out (Nat.le_refl _)⟩
          case measure => first | (simp [intOf]; done) | (simp [intOf]; omega)
      · have HRo : Hid (Calls Tryd.prog 21 #[.slice (some ⟨rb, 0, none⟩) 8 8, .int .i64 7] W2 fun e w' => e = .returned (.tuple #[.agg #[.int .i64 7, Value.func (.func 31) #[] #[], Value.func (.func 31) #[] #[], Value.func (.func 40) #[] #[]], .bool true]) ∧ Still W2 w') := hid (rowOf_yes 6 (by decide) _ 8 W2 HRw2.out)
        have EO := hid (ok_7 xa xb)
        rw [EO.out] at HAl HNo
        go_wp2_with fail
        refine HRo.out.mono ?_
        rintro e w3 ⟨rfl, h3⟩
        have A4 := Still.alloc w3 (.cells #[.int .i64 7, Value.func (.func 31) #[] #[], Value.func (.func 31) #[] #[], Value.func (.func 40) #[] #[]] 63)
        have p4 : Rwb (w3.alloc (.cells #[.int .i64 7, Value.func (.func 31) #[] #[], Value.func (.func 31) #[] #[], Value.func (.func 40) #[] #[]] 63)) w3.heap.size (.int .i64 7) (Value.func (.func 31) #[] #[]) (Value.func (.func 31) #[] #[]) (Value.func (.func 40) #[] #[]) := heap_alloc_new w3 _
        have HP4 := hid (HP2.out.still (h3.trans A4))
        have HS4 := hid (HS2.out.trans (h3.trans A4))
        have HS4x := hid (HS2x.out.trans (h3.trans A4))
        obtain ⟨W4, eW4⟩ : ∃ X, w3.alloc (.cells #[.int .i64 7, Value.func (.func 31) #[] #[], Value.func (.func 31) #[] #[], Value.func (.func 40) #[] #[]] 63) = X := ⟨_, rfl⟩
        rw [eW4] at p4 HP4 HS4 HS4x
        obtain ⟨m0, m1, m2, m3, mf⟩ := p4.cells
        clear n0 n1 n2 nf c0 c1 c2 h3 A4 p4 HRo eW2
        obtain ⟨n0, n1, n2, nf⟩ := HP4.out.cells
        cases ha : seatB xa with
        | false =>
          have HQa := hid (isSeat_any xa W4)
          rw [ha] at HQa HNo HAl
          (try rw [Bool.false_and] at HNo HAl)
          go_wp2_with fail
          refine HQa.out.mono ?_
          rintro e wa ⟨rfl, hwa⟩
          have hwa := hwa.symm
          subst hwa
          clear HQa
          obtain ⟨rfl, rfl⟩ := HRn.out (HNo.out (by first | trivial | rfl))
          clear HNo HAl EO
          go_wp2_with fail
          (first | rw [Exit.noGoto_ret] | skip)
          go_ret2
          exact ⟨rfl, HS1.out.trans HS4.out⟩
        | true =>
          have HQa := hid (isSeat_any xa W4)
          rw [ha] at HQa HNo HAl
          (try rw [Bool.true_and] at HNo HAl)
          have Ha := hid ha
          clear ha
          go_wp2_with fail
          refine HQa.out.mono ?_
          rintro e wa ⟨rfl, hwa⟩
          have hwa := hwa.symm
          subst hwa
          clear HQa
          cases hb : seatB xb with
          | false =>
            have HQb := hid (isSeat_any xb W4)
            rw [hb] at HQb HNo HAl
            go_wp2_with fail
            refine HQb.out.mono ?_
            rintro e wb ⟨rfl, hwb⟩
            have hwb := hwb.symm
            subst hwb
            clear HQb
            obtain ⟨rfl, rfl⟩ := HRn.out (HNo.out (by first | trivial | rfl))
            clear HNo HAl EO
            go_wp2_with fail
            (first | rw [Exit.noGoto_ret] | skip)
            go_ret2
            exact ⟨rfl, HS1.out.trans HS4.out⟩
          | true =>
            have HQb := hid (isSeat_any xb W4)
            rw [hb] at HQb HNo HAl
            have Hb := hid hb
            clear hb
            go_wp2_with fail
            refine HQb.out.mono ?_
            rintro e wb ⟨rfl, hwb⟩
            have hwb := hwb.symm
            subst hwb
            clear HQb
            have HTe := hid (tell7_any ⟨7, xa, xb⟩ Ha.out Hb.out W4 (HT.out.still (HS1.out.trans HS4.out)) (HK.out.still (HS1.out.trans HS4.out)))
            have HLn : Hid (lnS ⟨7, xa, xb⟩ = ((ltS xa.toNat ++ ⟨#[32, 98, 111, 117, 110, 99, 101, 115, 32]⟩) ++ ltS xb.toNat)) := hid rfl
            dsimp only at HTe
            rw [← HLn.out] at HTe
            obtain ⟨l, el⟩ : ∃ l, lnS ⟨7, xa, xb⟩ = l := ⟨_, rfl⟩
            rw [el] at HTe HSt
            clear el HLn
            have HA1 : Hid ((L.take (i + 1)).all okN = true) := hid (by rw [HAl.out, HA.out]; rfl)
            clear HAl HNo EO
            go_wp2_with fail
            refine HTe.out.mono ?_
            rintro e w5 ⟨rfl, h5⟩
            have A6 := Still.alloc w5 (.cells #[.string l] 9)
            have HO6 := hid (HO.out.still (HS4x.out.trans (h5.trans A6)))
            have HS6 := hid (HS4.out.trans (h5.trans A6))
            have HY6 := hid (sr_st1 (show (w5.alloc (.cells #[.string l] 9)).heap[w5.heap.size]? = some (.cells #[.string l] 9 (0, 0)) from heap_alloc_new w5 _))
            have HB6 : Hid (w1.heap.size ≤ (w5.alloc (.cells #[.string l] 9)).heap.size) := hid HS6.out.size
            have HL4 : Hid ((LL.length + [l].length) * 16 ≤ 140737488355328) := hid (by have := HLe.out; simp only [List.length_cons, List.length_nil]; omega)
            have HL5 : Hid (LL.length + [l].length ≤ 281474976710656) := hid (by have := HLe.out; simp only [List.length_cons, List.length_nil]; omega)
            clear A6 h5 HTe m0 m1 m2 m3 mf n0 n1 n2 nf
            go_wp2_with (
              at_builtin
              refine wpList_appMG KSt _ rfl _ _ 59 rfl Tryd.underlying59 16 (.string ⟨#[]⟩) rfl infoSt w1.heap.size (.slice lo LL.length lcp) LL [l] (some ⟨w5.heap.size, 0, none⟩) 1 1 rfl rfl rfl HO6.out HY6.out HL4.out HL5.out HB6.out ?_
              intro v' w' ho' hf'
              have HO9 := hid ho'
              have HF9 := hid hf'
              clear ho' hf')
            go_roundw
            case rel => exact ⟨i + 1, by omega, by go_num, by rw [HSt.out]; exact HO9.out, HA1, still_appG HS6.out HO6.out HF9.out (Nat.le_refl _)⟩
            case measure => first | (simp [intOf]; done) | (simp [intOf]; omega)
      · have HRo : Hid (Calls Tryd.prog 21 #[.slice (some ⟨rb, 0, none⟩) 8 8, .int .i64 8] W2 fun e w' => e = .returned (.tuple #[.agg #[.int .i64 8, Value.func (.func 31) #[] #[], Value.func (.func 32) #[] #[], Value.func (.func 41) #[] #[]], .bool true]) ∧ Still W2 w') := hid (rowOf_yes 7 (by decide) _ 8 W2 HRw2.out)
        have EO := hid (ok_8 xa xb)
        rw [EO.out] at HAl HNo
        go_wp2_with fail
        refine HRo.out.mono ?_
        rintro e w3 ⟨rfl, h3⟩
        have A4 := Still.alloc w3 (.cells #[.int .i64 8, Value.func (.func 31) #[] #[], Value.func (.func 32) #[] #[], Value.func (.func 41) #[] #[]] 63)
        have p4 : Rwb (w3.alloc (.cells #[.int .i64 8, Value.func (.func 31) #[] #[], Value.func (.func 32) #[] #[], Value.func (.func 41) #[] #[]] 63)) w3.heap.size (.int .i64 8) (Value.func (.func 31) #[] #[]) (Value.func (.func 32) #[] #[]) (Value.func (.func 41) #[] #[]) := heap_alloc_new w3 _
        have HP4 := hid (HP2.out.still (h3.trans A4))
        have HS4 := hid (HS2.out.trans (h3.trans A4))
        have HS4x := hid (HS2x.out.trans (h3.trans A4))
        obtain ⟨W4, eW4⟩ : ∃ X, w3.alloc (.cells #[.int .i64 8, Value.func (.func 31) #[] #[], Value.func (.func 32) #[] #[], Value.func (.func 41) #[] #[]] 63) = X := ⟨_, rfl⟩
        rw [eW4] at p4 HP4 HS4 HS4x
        obtain ⟨m0, m1, m2, m3, mf⟩ := p4.cells
        clear n0 n1 n2 nf c0 c1 c2 h3 A4 p4 HRo eW2
        obtain ⟨n0, n1, n2, nf⟩ := HP4.out.cells
        cases ha : seatB xa with
        | false =>
          have HQa := hid (isSeat_any xa W4)
          rw [ha] at HQa HNo HAl
          (try rw [Bool.false_and] at HNo HAl)
          go_wp2_with fail
          refine HQa.out.mono ?_
          rintro e wa ⟨rfl, hwa⟩
          have hwa := hwa.symm
          subst hwa
          clear HQa
          obtain ⟨rfl, rfl⟩ := HRn.out (HNo.out (by first | trivial | rfl))
          clear HNo HAl EO
          go_wp2_with fail
          (first | rw [Exit.noGoto_ret] | skip)
          go_ret2
          exact ⟨rfl, HS1.out.trans HS4.out⟩
        | true =>
          have HQa := hid (isSeat_any xa W4)
          rw [ha] at HQa HNo HAl
          (try rw [Bool.true_and] at HNo HAl)
          have Ha := hid ha
          clear ha
          go_wp2_with fail
          refine HQa.out.mono ?_
          rintro e wa ⟨rfl, hwa⟩
          have hwa := hwa.symm
          subst hwa
          clear HQa
          have HQb := hid (isAny_any xb W4)
          go_wp2_with fail
          refine HQb.out.mono ?_
          rintro e wb ⟨rfl, hwb⟩
          have hwb := hwb.symm
          subst hwb
          clear HQb
          have HTe := hid (tell8_any ⟨8, xa, xb⟩ Ha.out HXx.out.2 W4 (HT.out.still (HS1.out.trans HS4.out)) (HK.out.still (HS1.out.trans HS4.out)))
          have HLn : Hid (lnS ⟨8, xa, xb⟩ = ((ltS xa.toNat ++ ⟨#[32, 115, 97, 121, 115, 32]⟩) ++ itS xb)) := hid rfl
          dsimp only at HTe
          rw [← HLn.out] at HTe
          obtain ⟨l, el⟩ : ∃ l, lnS ⟨8, xa, xb⟩ = l := ⟨_, rfl⟩
          rw [el] at HTe HSt
          clear el HLn
          have HA1 : Hid ((L.take (i + 1)).all okN = true) := hid (by rw [HAl.out, HA.out]; rfl)
          clear HAl HNo EO
          go_wp2_with fail
          refine HTe.out.mono ?_
          rintro e w5 ⟨rfl, h5⟩
          have A6 := Still.alloc w5 (.cells #[.string l] 9)
          have HO6 := hid (HO.out.still (HS4x.out.trans (h5.trans A6)))
          have HS6 := hid (HS4.out.trans (h5.trans A6))
          have HY6 := hid (sr_st1 (show (w5.alloc (.cells #[.string l] 9)).heap[w5.heap.size]? = some (.cells #[.string l] 9 (0, 0)) from heap_alloc_new w5 _))
          have HB6 : Hid (w1.heap.size ≤ (w5.alloc (.cells #[.string l] 9)).heap.size) := hid HS6.out.size
          have HL4 : Hid ((LL.length + [l].length) * 16 ≤ 140737488355328) := hid (by have := HLe.out; simp only [List.length_cons, List.length_nil]; omega)
          have HL5 : Hid (LL.length + [l].length ≤ 281474976710656) := hid (by have := HLe.out; simp only [List.length_cons, List.length_nil]; omega)
          clear A6 h5 HTe m0 m1 m2 m3 mf n0 n1 n2 nf
          go_wp2_with (
            at_builtin
            refine wpList_appMG KSt _ rfl _ _ 59 rfl Tryd.underlying59 16 (.string ⟨#[]⟩) rfl infoSt w1.heap.size (.slice lo LL.length lcp) LL [l] (some ⟨w5.heap.size, 0, none⟩) 1 1 rfl rfl rfl HO6.out HY6.out HL4.out HL5.out HB6.out ?_
            intro v' w' ho' hf'
            have HO9 := hid ho'
            have HF9 := hid hf'
            clear ho' hf')
          go_roundw
          case rel => exact ⟨i + 1, by omega, by go_num, by rw [HSt.out]; exact HO9.out, HA1, still_appG HS6.out HO6.out HF9.out (Nat.le_refl _)⟩
          case measure => first | (simp [intOf]; done) | (simp [intOf]; omega)
      · have HRo := hid (rowOf_no xk hno _ 8 W2 HRw2.out)
        have EO := hid (ok_0 (a := xa) (b := xb) hno)
        obtain ⟨rfl, rfl⟩ := HRn.out (HNo.out EO.out)
        clear hno HAl HNo EO
        go_wp2_with fail
        refine HRo.out.mono ?_
        rintro e w3 ⟨rfl, h3⟩
        have A4 := Still.alloc w3 (.cells rwz 63)
        have HS4 := hid (HS2.out.trans (h3.trans A4))
        clear n0 n1 n2 nf c0 c1 c2 h3 A4 HRo eW2
        go_wp2_with fail
        (first | rw [Exit.noGoto_ret] | skip)
        go_ret2
        exact ⟨rfl, HS1.out.trans HS4.out⟩
    · have hge : ¬ (i : Int) < (n : Int) := by omega
      obtain rfl : i = n := by omega
      have HTk : Hid (L.take i = L) := hid (List.take_of_length_le (by have := HL.out; omega))
      obtain ⟨e1, rfl⟩ := HRy.out (by rw [← HTk.out]; exact HA.out)
      have HC := hid (ended_any ((L.take i).map lnS) (by
        rw [HTk.out, en_nt]
        have := HZ.out L.length (Nat.le_refl _)
        rw [List.take_length] at this
        have := HL.out
        omega) lo i lcp wr (by
        have h := OwG.rd (L := (L.take i).map lnS) (M := []) (by rw [List.append_nil]; exact HO.out) (by rw [HLe.out]; omega)
        rwa [HLe.out] at h))
      rw [HTk.out, en_nt, ← e1] at HC
      rw [HLe.out]
      clear hs ho hin hlo e1
      go_wp2_with fail
      refine HC.out.mono ?_
      rintro e w4 ⟨rfl, h4⟩
      have HS4 := hid (HS1.out.trans (HS.out.trans h4))
      clear h4 HC
      go_wp2_with fail
      go_ret2
      exact ⟨rfl, HS4.out⟩
end Go.Proofs.YtdljmpjfiggdiaaDoor
