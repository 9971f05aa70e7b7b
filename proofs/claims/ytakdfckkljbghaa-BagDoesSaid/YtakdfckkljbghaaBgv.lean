/- BagDoes: the law's walk. -/
import Derived.Test.YtakdfckkljbghaaBgr
import Derived.Test.YtakdfckkljbghaaBgs
namespace Go.Proofs.Ytakdfckkljbghaa
open Go.RowKit
set_option maxRecDepth 100000
set_option linter.unusedVariables false

/-- what is known of a call of the script -/
def Gd17 (w : World) (x : Oq17) : Prop := (-9223372036854775808 ≤ x.k ∧ x.k ≤ 9223372036854775807) ∧ (-9223372036854775808 ≤ x.wh ∧ x.wh ≤ 9223372036854775807) ∧ (-9223372036854775808 ≤ x.no ∧ x.no ≤ 9223372036854775807) ∧ x.n ≤ 140737488351232 ∧ Rd w x.ao x.n x.cap x.bs
theorem pk47 : pk 4 7 = 4 ∧ pk 5 7 = 5 := by decide
set_option maxHeartbeats 16000000 in
theorem does17_law (so : Option Addr) (n c : Nat) (L : List Oq17) (hb : 72 * n ≤ 140737488351232) (w : World) (hr : RdG KO17 w so n L) (hp : ∀ i, i < n → Gd17 w (L.getD i KO17.d)) : Calls Try.prog 3 #[.slice so n c] w fun e w' => e = .returned (.bool true) ∧ Still w w' := by
  have HR := hid hr
  have HA := hid (fun w => awake17_any w)
  have HN := hid (fun w => bnew_any w)
  have HP := hid hp
  clear hr hp
  go_enter Try.func3, Try.ntmps3
  go_wp2_with fail
  refine (HA.out _).mono ?_
  rintro e w1 ⟨he, h1⟩
  rw [he]
  have HS1 := hid h1
  clear he h1 HA
  go_wp2_with fail
  refine (HN.out _).mono ?_
  rintro e W ⟨p, mb, he, hb2, hs2, hp2, hm2⟩
  rw [he]
  have hs1 : Still w W := HS1.out.trans hs2
  have hpl : w.heap.size ≤ p := Nat.le_trans HS1.out.size hp2
  have hml : w.heap.size ≤ mb := Nat.le_trans HS1.out.size hm2
  clear he hs2 hp2 hm2 HS1
  have A2 := Still.alloc W (.cells #[.slice none 0 0, .int .i64 0] 29)
  obtain ⟨W2, eW2⟩ : ∃ X, W.alloc (.cells #[.slice none 0 0, .int .i64 0] 29) = X := ⟨_, rfl⟩
  obtain ⟨yb, eyb⟩ : ∃ g, W.heap.size = g := ⟨_, rfl⟩
  have hO2 : Ok17 w.heap.size W2 ⟨p, mb, yb, .slice none 0 0, 0, [], []⟩ := by
    rw [← eW2, ← eyb]
    exact Ok17.new (hb2.still A2) (heap_alloc_new W _) hpl hml hs1.size
  have hs2 : Still w W2 := by rw [← eW2]; exact hs1.trans A2
  have HT0 : Hid (St17 w (W2.alloc (.cells #[.pointer (some ⟨p, 0, none⟩), .pointer (some ⟨yb, 0, none⟩)] 31)) ((0 : Nat) : Int) [⟨p, mb, yb, .slice none 0 0, 0, [], []⟩] (.slice (some ⟨W2.heap.size, 0, none⟩) 1 1)) := hid (by
    have A3 := Still.alloc W2 (.cells #[.pointer (some ⟨p, 0, none⟩), .pointer (some ⟨yb, 0, none⟩)] 31)
    refine ⟨fun i hi => ?_, fun i j hi hj hij => ?_, fun i hi => ?_, OwG.pair17 W2 w.heap.size ⟨p, mb, yb, .slice none 0 0, 0, [], []⟩ hs2.size, hs2.trans A3⟩
    · obtain rfl : i = 0 := by simp at hi; omega
      exact hO2.still A3
    · simp at hi hj; omega
    · obtain rfl : i = 0 := by simp at hi; omega
      exact Int.le_refl _)
  clear hs1 hb2 hpl hml A2 hO2 hs2
  go_wp2_with fail
  clear eW2 eyb
  go_loopw [5, 6] (fun u5 u6 wr => ∃ (i : Nat) (Ps : List Pd17), i ≤ n ∧ u6 = .int .i64 (i : Int) ∧ Ps.length ≤ i + 1 ∧ 0 < Ps.length ∧ Hid (St17 w wr (i : Int) Ps u5)) (fun _ u6 _ => n - (intOf u6).toNat)
  case atStart => exact ⟨0, _, by omega, rfl, by simp, by simp, HT0⟩
  case round =>
    clear HT0
    obtain ⟨i, Ps, hi, rfl, hPl, hP0, HT⟩ := hrel
    obtain ⟨g5, cap5, e5, _, _⟩ := HT.out.l.head (by simpa using hP0)
    rw [List.length_map] at e5
    subst e5
    by_cases hin : i < n
    · have hlt : (i : Int) < (n : Int) := by omega
      obtain ⟨B, o, rfl⟩ := HR.out.at (by omega)
      obtain ⟨x, ex⟩ : ∃ x, L.getD i KO17.d = x := ⟨_, rfl⟩
      have HG := HP.out i hin
      rw [ex] at HG
      have HGx := hid HG
      obtain ⟨c0, c1, c2, c3, c4, c5, c6⟩ := rdO17 (HR.out.still HT.out.s) hin ex
      clear ex
      have HPk := hid (fun w => pick_any x.k 7 HGx.out.1 (by omega) (by omega) w)
      have A0 := Still.alloc wr (.cells (oqs17 x) 35)
      obtain ⟨W0, eW0⟩ : ∃ W, wr.alloc (.cells (oqs17 x) 35) = W := ⟨_, rfl⟩
      obtain ⟨b7, eb7⟩ : ∃ g, wr.heap.size = g := ⟨_, rfl⟩
      have HT1 : Hid (St17 w W0 (i : Int) Ps (.slice (some ⟨g5, 0, none⟩) Ps.length cap5)) := hid (by rw [← eW0]; exact HT.out.still A0)
      have hx1 : W0.heap[b7]? = some (.cells (oqs17 x) 35 (0, 0)) := by rw [← eW0, ← eb7]; exact heap_alloc_new wr _
      have HX1 := hid hx1
      have d0 : W0.cell? ⟨b7, 0, none⟩ = some (.int .i64 x.k) := by rw [cell_of_row _ _ _ _ _ _ hx1]; rfl
      have d1 : W0.cell? ⟨b7, 1, none⟩ = some (.int .i64 x.wh) := by rw [cell_of_row _ _ _ _ _ _ hx1]; rfl
      have d2 : W0.cell? ⟨b7, 2, none⟩ = some (.int .i64 x.fr) := by rw [cell_of_row _ _ _ _ _ _ hx1]; rfl
      have d3 : W0.cell? ⟨b7, 3, none⟩ = some (.int .i64 x.td) := by rw [cell_of_row _ _ _ _ _ _ hx1]; rfl
      have d4 : W0.cell? ⟨b7, 4, none⟩ = some (.slice x.ao x.n x.cap) := by rw [cell_of_row _ _ _ _ _ _ hx1]; rfl
      have d5 : W0.cell? ⟨b7, 5, none⟩ = some (.int .i64 x.no) := by rw [cell_of_row _ _ _ _ _ _ hx1]; rfl
      have d6 : W0.cell? ⟨b7, 6, none⟩ = some (.bool x.nr) := by rw [cell_of_row _ _ _ _ _ _ hx1]; rfl
      obtain ⟨k7, ek7⟩ : ∃ k, pk x.k 7 = k := ⟨_, rfl⟩
      rw [ek7] at HPk
      clear A0 hx1 ek7 HG
      go_wp2_with fail
      refine (HPk.out _).mono ?_
      rintro e w2 ⟨he, hw⟩
      rw [he, hw]
      clear he hw w2 HPk c0 c1 c2 c3 c4 c5 c6 eW0 eb7 HT
      have HL4 := hid (show ((Ps.map some).length + 1) * 16 ≤ 140737488355328 ∧ (Ps.map some).length ≤ 281474976710656 by rw [List.length_map]; omega)
      have hPl1 : Ps.length + 1 ≤ i + 1 + 1 := by omega
      by_cases h6 : k7 = 6
      · subst h6
        clear d0 d1 d2 d3 d4 d5 d6
        go_wp2_with fail
        refine (HN.out _).mono ?_
        rintro e W4 ⟨p4, m4, he, hb4, hs4, hp4, hm4⟩
        rw [he]
        have A5 := Still.alloc W4 (.cells #[.slice none 0 0, .int .i64 0] 29)
        have hy5 := heap_alloc_new W4 (.cells #[.slice none 0 0, .int .i64 0] 29)
        have hq5 := hb4.still A5
        obtain ⟨y5, ey5⟩ : ∃ p, W4.heap.size = p := ⟨_, rfl⟩
        obtain ⟨W5, eW5⟩ : ∃ W, W4.alloc (.cells #[.slice none 0 0, .int .i64 0] 29) = W := ⟨_, rfl⟩
        rw [eW5] at A5 hy5 hq5
        rw [ey5] at hy5
        have A6 := Still.alloc W5 (.cells #[.pointer (some ⟨p4, 0, none⟩), .pointer (some ⟨y5, 0, none⟩)] 31)
        have hg6 := heap_alloc_new W5 (.cells #[.pointer (some ⟨p4, 0, none⟩), .pointer (some ⟨y5, 0, none⟩)] 31)
        obtain ⟨W6, eW6⟩ : ∃ W, W5.alloc (.cells #[.pointer (some ⟨p4, 0, none⟩), .pointer (some ⟨y5, 0, none⟩)] 31) = W := ⟨_, rfl⟩
        obtain ⟨g6, eg6⟩ : ∃ p, W5.heap.size = p := ⟨_, rfl⟩
        rw [eW6] at A6 hg6
        rw [eg6] at hg6
        have HS6 := hid ((hs4.trans A5).trans A6)
        have hz0 := HT1.out.s.size
        have HY5 : Hid (W0.heap.size ≤ y5) := hid (by rw [← ey5]; exact hs4.size)
        have HO6 : Hid (Ok17 w.heap.size W6 ⟨p4, m4, y5, .slice none 0 0, 0, [], []⟩) := hid ((Ok17.new hq5 hy5 (Nat.le_trans hz0 hp4) (Nat.le_trans hz0 hm4) (Nat.le_trans hz0 HY5.out)).still A6)
        have HW6 : Hid (∀ k, Wt17 ⟨p4, m4, y5, .slice none 0 0, 0, [], []⟩ k → W0.heap.size ≤ k) := hid (by
          rintro k (e | e | e | e)
          · rw [e]; exact hp4
          · rw [e]; exact hm4
          · rw [e]; exact HY5.out
          · cases e)
        have HG6 : Hid (W6.heap[g6]? = some (.cells (KP17.f (some ⟨p4, m4, y5, .slice none 0 0, 0, [], []⟩)).toArray 31 (0, 0))) := hid hg6
        have HT6 := hid (HT1.out.still HS6.out)
        have HB6 := hid HT6.out.s.size
        clear he hb4 hs4 hp4 hm4 A5 A6 hy5 hq5 hg6 hz0
        go_wp2_with (
          at_builtin
          refine wpList_appQ KP17 _ rfl _ _ _ rfl rfl 16 infoP17 w.heap.size g6 (.slice (some ⟨g5, 0, none⟩) Ps.length cap5) (Ps.map some) (some ⟨p4, m4, y5, .slice none 0 0, 0, [], []⟩) rfl rfl HT6.out.l HG6.out HL4.out.1 HL4.out.2 HB6.out ?_
          intro u9 w9 ho9 hf9 hb9)
        have HT9 : Hid (St17 w w9 ((i + 1 : Nat) : Int) (Ps ++ [⟨p4, m4, y5, .slice none 0 0, 0, [], []⟩]) u9) := hid ((HT1.out.more HS6.out HO6.out (by show (0 : Int) ≤ _; omega) HW6.out ho9 hf9).mono (by omega))
        obtain ⟨g9, cap9, e9, _, _⟩ := ho9.head (by simp)
        clear ho9 hf9 hb9 HT6 HG6 HO6 HW6 HS6 HB6 HT1
        subst e9
        go_wp2_with fail
        go_roundw
        case rel => exact ⟨i + 1, _, by omega, by go_num, by simp; omega, by simp, HT9⟩
        case measure => simp [intOf]; omega
      · have hb6 : (k7 == 6) = false := beq_eq_false_iff_ne.2 h6
        have HPn := hid (fun w => pick_any x.wh (Ps.length : Int) HGx.out.2.1 (by omega) (by omega) w)
        obtain ⟨hj0, hj1⟩ := pk_in x.wh (Ps.length : Int) (by omega)
        obtain ⟨j, ej⟩ : ∃ j : Nat, pk x.wh (Ps.length : Int) = (j : Int) := ⟨(pk x.wh (Ps.length : Int)).toNat, by omega⟩
        rw [ej] at HPn hj0 hj1
        clear ej
        have hjl : j < Ps.length := by omega
        obtain ⟨f0, f1⟩ := owP17 HT1.out.l hjl
        have HCs := hid (fun u (hu : Still W0 u) => does17_any w.heap.size (pg17 Ps j) x HGx.out.1 HGx.out.2.2.1 HGx.out.2.2.2.1 (by have := HT1.out.la j hjl; omega) u ((HT1.out.ok j hjl).still hu) (Nat.le_trans HT1.out.s.size hu.size) (HGx.out.2.2.2.2.still (HT1.out.s.trans hu)) (fun a ha h0 => HGx.out.2.2.2.2.lt h0 a ha))
        have q0 := Cl.cell d0
        have q1 := Cl.cell d1
        have q2 := Cl.cell d2
        have q3 := Cl.cell d3
        have q4 := Cl.cell d4
        have q5 := Cl.cell d5
        have q6 := Cl.cell d6
        have q7 := Cl.cell f0
        have q8 := Cl.cell f1
        have hne := Aft.here W0
        clear d0 d1 d2 d3 d4 d5 d6 f0 f1
        go_wp2_with fail
        refine region_rest 9 (by kernel_rfl) (by kernel_rfl) ?_
        simp only [List.take_succ_cons, List.take_zero, List.drop_succ_cons, List.drop_zero]
        repeat (go_big_quiet_step ((go_at_call 8; with_reducible exact Calls.cl_same (HPn.out _))))
        refine wpQuiet_nil ?_
        intro w3 h3
        have HC := hid (HCs.out w3 h3)
        have HT3 := hid (HT1.out.still h3)
        clear h3 q0 q1 q2 q3 q4 q5 q6 q7 q8 hne HCs HPn HT1
        go_wp2_with fail
        refine HC.out.mono ?_
        rintro e w4 ⟨he, P', hE, _⟩
        rw [he]
        have HT4 : Hid (St17 w w4 ((i + 1 : Nat) : Int) (Ps.set j P') (.slice (some ⟨g5, 0, none⟩) Ps.length cap5)) := hid (HT3.out.step hjl hE (by omega) (by have := hE.la; have := HT3.out.la j hjl; omega))
        clear he hE HC HT3
        go_wp2_with fail
        go_roundw
        case rel => exact ⟨i + 1, Ps.set j P', by omega, by go_num, by rw [List.length_set]; omega, by rw [List.length_set]; omega, HT4⟩
        case measure => simp [intOf]; omega
    · have hge : ¬ (i : Int) < (n : Int) := by omega
      have hPn : Ps.length ≤ n + 1 := by omega
      obtain ⟨N, eN⟩ : ∃ N, Ps.length = N := ⟨_, rfl⟩
      rw [eN] at hPn
      have HT1 : Hid (St17 w wr (n : Int) Ps (.slice (some ⟨g5, 0, none⟩) N cap5)) := hid (by rw [← eN]; exact HT.out.mono (by omega))
      rw [eN]
      have HEN := hid eN
      clear HT hi hin eN hPl hP0
      go_wp2_with fail
      go_loopw [10] (fun u10 wr => ∃ (j : Nat) (Ps : List Pd17), j ≤ N ∧ u10 = .int .i64 (j : Int) ∧ Hid (Ps.length = N) ∧ Hid (St17 w wr (n : Int) Ps (.slice (some ⟨g5, 0, none⟩) N cap5))) (fun u _ => N - (intOf u).toNat)
      case atStart => exact ⟨0, Ps, by omega, rfl, HEN, HT1⟩
      case round =>
        clear HT1 HEN
        obtain ⟨j, Ps, hj, rfl, HL, HT⟩ := hrel
        by_cases hjn : j < N
        · have hlt : (j : Int) < (N : Int) := by omega
          have hjl : j < Ps.length := by have := HL.out; omega
          obtain ⟨f0, f1⟩ := owP17 HT.out.l hjl
          have HC := hid (does17_any w.heap.size (pg17 Ps j) ⟨4, 0, 0, 0, none, 0, 0, [], 0, false⟩ (by simp) (by simp) (by simp) (by have := HT.out.la j hjl; omega) wr (HT.out.ok j hjl) HT.out.s.size (Rd.empty wr) (fun a ha _ => by cases ha))
          go_wp2_with fail
          refine HC.out.mono ?_
          rintro e w4 ⟨he, P', hE, hsame⟩
          rw [he]
          obtain rfl := hsame (by show 4 ≤ pk 4 7; rw [pk47.1]; omega)
          have HT4 : Hid (St17 w w4 (n : Int) (Ps.set j (pg17 Ps j)) (.slice (some ⟨g5, 0, none⟩) N cap5)) := hid (HT.out.step hjl hE (Int.le_refl _) (HT.out.la j hjl))
          have hjl4 : j < (Ps.set j (pg17 Ps j)).length := by rw [List.length_set]; exact hjl
          have HL4 : Hid ((Ps.set j (pg17 Ps j)).length = N) := hid (by rw [List.length_set]; exact HL.out)
          obtain ⟨Qs, eQ⟩ : ∃ Qs, Ps.set j (pg17 Ps j) = Qs := ⟨_, rfl⟩
          rw [eQ] at HT4 hjl4 HL4
          clear he hE hsame HC f0 f1 eQ
          obtain ⟨f0, f1⟩ := owP17 HT4.out.l hjl4
          have HC2 := hid (does17_any w.heap.size (pg17 Qs j) ⟨5, 0, 0, 0, none, 0, 0, [], 0, false⟩ (by simp) (by simp) (by simp) (by have := HT4.out.la j hjl4; omega) w4 (HT4.out.ok j hjl4) HT4.out.s.size (Rd.empty w4) (fun a ha _ => by cases ha))
          go_wp2_with fail
          refine HC2.out.mono ?_
          rintro e w5 ⟨he, P', hE, hsame⟩
          rw [he]
          obtain rfl := hsame (by show 4 ≤ pk 5 7; rw [pk47.2]; omega)
          have HT5 : Hid (St17 w w5 (n : Int) (Qs.set j (pg17 Qs j)) (.slice (some ⟨g5, 0, none⟩) N cap5)) := hid (HT4.out.step hjl4 hE (Int.le_refl _) (HT4.out.la j hjl4))
          have HL5 : Hid ((Qs.set j (pg17 Qs j)).length = N) := hid (by rw [List.length_set]; exact HL4.out)
          clear he hE hsame HC2 f0 f1
          go_wp2_with fail
          go_roundw
          case rel => exact ⟨j + 1, _, by omega, by go_num, HL5, HT5⟩
          case measure => simp [intOf]; omega
        · have hge2 : ¬ (j : Int) < (N : Int) := by omega
          go_wp2_with fail
          go_ret
          exact ⟨rfl, HT.out.s⟩
end Go.Proofs.Ytakdfckkljbghaa
