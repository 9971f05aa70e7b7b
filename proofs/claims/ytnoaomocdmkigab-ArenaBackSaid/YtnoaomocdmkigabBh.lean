/- The program's begun, Check. -/
import Derived.Test.YtnoaomocdmkigabBr
namespace Go.Proofs.Ytnoaomocdmkigab
open Go.RowKit
open Pu Gp Ap

theorem stL_zero {s : ByteArray} {n : Nat} (hn : 0 < n) : (stL s n)[0]'(by rw [stL_len]; exact hn) = fnd s 49 0 := by simp [stL]
theorem isR_ex (C N : Nat) (s : ByteArray) (f : Nat) : ∃ I, IsR C N s f I := by
  have d : ∀ i, Decidable (Rch C N s f i) := fun i => Classical.propDecidable _
  have k : ∀ j, decide (Rch C N s f j) = true → Rch C N s f j := fun j h => of_decide_eq_true h
  exact ⟨fun i => decide (Rch C N s f i), decide_eq_true (rch_from C N s f), fun i h1 h2 h3 h4 => decide_eq_true (rch_step k h1 h2 h3 h4), k⟩
/-- what begun answers -/
def BegV (C R : Int) (s : ByteArray) (e : Ending) : Prop := ∃ b : Bool, e = .returned (.bool b) ∧ ChkV C R s (if b then 0 else 62)
set_option maxHeartbeats 4000000 in
set_option maxRecDepth 100000 in
theorem begun_any (C R : Nat) (s : ByteArray) (hform : forB (C : Int) (R : Int) s = true) (w : World) :
    Calls Try.prog 40 #[ar (C : Int) (R : Int) s] w fun e w' => BegV (C : Int) (R : Int) s e ∧ Still w w' := by
  obtain ⟨q1, q2, q3, q4, q5, q6⟩ := form_shape hform
  clear q5
  have p := newA_ab w (C : Int) (R : Int) s
  have HS0 := hid (Still.alloc w (.cells #[.int .i64 (C : Int), .int .i64 (R : Int), .string s] 23))
  have six := mny_six s
  have cl := cst_le s s.size
  have HF := hid hform
  have HC : Hid (∀ u : World, Calls Try.prog 57 #[.string s] u fun e w' => e = .returned (.int .i64 ((cstN s s.size : Nat) : Int)) ∧ w' = u) := hid (fun u => countStarts_any s (by omega) u)
  have HQ := hid (check_same hform)
  have H1 := hid (show 1 ≤ mny s → ∃ f : Nat, fnd s 49 0 = (f : Int) ∧ f < s.size ∧ byt s f ≠ 35 from fun h => by
    rcases fnd_spec s 49 0 (by omega) with ⟨e, _⟩ | ⟨f, e, _, h2, h3, _⟩
    · obtain ⟨f, e', _⟩ := mny_one h
      rw [e] at e'; omega
    · exact ⟨f, e, h2, by omega⟩)
  obtain ⟨n, en⟩ : ∃ n, mny s = n := ⟨_, rfl⟩
  obtain ⟨c, ec⟩ : ∃ c, cstN s s.size = c := ⟨_, rfl⟩
  have HE := hid (And.intro en ec)
  rw [en] at six H1 HQ
  rw [ec] at cl HC HQ
  have HST : Hid (∀ u : World, Calls Try.prog 37 #[ar (C : Int) (R : Int) s] u fun e w' => ∃ ao cap, e = .returned (.slice ao n cap) ∧ OwI 3 w' ao n cap (stL s n) ∧ Still u w' ∧ ∀ a, ao = some a → u.heap.size ≤ a.block) := hid (fun u => by
    have h := startsOf_any (C : Int) (R : Int) s u
    rw [en] at h
    exact h)
  clear en ec hform
  go_enter Try.func40, Try.ntmps40
  obtain ⟨c0, c1, c2, cf⟩ := p.cells
  go_wp2_with fail
  refine (HST.out _).mono ?_
  rintro e w1 ⟨ao, cap, rfl, o1, h1, _⟩
  have p1 := p.still h1
  have HS1 := hid (HS0.out.trans h1)
  clear p h1 HS0 HST c0 c1 c2 cf
  obtain ⟨c0, c1, c2, cf⟩ := p1.cells
  by_cases hn : n < 2
  · have HX := hid (show ChkV (C : Int) (R : Int) s 62 from .inr (.inl ⟨HF.out, by rw [HE.out.1]; exact hn, rfl⟩))
    go_wp2_with fail
    go_ret
    exact ⟨⟨false, rfl, HX.out⟩, HS1.out⟩
  · obtain ⟨f, ef, hf, hff⟩ := H1.out (by omega)
    have HXB := hid (show ∀ I, IsR C s.size s f I → ∀ b : Bool, (decide (c = n) && mrkB I s s.size) = b → ChkV (C : Int) (R : Int) s (if b then 0 else 62) from fun I hI b hb =>
      .inr (.inr ⟨HF.out, by rw [HE.out.1]; omega, f, I, ef, by rw [Int.toNat_natCast]; exact hI, by rw [HE.out.1, HQ.out I, hb]⟩))
    obtain ⟨g, rfl⟩ := o1.head (by omega)
    have cg := o1.rd.byte (k := 0) (by rw [stL_len]; omega)
    rw [stL_zero (by omega), ef] at cg
    simp only [Nat.zero_add] at cg
    clear ef H1 HQ
    have HR := hid (fun u => reachedFrom_any C R s f HF.out hf hff u)
    clear hff
    by_cases hcn : c = n
    · have hcn' : ((c : Int) != (n : Int)) = false := by rw [hcn]; simp
      have HXC := hid (show ∀ I, IsR C s.size s f I → ∀ b : Bool, mrkB I s s.size = b → ChkV (C : Int) (R : Int) s (if b then 0 else 62) from fun I hI b hb => HXB.out I hI b (by rw [hb, decide_eq_true hcn]; rfl))
      clear hcn HXB
      go_wp2_with (go_at_call 57; refine (HC.out _).mono ?_; rintro e w' ⟨he, hw⟩; rw [he, hw]; clear he hw w')
      have f0 := Cl.cell c0
      have f1 := Cl.cell c1
      have f2 := Cl.cell c2
      have f3 := Cl.cell cg
      have hne := Aft.here w1
      refine region_rest 4 (by kernel_rfl) (by kernel_rfl) ?_
      simp only [List.take_succ_cons, List.take_zero, List.drop_succ_cons, List.drop_zero]
      repeat (go_big_quiet_step (fail))
      refine wpQuiet_nil ?_
      intro w2 h2
      have p2 := p1.still h2
      have HS2 := hid (HS1.out.trans h2)
      clear p1 h2 HS1 c0 c1 c2 cf cg o1 f0 f1 f2 f3 hne
      go_wp2_with fail
      refine (HR.out _).mono ?_
      rintro e w3 ⟨G, I, rfl, hI, r3, h3⟩
      have p3 := p2.still h3
      have HS3 := hid (HS2.out.trans h3)
      have HXI := hid (fun b hb => HXC.out I hI b hb)
      clear p2 h3 HS2 HXC hI HR
      obtain ⟨c0, c1, c2, cf⟩ := p3.cells
      go_wp2_with fail
      go_loop [27] (fun v => ∃ j : Nat, j ≤ s.size ∧ v = .int .i64 (j : Int) ∧ mrkB I s j = true) (fun v => s.size - (intOf v).toNat)
      case atStart => exact ⟨0, by omega, rfl, rfl⟩
      case round =>
        obtain ⟨j, hj, rfl, hm⟩ := hrel
        by_cases hlt : j < s.size
        · have e := byt_at s j hlt
          have kc := r3.cell hlt
          have HM1 := hid (show mrkB I s (j + 1) = (!((decide (49 ≤ byt s j) && decide (byt s j ≤ 54)) || byt s j == 42) || I j) by rw [mrkB, hm]; rfl)
          obtain ⟨b, eb⟩ : ∃ b, byt s j = b := ⟨_, rfl⟩
          rw [eb] at e HM1
          have HM2 := hid (show marC b = ((decide (49 ≤ b) && decide (b ≤ 54)) || b == 42) from rfl)
          clear eb hm
          cases hb : marC b with
          | false =>
            have HK := hid (fun u => marked_is b hb u)
            have HN := hid (show mrkB I s (j + 1) = true by rw [HM1.out, ← HM2.out, hb]; rfl)
            clear hb HM1 HM2 kc
            go_wp2_with (go_at_call 59; refine (HK.out _).mono ?_; rintro e w' ⟨he, hw⟩; rw [he, hw]; clear he hw w')
            go_round
            case rel => exact ⟨j + 1, by omega, by go_num, HN.out⟩
            case measure => simp [intOf]; omega
          | true =>
            have HK := hid (fun u => marked_is b hb u)
            have HN := hid (show mrkB I s (j + 1) = I j by rw [HM1.out, ← HM2.out, hb]; rfl)
            clear hb HM1 HM2
            cases hI : I j with
            | true =>
              rw [hI] at kc HN
              clear hI
              go_wp2_with (go_at_call 59; refine (HK.out _).mono ?_; rintro e w' ⟨he, hw⟩; rw [he, hw]; clear he hw w')
              go_round
              case rel => exact ⟨j + 1, by omega, by go_num, HN.out⟩
              case measure => simp [intOf]; omega
            | false =>
              rw [hI] at kc HN
              have HZ := hid (HXI.out false (mrk_more (n := j + 1) (m := s.size) (by omega) HN.out))
              clear hI
              go_wp2_with (go_at_call 59; refine (HK.out _).mono ?_; rintro e w' ⟨he, hw⟩; rw [he, hw]; clear he hw w')
              go_ret
              exact ⟨⟨false, rfl, HZ.out⟩, HS3.out⟩
        · have HZ := hid (HXI.out true (by rw [show s.size = j by omega]; exact hm))
          clear hm
          go_wp2_with fail
          go_ret
          exact ⟨⟨true, rfl, HZ.out⟩, HS3.out⟩
    · have hcn' : ((c : Int) != (n : Int)) = true := by simp; omega
      have HZ := hid (show ChkV (C : Int) (R : Int) s 62 by
        obtain ⟨I, hI⟩ := isR_ex C s.size s f
        exact HXB.out I hI false (by rw [decide_eq_false hcn]; rfl))
      clear hcn HXB HR
      go_wp2_with (go_at_call 57; refine (HC.out _).mono ?_; rintro e w' ⟨he, hw⟩; rw [he, hw]; clear he hw w')
      go_ret
      exact ⟨⟨false, rfl, HZ.out⟩, HS1.out⟩
/-- what Check answers, over every map -/
theorem mapcheck_any (C R : Int) (s : ByteArray) (w : World) :
    Calls Try.prog 22 #[ar C R s] w fun e w' => ∃ v, e = .returned (.int .i64 v) ∧ ChkV C R s v ∧ Still w w' := by
  have p := newA_ab w C R s
  have HS0 := hid (Still.alloc w (.cells #[.int .i64 C, .int .i64 R, .string s] 23))
  obtain ⟨c0, c1, c2, cf⟩ := p.cells
  cases h : forB C R s with
  | false =>
    have HX := hid (show ChkV C R s 61 from .inl ⟨h, rfl⟩)
    have HF := hid (fun u => formed_is C R s h u)
    clear h
    go_enter Try.func22, Try.ntmps22
    go_wp2_with fail
    refine (HF.out _).mono ?_
    rintro e w1 ⟨rfl, h1⟩
    have HS1 := hid (HS0.out.trans h1)
    clear h1 p HS0 c0 c1 c2 cf
    go_wp2_with fail
    go_ret
    exact ⟨61, rfl, HX.out, HS1.out⟩
  | true =>
    obtain ⟨q1, q2, q3, q4, q5, q6⟩ := form_shape h
    obtain ⟨c, rfl⟩ : ∃ c : Nat, C = c := ⟨C.toNat, by omega⟩
    obtain ⟨r, rfl⟩ : ∃ r : Nat, R = r := ⟨R.toNat, by omega⟩
    have HB := hid (fun u => begun_any c r s h u)
    have HF := hid (fun u => formed_is (c : Int) (r : Int) s h u)
    clear h q5
    go_enter Try.func22, Try.ntmps22
    go_wp2_with fail
    refine (HF.out _).mono ?_
    rintro e w1 ⟨rfl, h1⟩
    have p1 := p.still h1
    have HS1 := hid (HS0.out.trans h1)
    clear h1 p HS0 c0 c1 c2 cf
    obtain ⟨c0, c1, c2, cf⟩ := p1.cells
    go_wp2_with fail
    refine (HB.out _).mono ?_
    rintro e w2 ⟨⟨b, rfl, hv⟩, h2⟩
    have HS2 := hid (HS1.out.trans h2)
    clear h2 p1 HS1 c0 c1 c2 cf
    have HV := hid hv
    clear hv
    cases b with
    | true =>
      go_wp2_with fail
      go_ret
      exact ⟨0, rfl, HV.out, HS2.out⟩
    | false =>
      go_wp2_with fail
      go_ret
      exact ⟨62, rfl, HV.out, HS2.out⟩
end Go.Proofs.Ytnoaomocdmkigab
