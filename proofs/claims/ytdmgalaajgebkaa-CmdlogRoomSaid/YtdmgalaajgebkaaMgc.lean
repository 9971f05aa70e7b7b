/- The program's at, keeps, on, New. -/
import Derived.Test.YtdmgalaajgebkaaMgb
namespace Go.Proofs.Ytdmgalaajgebkaa
open Go.RowKit
set_option maxRecDepth 100000

theorem cm_at (p n cap i : Nat) (ao : Option Addr) (f : Int) (hf : 0 ≤ f ∧ f ≤ 9223372036854775807) (hi : f % 112 = (i : Int)) (w : World) (hc : w.cell? ⟨p, 3 + i, none⟩ = some (.slice ao n cap)) : Calls Try.prog 46 #[.pointer (some ⟨p, 3, none⟩), .int .i64 f] w fun e w' => e = .returned (.slice ao n cap) ∧ Still w w' := by
  have hil : i < 112 := by omega
  have H := hid (fun w => cm_place f hf w)
  rw [hi] at H
  have c0 := Cl.cell hc
  have hne := Aft.here w
  have h0 : (0 : Int) ≤ (i : Int) := by omega
  have h1 : (i : Int) < 112 := by omega
  clear hi hc hf
  go_enter Try.func46, Try.ntmps46
  go_wp2_with fail
  refine region_all (by kernel_rfl) (by kernel_rfl) ?_
  repeat (go_big_quiet_step ((first | (go_at_call 50; with_reducible exact Calls.cl_same (H.out _)) | rfl)))
  refine wpQuiet_nil ?_
  intro w2 h2
  have HS := hid h2
  clear h2 hne c0
  go_wp2_with fail
  go_ret
  exact ⟨rfl, HS.out⟩
/-- which frames are kept -/
def kpB (s : Lgs) (f : Int) : Bool := decide (s.ba < f ∧ f ≤ s.ba + 112)
theorem kpB_t {s : Lgs} {f : Int} (h : kpB s f = true) : s.ba < f ∧ f ≤ s.ba + 112 := of_decide_eq_true h
theorem kpB_f {s : Lgs} {f : Int} (h : kpB s f = false) : ¬ (s.ba < f ∧ f ≤ s.ba + 112) := of_decide_eq_false h
theorem cm_keeps (s : Lgs) (B p : Nat) (vs : Nat → Value) (f : Int) (w : World) (h : Lm w B p s vs) : Calls Try.prog 38 #[.pointer (some ⟨p, 0, none⟩), .int .i64 f] w fun e w' => e = .returned (.bool (kpB s f)) ∧ w' = w := by
  obtain ⟨_, _, c0, _⟩ := h.cell
  have H := hid (cm_last s B p vs w h)
  obtain ⟨k, ek⟩ : ∃ k, kpB s f = k := ⟨_, rfl⟩
  have HK := hid ek
  unfold kpB at ek
  rw [HK.out]
  obtain ⟨z, ez⟩ : ∃ z, s.ba = z := ⟨_, rfl⟩
  rw [ez] at c0 H ek
  clear h ez HK
  obtain ⟨y, ey⟩ : ∃ y, z + 112 = y := ⟨_, rfl⟩
  rw [ey] at H ek
  clear ey
  by_cases h1 : f > z
  · by_cases h2 : f ≤ y
    · obtain rfl : k = true := by rw [← ek]; exact decide_eq_true ⟨h1, h2⟩
      clear ek
      go_enter Try.func38, Try.ntmps38
      go_wp2_with fail
      refine H.out.mono ?_
      rintro e w2 ⟨he, hw⟩
      rw [he, hw]
      clear he hw w2 H
      go_wp2_with fail
      go_ret
      exact ⟨rfl, rfl⟩
    · obtain rfl : k = false := by rw [← ek]; exact decide_eq_false (by omega)
      clear ek
      go_enter Try.func38, Try.ntmps38
      go_wp2_with fail
      refine H.out.mono ?_
      rintro e w2 ⟨he, hw⟩
      rw [he, hw]
      clear he hw w2 H
      go_wp2_with fail
      go_ret
      exact ⟨by show Ending.returned (Value.bool (decide (f ≤ y))) = _; rw [decide_eq_false (by omega)], rfl⟩
  · obtain rfl : k = false := by rw [← ek]; exact decide_eq_false (by omega)
    clear ek H
    go_enter Try.func38, Try.ntmps38
    go_wp2_with fail
    go_ret
    exact ⟨rfl, rfl⟩
theorem on_out {s : Lgs} (h : Lo s) {f : Int} (hf : ¬ (s.ba < f ∧ f ≤ s.ba + 112)) : onF f s.S = [] := by
  unfold onF
  rw [List.filter_eq_nil_iff]
  intro x hx
  have := h.fr x hx
  simp; omega
/-- the row of a kept frame -/
theorem Lm.row {w : World} {B p : Nat} {s : Lgs} {vs : Nat → Value} (h : Lm w B p s vs) {f : Int} (hf : s.ba < f ∧ f ≤ s.ba + 112) : ∃ (i : Nat) (ao : Option Addr) (cap : Nat), i < 112 ∧ f % 112 = (i : Int) ∧ vs i = .slice ao (onF f s.S).length cap ∧ OwG KE enT w B (.slice ao (onF f s.S).length cap) (onF f s.S) ∧ w.cell? ⟨p, 3 + i, none⟩ = some (.slice ao (onF f s.S).length cap) := by
  have hi : (f % 112).toNat < 112 := by omega
  have ho := h.ow _ hi
  rw [plc_on h.ok hf.1 hf.2] at ho
  obtain ⟨ao, cap, e, _⟩ := ho.slice
  have hc := h.place hi
  rw [e] at ho hc
  exact ⟨_, ao, cap, hi, by omega, e, ho, hc⟩
theorem cm_on (s : Lgs) (B p : Nat) (vs : Nat → Value) (f : Int) (w : World) (h : Lm w B p s vs) : Calls Try.prog 36 #[.pointer (some ⟨p, 0, none⟩), .int .i64 f] w fun e w' => ∃ v, e = .returned v ∧ OwG KE enT w B v (onF f s.S) ∧ Still w w' := by
  have H := hid (cm_keeps s B p vs f w h)
  obtain ⟨k, ek⟩ : ∃ k, kpB s f = k := ⟨_, rfl⟩
  rw [ek] at H
  have hlt := h.lt
  cases k with
  | true =>
    have hk := kpB_t ek
    obtain ⟨i, ao, cap, hi, hf, _, ho, hc⟩ := h.row hk
    have hb := h.ok.b
    have HA := hid (cm_at p (onF f s.S).length cap i ao f (by omega) hf w hc)
    have HO := hid ho
    obtain ⟨n, en⟩ : ∃ n, (onF f s.S).length = n := ⟨_, rfl⟩
    rw [en] at HA HO
    clear ho hc h en hk hb hf ek
    go_enter Try.func36, Try.ntmps36
    go_wp2_with fail
    refine H.out.mono ?_
    rintro e w2 ⟨he, hw⟩
    rw [he, hw]
    clear he hw w2 H
    go_wp2_with fail
    refine HA.out.mono ?_
    rintro e w2 ⟨he, hs⟩
    rw [he]
    have HS := hid hs
    clear he hs HA
    go_wp2_with fail
    go_ret
    exact ⟨_, rfl, HO.out, HS.out⟩
  | false =>
    have HE := hid (on_out h.ok (kpB_f ek))
    clear h ek
    go_enter Try.func36, Try.ntmps36
    go_wp2_with fail
    refine H.out.mono ?_
    rintro e w2 ⟨he, hw⟩
    rw [he, hw]
    clear he hw w2 H
    go_wp2_with fail
    go_ret
    exact ⟨_, rfl, by rw [HE.out]; exact OwG.nil _ _, Fr.refl _ _⟩
/-- what New takes -/
def mayNB (a b : Int) : Bool := decide (2 ≤ a ∧ a ≤ 6 ∧ 2 ≤ b ∧ b ≤ 5)
def zV : Nat → Value := fun _ => .slice none 0 0
theorem lcs_new (a b : Int) : lcs ⟨a, b, 0, []⟩ zV = (Try.zeroCells75.setIfInBounds 0 (.int .i64 a)).setIfInBounds 1 (.int .i64 b) := by kernel_rfl
theorem lo_new {a b : Int} (h : 2 ≤ a ∧ a ≤ 6 ∧ 2 ≤ b ∧ b ≤ 5) : Lo ⟨a, b, 0, []⟩ := ⟨⟨h.1, h.2.1⟩, h.2.2, ⟨Int.le_refl _, show (0 : Int) ≤ 1099511627776 by decide⟩, List.Pairwise.nil, fun x h => (by cases h), fun x h => (by cases h), fun x h => (by cases h), fun _ _ => Nat.zero_le _⟩
theorem lm_new (w : World) {a b : Int} (h : 2 ≤ a ∧ a ≤ 6 ∧ 2 ≤ b ∧ b ≤ 5) : Lm (w.alloc (.cells (lcs ⟨a, b, 0, []⟩ zV) lgT)) w.heap.size w.heap.size ⟨a, b, 0, []⟩ zV :=
  ⟨heap_alloc_new w _, Nat.le_refl _, fun i _ => OwG.nil _ _, fun i j _ _ _ k e => (by cases e), lo_new h⟩
theorem cm_new (a b : Int) (w : World) : Calls Try.prog 21 #[.int .i64 a, .int .i64 b] w fun e w' => (mayNB a b = true ∧ e = .returned (.tuple #[.pointer (some ⟨w.heap.size, 0, none⟩), .int .i64 0]) ∧ w' = w.alloc (.cells (lcs ⟨a, b, 0, []⟩ zV) lgT)) ∨ (mayNB a b = false ∧ e = .returned (.tuple #[.pointer none, .int .i64 1]) ∧ w' = w) := by
  by_cases h1 : a < 2
  · have HE : Hid (mayNB a b = false) := hid (decide_eq_false (by omega))
    go_enter Try.func21, Try.ntmps21
    go_wp2_with fail
    go_ret2
    exact .inr ⟨HE.out, rfl, rfl⟩
  · by_cases h2 : a > 6
    · have HE : Hid (mayNB a b = false) := hid (decide_eq_false (by omega))
      go_enter Try.func21, Try.ntmps21
      go_wp2_with fail
      go_ret2
      exact .inr ⟨HE.out, rfl, rfl⟩
    · by_cases h3 : b < 2
      · have HE : Hid (mayNB a b = false) := hid (decide_eq_false (by omega))
        go_enter Try.func21, Try.ntmps21
        go_wp2_with fail
        go_ret2
        exact .inr ⟨HE.out, rfl, rfl⟩
      · by_cases h4 : b > 5
        · have HE : Hid (mayNB a b = false) := hid (decide_eq_false (by omega))
          go_enter Try.func21, Try.ntmps21
          go_wp2_with fail
          go_ret2
          exact .inr ⟨HE.out, rfl, rfl⟩
        · have HE : Hid (mayNB a b = true) := hid (decide_eq_true (by omega))
          have HL := hid (lcs_new a b)
          go_enter Try.func21, Try.ntmps21
          go_wp2_with fail
          go_ret2
          exact .inl ⟨HE.out, rfl, by rw [HL.out]⟩
end Go.Proofs.Ytdmgalaajgebkaa
