/- Stage 21: New, Mark: the program's and the document's. -/
import Derived.Test.YtlebmimlmakogaaGtb
import Derived.Test.YtlebmimlmakogaaHn
namespace Go.Proofs.Ytlebmimlmakogaa
open Go.RowKit
set_option maxRecDepth 100000

abbrev gT : TypeId := 58
abbrev dT : TypeId := 55
theorem gnew_yes (n s : Nat) (h : 2 ≤ n ∧ n ≤ 6 ∧ s < n) (w : World) : Calls Try.prog 13 #[.int .i64 (n : Int), .int .i64 (s : Int)] w fun e w' => e = .returned (.tuple #[.pointer (some ⟨w.heap.size + 1, 0, none⟩), .int .i64 0]) ∧ Gt gT w' w.heap.size (w.heap.size + 1) s w.heap.size n (List.replicate n 0) ∧ Still w w' := by
  have hmk := (makeJ n (by omega)).1
  have HG := hid (Gt.fresh w gT h)
  have HS := hid ((Still.alloc w (.cells (madeCells #[.int .i64 0] n) i64T)).trans (Still.alloc _ (.cells #[.int .i64 (s : Int), .slice (some ⟨w.heap.size, 0, none⟩) n n] gT)))
  obtain ⟨CS, hCS⟩ : ∃ CS, madeCells #[.int .i64 0] n = CS := ⟨_, rfl⟩
  rw [hCS] at HG HS
  simp only [hCS] at hmk
  have d1 : ¬ (n : Int) < 2 := by omega
  have d2 : ¬ (n : Int) > 6 := by omega
  have d3 : ¬ (s : Int) < 0 := by omega
  have d4 : ¬ (s : Int) ≥ (n : Int) := by omega
  clear h hCS
  go_enter Try.func13, Try.ntmps13
  go_wp2_with fail
  go_ret2
  exact ⟨rfl, HG.out, HS.out⟩
theorem gnew_no (a b : Int) (h : ¬ (2 ≤ a ∧ a ≤ 6 ∧ 0 ≤ b ∧ b < a)) (w : World) : Calls Try.prog 13 #[.int .i64 a, .int .i64 b] w fun e w' => e = .returned (.tuple #[.pointer none, .int .i64 1]) ∧ w' = w := by
  by_cases h0 : a < 2
  · clear h
    go_enter Try.func13, Try.ntmps13
    go_wp2_with fail
    go_ret2
    exact ⟨rfl, rfl⟩
  · by_cases h1 : a > 6
    · clear h
      go_enter Try.func13, Try.ntmps13
      go_wp2_with fail
      go_ret2
      exact ⟨rfl, rfl⟩
    · by_cases h2 : b < 0
      · clear h
        go_enter Try.func13, Try.ntmps13
        go_wp2_with fail
        go_ret2
        exact ⟨rfl, rfl⟩
      · by_cases h3 : b ≥ a
        · clear h
          go_enter Try.func13, Try.ntmps13
          go_wp2_with fail
          go_ret2
          exact ⟨rfl, rfl⟩
        · omega
theorem dnew_yes (n s : Nat) (h : 2 ≤ n ∧ n ≤ 6 ∧ s < n) (w : World) : Calls Try.prog 14 #[.int .i64 (n : Int), .int .i64 (s : Int)] w fun e w' => e = .returned (.tuple #[.pointer (some ⟨w.heap.size + 1, 0, none⟩), .int .i64 0]) ∧ Gt dT w' w.heap.size (w.heap.size + 1) s w.heap.size n (List.replicate n 0) ∧ Still w w' := by
  have hmk := (makeJ n (by omega)).1
  have HG := hid (Gt.fresh w dT h)
  have HS := hid ((Still.alloc w (.cells (madeCells #[.int .i64 0] n) i64T)).trans (Still.alloc _ (.cells #[.int .i64 (s : Int), .slice (some ⟨w.heap.size, 0, none⟩) n n] dT)))
  obtain ⟨CS, hCS⟩ : ∃ CS, madeCells #[.int .i64 0] n = CS := ⟨_, rfl⟩
  rw [hCS] at HG HS
  simp only [hCS] at hmk
  have d1 : ¬ (n : Int) < 2 := by omega
  have d2 : ¬ (n : Int) > 6 := by omega
  have d3 : ¬ (s : Int) < 0 := by omega
  have d4 : ¬ (s : Int) ≥ (n : Int) := by omega
  clear h hCS
  go_enter Try.func14, Try.ntmps14
  go_wp2_with fail
  go_ret2
  exact ⟨rfl, HG.out, HS.out⟩
theorem dnew_no (a b : Int) (h : ¬ (2 ≤ a ∧ a ≤ 6 ∧ 0 ≤ b ∧ b < a)) (w : World) : Calls Try.prog 14 #[.int .i64 a, .int .i64 b] w fun e w' => e = .returned (.tuple #[.pointer none, .int .i64 1]) ∧ w' = w := by
  by_cases h0 : a < 2
  · clear h
    go_enter Try.func14, Try.ntmps14
    go_wp2_with fail
    go_ret2
    exact ⟨rfl, rfl⟩
  · by_cases h1 : a > 6
    · clear h
      go_enter Try.func14, Try.ntmps14
      go_wp2_with fail
      go_ret2
      exact ⟨rfl, rfl⟩
    · by_cases h2 : b < 0
      · clear h
        go_enter Try.func14, Try.ntmps14
        go_wp2_with fail
        go_ret2
        exact ⟨rfl, rfl⟩
      · by_cases h3 : b ≥ a
        · clear h
          go_enter Try.func14, Try.ntmps14
          go_wp2_with fail
          go_ret2
          exact ⟨rfl, rfl⟩
        · omega

theorem giso_any {w : World} {B p s g n : Nat} {L : List Int} (h : Gt gT w B p s g n L) (a : Int) : Calls Try.prog 24 #[.pointer (some ⟨p, 0, none⟩), .int .i64 a] w fun e w' => e = .returned (.bool (decide (0 ≤ a ∧ a < n ∧ a ≠ s))) ∧ w' = w := by
  obtain ⟨c0, c1⟩ := h.cells
  clear h
  obtain ⟨v, hv⟩ : ∃ v, decide (0 ≤ a ∧ a < (n : Int) ∧ a ≠ (s : Int)) = v := ⟨_, rfl⟩
  rw [hv]
  have HV := hid hv
  by_cases h0 : a ≥ 0
  · by_cases h1 : a < (n : Int)
    · by_cases h2 : a = (s : Int)
      · have HE : Hid (v = false) := hid (by rw [← hv]; exact decide_eq_false (by omega))
        have e2 : (a != (s : Int)) = false := by simpa using h2
        clear hv h2 HV
        go_enter Try.func24, Try.ntmps24
        go_wp2_with fail
        go_ret
        exact ⟨by rw [HE.out]; rfl, rfl⟩
      · have HE : Hid (v = true) := hid (by rw [← hv]; exact decide_eq_true (by omega))
        have e2 : (a != (s : Int)) = true := by simpa using h2
        clear hv h2 HV
        go_enter Try.func24, Try.ntmps24
        go_wp2_with fail
        go_ret
        exact ⟨by rw [HE.out]; rfl, rfl⟩
    · have HE : Hid (v = false) := hid (by rw [← hv]; exact decide_eq_false (by omega))
      clear hv HV
      go_enter Try.func24, Try.ntmps24
      go_wp2_with fail
      go_ret
      exact ⟨by rw [HE.out]; rfl, rfl⟩
  · have HE : Hid (v = false) := hid (by rw [← hv]; exact decide_eq_false (by omega))
    clear hv HV
    go_enter Try.func24, Try.ntmps24
    go_wp2_with fail
    go_ret
    exact ⟨by rw [HE.out]; rfl, rfl⟩
theorem gmark_no {w : World} {B p s g n : Nat} {L : List Int} (h : Gt gT w B p s g n L) (a f : Int) (hm : ¬ MayG n s a f) : Calls Try.prog 15 #[.pointer (some ⟨p, 0, none⟩), .int .i64 a, .int .i64 f] w fun e w' => e = .returned (.int .i64 210) ∧ w' = w := by
  have HI := hid (giso_any h a)
  by_cases h0 : 0 ≤ a ∧ a < (n : Int) ∧ a ≠ (s : Int)
  · rw [decide_eq_true h0] at HI
    by_cases h1 : f < 0
    · clear h hm h0
      go_enter Try.func15, Try.ntmps15
      go_wp2_with fail
      refine HI.out.mono ?_
      rintro e w' ⟨he, hw⟩
      rw [he, hw]
      clear he hw HI
      go_wp2_with fail
      go_ret
      exact ⟨rfl, rfl⟩
    · have h2 : f > 1099511627776 := by unfold MayG at hm; omega
      clear h hm h0
      go_enter Try.func15, Try.ntmps15
      go_wp2_with fail
      refine HI.out.mono ?_
      rintro e w' ⟨he, hw⟩
      rw [he, hw]
      clear he hw HI
      go_wp2_with fail
      go_ret
      exact ⟨rfl, rfl⟩
  · rw [decide_eq_false h0] at HI
    clear h hm h0
    go_enter Try.func15, Try.ntmps15
    go_wp2_with fail
    refine HI.out.mono ?_
    rintro e w' ⟨he, hw⟩
    rw [he, hw]
    clear he hw HI
    go_wp2_with fail
    go_ret
    exact ⟨rfl, rfl⟩
set_option maxHeartbeats 2000000 in
theorem gmark_yes {w : World} {B p s g n : Nat} {L : List Int} (h : Gt gT w B p s g n L) (i : Nat) (f : Int) (hi : i < n) (hs : i ≠ s) (hf : 0 ≤ f ∧ f ≤ 1099511627776) : Calls Try.prog 15 #[.pointer (some ⟨p, 0, none⟩), .int .i64 (i : Int), .int .i64 f] w fun e w' => e = .returned (.int .i64 0) ∧ Gt gT w' B p s g n (mkL L i f) ∧ Fr (fun k => k = g) w w' := by
  have HI := hid (giso_any h (i : Int))
  rw [decide_eq_true ⟨by omega, by omega, by omega⟩] at HI
  have h1 : ¬ f < 0 := by omega
  have h2 : ¬ f > 1099511627776 := by omega
  have hii : (i : Int) < (n : Int) := by omega
  have hi0 : (0 : Int) ≤ (i : Int) := by omega
  obtain ⟨c0, c1⟩ := h.cells
  have c2 := h.cell hi
  have c3 := h.frozen i
  have HP := hid (h.put (by decide) hi hs hf)
  obtain ⟨x, ex⟩ : ∃ x, L.getD i 0 = x := ⟨_, rfl⟩
  rw [ex] at c2 HP
  have HF := fun y => (Fr.refl (fun k => k = g) w).setCell ⟨g, i, none⟩ (.int .i64 y) (.inl rfl)
  have HF2 := hid HF
  clear h hi hs hf ex HF
  go_enter Try.func15, Try.ntmps15
  go_wp2_with fail
  refine HI.out.mono ?_
  rintro e w' ⟨he, hw⟩
  rw [he, hw]
  clear he hw HI w'
  go_wp2_with fail
  go_region
  go_wp2_with fail
  go_ret
  exact ⟨rfl, HP.out.still (Fr.refl _ _).drew, (HF2.out _).drew⟩
end Go.Proofs.Ytlebmimlmakogaa
