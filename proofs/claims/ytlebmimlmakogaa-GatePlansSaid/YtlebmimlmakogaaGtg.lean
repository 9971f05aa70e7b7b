/- Stage 21, the document's Mark, Least, Plan, Same. -/
import Derived.Test.YtlebmimlmakogaaGtf
namespace Go.Proofs.Ytlebmimlmakogaa
open Go.RowKit
set_option maxRecDepth 100000

theorem dmark_no {w : World} {B p s g n : Nat} {L : List Int} (h : Gt dT w B p s g n L) (a f : Int) (hm : ¬ MayG n s a f) : Calls Try.prog 16 #[.pointer (some ⟨p, 0, none⟩), .int .i64 a, .int .i64 f] w fun e w' => e = .returned (.int .i64 210) ∧ w' = w := by
  obtain ⟨c0, c1⟩ := h.cells
  unfold MayG at hm
  clear h
  by_cases h0 : a < 0
  · clear hm
    go_enter Try.func16, Try.ntmps16
    go_wp2_with fail
    go_ret
    exact ⟨rfl, rfl⟩
  · by_cases h1 : a ≥ (n : Int)
    · clear hm
      go_enter Try.func16, Try.ntmps16
      go_wp2_with fail
      go_ret
      exact ⟨rfl, rfl⟩
    · by_cases h2 : a = (s : Int)
      · have e2 : (a == (s : Int)) = true := beq_iff_eq.2 h2
        clear h2
        clear hm
        go_enter Try.func16, Try.ntmps16
        go_wp2_with fail
        go_ret
        exact ⟨rfl, rfl⟩
      · have e2 : (a == (s : Int)) = false := beq_eq_false_iff_ne.2 h2
        by_cases h3 : f < 0
        · clear hm
          go_enter Try.func16, Try.ntmps16
          go_wp2_with fail
          go_ret
          exact ⟨rfl, rfl⟩
        · have h9 : f > 1099511627776 := by omega
          clear hm h2
          go_enter Try.func16, Try.ntmps16
          go_wp2_with fail
          go_ret
          exact ⟨rfl, rfl⟩
theorem mkL_same {L : List Int} {i : Nat} (hi : i < L.length) {f : Int} (hf : f ≤ L.getD i 0) : mkL L i f = L := by
  unfold mkL
  rw [Int.max_eq_left hf]
  have : L.getD i 0 = L[i] := by simp [List.getD, hi]
  rw [this, List.set_getElem_self]
theorem dmark_yes {w : World} {B p s g n : Nat} {L : List Int} (h : Gt dT w B p s g n L) (i : Nat) (f : Int) (hi : i < n) (hs : i ≠ s) (hf : 0 ≤ f ∧ f ≤ 1099511627776) : Calls Try.prog 16 #[.pointer (some ⟨p, 0, none⟩), .int .i64 (i : Int), .int .i64 f] w fun e w' => e = .returned (.int .i64 0) ∧ Gt dT w' B p s g n (mkL L i f) ∧ Fr (fun k => k = g) w w' := by
  have d0 : ¬ (i : Int) < 0 := by omega
  have d1 : ¬ (i : Int) ≥ (n : Int) := by omega
  have d2 : ((i : Int) == (s : Int)) = false := beq_eq_false_iff_ne.2 (by omega)
  have d3 : ¬ f < 0 := by omega
  have d4 : ¬ f > 1099511627776 := by omega
  have hii : (i : Int) < (n : Int) := by omega
  obtain ⟨c0, c1⟩ := h.cells
  have c2 := h.cell hi
  have c3 := h.frozen i
  have HP := hid (h.put (by decide) hi hs hf)
  have HG := hid h
  have HN := hid h.len
  obtain ⟨x, ex⟩ : ∃ x, L.getD i 0 = x := ⟨_, rfl⟩
  have HX := hid ex
  rw [ex] at c2 HP
  have HF2 := hid (fun y => (Fr.refl (fun k => k = g) w).setCell ⟨g, i, none⟩ (.int .i64 y) (.inl rfl))
  have HI := hid hi
  clear h hi hs hf ex
  by_cases hx : f > x
  · rw [Int.max_eq_right (by omega)] at HP
    go_enter Try.func16, Try.ntmps16
    go_wp2_with fail
    go_ret
    exact ⟨rfl, HP.out, HF2.out _⟩
  · have HE : Hid (mkL L i f = L) := hid (mkL_same (by rw [HN.out]; exact HI.out) (by rw [HX.out]; omega))
    go_enter Try.func16, Try.ntmps16
    go_wp2_with fail
    go_ret
    exact ⟨rfl, by rw [HE.out]; exact HG.out, Fr.refl _ _⟩
/-- the least one of the first k -/
structure Dl (s k : Nat) (L : List Int) (v : Int) : Prop where
  hi : v ≤ 1099511627776
  le : ∀ i, i < k → i ≠ s → v ≤ L.getD i 0
  ex : v = 1099511627776 ∨ ∃ i, i < k ∧ i ≠ s ∧ L.getD i 0 = v
theorem Dl.on {s k : Nat} {L : List Int} {v : Int} (h : Dl s k L v) (hk : ¬ (k ≠ s ∧ L.getD k 0 < v)) : Dl s (k + 1) L v :=
  ⟨h.hi, fun i hi hs => by
    rcases Nat.lt_or_ge i k with h1 | h1
    · exact h.le i h1 hs
    · obtain rfl : i = k := by omega
      have : ¬ L.getD i 0 < v := fun e => hk ⟨hs, e⟩
      omega, h.ex.imp id (fun ⟨i, h1, h2⟩ => ⟨i, by omega, h2⟩)⟩
theorem Dl.new {s k : Nat} {L : List Int} {v : Int} (h : Dl s k L v) (hk : k ≠ s) (hv : L.getD k 0 < v) : Dl s (k + 1) L (L.getD k 0) :=
  ⟨by have := h.hi; omega, fun i hi hs => by
    rcases Nat.lt_or_ge i k with h1 | h1
    · have := h.le i h1 hs; omega
    · obtain rfl : i = k := by omega
      omega, .inr ⟨k, by omega, hk, rfl⟩⟩
theorem Dl.end {t : TypeId} {w : World} {B p s g n : Nat} {L : List Int} {v : Int} (h : Dl s n L v) (hg : Gt t w B p s g n L) : v = lea s L := by
  refine IsL.one (s := s) (L := L) ⟨fun i hi hs => h.le i (by rw [← hg.len]; exact hi) hs, ?_⟩ (isL_lea (by rw [hg.len]; exact hg.sl) (by rw [hg.len]; exact hg.l2))
  rcases h.ex with e | ⟨i, hi, hs, e⟩
  · obtain ⟨j, hj, hs⟩ : ∃ j, j < n ∧ j ≠ s := by
      have := hg.l2
      by_cases h0 : s = 0
      · exact ⟨1, by omega, by omega⟩
      · exact ⟨0, by omega, fun e => h0 e.symm⟩
    have h1 := h.le j hj hs
    have h2 := (hg.mb j hj).2
    exact ⟨j, by rw [hg.len]; exact hj, hs, by omega⟩
  · exact ⟨i, by rw [hg.len]; exact hi, hs, e⟩
set_option maxHeartbeats 1000000 in
theorem dleast_any {w : World} {B p s g n : Nat} {L : List Int} (h : Gt dT w B p s g n L) : Calls Try.prog 19 #[.pointer (some ⟨p, 0, none⟩)] w fun e w' => e = .returned (.int .i64 (lea s L)) ∧ w' = w := by
  obtain ⟨c0, c1⟩ := h.cells
  have HG := hid h
  have hl6 := h.l6
  clear h
  go_enter Try.func19, Try.ntmps19
  go_wp2_with fail
  go_loopw [4, 3] (fun u v wr => wr = w ∧ ∃ (k : Nat) (y : Int), k ≤ n ∧ u = .int .i64 (k : Int) ∧ v = .int .i64 y ∧ Hid (Dl s k L y)) (fun u _ _ => n - (intOf u).toNat)
  case atStart => exact ⟨rfl, 0, _, by omega, rfl, rfl, hid ⟨by omega, fun i hi => by omega, .inl rfl⟩⟩
  case round =>
    obtain ⟨rfl, k, y, hk, rfl, rfl, HD⟩ := hrel
    by_cases hkn : k < n
    · have hlt : (k : Int) < (n : Int) := by omega
      have hk0 : (0 : Int) ≤ (k : Int) := by omega
      have c2 := HG.out.cell hkn
      by_cases hs : k = s
      · have e0 : ((k : Int) != (s : Int)) = false := by simp; omega
        have HD2 := hid (HD.out.on (fun e => e.1 hs))
        clear hs HD
        go_wp2_with fail
        go_roundw
        case rel => exact ⟨by trivial, k + 1, _, by omega, by go_num, rfl, HD2⟩
        case measure => simp [intOf]; omega
      · have e0 : ((k : Int) != (s : Int)) = true := by simp; omega
        by_cases hy : L.getD k 0 < y
        · have HD2 := hid (HD.out.new hs hy)
          obtain ⟨x, ex⟩ : ∃ x, L.getD k 0 = x := ⟨_, rfl⟩
          rw [ex] at c2 HD2 hy
          clear hs HD ex
          go_wp2_with fail
          go_roundw
          case rel => exact ⟨by trivial, k + 1, _, by omega, by go_num, rfl, HD2⟩
          case measure => simp [intOf]; omega
        · have HD2 := hid (HD.out.on (fun e => hy e.2))
          obtain ⟨x, ex⟩ : ∃ x, L.getD k 0 = x := ⟨_, rfl⟩
          rw [ex] at c2 hy
          clear hs HD ex
          go_wp2_with fail
          go_roundw
          case rel => exact ⟨by trivial, k + 1, _, by omega, by go_num, rfl, HD2⟩
          case measure => simp [intOf]; omega
    · have hge : ¬ (k : Int) < (n : Int) := by omega
      obtain rfl : k = n := by omega
      have HE := hid (HD.out.end HG.out)
      clear HD
      go_wp2_with fail
      go_ret
      exact ⟨by rw [← HE.out]; rfl, rfl⟩
theorem dplan_no (a h l : Int) (hm : ¬ MayL a h l) (p : Nat) (w : World) : Calls Try.prog 18 #[.pointer (some ⟨p, 0, none⟩), .int .i64 a, .int .i64 h, .int .i64 l] w fun e w' => e = .returned (.tuple #[.agg #[.int .i64 0, .bool false], .int .i64 1]) ∧ Still w w' := by
  have r1 : Pn (w.alloc (.cells #[.int .i64 0, .bool false] plTy)) w.heap.size 0 false := heap_alloc_new w _
  have HF := hid (Still.alloc w (.cells #[.int .i64 0, .bool false] plTy))
  obtain ⟨d0, d1, df⟩ := r1.cells
  unfold MayL at hm
  by_cases h0 : h < 0
  · clear hm
    go_enter Try.func18, Try.ntmps18
    go_wp2_with fail
    (try simp only [Exit.inBlock, Exit.then])
    exact bodyPost_ret (r1.resb rfl _ _ rfl rfl) rfl ⟨rfl, HF.out⟩
  · by_cases h1 : a < h
    · clear hm
      go_enter Try.func18, Try.ntmps18
      go_wp2_with fail
      (try simp only [Exit.inBlock, Exit.then])
      exact bodyPost_ret (r1.resb rfl _ _ rfl rfl) rfl ⟨rfl, HF.out⟩
    · by_cases h2 : a > 1099511627776
      · clear hm
        go_enter Try.func18, Try.ntmps18
        go_wp2_with fail
        (try simp only [Exit.inBlock, Exit.then])
        exact bodyPost_ret (r1.resb rfl _ _ rfl rfl) rfl ⟨rfl, HF.out⟩
      · have hw : IntKind.i64.wrap (a - h) = a - h := by rw [IntKind.wrap_i64] <;> omega
        by_cases h3 : a - h > 48
        · clear hm
          go_enter Try.func18, Try.ntmps18
          go_wp2_with fail
          (try simp only [Exit.inBlock, Exit.then])
          exact bodyPost_ret (r1.resb rfl _ _ rfl rfl) rfl ⟨rfl, HF.out⟩
        · by_cases h4 : l < 1
          · clear hm
            go_enter Try.func18, Try.ntmps18
            go_wp2_with fail
            (try simp only [Exit.inBlock, Exit.then])
            exact bodyPost_ret (r1.resb rfl _ _ rfl rfl) rfl ⟨rfl, HF.out⟩
          · have h9 : l > 47 := by omega
            clear hm
            go_enter Try.func18, Try.ntmps18
            go_wp2_with fail
            (try simp only [Exit.inBlock, Exit.then])
            exact bodyPost_ret (r1.resb rfl _ _ rfl rfl) rfl ⟨rfl, HF.out⟩
set_option maxHeartbeats 2000000 in
theorem dplan_yes {w : World} {B p s g n : Nat} {L : List Int} (hg : Gt dT w B p s g n L) (a h l : Int) (hm : MayL a h l) : Calls Try.prog 18 #[.pointer (some ⟨p, 0, none⟩), .int .i64 a, .int .i64 h, .int .i64 l] w fun e w' => e = .returned (.tuple #[.agg #[.int .i64 (plT (lea s L) a h l), .bool (a - plT (lea s L) a h l == 48)], .int .i64 0]) ∧ Still w w' := by
  have r1 : Pn (w.alloc (.cells #[.int .i64 0, .bool false] plTy)) w.heap.size 0 false := heap_alloc_new w _
  have hs1 := Still.alloc w (.cells #[.int .i64 0, .bool false] plTy)
  have HL := hid (dleast_any (hg.still hs1))
  obtain ⟨d0, d1, df⟩ := r1.cells
  have HR := hid r1
  have HF := hid hs1
  obtain ⟨x, ex⟩ : ∃ x, lea s L = x := ⟨_, rfl⟩
  rw [ex] at HL ⊢
  obtain ⟨b0, b1, b2, b3, b4, b5⟩ := hm
  clear hg ex r1 hs1
  have e0 : ¬ h < 0 := by omega
  have e1 : ¬ a < h := by omega
  have e2 : ¬ a > 1099511627776 := by omega
  have e3 : ¬ a - h > 48 := by omega
  have e4 : ¬ l < 1 := by omega
  have e5 : ¬ l > 47 := by omega
  have hw1 : IntKind.i64.wrap (a + 1) = a + 1 := by rw [IntKind.wrap_i64] <;> omega
  have hw2 : IntKind.i64.wrap (a + 1 - l) = a + 1 - l := by rw [IntKind.wrap_i64] <;> omega
  have hw3 : IntKind.i64.wrap (h + 4) = h + 4 := by rw [IntKind.wrap_i64] <;> omega
  have hw5 : IntKind.i64.wrap (a - h) = a - h := by rw [IntKind.wrap_i64] <;> omega
  obtain ⟨W, eW⟩ : ∃ W, w.alloc (.cells #[.int .i64 0, .bool false] plTy) = W := ⟨_, rfl⟩
  rw [eW] at HL HR HF d0 d1 df
  go_enter Try.func18, Try.ntmps18
  go_wp2_with fail
  refine HL.out.mono ?_
  rintro e w' ⟨he, hw⟩
  rw [he, hw]
  clear he hw w' HL eW e0 e1 e2 e3 e4 e5 hw1 hw2
  by_cases t0 : x < a + 1 - l
  · by_cases t1 : h + 4 < x
    · by_cases t2 : h + 4 < h
      · omega
      · have hb : h ≤ h + 4 ∧ h + 4 ≤ h + 4 := by omega
        have hw4 : IntKind.i64.wrap (a - (h + 4)) = a - (h + 4) := by rw [IntKind.wrap_i64] <;> omega
        have HP : Hid (plT x a h l = h + 4) := hid (by unfold plT; omega)
        clear hb
        go_wp2_with fail
        (try simp only [Exit.inBlock, Exit.then])
        exact bodyPost_ret ((HR.out.set _ _).resb rfl _ _ rfl rfl) rfl ⟨by rw [HP.out]; rfl, pn_fr HF.out _ _ _ (.inr (Nat.le_refl _))⟩
    · by_cases t2 : x < h
      · have hb : h ≤ h ∧ h ≤ h + 4 := by omega
        have hw4 : IntKind.i64.wrap (a - h) = a - h := by rw [IntKind.wrap_i64] <;> omega
        have HP : Hid (plT x a h l = h) := hid (by unfold plT; omega)
        clear hb
        go_wp2_with fail
        (try simp only [Exit.inBlock, Exit.then])
        exact bodyPost_ret ((HR.out.set _ _).resb rfl _ _ rfl rfl) rfl ⟨by rw [HP.out]; rfl, pn_fr HF.out _ _ _ (.inr (Nat.le_refl _))⟩
      · have hb : h ≤ x ∧ x ≤ h + 4 := by omega
        have hw4 : IntKind.i64.wrap (a - x) = a - x := by rw [IntKind.wrap_i64] <;> omega
        have HP : Hid (plT x a h l = x) := hid (by unfold plT; omega)
        clear hb
        go_wp2_with fail
        (try simp only [Exit.inBlock, Exit.then])
        exact bodyPost_ret ((HR.out.set _ _).resb rfl _ _ rfl rfl) rfl ⟨by rw [HP.out]; rfl, pn_fr HF.out _ _ _ (.inr (Nat.le_refl _))⟩
  · by_cases t1 : h + 4 < a + 1 - l
    · by_cases t2 : h + 4 < h
      · omega
      · have hb : h ≤ h + 4 ∧ h + 4 ≤ h + 4 := by omega
        have hw4 : IntKind.i64.wrap (a - (h + 4)) = a - (h + 4) := by rw [IntKind.wrap_i64] <;> omega
        have HP : Hid (plT x a h l = h + 4) := hid (by unfold plT; omega)
        clear hb
        go_wp2_with fail
        (try simp only [Exit.inBlock, Exit.then])
        exact bodyPost_ret ((HR.out.set _ _).resb rfl _ _ rfl rfl) rfl ⟨by rw [HP.out]; rfl, pn_fr HF.out _ _ _ (.inr (Nat.le_refl _))⟩
    · by_cases t2 : a + 1 - l < h
      · have hb : h ≤ h ∧ h ≤ h + 4 := by omega
        have hw4 : IntKind.i64.wrap (a - h) = a - h := by rw [IntKind.wrap_i64] <;> omega
        have HP : Hid (plT x a h l = h) := hid (by unfold plT; omega)
        clear hb
        go_wp2_with fail
        (try simp only [Exit.inBlock, Exit.then])
        exact bodyPost_ret ((HR.out.set _ _).resb rfl _ _ rfl rfl) rfl ⟨by rw [HP.out]; rfl, pn_fr HF.out _ _ _ (.inr (Nat.le_refl _))⟩
      · have hb : h ≤ a + 1 - l ∧ a + 1 - l ≤ h + 4 := by omega
        have hw4 : IntKind.i64.wrap (a - (a + 1 - l)) = a - (a + 1 - l) := by rw [IntKind.wrap_i64] <;> omega
        have HP : Hid (plT x a h l = a + 1 - l) := hid (by unfold plT; omega)
        clear hb
        go_wp2_with fail
        (try simp only [Exit.inBlock, Exit.then])
        exact bodyPost_ret ((HR.out.set _ _).resb rfl _ _ rfl rfl) rfl ⟨by rw [HP.out]; rfl, pn_fr HF.out _ _ _ (.inr (Nat.le_refl _))⟩
theorem dsame_any (ao bo : Option Addr) (n c d : Nat) (L : List Int) (hn : n ≤ 100) (w : World) (ha : RdG KJ w ao n L) (hb : RdG KJ w bo n L) : Calls Try.prog 17 #[.slice ao n c, .slice bo n d] w fun e w' => e = .returned (.bool true) ∧ Still w w' := by
  have HA := hid ha
  have HB := hid hb
  clear ha hb
  go_enter Try.func17, Try.ntmps17
  go_wp2_with fail
  go_loopw [5] (fun u wr => ∃ k : Nat, k ≤ n ∧ u = .int .i64 (k : Int) ∧ Hid (Still w wr)) (fun u _ => n - (intOf u).toNat)
  case atStart => exact ⟨0, by omega, rfl, hid (Fr.refl _ _)⟩
  case round =>
    obtain ⟨k, hk, rfl, HS⟩ := hrel
    by_cases hkn : k < n
    · have hlt : (k : Int) < (n : Int) := by omega
      obtain ⟨G, o, rfl⟩ := HA.out.at (by omega)
      obtain ⟨G', o', rfl⟩ := HB.out.at (by omega)
      have c0 := rdJ (HA.out.still HS.out) hkn
      have c1 := rdJ (HB.out.still HS.out) hkn
      obtain ⟨x, ex⟩ : ∃ x, L.getD k 0 = x := ⟨_, rfl⟩
      rw [ex] at c0 c1
      have ne0 : (x != x) = false := by simp
      have k0 := Cl.cell c0
      have k1 := Cl.cell c1
      have hne := Aft.here wr
      clear ex
      go_wp2_with fail
      refine region_all (by kernel_rfl) (by kernel_rfl) ?_
      repeat (go_big_quiet_step (rfl))
      refine wpQuiet_nil ?_
      intro w3 h3
      have HS3 := hid (HS.out.trans h3)
      clear h3 HS hne k0 k1 c0 c1
      go_wp2_with fail
      go_roundw
      case rel => exact ⟨k + 1, by omega, by go_num, HS3⟩
      case measure => simp [intOf]; omega
    · have hge : ¬ (k : Int) < (n : Int) := by omega
      go_wp2_with fail
      go_ret
      exact ⟨rfl, HS.out⟩
end Go.Proofs.Ytlebmimlmakogaa
