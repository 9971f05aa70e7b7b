/- The program's startsOf, countStarts. -/
import Derived.Test.YtnoaomocdmkigabBp
import Derived.Test.YtnoaomocdmkigabFy
import Derived.Test.YtnoaomocdmkigabMi
import Derived.OwnWalk
namespace Go.Proofs.Ytnoaomocdmkigab
open Go.RowKit
open Pu Gp Ap

theorem info_int : ∃ i, Try.prog.info? 3 = some i ∧ i.zero = some (.int .i64 0) ∧ i.size = 1 ∧ i.bytes = 8 := ⟨_, rfl, rfl, rfl, rfl⟩
theorem OwI.one (e : TypeId) (wr : World) (x : Int) : OwI e (wr.alloc (.cells #[.int .i64 x] e)) (some ⟨wr.heap.size, 0, none⟩) 1 1 [x] :=
  OwI.fresh wr _ 1 1 [x] rfl (Nat.le_refl _) (by unfold maxLen; omega) rfl (fun j hj => by
    simp at hj
    subst hj
    rfl)
theorem OwI.head {e : TypeId} {w : World} {ao : Option Addr} {n cap : Nat} {bs : List Int} (h : OwI e w ao n cap bs) (hn : 0 < n) : ∃ g, ao = some ⟨g, 0, none⟩ := by
  obtain ⟨b, o, rfl⟩ := h.rd.addr hn
  obtain ⟨h0, _⟩ := h.row _ rfl
  simp at h0
  subst h0
  exact ⟨b, rfl⟩
theorem OwI.take {e : TypeId} {w : World} {ao : Option Addr} {n cap : Nat} {bs : List Int} (h : OwI e w ao n cap bs) {i : Nat} (hi : i ≤ n) : OwI e w ao i cap (bs.take i) := ⟨h.rd.take hi, h.row⟩
/-- what is appended to new memory is new memory -/
theorem still_appI {w wr w1 : World} {o : Obj} {ao ao' : Option Addr} (hs : Still w wr) (ha : ∀ a, ao = some a → w.heap.size ≤ a.block) (hf : Fr (fun k => ∃ a, ao = some a ∧ a.block = k) (wr.alloc o) w1)
    (hn : ∀ a, ao' = some a → ao = some a ∨ (wr.alloc o).heap.size ≤ a.block) : Still w w1 ∧ ∀ a, ao' = some a → w.heap.size ≤ a.block := by
  refine ⟨Fr.trans (Fr.alloc hs o) hf ?_, fun a h => ?_⟩
  · rintro k hk ⟨a, h1, rfl⟩
    have := ha a h1
    omega
  · rcases hn a h with h1 | h1
    · exact ha a h1
    · have := hs.size
      simp at h1
      omega
/-- the places of the first n starts -/
def stL (s : ByteArray) (n : Nat) : List Int := (List.range n).map fun (i : Nat) => fnd s (49 + (i : Int)) 0
theorem stL_succ (s : ByteArray) (n : Nat) : stL s (n + 1) = stL s n ++ [fnd s (49 + (n : Int)) 0] := by simp [stL, List.range_succ]
theorem stL_len (s : ByteArray) (n : Nat) : (stL s n).length = n := by simp [stL]
set_option maxHeartbeats 2000000 in
set_option maxRecDepth 100000 in
theorem startsOf_any (C R : Int) (s : ByteArray) (w : World) :
    Calls Try.prog 37 #[ar C R s] w fun e w' => ∃ ao cap, e = .returned (.slice ao (mny s) cap) ∧ OwI 3 w' ao (mny s) cap (stL s (mny s)) ∧ Still w w' ∧ ∀ a, ao = some a → w.heap.size ≤ a.block := by
  obtain ⟨i0, hi, hz0, hz1, hz2⟩ := info_int
  obtain ⟨T, eT⟩ : ∃ T, T = mny s := ⟨_, rfl⟩
  have HT := hid (show T = mnyF s 6 0 from eT)
  rw [← eT]
  clear eT
  have p := newA_ab w C R s
  have HS0 := hid (Still.alloc w (.cells #[.int .i64 C, .int .i64 R, .string s] 23))
  go_enter Try.func37, Try.ntmps37
  go_wp2_with fail
  go_loopw [3, 4] (fun v3 v4 wr => ∃ (k : Nat) (ao : Option Addr) (cap : Nat), k ≤ 6 ∧ v3 = .slice ao k cap ∧ v4 = .int .u8 (49 + (k : Int)) ∧ T = mnyF s (6 - k) k ∧ OwI 3 wr ao k cap (stL s k) ∧ Still (newA w C R s) wr ∧ ∀ a, ao = some a → (newA w C R s).heap.size ≤ a.block) (fun _ v _ => 55 - (intOf v).toNat)
  case atStart => exact ⟨0, none, 0, by omega, rfl, rfl, HT.out, OwI.empty _ _, Fr.refl _ _, fun _ h => by cases h⟩
  case round =>
    obtain ⟨k, ao, cap, hk, rfl, rfl, hf, ho, hst, hao⟩ := hrel
    obtain ⟨c0, c1, c2, cf⟩ := (p.still hst).cells
    have HE := hid (show Still w wr ∧ ∀ a, ao = some a → w.heap.size ≤ a.block from ⟨HS0.out.trans hst, fun a h => by have := hao a h; rw [size_alloc] at this; omega⟩)
    by_cases hlt : k < 6
    · rw [show 6 - k = (6 - (k + 1)) + 1 by omega, mnyF] at hf
      obtain ⟨F, eF⟩ : ∃ F, fnd s (49 + (k : Int)) 0 = F := ⟨_, rfl⟩
      have HC : Hid (∀ u : World, Calls Try.prog 52 #[.string s, .int .u8 (49 + (k : Int))] u fun e w' => e = .returned (.int .i64 F) ∧ w' = u) := hid (fun u => by
        have h := Try.strings_IndexByte s (49 + (k : Int)) u
        rw [index_is s _ (by omega) (by omega), eF] at h
        exact h)
      have HL := hid (show stL s (k + 1) = stL s k ++ [F] by rw [stL_succ, eF])
      rw [eF] at hf
      clear eF
      have wr8 : IntKind.u8.wrap (49 + (k : Int) + 1) = 49 + (k : Int) + 1 := by rw [IntKind.wrap_u8]; omega
      by_cases hF : 0 ≤ F
      · rw [if_pos hF] at hf
        have HF := hid hf
        have hF' : decide (F < 0) = false := decide_eq_false (by omega)
        clear hf hF
        go_wp2_with (first | (go_at_call 52; refine (HC.out _).mono ?_; rintro e w' ⟨he, hw⟩; rw [he, hw]; clear he hw w') | (at_builtin; refine wpList_appI _ rfl _ _ 72 rfl 3 i0 Try.underlying72 hi hz0 hz1 hz2 ao (some ⟨wr.heap.size, 0, none⟩) k cap 1 1 (stL s k) [F] rfl rfl (ho.alloc _) (OwI.one _ wr _).rd (by omega) ?_; intro ao' cap' w1 ho' hf' hn' _))
        obtain ⟨hst', hao'⟩ := still_appI hst hao hf' hn'
        go_roundw
        case rel => exact ⟨k + 1, ao', cap', by omega, rfl, by go_num, HF.out, by rw [HL.out]; exact ho', hst', hao'⟩
        case measure => simp [intOf]; omega
      · rw [if_neg hF] at hf
        have HF := hid hf
        have hF' : F < 0 := by omega
        clear hf hF
        go_wp2_with (go_at_call 52; refine (HC.out _).mono ?_; rintro e w' ⟨he, hw⟩; rw [he, hw]; clear he hw w')
        go_ret
        exact ⟨ao, cap, by rw [HF.out]; rfl, by rw [HF.out]; exact ho, HE.out.1, HE.out.2⟩
    · obtain rfl : k = 6 := by omega
      have HF := hid (show T = 6 by rw [hf]; rfl)
      clear hf
      go_wp2_with fail
      go_ret
      exact ⟨ao, cap, by rw [HF.out]; rfl, by rw [HF.out]; exact ho, HE.out.1, HE.out.2⟩
theorem isStart_is (c : Int) {t : Bool} (h : staC c = t) (w : World) : Calls Try.prog 71 #[.int .u8 c] w fun e w' => e = .returned (.bool t) ∧ w' = w := by
  rw [← h]; exact isStart_any c w
set_option maxHeartbeats 2000000 in
theorem countStarts_any (s : ByteArray) (hz : s.size ≤ 281474976710656) (w : World) :
    Calls Try.prog 57 #[.string s] w fun e w' => e = .returned (.int .i64 ((cstN s s.size : Nat) : Int)) ∧ w' = w := by
  obtain ⟨T, eT⟩ : ∃ T, T = cstN s s.size := ⟨_, rfl⟩
  have HT := hid eT
  rw [← eT]
  clear eT
  go_enter Try.func57, Try.ntmps57
  go_wp2_with fail
  go_loop [3, 7] (fun v u => ∃ j : Nat, j ≤ s.size ∧ u = .int .i64 (j : Int) ∧ v = .int .i64 ((cstN s j : Nat) : Int)) (fun _ u => s.size - (intOf u).toNat)
  case atStart => exact ⟨0, by omega, rfl, rfl⟩
  case round =>
    obtain ⟨j, hj, rfl, rfl⟩ := hrel
    have sl := cst_le s j
    have HX := hid (show cstN s (j + 1) = cstN s j + if (49 ≤ byt s j ∧ byt s j ≤ 54) then 1 else 0 from rfl)
    obtain ⟨n, en⟩ : ∃ n, cstN s j = n := ⟨_, rfl⟩
    have HN := hid en
    rw [en] at sl HX ⊢
    clear en
    by_cases hlt : j < s.size
    · have e := byt_at s j hlt
      obtain ⟨b, eb⟩ : ∃ b, byt s j = b := ⟨_, rfl⟩
      rw [eb] at e HX
      clear eb
      cases hm : staC b with
      | true =>
        have HM := hid (fun u => isStart_is b hm u)
        have HF := hid (show cstN s (j + 1) = n + 1 by
          rw [HX.out, if_pos]
          unfold staC at hm
          simpa using hm)
        clear hm HX
        go_wp2_with (go_at_call 71; refine (HM.out _).mono ?_; rintro e w' ⟨he, hw⟩; rw [he, hw]; clear he hw w')
        go_round
        case rel => exact ⟨j + 1, by omega, by go_num, by rw [HF.out]; go_num⟩
        case measure => simp [intOf]; omega
      | false =>
        have HM := hid (fun u => isStart_is b hm u)
        have HF := hid (show cstN s (j + 1) = n by
          rw [HX.out, if_neg, Nat.add_zero]
          unfold staC at hm
          simp only [Bool.and_eq_false_iff, decide_eq_false_iff_not] at hm
          omega)
        clear hm HX
        go_wp2_with (go_at_call 71; refine (HM.out _).mono ?_; rintro e w' ⟨he, hw⟩; rw [he, hw]; clear he hw w')
        go_round
        case rel => exact ⟨j + 1, by omega, by go_num, by rw [HF.out]⟩
        case measure => simp [intOf]; omega
    · have HF := hid (show ((n : Nat) : Int) = (T : Nat) by rw [HT.out, ← HN.out, show s.size = j by omega])
      clear HX
      go_wp2_with fail
      go_ret
      exact ⟨ret_int HF.out, rfl⟩
end Go.Proofs.Ytnoaomocdmkigab
