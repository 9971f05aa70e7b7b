/- Contracts: weights. -/
import Derived.Test.YtbadpcdlhgbegaaDoorRc
import Derived.Test.YtbadpcdlhgbegaaDoorRg
import Derived.Test.YtbadpcdlhgbegaaDoorMj
namespace Go.Proofs.YtbadpcdlhgbegaaDoor
open Go.RowKit

/-- a weight as it may be -/
def okW (v : Int) : Prop := 0 ≤ v ∧ v ≤ 2147483647
theorem okW_dec (v : Int) : okW v ∨ ¬ okW v := by unfold okW; omega
theorem sum_take {bs : List Int} {k : Nat} (hk : k < bs.length) : Rg.sum (bs.take (k + 1)) = Rg.sum (bs.take k) + bs[k] := by
  rw [List.take_succ_eq_append_getElem hk, Rg.sum_append]
  simp [Rg.sum]
theorem sum_in {bs : List Int} (h : ∀ v ∈ bs, okW v) (hn : bs.length ≤ 64) : 0 ≤ Rg.sum bs ∧ Rg.sum bs ≤ 137438953408 := by
  refine ⟨Rg.sum_nonneg fun v hv => (h v hv).1, ?_⟩
  have := Rg.sum_le (m := 2147483647) fun v hv => (h v hv).2
  omega
theorem sum_take_in {bs : List Int} (h : ∀ v ∈ bs, okW v) (hn : bs.length ≤ 64) (k : Nat) : 0 ≤ Rg.sum (bs.take k) ∧ Rg.sum (bs.take k) ≤ 137438953408 :=
  sum_in (fun v hv => h v (List.mem_of_mem_take hv)) (by simp; omega)
theorem add_u64 {a x y : Int} (ha : 0 ≤ a ∧ a ≤ 137438953408) (hx : okW x) (hy : y = a + x) : IntKind.u64.wrap (a + IntKind.u64.wrap x) = y := by
  obtain ⟨h0, h1⟩ := hx
  subst hy
  rw [IntKind.wrap_u64, IntKind.wrap_u64]
  omega
set_option maxRecDepth 100000 in
theorem isno_ok (v : Int) (h : okW v) (w : World) : Calls Tryd.prog 29 #[.int .i64 v] w fun e w' => e = .returned (.bool false) ∧ w' = w := by
  obtain ⟨h0, h1⟩ := h
  have h0' : ¬ v < 0 := by omega
  have h1' : ¬ 2147483647 < v := by omega
  clear h0 h1
  go_enter Tryd.func29, Tryd.ntmps29
  go_wp2
  go_ret
  exact ⟨rfl, rfl⟩
set_option maxRecDepth 100000 in
theorem isno_bad (v : Int) (h : ¬ okW v) (w : World) : Calls Tryd.prog 29 #[.int .i64 v] w fun e w' => e = .returned (.bool true) ∧ w' = w := by
  by_cases h0 : v < 0
  · clear h
    go_enter Tryd.func29, Tryd.ntmps29
    go_wp2
    go_ret
    exact ⟨rfl, rfl⟩
  · have h1 : 2147483647 < v := by unfold okW at h; omega
    clear h
    go_enter Tryd.func29, Tryd.ntmps29
    go_wp2
    go_ret
    exact ⟨rfl, rfl⟩
set_option maxRecDepth 100000 in
theorem index_ok (ao : Option Addr) (n cap : Nat) (bs : List Int) (w : World) (hr : RdI w ao n cap bs) (hok : ∀ v ∈ bs, okW v) :
    Calls Tryd.prog 37 #[.slice ao n cap, .func (.func 29) #[] #[]] w fun e w' => e = .returned (.int .i64 (-1)) ∧ w' = w := by
  have hlen := hr.len
  have hsm := hr.small
  go_enter Tryd.func37, Tryd.ntmps37
  go_wp2
  go_loopw [8] (fun vi wr => ∃ k : Nat, k ≤ n ∧ vi = .int .i64 (k : Int) ∧ wr = w) (fun vi _ => n - (intOf vi).toNat)
  case atStart => exact ⟨0, Nat.zero_le _, rfl, rfl⟩
  case round =>
    obtain ⟨k, hk, rfl, rfl⟩ := hrel
    by_cases hlt : k < n
    · have hkl : k < bs.length := by omega
      obtain ⟨b, o, rfl⟩ := hr.addr (by omega)
      have hc := hr.byte hkl
      have hT := hid (isno_ok bs[k] (hok _ (List.getElem_mem hkl)) wr)
      obtain ⟨x, hx⟩ : ∃ x, x = bs[k] := ⟨_, rfl⟩
      rw [← hx] at hc hT
      clear hx hok hr hlen
      go_wp2_with (go_at_call 29; refine hT.out.mono ?_; rintro e w2 ⟨rfl, rfl⟩)
      go_roundw
      case rel => exact ⟨k + 1, by omega, by go_num, by trivial⟩
      case measure => simp [intOf]; omega
    · clear hr hok
      go_wp2
      go_ret
      exact ⟨rfl, rfl⟩
set_option maxRecDepth 100000 in
theorem index_bad (ao : Option Addr) (n cap : Nat) (bs : List Int) (w : World) (hr : RdI w ao n cap bs) (hno : ¬ ∀ v ∈ bs, okW v) :
    Calls Tryd.prog 37 #[.slice ao n cap, .func (.func 29) #[] #[]] w fun e w' => ∃ k : Nat, e = .returned (.int .i64 (k : Int)) ∧ w' = w := by
  have hlen := hr.len
  have hsm := hr.small
  have HN := hid hno
  clear hno
  go_enter Tryd.func37, Tryd.ntmps37
  go_wp2
  go_loopw [8] (fun vi wr => ∃ k : Nat, k ≤ n ∧ vi = .int .i64 (k : Int) ∧ Hid (∀ v ∈ bs.take k, okW v) ∧ wr = w) (fun vi _ => n - (intOf vi).toNat)
  case atStart => exact ⟨0, Nat.zero_le _, rfl, hid (by simp), rfl⟩
  case round =>
    obtain ⟨k, hk, rfl, HK, rfl⟩ := hrel
    by_cases hlt : k < n
    · have hkl : k < bs.length := by omega
      obtain ⟨b, o, rfl⟩ := hr.addr (by omega)
      have hc := hr.byte hkl
      rcases okW_dec bs[k] with hw | hw
      · have hT := hid (isno_ok bs[k] hw wr)
        have HK2 : Hid (∀ v ∈ bs.take (k + 1), okW v) := hid (by
          intro v hv
          rw [List.take_succ_eq_append_getElem hkl] at hv
          rcases List.mem_append.1 hv with hv | hv
          · exact HK.out v hv
          · simp at hv
            rw [hv]; exact hw)
        obtain ⟨x, hx⟩ : ∃ x, x = bs[k] := ⟨_, rfl⟩
        rw [← hx] at hc hT
        clear hx hr hlen hw HK
        go_wp2_with (go_at_call 29; refine hT.out.mono ?_; rintro e w2 ⟨rfl, rfl⟩)
        go_roundw
        case rel => exact ⟨k + 1, by omega, by go_num, HK2, by trivial⟩
        case measure => simp [intOf]; omega
      · have hT := hid (isno_bad bs[k] hw wr)
        obtain ⟨x, hx⟩ : ∃ x, x = bs[k] := ⟨_, rfl⟩
        rw [← hx] at hc hT
        clear hx hr hlen hw HK
        go_wp2_with (go_at_call 29; refine hT.out.mono ?_; rintro e w2 ⟨rfl, rfl⟩)
        go_ret
        exact ⟨k, rfl, rfl⟩
    · exact absurd (by have := HK.out; rwa [List.take_of_length_le (by omega)] at this) HN.out
set_option maxRecDepth 100000 in
theorem contains_ok (ao : Option Addr) (n cap : Nat) (bs : List Int) (w : World) (hr : RdI w ao n cap bs) (hok : ∀ v ∈ bs, okW v) :
    Calls Tryd.prog 28 #[.slice ao n cap, .func (.func 29) #[] #[]] w fun e w' => e = .returned (.bool false) ∧ w' = w := by
  go_enter Tryd.func28, Tryd.ntmps28
  go_wp2_with fail
  refine (index_ok ao n cap bs w hr hok).mono ?_
  rintro e w2 ⟨rfl, rfl⟩
  go_wp2_with fail
  go_ret
  exact ⟨rfl, rfl⟩
set_option maxRecDepth 100000 in
theorem contains_bad (ao : Option Addr) (n cap : Nat) (bs : List Int) (w : World) (hr : RdI w ao n cap bs) (hno : ¬ ∀ v ∈ bs, okW v) :
    Calls Tryd.prog 28 #[.slice ao n cap, .func (.func 29) #[] #[]] w fun e w' => e = .returned (.bool true) ∧ w' = w := by
  go_enter Tryd.func28, Tryd.ntmps28
  go_wp2_with fail
  refine (index_bad ao n cap bs w hr hno).mono ?_
  rintro e w2 ⟨k, rfl, rfl⟩
  have hk : (0 : Int) ≤ (k : Int) := by omega
  go_wp2_with fail
  go_ret
  exact ⟨rfl, rfl⟩
set_option maxRecDepth 100000 in
theorem together_any (ao : Option Addr) (n cap : Nat) (bs : List Int) (w : World) (hr : RdI w ao n cap bs) (hok : ∀ v ∈ bs, okW v) (h64 : n ≤ 64) :
    Calls Tryd.prog 30 #[.slice ao n cap] w fun e w' => e = .returned (.int .u64 (Rg.sum bs)) ∧ w' = w := by
  have hlen := hr.len
  go_enter Tryd.func30, Tryd.ntmps30
  go_wp2
  go_loopw [3, 8] (fun va vi wr => ∃ (k : Nat) (a : Int), k ≤ n ∧ va = .int .u64 a ∧ vi = .int .i64 (k : Int) ∧ Hid (a = Rg.sum (bs.take k)) ∧ wr = w) (fun _ vi _ => n - (intOf vi).toNat)
  case atStart => exact ⟨0, _, Nat.zero_le _, rfl, rfl, rfl, rfl⟩
  case round =>
    obtain ⟨k, a, hk, rfl, rfl, HA, rfl⟩ := hrel
    by_cases hlt : k < n
    · have hkl : k < bs.length := by omega
      obtain ⟨b, o, rfl⟩ := hr.addr (by omega)
      have hc := hr.byte hkl
      have HS := hid (add_u64 (a := a) (x := bs[k]) (y := Rg.sum (bs.take (k + 1))) (by rw [HA.out]; exact sum_take_in hok (by omega) k) (hok _ (List.getElem_mem hkl)) (by rw [HA.out]; exact sum_take hkl))
      obtain ⟨x, hx⟩ : ∃ x, x = bs[k] := ⟨_, rfl⟩
      rw [← hx] at hc HS
      clear hx hr hok hlen
      go_wp2
      go_roundw
      case rel => exact ⟨k + 1, _, by omega, rfl, by go_num, HS, by trivial⟩
      case measure => simp [intOf]; omega
    · have hkn : k = n := by omega
      rw [List.take_of_length_le (by omega)] at HA
      clear hr hok hlen
      go_wp2
      go_ret
      rw [← HA.out]
      exact ⟨rfl, rfl⟩
end Go.Proofs.YtbadpcdlhgbegaaDoor
