/- The document's Is, Name, Operands. -/
import Derived.Test.YtlaehphhfeoklaaDoorVt
namespace Go.Proofs.YtlaehphhfeoklaaDoor
open Go.RowKit
open Vp

theorem ris_any (v : Int) (w : World) : Calls Tryd.prog 22 #[.int .i64 v] w fun e w' => e = .returned (.bool (isV v)) ∧ w' = w := by
  by_cases h1 : 1 ≤ v
  · by_cases h2 : v ≤ 7
    · rw [isV_iff.2 ⟨h1, h2⟩]
      go_enter Tryd.func22, Tryd.ntmps22
      go_wp2_with fail
      go_ret
      exact ⟨rfl, rfl⟩
    · have HE := hid (isV_no.2 (.inr (show 7 < v by omega)))
      have hd : decide (v ≤ 7) = false := by simp; omega
      rw [HE.out]
      go_enter Tryd.func22, Tryd.ntmps22
      go_wp2_with fail
      go_ret
      first | exact ⟨rfl, rfl⟩ | (rw [hd]; exact ⟨rfl, rfl⟩)
  · rw [isV_no.2 (.inl (show v < 1 by omega))]
    go_enter Tryd.func22, Tryd.ntmps22
    go_wp2_with fail
    go_ret
    exact ⟨rfl, rfl⟩
theorem rname_any (v : Int) (w : World) (ht : NTab w) : Calls Tryd.prog 13 #[.int .i64 v] w fun e w' => e = .returned (.string (nmV v)) ∧ w' = w := by
  unfold nmV
  cases h : isV v with
  | false =>
    have H := hid (fun u => ris_any v u)
    rw [h] at H
    rw [if_neg (by simp)]
    clear h
    go_enter Tryd.func13, Tryd.ntmps13
    go_wp2_with (go_at_call 22; refine (H.out _).mono ?_; rintro e w' ⟨he, hw⟩; rw [he, hw]; clear he hw w')
    go_ret
    exact ⟨rfl, rfl⟩
  | true =>
    have H := hid (fun u => ris_any v u)
    rw [h] at H
    rw [if_pos rfl]
    have hv := isV_iff.1 h
    obtain ⟨d, ed⟩ : ∃ d, (v - 1).toNat = d := ⟨_, rfl⟩
    have c := ht.nm d (by omega)
    have hw1 : IntKind.i64.wrap (v - 1) = (d : Int) := by rw [IntKind.wrap_i64]; omega
    have hi : (d : Int) < 7 := by omega
    rw [ed]
    obtain ⟨x, ex⟩ : ∃ x, nmB d = x := ⟨_, rfl⟩
    rw [ex] at c ⊢
    clear h hv ed ex
    go_enter Tryd.func13, Tryd.ntmps13
    go_wp2_with (go_at_call 22; refine (H.out _).mono ?_; rintro e w' ⟨he, hw⟩; rw [he, hw]; clear he hw w')
    go_ret
    exact ⟨rfl, rfl⟩
end Go.Proofs.YtlaehphhfeoklaaDoor
