/- The document's Number, Print. -/
import Derived.Test.YtlaehphhfeoklaaDoorVc
import Derived.Lib.SlBytesRow
namespace Go.Proofs.YtlaehphhfeoklaaDoor
open Go.RowKit
open Vp
set_option maxRecDepth 100000

theorem conv_one (wr : World) (v : UInt8) (x : Int) (hx : x = (v.toNat : Int)) :
    (convert 59 9 (.slice (some ⟨wr.heap.size, 0, none⟩) 1 1)).run Tryd.prog (wr.alloc (.cells #[.int .u8 x] 5)) = .ok (.string ⟨#[v]⟩) (wr.alloc (.cells #[.int .u8 x] 5)) := by
  have h := Lib.run_convert_whole (P := Tryd.prog) (wr.alloc (.cells #[.int .u8 x] 5)) 59 5 9 Tryd.underlying59 Tryd.underlying5 Tryd.underlying9 wr.heap.size 0 ⟨#[v]⟩ (by
    intro i hi
    have hs : (ByteArray.mk #[v]).size = 1 := rfl
    have h0 : i = 0 := by omega
    subst h0
    rw [hx]
    simp
    rfl) 1
  exact h
theorem dg_nat (d : Nat) : ((dg d).toNat : Int) = 48 + ((d % 10 : Nat) : Int) := by
  unfold dg
  rw [UInt8.toNat_ofNat']
  omega
set_option maxHeartbeats 1000000 in
theorem rnum_low (d : Nat) (hd : d < 10) (w : World) : Calls Tryd.prog 27 #[.int .i64 (d : Int)] w fun e w' => e = .returned (.string ⟨#[dg d]⟩) ∧ Still w w' := by
  have v1 : 48 + (d : Int) % 10 = ((dg d).toNat : Int) := by rw [dg_nat]; omega
  have hconv := conv_one w _ _ v1
  have HS := hid (Still.alloc w (.cells #[.int .u8 (48 + (d : Int) % 10)] 5))
  have wr1 : IntKind.i64.wrap (48 + (d : Int) % 10) = 48 + (d : Int) % 10 := by rw [IntKind.wrap_i64]; omega
  have wr8 : IntKind.u8.wrap (48 + (d : Int) % 10) = 48 + (d : Int) % 10 := by rw [IntKind.wrap_u8]; omega
  have h10 : (d : Int) < 10 := by omega
  obtain ⟨V, eV⟩ : ∃ V, dg d = V := ⟨_, rfl⟩
  rw [eV] at hconv ⊢
  clear v1 eV
  go_enter Tryd.func27, Tryd.ntmps27
  go_wp2_with fail
  go_ret
  exact ⟨rfl, HS.out⟩
set_option maxHeartbeats 1000000 in
theorem rnum_step (d : Nat) (h0 : 10 ≤ d) (h1 : d < 1000) (T : ByteArray) (hT : T.size ≤ 10) (H : Hid (∀ u, Calls Tryd.prog 27 #[.int .i64 ((d : Int) / 10)] u fun e w' => e = .returned (.string T) ∧ Still u w')) (w : World) :
    Calls Tryd.prog 27 #[.int .i64 (d : Int)] w fun e w' => e = .returned (.string (T ++ ⟨#[dg d]⟩)) ∧ Still w w' := by
  have v1 : 48 + (d : Int) % 10 = ((dg d).toNat : Int) := by rw [dg_nat]; omega
  have hconv := conv_one w _ _ v1
  have HS := hid (Still.alloc w (.cells #[.int .u8 (48 + (d : Int) % 10)] 5))
  have wr1 : IntKind.i64.wrap (48 + (d : Int) % 10) = 48 + (d : Int) % 10 := by rw [IntKind.wrap_i64]; omega
  have wr8 : IntKind.u8.wrap (48 + (d : Int) % 10) = 48 + (d : Int) % 10 := by rw [IntKind.wrap_u8]; omega
  have h10 : ¬ (d : Int) < 10 := by omega
  have h10' : (10 : Int) ≤ (d : Int) := by omega
  obtain ⟨V, eV⟩ : ∃ V, dg d = V := ⟨_, rfl⟩
  rw [eV] at hconv ⊢
  have hV : (⟨#[V]⟩ : ByteArray).size = 1 := rfl
  obtain ⟨D, eD⟩ : ∃ D, (⟨#[V]⟩ : ByteArray) = D := ⟨_, rfl⟩
  rw [eD] at hconv hV ⊢
  clear v1 eV eD
  go_enter Tryd.func27, Tryd.ntmps27
  go_wp2_with fail
  refine (H.out _).mono ?_
  rintro e w1 ⟨rfl, h2⟩
  have HS2 := hid (HS.out.trans h2)
  clear h2 hconv HS
  go_wp2_with fail
  go_ret
  exact ⟨rfl, HS2.out⟩
set_option maxHeartbeats 1000000 in
theorem rnum_neg (d : Nat) (h0 : 1 ≤ d) (h1 : d < 1000) (T : ByteArray) (hT : T.size ≤ 10) (H : Hid (∀ u, Calls Tryd.prog 27 #[.int .i64 (d : Int)] u fun e w' => e = .returned (.string T) ∧ Still u w')) (w : World) :
    Calls Tryd.prog 27 #[.int .i64 (-(d : Int))] w fun e w' => e = .returned (.string (⟨#[45]⟩ ++ T)) ∧ Still w w' := by
  have hw1 : IntKind.i64.wrap (d : Int) = (d : Int) := by rw [IntKind.wrap_i64]; omega
  have hn : -(d : Int) < 0 := by omega
  have hd : (0 : Int) < (d : Int) := by omega
  have hd' : 0 < d := by omega
  go_enter Tryd.func27, Tryd.ntmps27
  go_wp2_with fail
  refine (H.out _).mono ?_
  rintro e w1 ⟨rfl, h2⟩
  have HS2 := hid h2
  clear h2
  go_wp2_with fail
  go_ret
  exact ⟨rfl, HS2.out⟩
theorem rnum_nat (d : Nat) (h : d < 1000) (w : World) : Calls Tryd.prog 27 #[.int .i64 (d : Int)] w fun e w' => e = .returned (.string ⟨(numN d).toArray⟩) ∧ Still w w' := by
  unfold numN
  by_cases h1 : d < 10
  · rw [if_pos h1]; exact rnum_low d h1 w
  · rw [if_neg h1]
    have e1 : ∀ k : Nat, ((k / 10 : Nat) : Int) = (k : Int) / 10 := fun k => by omega
    by_cases h2 : d < 100
    · rw [if_pos h2]
      have H := hid (fun u => rnum_low (d / 10) (by omega) u)
      rw [e1] at H
      exact rnum_step d (by omega) h ⟨#[dg (d / 10)]⟩ (show 1 ≤ 10 by omega) H w
    · rw [if_neg h2]
      have H1 := hid (fun u => rnum_low (d / 10 / 10) (by omega) u)
      rw [e1] at H1
      have H2 := hid (fun u => rnum_step (d / 10) (by omega) (by omega) ⟨#[dg (d / 10 / 10)]⟩ (show 1 ≤ 10 by omega) H1 u)
      rw [e1] at H2
      have := rnum_step d (by omega) h (⟨#[dg (d / 10 / 10)]⟩ ++ ⟨#[dg (d / 10)]⟩) (by rw [ByteArray.size_append]; exact (show 1 + 1 ≤ 10 by omega)) H2 w
      rw [show d / 10 / 10 = d / 100 by omega] at this
      exact this
theorem rnum_any (n : Int) (h0 : -1000 < n) (h1 : n < 1000) (w : World) : Calls Tryd.prog 27 #[.int .i64 n] w fun e w' => e = .returned (.string (numB n)) ∧ Still w w' := by
  unfold numB
  by_cases h : n < 0
  · obtain ⟨d, ed⟩ : ∃ d, (-n).toNat = d := ⟨_, rfl⟩
    have en : n = -(d : Int) := by omega
    rw [if_pos h, ed]
    subst en
    have hz : (⟨(numN d).toArray⟩ : ByteArray).size ≤ 10 := by
      show (numN d).toArray.size ≤ 10
      unfold numN
      repeat' split
      all_goals simp
    have := rnum_neg d (by omega) (by omega) _ hz (hid fun u => rnum_nat d (by omega) u) w
    exact this
  · obtain ⟨d, ed⟩ : ∃ d, n.toNat = d := ⟨_, rfl⟩
    have en : n = (d : Int) := by omega
    rw [if_neg h, ed]
    subst en
    exact rnum_nat d (by omega) w
end Go.Proofs.YtlaehphhfeoklaaDoor
