/- Contracts: a number at the head of bytes. -/
import Derived.Test.YthgjhfooodcfbaaCx
namespace Go.Proofs.Ythgjhfooodcfbaa
open Go.RowKit

theorem num_ret {x y : Int} {a b : Int} (h : x = a) (h2 : y = b) : Ending.returned (.tuple #[.int .u64 x, .int .i64 y, .int .i64 0]) = .returned (.tuple #[.int .u64 a, .int .i64 b, .int .i64 0]) := by rw [h, h2]

set_option maxHeartbeats 2000000 in
set_option maxRecDepth 100000 in
theorem number_any (ao : Option Addr) (n cap : Nat) (bs : List UInt8) (w : World) (hr : Rd w ao n cap bs) :
    Calls Try.prog 47 #[.slice ao n cap] w fun r w' => r = .returned (.tuple #[.int .u64 ((Cp.num 0 0 bs).1 : Int), .int .i64 ((Cp.num 0 0 bs).2.1 : Int), .int .i64 (Cp.num 0 0 bs).2.2]) ∧ w' = w := by
  have hlen := hr.len
  have hsm := hr.small
  go_enter Try.func47, Try.ntmps47
  go_wp2
  go_loop [5, 13] (fun a i => ∃ k acc : Nat, k ≤ n ∧ k ≤ 9 ∧ acc < 128 ^ k ∧ a = .int .u64 (acc : Int) ∧ i = .int .i64 (k : Int) ∧ Cp.num k acc (bs.drop k) = Cp.num 0 0 bs) (fun _ i => n - (intOf i).toNat)
  case atStart => exact ⟨0, 0, Nat.zero_le _, by omega, by simp, rfl, rfl, rfl⟩
  case round =>
    obtain ⟨k, acc, hk, hk9, hacc, rfl, rfl, hnum⟩ := hrel
    have hpow := Cp.pow9 k hk9
    have HN := hid hnum
    have HA := hid hacc
    clear hnum hacc
    have hal : acc < 9223372036854775808 := by have := HA.out; omega
    by_cases hlt : k < n
    · obtain ⟨b, o, rfl⟩ := hr.addr (by omega)
      have hc := hr.byte (k := k) (by omega)
      have hd : Hid (bs.drop k = bs[k] :: bs.drop (k + 1)) := List.drop_eq_getElem_cons (by omega)
      have hcl := bs[k].toNat_lt
      obtain ⟨c, hcc⟩ : ∃ c, c = bs[k] := ⟨_, rfl⟩
      rw [← hcc] at hc hd hcl
      clear hcc
      have e1 : bits .and .u8 (c.toNat : Int) 127 = (c.toNat : Int) % 128 := and127_u8 _ (by omega) (by omega)
      have bad : (9 ≤ k ∧ 1 < c.toNat) ∨ (c.toNat < 1 ∧ 0 < k) → Hid (Cp.num 0 0 bs = (0, 0, 21)) := fun h => by
        show _ = _
        rw [← HN.out, hd.out, Cp.num_bad (by omega)]
      have good : ¬ ((9 ≤ k ∧ 1 < c.toNat) ∨ (c.toNat < 1 ∧ 0 < k)) → c.toNat < 128 → Hid (Cp.num 0 0 bs = (acc + c.toNat % 128 * 128 ^ k, k + 1, 0)) := fun h h2 => by
        show _ = _
        rw [← HN.out, hd.out, Cp.num_end (by omega) h2]
      have HO : Hid (¬ ((9 ≤ k ∧ 1 < c.toNat) ∨ (c.toNat < 1 ∧ 0 < k)) → bits .or .u64 (acc : Int) (IntKind.u64.wrap ((c.toNat : Int) % 128 * 2 ^ (7 * k))) = ((acc + c.toNat % 128 * 128 ^ k : Nat) : Int)) := fun h => by
        rw [show (c.toNat : Int) % 128 = ((c.toNat % 128 : Nat) : Int) by omega]
        refine or_group acc (c.toNat % 128) k HA.out ?_ hk9
        by_cases h9 : k = 9
        · subst h9
          have h1 : c.toNat % 128 * 128 ^ 9 ≤ 1 * 128 ^ 9 := Nat.mul_le_mul_right _ (by omega)
          omega
        · have h2 : 128 ^ (k + 1) ≤ 9223372036854775808 := Cp.pow9 (k + 1) (by omega)
          rw [Nat.pow_succ] at h2
          have h1 : c.toNat % 128 * 128 ^ k ≤ 127 * 128 ^ k := Nat.mul_le_mul_right _ (by omega)
          omega
      have HB := hid bad
      have HG := hid good
      clear bad good hpow
      by_cases h9 : 9 ≤ k
      · by_cases h1 : 1 < c.toNat
        · have HE := HB.out (.inl ⟨h9, h1⟩)
          by_cases h128 : c.toNat < 128
          all_goals
            go_wp2
            go_ret3
            exact ⟨by rw [HE.out]; rfl, rfl⟩
        · by_cases h0 : c.toNat < 1
          · have HE := HB.out (.inr ⟨h0, by omega⟩)
            go_wp2
            go_ret3
            exact ⟨by rw [HE.out]; rfl, rfl⟩
          · have HE := HG.out (by omega) (by omega)
            have H9 : Hid (bits .or .u64 (acc : Int) ((c.toNat : Int) % 128 * 9223372036854775808) = ((acc + c.toNat % 128 * 128 ^ k : Nat) : Int)) := by
              have h := HO.out (by omega)
              rw [show 7 * k = 63 by omega, IntKind.wrap_u64, show ((c.toNat : Int) % 128 * 2 ^ 63) % 18446744073709551616 = (c.toNat : Int) % 128 * 9223372036854775808 by omega] at h
              exact h
            go_wp2
            go_ret3
            exact ⟨by rw [HE.out]; exact num_ret H9.out (by show (10 : Int) = ((k + 1 : Nat) : Int); omega), rfl⟩
      · by_cases h128 : c.toNat < 128
        · by_cases h0 : c.toNat < 1
          · by_cases hk0 : 0 < k
            · have HE := HB.out (.inr ⟨h0, hk0⟩)
              go_wp2
              go_ret3
              exact ⟨by rw [HE.out]; rfl, rfl⟩
            · have HE := HG.out (by omega) (by omega)
              have H0 : Hid (bits .or .u64 (acc : Int) (IntKind.u64.wrap (IntKind.u64.wrap (bits .and .u8 0 127) * 2 ^ (7 * k))) = ((acc + c.toNat % 128 * 128 ^ k : Nat) : Int)) := by
                have h := HO.out (by omega)
                rw [show (c.toNat : Int) = 0 by omega] at h
                rw [and127_u8 0 (by omega) (by omega)]
                exact h
              go_wp2
              go_ret3
              exact ⟨by rw [HE.out]; exact num_ret H0.out rfl, rfl⟩
          · have HE := HG.out (by omega) (by omega)
            go_wp2
            go_ret3
            exact ⟨by rw [HE.out]; exact num_ret (HO.out (by omega)) rfl, rfl⟩
        · have HO' := hid (HO.out (by omega))
          go_wp2
          go_round
          case rel =>
            refine ⟨k + 1, acc + c.toNat % 128 * 128 ^ k, by omega, by omega, ?_, by rw [HO'.out], by go_num, ?_⟩
            · rw [Nat.pow_succ]
              have h1 : c.toNat % 128 * 128 ^ k ≤ 127 * 128 ^ k := Nat.mul_le_mul_right _ (by omega)
              have := HA.out
              omega
            · rw [← HN.out, hd.out, Cp.num_more (by omega) (by omega)]
          case measure => simp [intOf]; omega
    · have HE : Hid (Cp.num 0 0 bs = (0, 0, 20)) := by
        show _ = _
        rw [← HN.out, List.drop_of_length_le (by omega)]; rfl
      go_wp2
      go_ret3
      exact ⟨by rw [HE.out]; rfl, rfl⟩
end Go.Proofs.Ythgjhfooodcfbaa
