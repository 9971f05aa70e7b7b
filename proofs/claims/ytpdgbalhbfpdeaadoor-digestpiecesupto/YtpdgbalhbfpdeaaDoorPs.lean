/- Contracts: a text read to the base sixteen, by the library. -/
import Derived.Test.YtpdgbalhbfpdeaaDoorPr
import Derived.Lib.ConvBytes
import Derived.Lib.AtoiAllMem
import Derived.Laws.Strings3
import Derived.Laws.Closers25
import Derived.Laws.Closers25b
import Derived.BigCall
import Derived.BigGuard
namespace Go.Proofs.YtpdgbalhbfpdeaaDoor
open Go.RowKit Go.Shelf

theorem lower_any (c : Int) (w : World) : Calls Tryd.prog 50 #[.int .u8 c] w fun e w' => e = .returned (.int .u8 (bits .or .u8 c 32)) ∧ w' = w := AnyPu.internal_strconv_lower (ρ := Tryd.laysPu14_ren) { Tryd.laysPu14 with } c w

set_option maxHeartbeats 32000000 in
set_option maxRecDepth 100000 in
theorem parseIn_miss (t : ByteArray) (hmax : t.size ≤ 9223372036854775806) (w : World) :
    Calls Tryd.prog 39 #[.string t, .int .i64 16, .int .i64 64] w fun e w' => ∃ (n : Int) (v : Value), e = .returned (.tuple #[.int .u64 n, v]) ∧ (0 ≤ n ∧ n < 18446744073709551616) ∧ (v = .nilIface ∨ v = .iface 84 (.int .i64 1) ∨ v = .iface 84 (.int .i64 2)) ∧ Still w w' := by
  by_cases h0 : t.size = 0
  · have ht : t = ⟨#[]⟩ := by
      apply ByteArray.ext
      exact Array.eq_empty_of_size_eq_zero h0
    subst ht
    go_enter Tryd.func39, Tryd.ntmps39
    go_wp2
    go_ret2
    exact ⟨_, _, rfl, ⟨by omega, by omega⟩, .inr (.inr rfl), Fr.refl _ _⟩
  · have hemp : t.toList.isEmpty = false := by
      rw [← decide_eq_emptyBytes]
      exact decide_eq_false (fun h => h0 (by rw [h]; rfl))
    have hcv := Lib.run_convert_string_bytes (P := Tryd.prog) w 9 32 5 t (u := .string) Tryd.underlying9 Tryd.underlying32 Tryd.underlying5
    have hB : ∀ j, j < t.size → (Lib.bytesWorld w 5 t).cell? ⟨w.heap.size, j, none⟩ = some (.int .u8 (t.data.toList.getD j 0).toNat) := fun j hj => Lib.bytesWorld_cell w 5 t j hj
    have hst : Still w (Lib.bytesWorld w 5 t) := still_of_below (Lib.bytesWorld_below _ _ _)
    obtain ⟨W1, hW1⟩ : ∃ W1, W1 = Lib.bytesWorld w 5 t := ⟨_, rfl⟩
    rw [← hW1] at hcv hB hst
    clear hW1
    have hmv : IntKind.u64.wrap (IntKind.u64.wrap 18446744073709551616 - 1) = 18446744073709551615 := by
      rw [IntKind.wrap_u64, IntKind.wrap_u64]
      decide
    go_enter Tryd.func39, Tryd.ntmps39
    go_wp2
    go_loop [12, 13, 101] (fun vu vn vi => ∃ (k : Nat) (a : Int), vu = .bool false ∧ vn = .int .u64 a ∧ vi = .int .i64 k ∧ k ≤ t.size ∧ 0 ≤ a ∧ a < 18446744073709551616)
      (fun _ _ vi => t.size - (intOf vi).toNat)
    case atStart => exact ⟨0, 0, rfl, rfl, rfl, by omega, by omega, by omega⟩
    case round =>
      obtain ⟨k, a, rfl, rfl, rfl, hk, a0, a1⟩ := hrel
      by_cases hkn : k < t.size
      · have hc := hB k hkn
        generalize t.data.toList.getD k 0 = c at hc
        have hc256 : c.toNat < 256 := c.toNat_lt
        clear hB
        have hv0 := bits_lo_u8 .or (c.toNat : Int) 32
        have hv1 := bits_hi_u8 .or (c.toNat : Int) 32
        have hu0 := bits_lo_u8 .or 95 32
        have hu1 := bits_hi_u8 .or 95 32
        go_wp2_with (go_at_call 50; refine (lower_any _ _).mono ?_; rintro e w' ⟨rfl, rfl⟩)
        all_goals first
          | (go_ret2; first | exact ⟨_, _, rfl, ⟨by omega, by omega⟩, .inr (.inr rfl), hst⟩ | exact ⟨_, _, rfl, ⟨by omega, by omega⟩, .inr (.inl rfl), hst⟩)
          | exact ⟨⟨k + 1, _, rfl, rfl, by go_num, by omega, by omega, by omega⟩, by simp [intOf]; omega⟩
      · go_wp2
        go_ret2
        exact ⟨_, _, rfl, ⟨a0, a1⟩, .inl rfl, hst⟩
theorem or32 : ∀ x : Fin 6, bits .or .u8 ((97 + x.val : Nat) : Int) 32 = ((97 + x.val : Nat) : Int) := by decide

set_option maxHeartbeats 32000000 in
set_option maxRecDepth 100000 in
theorem parseIn_hit (t : ByteArray) (d : Nat) (hd : d < 18446744073709551616) (ht : t.data.toList = Hx.hx d 16) (w : World) :
    Calls Tryd.prog 39 #[.string t, .int .i64 16, .int .i64 64] w fun e w' => ∃ n : Int, e = .returned (.tuple #[.int .u64 n, .nilIface]) ∧ n = (d : Int) ∧ Still w w' := by
  have hsz : t.size = 16 := by rw [Lib.size_eq, ht, Hx.hx_length]
  have hemp : t.toList.isEmpty = false := by
    rw [← decide_eq_emptyBytes]
    exact decide_eq_false (fun h => by rw [h] at hsz; cases hsz)
  have hcv := Lib.run_convert_string_bytes (P := Tryd.prog) w 9 32 5 t (u := .string) Tryd.underlying9 Tryd.underlying32 Tryd.underlying5
  have hB : ∀ j, j < 16 → (Lib.bytesWorld w 5 t).cell? ⟨w.heap.size, j, none⟩ = some (.int .u8 ((Hx.dig (d / 16 ^ (15 - j) % 16)).toNat : Int)) := fun j hj => by
    rw [Lib.bytesWorld_cell w 5 t j (by omega), ht]
    have e := Hx.hx_get d 16 j hj
    rw [List.getD, List.getElem?_eq_getElem (by rw [Hx.hx_length]; exact hj), Option.getD_some, e]
  have hst : Still w (Lib.bytesWorld w 5 t) := still_of_below (Lib.bytesWorld_below _ _ _)
  obtain ⟨W1, hW1⟩ : ∃ W1, W1 = Lib.bytesWorld w 5 t := ⟨_, rfl⟩
  rw [← hW1] at hcv hB hst
  clear hW1 ht
  rw [hsz] at hcv
  have hmv : IntKind.u64.wrap (IntKind.u64.wrap 18446744073709551616 - 1) = 18446744073709551615 := by
    rw [IntKind.wrap_u64, IntKind.wrap_u64]
    decide
  go_enter Tryd.func39, Tryd.ntmps39
  go_wp2
  go_loop [12, 13, 101] (fun vu vn vi => ∃ (k : Nat) (a : Int), vu = .bool false ∧ vn = .int .u64 a ∧ vi = .int .i64 k ∧ k ≤ 16 ∧ 0 ≤ a ∧ a < 18446744073709551616 ∧ Hid (a = ((d / 16 ^ (16 - k) : Nat) : Int)))
    (fun _ _ vi => 16 - (intOf vi).toNat)
  case atStart => exact ⟨0, 0, rfl, rfl, rfl, by omega, by omega, by omega, by show _ = _; rw [Nat.div_eq_of_lt (show d < 16 ^ (16 - 0) from Nat.lt_of_lt_of_le hd (by decide))]; rfl⟩
  case round =>
    obtain ⟨k, a, rfl, rfl, rfl, hk, a0, a1, HA⟩ := hrel
    by_cases hkn : k < 16
    · have hc := hB k hkn
      have hstep := Hx.div_step d k hkn
      have hsm := Hx.div_small d k hd hkn
      have hx16 : d / 16 ^ (15 - k) % 16 < 16 := Nat.mod_lt _ (by omega)
      obtain ⟨x, hx⟩ : ∃ x, x = d / 16 ^ (15 - k) % 16 := ⟨_, rfl⟩
      rw [← hx] at hc hstep hx16
      have HN : Hid (a * 16 + (x : Int) = ((d / 16 ^ (16 - (k + 1)) : Nat) : Int)) := by
        show _ = _
        have := HA.out
        omega
      have a2 : a < 1152921504606846976 := by have := HA.out; omega
      rw [Hx.dig_toNat hx16] at hc
      clear hB hstep hsm hx a1
      by_cases h10 : x < 10
      · rw [if_pos h10] at hc
        have hnum : Hid (a * 16 + (((48 + x : Nat) : Int) - 48) = a * 16 + (x : Int)) := by show _ = _; omega
        obtain ⟨c, hcx⟩ : ∃ c : Nat, c = 48 + x := ⟨_, rfl⟩
        rw [← hcx] at hc hnum
        have c0 : 48 ≤ c := by omega
        have c1 : c ≤ 57 := by omega
        clear hcx h10 hx16
        go_wp2
        exact ⟨⟨k + 1, _, rfl, rfl, by go_num, by omega, by omega, by omega, by show _ = _; rw [hnum.out, HN.out]⟩, by simp [intOf]; omega⟩
      · rw [if_neg h10] at hc
        obtain ⟨y, rfl⟩ : ∃ y, x = 10 + y := ⟨x - 10, by omega⟩
        have hor := or32 ⟨y, by omega⟩
        simp only at hor
        rw [show 87 + (10 + y) = 97 + y by omega] at hc
        have hnum : Hid (a * 16 + (((97 + y : Nat) : Int) - 97 + 10) = a * 16 + ((10 + y : Nat) : Int)) := by show _ = _; omega
        obtain ⟨c, hcx⟩ : ∃ c : Nat, c = 97 + y := ⟨_, rfl⟩
        rw [← hcx] at hc hnum hor
        have c0 : 97 ≤ c := by omega
        have c1 : c ≤ 102 := by omega
        clear hcx h10 hx16
        go_wp2_with (go_at_call 50; refine (lower_any _ _).mono ?_; rintro e w' ⟨rfl, rfl⟩)
        exact ⟨⟨k + 1, _, rfl, rfl, by go_num, by omega, by omega, by omega, by show _ = _; rw [hnum.out, HN.out]⟩, by simp [intOf]; omega⟩
    · have hk16 : k = 16 := by omega
      subst hk16
      have HE : Hid (a = (d : Int)) := by
        show _ = _
        rw [HA.out]
        simp
      go_wp2
      go_ret2
      exact ⟨a, rfl, HE.out, hst⟩
end Go.Proofs.YtpdgbalhbfpdeaaDoor
