/- Contracts: a sum as text. -/
import Derived.Test.YtpdgbalhbfpdeaaDoorFm
namespace Go.Proofs.YtpdgbalhbfpdeaaDoor
open Go.RowKit

set_option maxRecDepth 100000 in
theorem formatIn_any (d : Nat) (u : Int) (hu : u = (d : Int)) (hd : d < 18446744073709551616) (w : World) (ht : Tab w) :
    Calls Tryd.prog 32 #[.int .u64 u, .int .i64 16] w fun e w' => ∃ (t : ByteArray) (m : Nat), e = .returned (.string t) ∧ t.data.toList = Hx.hx d m ∧ 1 ≤ m ∧ m ≤ 16 ∧ d < 16 ^ m ∧ Still w w' := by
  have hc := hid (formatBits_any d u hu hd w ht)
  clear hu hd ht
  go_enter Tryd.func32, Tryd.ntmps32
  go_wp2_with (go_at_call 44; refine hc.out.mono ?_; rintro e w' ⟨t, m, rfl, h⟩; have H := hid h; clear h)
  go_ret
  obtain ⟨h1, h2, h3, h4, h5⟩ := H.out
  exact ⟨t, m, rfl, h1, h2, h3, h4, h5⟩
set_option maxRecDepth 100000 in
theorem format_any (d : Nat) (u : Int) (hu : u = (d : Int)) (hd : d < 18446744073709551616) (w : World) (ht : Tab w) :
    Calls Tryd.prog 26 #[.int .u64 u, .int .i64 16] w fun e w' => ∃ (t : ByteArray) (m : Nat), e = .returned (.string t) ∧ t.data.toList = Hx.hx d m ∧ 1 ≤ m ∧ m ≤ 16 ∧ d < 16 ^ m ∧ Still w w' := by
  have hc := hid (formatIn_any d u hu hd w ht)
  clear hu hd ht
  go_enter Tryd.func26, Tryd.ntmps26
  go_wp2_with (go_at_call 32; refine hc.out.mono ?_; rintro e w' ⟨t, m, rfl, h⟩; have H := hid h; clear h)
  go_ret
  obtain ⟨h1, h2, h3, h4, h5⟩ := H.out
  exact ⟨t, m, rfl, h1, h2, h3, h4, h5⟩
theorem rep_one (c : Nat) : Lib.repeatL [48] c = List.replicate c 48 := by
  induction c with
  | zero => rfl
  | succ c ih => rw [List.replicate_succ, ← ih]; rfl
/-- noughts -/
theorem noughts_any (c : Nat) (hc : c ≤ 16) (x : Int) (hx : x = (c : Int)) (w : World) :
    Calls Tryd.prog 27 #[.string ⟨#[48]⟩, .int .i64 x] w fun e w' => ∃ t : ByteArray, e = .returned (.string t) ∧ t.data.toList = List.replicate c 48 ∧ Still w w' := by
  subst hx
  refine (Tryd.strings_Repeat ⟨#[48]⟩ c w (by omega) (by show 1 * c ≤ _; omega)).mono ?_
  rintro e w' ⟨rfl, hb⟩
  refine ⟨_, rfl, ?_, still_of_below hb⟩
  show Lib.repeatL [48] c = _
  exact rep_one c
set_option maxRecDepth 100000 in
theorem print_any (d : Nat) (u : Int) (hu : u = (d : Int)) (hd : d < 18446744073709551616) (w : World) (ht : Tab w) :
    Calls Tryd.prog 10 #[.int .u64 u] w fun e w' => ∃ t : ByteArray, e = .returned (.string t) ∧ t.data.toList = Hx.hx d 16 ∧ Still w w' := by
  have hc := hid (format_any d u hu hd w ht)
  clear hu hd ht
  go_enter Tryd.func10, Tryd.ntmps10
  go_wp2_with (go_at_call 26; refine hc.out.mono ?_; rintro e w1 ⟨t, m, rfl, h1, h2, h3, h⟩; have hs : t.size = m := (by rw [Lib.size_eq, h1, Hx.hx_length]); have H := hid (And.intro h1 h); clear h h1)
  refine (noughts_any (16 - m) (by omega) (16 - (m : Int)) (by omega) w1).mono ?_
  rintro e w2 ⟨z, rfl, hz, hst⟩
  have hzs : z.size = 16 - m := by rw [Lib.size_eq, hz, List.length_replicate]
  have HZ := hid (And.intro hz hst)
  clear hz hst
  go_wp2_with fail
  go_ret
  obtain ⟨h1, h4, h5⟩ := H.out
  obtain ⟨h6, h7⟩ := HZ.out
  refine ⟨_, rfl, ?_, h5.trans h7⟩
  rw [ByteArray.data_append, Array.toList_append, h6, h1, ← Hx.hx_pad d m (16 - m) h4, show 16 - m + m = 16 by omega]
/-- one byte as a string. -/
theorem conv_one (wr : World) (v : UInt8) (x : Int) (hx : x = (v.toNat : Int)) :
    (convert 32 9 (.slice (some ⟨wr.heap.size, 0, none⟩) 1 1)).run Tryd.prog (wr.alloc (.cells #[.int .u8 x] 5)) = .ok (.string ⟨#[v]⟩) (wr.alloc (.cells #[.int .u8 x] 5)) := by
  have h := Lib.run_convert_whole (P := Tryd.prog) (wr.alloc (.cells #[.int .u8 x] 5)) 32 5 9 Tryd.underlying32 Tryd.underlying5 Tryd.underlying9 wr.heap.size 0 ⟨#[v]⟩ (by
    intro i hi
    have hs : (ByteArray.mk #[v]).size = 1 := rfl
    have h0 : i = 0 := by omega
    subst h0
    rw [hx]
    simp
    rfl) 1
  exact h
set_option maxRecDepth 100000 in
theorem rprint_any (d : Nat) (u : Int) (hu : u = (d : Int)) (hd : d < 18446744073709551616) (w : World) :
    Calls Tryd.prog 16 #[.int .u64 u] w fun e w' => ∃ t : ByteArray, e = .returned (.string t) ∧ t.data.toList = Hx.hx d 16 ∧ Still w w' := by
  have HU := hid hu
  have u0 : 0 ≤ u := by omega
  have u1 : u < 18446744073709551616 := by omega
  clear hu
  go_enter Tryd.func16, Tryd.ntmps16
  go_wp2
  go_loopw [0, 3, 4] (fun vd vs vi wr => ∃ (k : Nat) (a : Int) (t : ByteArray), k ≤ 16 ∧ vd = .int .u64 a ∧ vs = .string t ∧ vi = .int .i64 (k : Int) ∧ 0 ≤ a ∧ a < 18446744073709551616 ∧ t.size = k ∧ Hid (a = ((d / 16 ^ k : Nat) : Int)) ∧ Hid (t.data.toList = Hx.hx d k) ∧ Still w wr) (fun _ _ vi _ => 16 - (intOf vi).toNat)
  case atStart => exact ⟨0, u, ⟨#[]⟩, by omega, rfl, rfl, rfl, u0, u1, rfl, by show _ = _; rw [HU.out]; simp, rfl, Fr.refl _ _⟩
  case round =>
    obtain ⟨k, a, t, hk, rfl, rfl, rfl, a0, a1, hts, HA, HT, hst⟩ := hrel
    by_cases hlt : k < 16
    · have HN : Hid (a / 16 = ((d / 16 ^ (k + 1) : Nat) : Int)) := by
        show _ = _
        rw [HA.out, Nat.pow_succ, ← Nat.div_div_eq_div_mul]; omega
      obtain ⟨V, hV⟩ : ∃ V, V = Hx.dig (d / 16 ^ k % 16) := ⟨_, rfl⟩
      have HT2 : Hid ((ByteArray.mk #[V] ++ t).data.toList = Hx.hx d (k + 1)) := by
        show _ = _
        rw [ByteArray.data_append, Array.toList_append, HT.out, hV]; rfl
      have hdn := Hx.dig_toNat (n := d / 16 ^ k % 16) (by omega)
      by_cases h9 : 9 < a % 16
      · have v1 : (97 + a % 16 - 10 : Int) = (V.toNat : Int) := by
          have := HA.out
          rw [hV, hdn, if_neg (by omega)]
          omega
        have hconv := conv_one wr _ _ v1
        clear v1 hdn hV HA
        go_wp2
        go_roundw
        case rel => exact ⟨k + 1, a / 16, _, by omega, rfl, rfl, by go_num, by omega, by omega, by rw [ByteArray.size_append]; have : (ByteArray.mk #[V]).size = 1 := rfl; omega, HN, HT2, Fr.alloc hst _⟩
        case measure => simp [intOf]; omega
      · have v1 : (48 + a % 16 : Int) = (V.toNat : Int) := by
          have := HA.out
          rw [hV, hdn, if_pos (by omega)]
          omega
        have hconv := conv_one wr _ _ v1
        clear v1 hdn hV HA
        go_wp2
        go_roundw
        case rel => exact ⟨k + 1, a / 16, _, by omega, rfl, rfl, by go_num, by omega, by omega, by rw [ByteArray.size_append]; have : (ByteArray.mk #[V]).size = 1 := rfl; omega, HN, HT2, Fr.alloc hst _⟩
        case measure => simp [intOf]; omega
    · have hk16 : k = 16 := by omega
      subst hk16
      go_wp2
      go_ret
      exact ⟨t, rfl, HT.out, hst⟩
end Go.Proofs.YtpdgbalhbfpdeaaDoor
