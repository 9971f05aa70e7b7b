/- Contracts: a text read as a sum, by the program and by the document; awake. -/
import Derived.Test.YtpdgbalhbfpdeaaDoorPs
namespace Go.Proofs.YtpdgbalhbfpdeaaDoor
open Go.RowKit Go.Shelf

theorem toSyntax (fn s : ByteArray) (base size : Int) (w : World) (hlim : s.size ≤ 281474976710656) (ht : Tab w) :
    Calls Tryd.prog 40 #[.string fn, .string s, .int .i64 base, .int .i64 size, .iface 84 (.int .i64 2)] w fun e w' => ∃ T p, e = .returned (.iface T p) ∧ Still w w' := by
  obtain ⟨te, pe, hv⟩ := ht.es
  refine (AnyPu.strconv_toError_syntax (ρ := Tryd.laysPu14_ren) { Tryd.laysPu14 with } fn s base size (.iface te pe) w hlim hv (.inr ⟨te, pe, rfl⟩)).mono ?_
  rintro e w' ⟨N, rfl, _, _, hb⟩
  exact ⟨_, _, rfl, still_of_below hb⟩
theorem toRange (fn s : ByteArray) (base size : Int) (w : World) (hlim : s.size ≤ 281474976710656) (ht : Tab w) :
    Calls Tryd.prog 40 #[.string fn, .string s, .int .i64 base, .int .i64 size, .iface 84 (.int .i64 1)] w fun e w' => ∃ T p, e = .returned (.iface T p) ∧ Still w w' := by
  obtain ⟨te, pe, hv⟩ := ht.er
  refine (AnyPu.strconv_toError_range (ρ := Tryd.laysPu14_ren) { Tryd.laysPu14 with } fn s base size (.iface te pe) w hlim hv (.inr ⟨te, pe, rfl⟩)).mono ?_
  rintro e w' ⟨N, rfl, _, _, hb⟩
  exact ⟨_, _, rfl, still_of_below hb⟩

set_option maxRecDepth 100000 in
theorem parseUint_miss (t : ByteArray) (hmax : t.size ≤ 281474976710656) (w : World) (ht : Tab w) :
    Calls Tryd.prog 28 #[.string t, .int .i64 16, .int .i64 64] w fun e w' => ∃ (n : Int) (v : Value), e = .returned (.tuple #[.int .u64 n, v]) ∧ (0 ≤ n ∧ n < 18446744073709551616) ∧ (v = .nilIface ∨ ∃ T p, v = .iface T p) ∧ Still w w' := by
  have hI := hid (parseIn_miss t (by omega) w)
  go_enter Tryd.func28, Tryd.ntmps28
  go_wp2_with fail
  refine hI.out.mono ?_
  rintro e w1 ⟨n, v, rfl, hn, hv, hs⟩
  have H := hid (And.intro hn hs)
  have ht1 := ht.still hs
  clear hn hs hI
  rcases hv with rfl | rfl | rfl
  · go_wp2_with fail
    go_ret2
    exact ⟨n, _, rfl, H.out.1, .inl rfl, H.out.2⟩
  · go_wp2_with (go_at_call 40; refine (toRange _ t _ _ _ hmax ht1).mono ?_; rintro e w2 ⟨T, p, rfl, hs2⟩)
    go_ret2
    exact ⟨n, _, rfl, H.out.1, .inr ⟨T, p, rfl⟩, H.out.2.trans hs2⟩
  · go_wp2_with (go_at_call 40; refine (toSyntax _ t _ _ _ hmax ht1).mono ?_; rintro e w2 ⟨T, p, rfl, hs2⟩)
    go_ret2
    exact ⟨n, _, rfl, H.out.1, .inr ⟨T, p, rfl⟩, H.out.2.trans hs2⟩
set_option maxRecDepth 100000 in
theorem parseUint_hit (t : ByteArray) (d : Nat) (hd : d < 18446744073709551616) (ht : t.data.toList = Hx.hx d 16) (w : World) :
    Calls Tryd.prog 28 #[.string t, .int .i64 16, .int .i64 64] w fun e w' => ∃ n : Int, e = .returned (.tuple #[.int .u64 n, .nilIface]) ∧ n = (d : Int) ∧ Still w w' := by
  have hI := hid (parseIn_hit t d hd ht w)
  clear ht hd
  go_enter Tryd.func28, Tryd.ntmps28
  go_wp2_with (go_at_call 39; refine hI.out.mono ?_; rintro e w1 ⟨n, rfl, h⟩; have H := hid h; clear h)
  go_ret2
  exact ⟨n, rfl, H.out.1, H.out.2⟩
theorem beq_text {s t : ByteArray} (h : s.data.toList = t.data.toList) : s = t := by
  apply ByteArray.ext
  exact Array.toList_inj.1 h

theorem text_ne {u t : ByteArray} (h : ¬ u = t) : (u.toList == t.toList) = false := by
  rw [Bool.eq_false_iff]
  intro k
  rw [beq_iff_eq, ByteArray.toList_eq, ByteArray.toList_eq] at k
  exact h (beq_text k)
theorem byte_at {t : ByteArray} {l : List UInt8} (h : t.data.toList = l) {k : Nat} (hk : k < t.size) (hl : k < l.length) : (t[k]'hk).toNat = (l[k]'hl).toNat := by
  subst h
  rfl
set_option maxRecDepth 100000 in
theorem parse_hit (t : ByteArray) (d : Nat) (hd : d < 18446744073709551616) (hx : t.data.toList = Hx.hx d 16) (w : World) (ht : Tab w) :
    Calls Tryd.prog 11 #[.string t] w fun e w' => ∃ n : Int, e = .returned (.tuple #[.int .u64 n, .int .i64 0]) ∧ n = (d : Int) ∧ Still w w' := by
  have hI := hid (parseUint_hit t d hd hx w)
  have HX := hid hx
  clear hx
  go_enter Tryd.func11, Tryd.ntmps11
  go_wp2_with (go_at_call 28; refine hI.out.mono ?_; rintro e w1 ⟨n, rfl, hn, hs⟩; have H := hid (And.intro hn hs); have hP := hid (print_any d n hn hd w1 (ht.still hs)); clear hn hs)
  refine hP.out.mono ?_
  rintro e w2 ⟨u, rfl, hu, hs2⟩
  have hut : u = t := beq_text (hu.trans HX.out.symm)
  subst hut
  have HS := hid hs2
  clear hu hs2 hP hI
  go_wp2_with fail
  go_ret2
  exact ⟨n, rfl, H.out.1, H.out.2.trans HS.out⟩
set_option maxRecDepth 100000 in
theorem parse_miss (t : ByteArray) (hmax : t.size ≤ 281474976710656) (hx : ∀ d, d < 18446744073709551616 → t.data.toList ≠ Hx.hx d 16) (w : World) (ht : Tab w) :
    Calls Tryd.prog 11 #[.string t] w fun e w' => e = .returned (.tuple #[.int .u64 0, .int .i64 30]) ∧ Still w w' := by
  have hI := hid (parseUint_miss t hmax w ht)
  have HX := hid hx
  clear hx
  go_enter Tryd.func11, Tryd.ntmps11
  go_wp2_with fail
  refine hI.out.mono ?_
  rintro e w1 ⟨n, v, rfl, hn, hv, hs⟩
  have hP := hid (print_any n.toNat n (by omega) (by omega) w1 (ht.still hs))
  have H := hid (And.intro hn hs)
  clear hn hs hI
  rcases hv with rfl | ⟨T, p, rfl⟩
  · go_wp2_with fail
    refine hP.out.mono ?_
    rintro e w2 ⟨u, rfl, hu, hs2⟩
    have hut : ¬ u = t := fun e => HX.out n.toNat (by have := H.out.1; omega) (by rw [← e]; exact hu)
    have hb := text_ne hut
    have HS := hid hs2
    clear hu hs2 hP
    go_wp2_with fail
    go_ret2
    exact ⟨rfl, H.out.2.trans HS.out⟩
  · go_wp2_with fail
    go_ret2
    exact ⟨rfl, H.out.2⟩

set_option maxRecDepth 100000 in
theorem rparse_hit (t : ByteArray) (d : Nat) (hd : d < 18446744073709551616) (hx : t.data.toList = Hx.hx d 16) (w : World) :
    Calls Tryd.prog 17 #[.string t] w fun e w' => ∃ n : Int, e = .returned (.tuple #[.int .u64 n, .int .i64 0]) ∧ n = (d : Int) ∧ Still w w' := by
  have hsz : t.size = 16 := by rw [Lib.size_eq, hx, Hx.hx_length]
  go_enter Tryd.func17, Tryd.ntmps17
  go_wp2
  go_loopw [4, 5] (fun vd vi wr => ∃ (k : Nat) (a : Int), vd = .int .u64 a ∧ vi = .int .i64 k ∧ k ≤ 16 ∧ 0 ≤ a ∧ a < 18446744073709551616 ∧ Hid (a = ((d / 16 ^ (16 - k) : Nat) : Int)) ∧ wr = w)
    (fun _ vi _ => 16 - (intOf vi).toNat)
  case atStart => exact ⟨0, 0, rfl, rfl, by omega, by omega, by omega, by show _ = _; rw [Nat.div_eq_of_lt (show d < 16 ^ (16 - 0) from Nat.lt_of_lt_of_le hd (by decide))]; rfl, rfl⟩
  case round =>
    obtain ⟨k, a, rfl, rfl, hk, a0, a1, HA, rfl⟩ := hrel
    by_cases hkn : k < 16
    · have hstep := Hx.div_step d k hkn
      have hsm := Hx.div_small d k hd hkn
      have hx16 : d / 16 ^ (15 - k) % 16 < 16 := Nat.mod_lt _ (by omega)
      have hc : (t[k]'(by omega)).toNat = (Hx.dig (d / 16 ^ (15 - k) % 16)).toNat := by
        rw [byte_at hx (by omega) (by rw [Hx.hx_length]; exact hkn), Hx.hx_get d 16 k hkn]
      obtain ⟨x, hxx⟩ : ∃ x, x = d / 16 ^ (15 - k) % 16 := ⟨_, rfl⟩
      rw [← hxx] at hc hstep hx16
      have HN : Hid (a * 16 + (x : Int) = ((d / 16 ^ (16 - (k + 1)) : Nat) : Int)) := by
        show _ = _
        have := HA.out
        omega
      have a2 : a < 1152921504606846976 := by have := HA.out; omega
      rw [Hx.dig_toNat hx16] at hc
      have HX := hid hx
      clear hstep hsm hxx a1 hx
      by_cases h10 : x < 10
      · rw [if_pos h10] at hc
        have c0 : 48 ≤ (t[k]'(by omega)).toNat := by omega
        have c1 : (t[k]'(by omega)).toNat ≤ 57 := by omega
        have hnum : Hid (16 * a + ((t[k]'(by omega)).toNat - 48 : Int) = a * 16 + (x : Int)) := by show _ = _; rw [hc]; omega
        clear hc h10 hx16
        go_wp2
        go_roundw
        case rel => exact ⟨k + 1, _, rfl, by go_num, by omega, by omega, by omega, by show _ = _; rw [hnum.out, HN.out], by trivial⟩
        case measure => simp [intOf]; omega
      · rw [if_neg h10] at hc
        have c0 : 97 ≤ (t[k]'(by omega)).toNat := by omega
        have c1 : (t[k]'(by omega)).toNat ≤ 102 := by omega
        have hnum : Hid (16 * a + ((t[k]'(by omega)).toNat - 97 : Int) + 10 = a * 16 + (x : Int)) := by show _ = _; rw [hc]; omega
        clear hc h10 hx16
        go_wp2
        go_roundw
        case rel => exact ⟨k + 1, _, rfl, by go_num, by omega, by omega, by omega, by show _ = _; rw [hnum.out, HN.out], by trivial⟩
        case measure => simp [intOf]; omega
    · have hk16 : k = 16 := by omega
      subst hk16
      have hE : a = (d : Int) := by
        rw [HA.out]
        simp
      have HE := hid hE
      have hP := hid (rprint_any d a hE hd wr)
      have HX := hid hx
      clear hE hx
      go_wp2_with fail
      refine hP.out.mono ?_
      rintro e w2 ⟨u, rfl, hu, hs2⟩
      have hut : u = t := beq_text (hu.trans HX.out.symm)
      subst hut
      have HS := hid hs2
      clear hu hs2 hP
      go_wp2_with fail
      go_ret2
      exact ⟨a, rfl, HE.out, HS.out⟩
set_option maxRecDepth 100000 in
theorem rparse_miss (t : ByteArray) (hx : ∀ d, d < 18446744073709551616 → t.data.toList ≠ Hx.hx d 16) (w : World) :
    Calls Tryd.prog 17 #[.string t] w fun e w' => e = .returned (.tuple #[.int .u64 0, .int .i64 30]) ∧ Still w w' := by
  have HX := hid hx
  clear hx
  by_cases hsz : t.size = 16
  · go_enter Tryd.func17, Tryd.ntmps17
    go_wp2
    go_loopw [4, 5] (fun vd vi wr => ∃ (k : Nat) (a : Int), vd = .int .u64 a ∧ vi = .int .i64 k ∧ k ≤ 16 ∧ 0 ≤ a ∧ a < 18446744073709551616 ∧ wr = w)
      (fun _ vi _ => 16 - (intOf vi).toNat)
    case atStart => exact ⟨0, 0, rfl, rfl, by omega, by omega, by omega, rfl⟩
    case round =>
      obtain ⟨k, a, rfl, rfl, hk, a0, a1, rfl⟩ := hrel
      by_cases hkn : k < 16
      · have c2 : (t[k]'(by omega)).toNat < 256 := (t[k]'(by omega)).toNat_lt
        go_wp2
        all_goals (go_roundw; (case measure => simp [intOf]; omega))
        all_goals first
          | exact ⟨k + 1, _, rfl, by go_num, by omega, (wrap_in _).1, (wrap_in _).2, by trivial⟩
          | exact ⟨k + 1, _, rfl, by go_num, by omega, by omega, by omega, by trivial⟩
      · have hP := hid (rprint_any a.toNat a (by omega) (by omega) wr)
        have HR : Hid (0 ≤ a ∧ a < 18446744073709551616) := ⟨a0, a1⟩
        go_wp2_with fail
        refine hP.out.mono ?_
        rintro e w2 ⟨u, rfl, hu, hs2⟩
        have hut : ¬ u = t := fun e => HX.out a.toNat (by have := HR.out; omega) (by rw [← e]; exact hu)
        have hb := text_ne hut
        have HS := hid hs2
        clear hu hs2 hP
        go_wp2_with fail
        go_ret2
        exact ⟨rfl, HS.out⟩
  · go_enter Tryd.func17, Tryd.ntmps17
    go_wp2
    go_ret2
    exact ⟨rfl, Fr.refl _ _⟩
end Go.Proofs.YtpdgbalhbfpdeaaDoor
