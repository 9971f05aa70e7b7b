/- Contracts: the form of a number, by the program and by the document; a clone of bytes. -/
import Derived.Test.YthgjhfooodcfbaaCn
import Derived.Lib.SliceRun
namespace Go.Proofs.Ythgjhfooodcfbaa
open Go.RowKit

theorem info_u8 : (Try.prog.info? 5).map (fun i => (i.zero, i.size, i.bytes)) = some (some (.int .u8 0), 1, 1) := by kernel_rfl

/-- A row of one byte. -/
theorem Ow.one (wr : World) (b : UInt8) (x : Int) (hx : x = (b.toNat : Int)) : Ow 5 (wr.alloc (.cells #[.int .u8 x] 5)) (some ⟨wr.heap.size, 0, none⟩) 1 1 [b] :=
  Ow.fresh wr _ 1 1 [b] rfl (Nat.le_refl _) (by unfold maxLen; omega) rfl (fun j hj => by
    have : j = 0 := by simpa using hj
    subst this
    rw [hx]; rfl)
theorem Rd.one (wr : World) (b : UInt8) (x : Int) (hx : x = (b.toNat : Int)) : Rd (wr.alloc (.cells #[.int .u8 x] 5)) (some ⟨wr.heap.size, 0, none⟩) 1 1 [b] := (Ow.one wr b x hx).rd

/-- what is appended to new memory is new memory -/
theorem still_app {w wr w1 : World} {o : Obj} {ao ao' : Option Addr} (hs : Still w wr) (ha : ∀ a, ao = some a → w.heap.size ≤ a.block) (hf : Fr (fun k => ∃ a, ao = some a ∧ a.block = k) (wr.alloc o) w1)
    (hn : ∀ a, ao' = some a → ao = some a ∨ (wr.alloc o).heap.size ≤ a.block) : Still w w1 ∧ ∀ a, ao' = some a → w.heap.size ≤ a.block := by
  refine ⟨Fr.trans (Fr.alloc hs o) hf ?_, fun a h => ?_⟩
  · rintro k hk ⟨a, h1, rfl⟩
    have := ha a h1
    omega
  · rcases hn a h with h1 | h1
    · exact ha a h1
    · have := hs.size
      simp at h1
      omega

set_option maxHeartbeats 400000 in
theorem form_any (n : Nat) (h : n < 18446744073709551616) (w : World) :
    Calls Try.prog 42 #[.int .u64 (n : Int)] w fun e w' => ∃ ao cap, e = .returned (.slice ao (Cp.form n).length cap) ∧ Ow 5 w' ao (Cp.form n).length cap (Cp.form n) ∧ Still w w' ∧ ∀ a, ao = some a → w.heap.size ≤ a.block := by
  obtain ⟨i0, hi, hz, hs1, hb1⟩ := info_parts info_u8
  have hten := Cp.form_ten h
  go_enter Try.func42, Try.ntmps42
  go_wp2
  go_loopw [0, 3] (fun a v wr => ∃ (m k : Nat) (ao : Option Addr) (cap : Nat) (bs : List UInt8), m < 18446744073709551616 ∧ a = .int .u64 (m : Int) ∧ v = .slice ao k cap ∧ Ow 5 wr ao k cap bs ∧ bs ++ Cp.form m = Cp.form n ∧ Still w wr ∧ ∀ a, ao = some a → w.heap.size ≤ a.block) (fun a _ _ => (intOf a).toNat)
  case atStart => exact ⟨n, 0, none, 0, [], h, rfl, rfl, Ow.empty _ _, rfl, Fr.refl _ _, fun _ h => by cases h⟩
  case round =>
    obtain ⟨m, k, ao, cap, bs, hm, rfl, rfl, ho, hbs, hst, hao⟩ := hrel
    have hk : k ≤ 10 := by
      have h1 := congrArg List.length hbs
      have h2 := ho.rd.len
      simp at h1
      omega
    have HB : Hid (bs ++ Cp.form m = Cp.form n) := hbs
    clear hbs
    by_cases hlt : m < 128
    · have hx : (m : Int) = ((UInt8.ofNat m).toNat : Int) := by rw [Cp.ofNat_toNat (by omega)]
      have HX : Hid ((m : Int) = ((UInt8.ofNat m).toNat : Int)) := hx
      have HF : Hid (bs ++ [UInt8.ofNat m] = Cp.form n) := by rw [← Cp.form_small hlt]; exact HB.out
      clear hx
      go_wp2_with (at_builtin; refine wpList_app _ rfl _ _ 26 rfl 5 i0 Try.underlying26 hi hz hs1 hb1 ao (some ⟨wr.heap.size, 0, none⟩) k cap 1 1 bs [UInt8.ofNat m] rfl rfl (ho.alloc _) (Rd.one wr _ _ HX.out) (by omega) ?_; intro ao' cap' w1 ho' hf' hn' _)
      obtain ⟨hst', hao'⟩ := still_app hst hao hf' hn'
      go_ret
      have hl : k + 1 = (Cp.form n).length := by rw [← HF.out]; simp [ho.rd.len]
      rw [HF.out] at ho'
      rw [hl] at ho'
      exact ⟨ao', cap', by rw [← hl]; rfl, ho', hst', hao'⟩
    · have e1 : bits .and .u64 (m : Int) 127 = (m : Int) % 128 := and127_u64 _ (by omega) (by omega)
      have e2 : bits .or .u8 ((m : Int) % 128) 128 = (m : Int) % 128 + 128 := or128_u8 _ (by omega) (by omega)
      have HX : Hid ((m : Int) % 128 + 128 = ((UInt8.ofNat (m % 128 + 128)).toNat : Int)) := by
        show _ = _
        rw [Cp.ofNat_toNat (by omega)]; omega
      have HF : Hid ((bs ++ [UInt8.ofNat (m % 128 + 128)]) ++ Cp.form (m / 128) = Cp.form n) := by
        show _ = _
        rw [← HB.out, Cp.form_great hlt]; simp
      go_wp2_with (at_builtin; refine wpList_app _ rfl _ _ 26 rfl 5 i0 Try.underlying26 hi hz hs1 hb1 ao (some ⟨wr.heap.size, 0, none⟩) k cap 1 1 bs [UInt8.ofNat (m % 128 + 128)] rfl rfl (ho.alloc _) (Rd.one wr _ _ HX.out) (by omega) ?_; intro ao' cap' w1 ho' hf' hn' _)
      obtain ⟨hst', hao'⟩ := still_app hst hao hf' hn'
      go_roundw
      case rel => exact ⟨m / 128, k + 1, ao', cap', _, by omega, by go_num, rfl, ho', HF.out, hst', hao'⟩
      case measure => simp [intOf]; omega
set_option maxHeartbeats 400000 in
set_option maxRecDepth 100000 in
theorem rform_any (n : Nat) (h : n < 18446744073709551616) (w : World) :
    Calls Try.prog 29 #[.int .u64 (n : Int)] w fun e w' => ∃ ao cap, e = .returned (.slice ao (Cp.form n).length cap) ∧ Ow 5 w' ao (Cp.form n).length cap (Cp.form n) ∧ Still w w' ∧ ∀ a, ao = some a → w.heap.size ≤ a.block := by
  obtain ⟨i0, hi, hz, hs1, hb1⟩ := info_parts info_u8
  have hten := Cp.form_ten h
  go_enter Try.func29, Try.ntmps29
  go_wp2
  go_loopw [0, 3] (fun a v wr => ∃ (m k : Nat) (ao : Option Addr) (cap : Nat) (bs : List UInt8), m < 18446744073709551616 ∧ a = .int .u64 (m : Int) ∧ v = .slice ao k cap ∧ Ow 5 wr ao k cap bs ∧ bs ++ Cp.form m = Cp.form n ∧ Still w wr ∧ ∀ a, ao = some a → w.heap.size ≤ a.block) (fun a _ _ => (intOf a).toNat)
  case atStart => exact ⟨n, 0, none, 0, [], h, rfl, rfl, Ow.empty _ _, rfl, Fr.refl _ _, fun _ h => by cases h⟩
  case round =>
    obtain ⟨m, k, ao, cap, bs, hm, rfl, rfl, ho, hbs, hst, hao⟩ := hrel
    have hk : k ≤ 10 := by
      have h1 := congrArg List.length hbs
      have h2 := ho.rd.len
      simp at h1
      omega
    have HB : Hid (bs ++ Cp.form m = Cp.form n) := hbs
    clear hbs
    by_cases hlt : m < 128
    · have hx : (m : Int) = ((UInt8.ofNat m).toNat : Int) := by rw [Cp.ofNat_toNat (by omega)]
      have HX : Hid ((m : Int) = ((UInt8.ofNat m).toNat : Int)) := hx
      have HF : Hid (bs ++ [UInt8.ofNat m] = Cp.form n) := by rw [← Cp.form_small hlt]; exact HB.out
      clear hx
      go_wp2_with (at_builtin; refine wpList_app _ rfl _ _ 26 rfl 5 i0 Try.underlying26 hi hz hs1 hb1 ao (some ⟨wr.heap.size, 0, none⟩) k cap 1 1 bs [UInt8.ofNat m] rfl rfl (ho.alloc _) (Rd.one wr _ _ HX.out) (by omega) ?_; intro ao' cap' w1 ho' hf' hn' _)
      obtain ⟨hst', hao'⟩ := still_app hst hao hf' hn'
      go_ret
      have hl : k + 1 = (Cp.form n).length := by rw [← HF.out]; simp [ho.rd.len]
      rw [HF.out] at ho'
      rw [hl] at ho'
      exact ⟨ao', cap', by rw [← hl]; rfl, ho', hst', hao'⟩
    · have HX : Hid ((m : Int) % 128 + 128 = ((UInt8.ofNat (m % 128 + 128)).toNat : Int)) := by
        show _ = _
        rw [Cp.ofNat_toNat (by omega)]; omega
      have HF : Hid ((bs ++ [UInt8.ofNat (m % 128 + 128)]) ++ Cp.form (m / 128) = Cp.form n) := by
        show _ = _
        rw [← HB.out, Cp.form_great hlt]; simp
      go_wp2_with (at_builtin; refine wpList_app _ rfl _ _ 26 rfl 5 i0 Try.underlying26 hi hz hs1 hb1 ao (some ⟨wr.heap.size, 0, none⟩) k cap 1 1 bs [UInt8.ofNat (m % 128 + 128)] rfl rfl (ho.alloc _) (Rd.one wr _ _ HX.out) (by omega) ?_; intro ao' cap' w1 ho' hf' hn' _)
      obtain ⟨hst', hao'⟩ := still_app hst hao hf' hn'
      go_roundw
      case rel => exact ⟨m / 128, k + 1, ao', cap', _, by omega, by go_num, rfl, ho', HF.out, hst', hao'⟩
      case measure => simp [intOf]; omega

/-- a clone: new memory -/
theorem clone_any (ao : Option Addr) (n cap : Nat) (bs : List UInt8) (w : World) (hr : Rd w ao n cap bs) (h47 : n ≤ 140737488355328) :
    Calls Try.prog 34 #[.slice ao n cap] w fun e w' => ∃ ao' cap', e = .returned (.slice ao' n cap') ∧ Ow 5 w' ao' n cap' bs ∧ Still w w' ∧ ∀ a, ao' = some a → w.heap.size ≤ a.block := by
  obtain ⟨i0, hi, hz, hs1, hb1⟩ := info_parts info_u8
  have hnil := fun (W : World) => Lib.run_eql_slice_nil (P := Try.prog) W 26 5 ao n cap 0 0 Try.underlying26
  cases ao with
  | none =>
    have h1 := hr.nil rfl
    have h2 := hr.le
    have h3 := hr.len
    obtain rfl : n = 0 := by omega
    obtain rfl : cap = 0 := by omega
    obtain rfl : bs = [] := List.eq_nil_of_length_eq_zero h3
    go_enter Try.func34, Try.ntmps34
    go_wp2
    go_ret
    exact ⟨none, 0, rfl, Ow.empty _ _, Fr.refl _ _, fun _ h => by cases h⟩
  | some a =>
    have hw1 : Ow 5 (w.alloc (.cells #[] 5)) (some ⟨w.heap.size, 0, none⟩) 0 0 [] := Ow.fresh w #[] 0 0 [] rfl (Nat.le_refl _) (by unfold maxLen; omega) rfl (fun j hj => by simp at hj)
    go_enter Try.func34, Try.ntmps34
    go_wp2_with (at_builtin; refine wpList_app _ rfl _ _ 26 rfl 5 i0 Try.underlying26 hi hz hs1 hb1 (some ⟨w.heap.size, 0, none⟩) (some a) 0 0 n cap [] bs rfl rfl hw1 (hr.alloc _) (by omega) ?_; intro ao' cap' w1 ho' hf' hn' _)
    go_ret
    have hst : Still w w1 := Fr.trans (Still.alloc w _) hf' (by rintro k hk ⟨a, h1, rfl⟩; cases h1; simp at hk)
    rw [Nat.zero_add] at ho'
    refine ⟨ao', cap', by rw [← Nat.zero_add n]; rfl, by simpa using ho', hst, fun a h => ?_⟩
    rcases hn' a h with h1 | h1
    · cases h1; exact Nat.le_refl _
    · simp at h1; omega
end Go.Proofs.Ythgjhfooodcfbaa
