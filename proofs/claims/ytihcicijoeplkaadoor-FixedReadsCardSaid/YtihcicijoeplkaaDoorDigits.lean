/- The contract of the document's digits. -/
import Derived.Test.YtihcicijoeplkaaDoorRef
import Derived.Test.YtihcicijoeplkaaDoorRt
import Derived.Lib.SlBytesRow
namespace Go.Proofs.YtihcicijoeplkaaDoor
open Go.ChangeShapes Go.WideShapes Go.ChangeAt Go.RowKit
open Pu

theorem cells_u8 : Tryd.prog.cellsOf 5 = 1 := by kernel_rfl
/-- one byte as a string. -/
theorem conv_one (wr : World) (v : UInt8) (x : Int) (hx : x = (v.toNat : Int)) :
    (convert 42 9 (.slice (some ⟨wr.heap.size, 0, none⟩) 1 1)).run Tryd.prog (wr.alloc (.cells #[.int .u8 x] 5)) = .ok (.string ⟨#[v]⟩) (wr.alloc (.cells #[.int .u8 x] 5)) := by
  have h := Lib.run_convert_whole (P := Tryd.prog) (wr.alloc (.cells #[.int .u8 x] 5)) 42 5 9 Tryd.underlying42 Tryd.underlying5 Tryd.underlying9 wr.heap.size 0 ⟨#[v]⟩ (by
    intro i hi
    have hs : (ByteArray.mk #[v]).size = 1 := rfl
    have h0 : i = 0 := by omega
    subst h0
    rw [hx]
    simp
    rfl) 1
  exact h
theorem digits_any (n k : Int) (h0 : 0 ≤ n) (h1 : n ≤ 4611686018427387904) (k0 : 0 ≤ k) (k1 : k ≤ 1000) (w : World) :
    Calls Tryd.prog 43 #[.int .i64 n, .int .i64 k] w fun e w' => ∃ t : ByteArray, e = .returned (.string t) ∧ t.data.toList = dlF (n.toNat + k.toNat) n.toNat k.toNat ∧ Below w.heap.size w w' := by
  go_enter Tryd.func43, Tryd.ntmps43
  go_wp2
  go_loopw [0, 1, 5] (fun a b s wr => ∃ (m l : Int) (t : ByteArray) (f : Nat), 0 ≤ m ∧ m ≤ 4611686018427387904 ∧ l ≤ 9223372036854775807 ∧ -9223372036854775808 + m ≤ l ∧ m.toNat + l.toNat ≤ f ∧ a = .int .i64 m ∧ b = .int .i64 l ∧ s = .string t ∧ dlF f m.toNat l.toNat ++ t.data.toList = dlF (n.toNat + k.toNat) n.toNat k.toNat ∧ Below w.heap.size w wr)
    (fun a b _ _ => (intOf a).toNat + (intOf b).toNat)
  case atStart => exact ⟨n, k, ⟨#[]⟩, n.toNat + k.toNat, h0, h1, by omega, by omega, by omega, rfl, rfl, rfl, by simp, Below.refl _ _⟩
  case round =>
    obtain ⟨m, l, t, f, hm, hm2, hl1, hl2, hf, rfl, rfl, rfl, hd, hb⟩ := hrel
    have hts : t.size ≤ 4611686018427388904 := by
      have e1 := congrArg List.length hd
      have e2 := dlF_len (n.toNat + k.toNat) n.toNat k.toNat
      rw [List.length_append] at e1
      rw [Lib.size_eq]; omega
    have HD := Lib.hid hd
    have HB := Lib.hid hb
    clear hd hb
    have v1 : (48 + m % 10) = ((UInt8.ofNat (48 + m.toNat % 10)).toNat : Int) := by
      rw [dig_nat (by omega)]; omega
    have hconv := conv_one wr _ _ v1
    have HV := Lib.hid v1
    clear v1
    obtain ⟨V, hV⟩ : ∃ V, V = UInt8.ofNat (48 + m.toNat % 10) := ⟨_, rfl⟩
    rw [← hV] at hconv
    have HW := Lib.hid hV
    clear hV HV
    have fin : ¬ (m.toNat = 0 ∧ l.toNat = 0) → ∃ g, f = g + 1 ∧ (m / 10).toNat + (l - 1).toNat ≤ g ∧ dlF g (m / 10).toNat (l - 1).toNat ++ (ByteArray.mk #[V] ++ t).data.toList = dlF (n.toNat + k.toNat) n.toNat k.toNat := by
      intro hne
      obtain ⟨g, rfl⟩ : ∃ g, f = g + 1 := ⟨f - 1, by omega⟩
      refine ⟨g, rfl, by omega, ?_⟩
      rw [← HD.out, dlF_step hne]
      have e1 : (m / 10).toNat = m.toNat / 10 := by omega
      have e2 : (l - 1).toNat = l.toNat - 1 := by omega
      rw [e1, e2, HW.out]
      simp [ByteArray.data_append]
    have FIN := Lib.hid fin
    clear fin
    by_cases c : 0 < m
    · go_wp2
      go_roundw
      case rel =>
        obtain ⟨g, rfl, g1, g2⟩ := FIN.out (by omega)
        exact ⟨m / 10, l - 1, _, g, by omega, by omega, by omega, by omega, g1, rfl, rfl, rfl, g2, HB.out.alloc HB.out.size _⟩
      case measure => simp [intOf]; omega
    · have c0 : m = 0 := by omega
      subst c0
      rw [show (48 : Int) + 0 % 10 = 48 by decide] at hconv
      by_cases c2 : 0 < l
      · go_wp2
        go_roundw
        case rel =>
          obtain ⟨g, rfl, g1, g2⟩ := FIN.out (by omega)
          exact ⟨0, l - 1, _, g, by omega, by omega, by omega, by omega, g1, rfl, rfl, rfl, g2, HB.out.alloc HB.out.size _⟩
        case measure => simp [intOf]; omega
      · clear hconv
        go_wp2
        go_ret
        refine ⟨t, rfl, ?_, HB.out⟩
        rw [← HD.out, show l.toNat = 0 by omega]
        simp [dlF_none]
end Go.Proofs.YtihcicijoeplkaaDoor
