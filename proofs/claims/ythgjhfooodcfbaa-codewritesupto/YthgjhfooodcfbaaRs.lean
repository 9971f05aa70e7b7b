/- Contracts: a reader's bytes; what is left; a new reader. -/
import Derived.Test.YthgjhfooodcfbaaRr
namespace Go.Proofs.Ythgjhfooodcfbaa
open Go.RowKit

theorem firstByte_none (ao : Option Addr) (cap : Nat) (w : World) :
    Calls Try.prog 45 #[.slice ao 0 cap] w fun r w' => r = .returned (.tuple #[.int .u8 0, .int .i64 0, .int .i64 20]) ∧ w' = w := by
  go_enter Try.func45, Try.ntmps45
  go_wp2
  go_ret3
  exact ⟨rfl, rfl⟩
theorem firstByte_some (ao : Option Addr) (n cap : Nat) (b : UInt8) (bs : List UInt8) (w : World) (hr : Rd w ao n cap (b :: bs)) :
    Calls Try.prog 45 #[.slice ao n cap] w fun r w' => r = .returned (.tuple #[.int .u8 (b.toNat : Int), .int .i64 1, .int .i64 0]) ∧ w' = w := by
  have hl := hr.len
  simp at hl
  have hn : 0 < n := by omega
  have hsm := hr.small
  clear hl
  obtain ⟨q, o, rfl⟩ := hr.addr hn
  have hc : w.cell? ⟨q, o, none⟩ = some (.int .u8 (b.toNat : Int)) := by
    have h := hr.byte (k := 0) (by simp)
    rw [Nat.add_zero] at h
    exact h
  go_enter Try.func45, Try.ntmps45
  go_wp2
  go_ret3
  exact ⟨rfl, rfl⟩
theorem byte_any (p : Nat) (ao : Option Addr) (n cap : Nat) (bs : List UInt8) (e : Int) (w : World) (hr : Rr w p ao n cap bs e) :
    Calls Try.prog 23 #[.pointer (some ⟨p, 0, none⟩)] w fun r w' => r = .returned (.int .u8 ((Cp.byteS bs e).1.toNat : Int)) ∧ Took w w' p ao (Cp.byteS bs e).2.1 (Cp.byteS bs e).2.2 := by
  have hlen := hr.rd.len
  cases bs with
  | nil =>
    simp at hlen
    subst hlen
    have HC := hid (take_byte p ao 0 cap [] e 0 0 20 w hr (by omega) (firstByte_none ao cap w))
    go_enter Try.func23, Try.ntmps23
    go_wp2_with fail
    refine HC.out.mono ?_
    rintro r w1 (⟨he, rfl, rfl⟩ | ⟨he, hr0, rfl, ht⟩ | ⟨he, hr0, rfl, ht⟩)
    · have HU : Hid (Cp.byteS [] e = (0, [], e)) := by unfold Cp.byteS; rw [if_pos he]; exact rfl
      go_wp2
      go_ret
      rw [HU.out]
      exact ⟨rfl, Took.same hr⟩
    · have HU : Hid (Cp.byteS [] e = (0, [], 20)) := by unfold Cp.byteS; rw [if_neg (by omega)]; exact rfl
      clear hr0 he
      go_wp2
      go_ret
      rw [HU.out]
      exact ⟨rfl, ht⟩
    · omega
  | cons b bs =>
    simp at hlen
    have hn : 1 ≤ n := by omega
    clear hlen
    have HC := hid (take_byte p ao n cap (b :: bs) e b 1 0 w hr hn (firstByte_some ao n cap b bs w hr.rd))
    go_enter Try.func23, Try.ntmps23
    go_wp2_with fail
    refine HC.out.mono ?_
    rintro r w1 (⟨he, rfl, rfl⟩ | ⟨he, hr0, rfl, ht⟩ | ⟨he, hr0, rfl, ht⟩)
    · have HU : Hid (Cp.byteS (b :: bs) e = (0, b :: bs, e)) := by unfold Cp.byteS; rw [if_pos he]; exact rfl
      go_wp2
      go_ret
      rw [HU.out]
      exact ⟨rfl, Took.same hr⟩
    · omega
    · have HU : Hid (Cp.byteS (b :: bs) e = (b, bs, 0)) := by unfold Cp.byteS; rw [if_neg (by omega)]; exact rfl
      clear hr0 he
      go_wp2
      go_ret
      rw [HU.out]
      exact ⟨rfl, ht⟩

theorem newReader_any (ao : Option Addr) (n cap : Nat) (bs : List UInt8) (w : World) (hr : Rd w ao n cap bs) (h47 : n ≤ 140737488355328) :
    Calls Try.prog 13 #[.slice ao n cap] w fun r w' => ∃ p ao' cap', r = .returned (.pointer (some ⟨p, 0, none⟩)) ∧ w.heap.size ≤ p ∧ Rr w' p ao' n cap' bs 0 ∧ Still w w' ∧ ∀ a, ao' = some a → w.heap.size ≤ a.block := by
  go_enter Try.func13, Try.ntmps13
  go_wp2_with fail
  refine (clone_any ao n cap bs w hr h47).mono ?_
  rintro r w1 ⟨ao', cap', rfl, ho, hst, hao⟩
  go_wp2
  go_ret
  exact ⟨w1.heap.size, ao', cap', rfl, hst.size, ⟨heap_alloc_new w1 _, ho.rd.alloc _⟩, Fr.alloc hst _, hao⟩

theorem left_any (p : Nat) (ao : Option Addr) (n cap : Nat) (bs : List UInt8) (e : Int) (w : World) (hr : Rr w p ao n cap bs e) :
    Calls Try.prog 24 #[.pointer (some ⟨p, 0, none⟩)] w fun r w' => r = .returned (.int .i64 (bs.length : Int)) ∧ w' = w := by
  obtain ⟨c0, c1, cf⟩ := two hr.blk
  have hsm := hr.rd.small
  rw [hr.rd.len]
  go_enter Try.func24, Try.ntmps24
  go_wp2
  go_ret
  exact ⟨rfl, rfl⟩

theorem rdone_any (p : Nat) (ao : Option Addr) (n cap : Nat) (bs : List UInt8) (e : Int) (w : World) (hr : Rr w p ao n cap bs e) :
    Calls Try.prog 25 #[.pointer (some ⟨p, 0, none⟩)] w fun r w' => r = .returned (.int .i64 (if e = 0 ∧ 0 < bs.length then 23 else e)) ∧ w' = w := by
  obtain ⟨c0, c1, cf⟩ := two hr.blk
  have hsm := hr.rd.small
  rw [hr.rd.len]
  by_cases he : e = 0
  · subst he
    by_cases hn : 0 < n
    · rw [if_pos ⟨rfl, hn⟩]
      go_enter Try.func25, Try.ntmps25
      go_wp2
      go_ret
      exact ⟨rfl, rfl⟩
    · rw [if_neg (by omega)]
      go_enter Try.func25, Try.ntmps25
      go_wp2
      go_ret
      exact ⟨rfl, rfl⟩
  · rw [if_neg (by omega)]
    have hne : (e == 0) = false := by simpa using he
    go_enter Try.func25, Try.ntmps25
    go_wp2
    go_ret
    exact ⟨rfl, rfl⟩
end Go.Proofs.Ythgjhfooodcfbaa
