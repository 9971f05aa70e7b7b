/- Contracts: the document's reader. -/
import Derived.Test.YthgjhfooodcfbaaFn
namespace Go.Proofs.Ythgjhfooodcfbaa
open Go.RowKit

/-- What a taking by the document's reader leaves. -/
def TookF (w w' : World) (p : Nat) (ao : Option Addr) (n cap : Nat) (B rest' : List UInt8) (e' : Int) : Prop :=
  ∃ At', Rf w' p ao n cap B At' e' ∧ B.drop At' = rest' ∧ Fr (fun k => k = p) w w'
theorem Rf.apart {w : World} {p : Nat} {ao : Option Addr} {n cap : Nat} {B : List UInt8} {At : Nat} {e : Int} (h : Rf w p ao n cap B At e) : ∀ a, ao = some a → 0 < n → a.block ≠ p := by
  rintro a ha hn rfl
  have hc := h.rd.cells a ha 0 (by have := h.rd.len; omega)
  rw [cell_of_row _ _ _ _ _ _ h.blk] at hc
  rcases Nat.lt_or_ge (a.off + 0) 3 with h2 | h2
  · rcases (show a.off + 0 = 0 ∨ a.off + 0 = 1 ∨ a.off + 0 = 2 by omega) with h0 | h0 | h0 <;> rw [h0] at hc <;> simp at hc
  · rw [Array.getElem?_eq_none (by simpa using h2)] at hc; cases hc
/-- behind a store into the reader's own block -/
theorem Rf.put {w w1 w2 : World} {p : Nat} {ao : Option Addr} {n cap : Nat} {B : List UInt8} {At At' : Nat} {e e' : Int} (h : Rf w p ao n cap B At e) (hs : Still w w1) (hf : Fr (fun k => k = p) w1 w2) (hle : At' ≤ n)
    (hb : w2.heap[p]? = some (.cells #[.slice ao n cap, .int .i64 (At' : Int), .int .i64 e'] 72 (0, 0))) : Rf w2 p ao n cap B At' e' ∧ Fr (fun k => k = p) w w2 :=
  ⟨⟨hb, (h.rd.still hs).kept hf (fun a ha hn => h.apart a ha hn), hle⟩, (Still.to hs).trans hf fun _ _ h => h⟩

theorem fuint_any (p : Nat) (ao : Option Addr) (n cap : Nat) (B : List UInt8) (At : Nat) (e : Int) (w : World) (hr : Rf w p ao n cap B At e) :
    Calls Try.prog 35 #[.pointer (some ⟨p, 0, none⟩)] w fun r w' => r = .returned (.int .u64 ((Cp.uintS (B.drop At) e).1 : Int)) ∧ TookF w w' p ao n cap B (Cp.uintS (B.drop At) e).2.1 (Cp.uintS (B.drop At) e).2.2 := by
  obtain ⟨c0, c1, c2, cf⟩ := three hr.blk
  have hblk := hr.blk
  by_cases he : e = 0
  · subst he
    have hlen := hr.rd.len
    have hle := hr.le
    have hsm := hr.rd.small
    have hu : Cp.uintS (B.drop At) 0 = Cp.uintS (B.drop At) 0 := rfl
    conv at hu => rhs; unfold Cp.uintS
    rw [if_neg (by simp)] at hu
    have hne := Cp.num_err (B.drop At)
    have hc := fnumber_any p ao n cap B At 0 w hr
    obtain ⟨N, K, E, hnum⟩ : ∃ N K E, Cp.num 0 0 (B.drop At) = (N, K, E) := ⟨_, _, _, rfl⟩
    rw [hnum] at hu hne hc
    dsimp only at hu hne hc
    rw [List.length_drop, hlen] at hne
    have hK : At + K ≤ n := by omega
    have HU : Hid (Cp.uintS (B.drop At) 0 = (N, B.drop (At + K), E)) := by
      show _ = _
      rw [hu]
      by_cases hE : E = 0
      · rw [if_neg (by omega), hE, List.drop_drop]
      · rw [if_pos hE]
        have h1 : N = 0 := by omega
        have h2 : K = 0 := by omega
        rw [h1, h2, Nat.add_zero]
    have HC := hid hc
    clear hc hu hne hnum
    go_enter Try.func35, Try.ntmps35
    go_wp2_with fail
    refine HC.out.mono ?_
    rintro r w1 ⟨rfl, hst⟩
    have hb1 := Fr.kept_still hst hblk
    obtain ⟨d0, d1, d2, df⟩ := three hb1
    have hb2 := set2 (v := .int .i64 E) hb1
    obtain ⟨e0, e1, e2, ef⟩ := three hb2
    have hb3 := set1 (v := .int .i64 ((At + K : Nat) : Int)) hb2
    go_wp2
    go_ret
    have hR := hr.put (At' := At + K) (e' := E) hst (((Fr.refl (fun k => k = p) w1).setCell ⟨p, 2, none⟩ (.int .i64 E) (.inl rfl)).setCell ⟨p, 1, none⟩ (.int .i64 ((At + K : Nat) : Int)) (.inl rfl)) hK hb3
    rw [HU.out]
    exact ⟨rfl, At + K, hR.1, rfl, hR.2⟩
  · have hne : (e != 0) = true := by simpa using he
    have HU : Hid (Cp.uintS (B.drop At) e = (0, B.drop At, e)) := by unfold Cp.uintS; rw [if_pos he]; exact rfl
    go_enter Try.func35, Try.ntmps35
    go_wp2
    go_ret
    rw [HU.out]
    exact ⟨rfl, At, hr, rfl, Fr.refl _ _⟩

theorem uintS_lt (bs : List UInt8) (e : Int) : (Cp.uintS bs e).1 < 18446744073709551616 := by
  unfold Cp.uintS
  have := Cp.num_err bs
  repeat' split
  all_goals simp
  all_goals omega

theorem fint_any (p : Nat) (ao : Option Addr) (n cap : Nat) (B : List UInt8) (At : Nat) (e : Int) (w : World) (hr : Rf w p ao n cap B At e) :
    Calls Try.prog 36 #[.pointer (some ⟨p, 0, none⟩)] w fun r w' => r = .returned (.int .i64 (Cp.unfold (Cp.uintS (B.drop At) e).1)) ∧ TookF w w' p ao n cap B (Cp.uintS (B.drop At) e).2.1 (Cp.uintS (B.drop At) e).2.2 := by
  have hlt := uintS_lt (B.drop At) e
  go_enter Try.func36, Try.ntmps36
  go_wp2_with fail
  refine (fuint_any p ao n cap B At e w hr).mono ?_
  rintro r w1 ⟨rfl, ht⟩
  go_wp2_with fail
  refine (back_any _ hlt _).mono ?_
  rintro r w2 ⟨rfl, rfl⟩
  go_wp2
  go_ret
  exact ⟨rfl, ht⟩

theorem fleft_any (p : Nat) (ao : Option Addr) (n cap : Nat) (B : List UInt8) (At : Nat) (e : Int) (w : World) (hr : Rf w p ao n cap B At e) :
    Calls Try.prog 39 #[.pointer (some ⟨p, 0, none⟩)] w fun r w' => r = .returned (.int .i64 ((B.drop At).length : Int)) ∧ Still w w' := by
  obtain ⟨c0, c1, c2, cf⟩ := three hr.blk
  have hle := hr.le
  have hsm := hr.rd.small
  have HL : Hid (((B.drop At).length : Int) = (n : Int) - (At : Int)) := by show _ = _; rw [List.length_drop, hr.rd.len]; omega
  go_enter Try.func39, Try.ntmps39
  go_wp2
  go_quiet (fail)
  go_wp2
  go_ret
  exact ⟨ret_int (by rw [HL.out]), Still.drewN _ _⟩

theorem fdone_any (p : Nat) (ao : Option Addr) (n cap : Nat) (B : List UInt8) (At : Nat) (e : Int) (w : World) (hr : Rf w p ao n cap B At e) :
    Calls Try.prog 40 #[.pointer (some ⟨p, 0, none⟩)] w fun r w' => r = .returned (.int .i64 (if e = 0 ∧ 0 < (B.drop At).length then 23 else e)) ∧ Still w w' := by
  obtain ⟨c0, c1, c2, cf⟩ := three hr.blk
  have hle := hr.le
  have hsm := hr.rd.small
  have hL : (B.drop At).length = n - At := by rw [List.length_drop, hr.rd.len]
  rw [hL]
  clear hL
  by_cases he : e = 0
  · subst he
    by_cases hn : At < n
    · rw [if_pos ⟨rfl, by omega⟩]
      go_enter Try.func40, Try.ntmps40
      go_wp2
      go_quiet (fail)
      go_wp2
      go_ret
      exact ⟨rfl, Still.drewN _ _⟩
    · rw [if_neg (by omega)]
      go_enter Try.func40, Try.ntmps40
      go_wp2
      go_quiet (fail)
      go_wp2
      go_ret
      exact ⟨rfl, Still.drewN _ _⟩
  · rw [if_neg (by omega)]
    have hne : (e == 0) = false := by simpa using he
    go_enter Try.func40, Try.ntmps40
    go_wp2
    go_quiet (fail)
    go_wp2
    go_ret
    exact ⟨rfl, Still.drewN _ _⟩

theorem fnewReader_any (so : Option Addr) (n c : Nat) (bs : List UInt8) (w : World) (hr : Rd w so n c bs) (h47 : n ≤ 140737488355328) :
    Calls Try.prog 15 #[.slice so n c] w fun r w' => ∃ p ao cap, r = .returned (.pointer (some ⟨p, 0, none⟩)) ∧ w.heap.size ≤ p ∧ (Rf w' p ao n cap bs 0 0 ∧ ∀ a, ao = some a → w.heap.size ≤ a.block ∧ a.block < w'.heap.size) ∧ Still w w' := by
  obtain ⟨i0, hi, hz, hs1, hb1⟩ := info_parts info_u8
  go_enter Try.func15, Try.ntmps15
  go_wp2_with (at_builtin; refine wpList_app _ rfl _ _ 26 rfl 5 i0 Try.underlying26 hi hz hs1 hb1 none so 0 0 n c [] bs rfl rfl (Ow.empty _ _) hr (by omega) ?_; intro ao' cap' w1 ho' hf' hn' _)
  go_ret
  have hst : Still w w1 := hf'.mono (by rintro k hk ⟨a, h, _⟩; cases h)
  rw [Nat.zero_add, List.nil_append] at ho'
  exact ⟨w1.heap.size, rfl, hst.size, ⟨ao', ⟨cap', ⟨heap_alloc_new w1 _, ho'.rd.alloc _, Nat.zero_le _⟩⟩, fun a h => ⟨(by rcases hn' a h with h1 | h1; cases h1; exact h1), (by have := ho'.lt a h; simp; omega)⟩⟩, Fr.alloc hst _⟩
end Go.Proofs.Ythgjhfooodcfbaa
