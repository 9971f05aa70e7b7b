/- Contracts: a reader. -/
import Derived.Test.YthgjhfooodcfbaaRn
import Derived.Test.YthgjhfooodcfbaaCs
namespace Go.Proofs.Ythgjhfooodcfbaa
open Go.RowKit

/-- A reader in block p: the bytes from the place on, its error. -/
structure Rr (w : World) (p : Nat) (ao : Option Addr) (n cap : Nat) (bs : List UInt8) (e : Int) : Prop where
  blk : w.heap[p]? = some (.cells #[.slice ao n cap, .int .i64 e] 70 (0, 0))
  rd : Rd w ao n cap bs
theorem Rr.lt {w : World} {p : Nat} {ao : Option Addr} {n cap : Nat} {bs : List UInt8} {e : Int} (h : Rr w p ao n cap bs e) : p < w.heap.size := block_lt h.blk
theorem Rr.kept {F : Nat → Prop} {w w' : World} {p : Nat} {ao : Option Addr} {n cap : Nat} {bs : List UInt8} {e : Int} (h : Rr w p ao n cap bs e) (hf : Fr F w w') (hp : ¬ F p) (ha : ∀ a, ao = some a → 0 < n → ¬ F a.block) : Rr w' p ao n cap bs e :=
  ⟨hf.kept h.blk hp, h.rd.kept hf ha⟩
theorem Rr.still {w w' : World} {p : Nat} {ao : Option Addr} {n cap : Nat} {bs : List UInt8} {e : Int} (h : Rr w p ao n cap bs e) (hs : Still w w') : Rr w' p ao n cap bs e := h.kept hs (fun e => e) fun _ _ _ e => e
theorem Rr.apart {w : World} {p : Nat} {ao : Option Addr} {n cap : Nat} {bs : List UInt8} {e : Int} (h : Rr w p ao n cap bs e) : ∀ a, ao = some a → 0 < n → a.block ≠ p := by
  rintro a ha hn rfl
  have hc := h.rd.cells a ha 0 (by have := h.rd.len; omega)
  rw [cell_of_row _ _ _ _ _ _ h.blk] at hc
  rcases Nat.lt_or_ge (a.off + 0) 2 with h2 | h2
  · rcases (show a.off + 0 = 0 ∨ a.off + 0 = 1 by omega) with h0 | h0 <;> rw [h0] at hc <;> simp at hc
  · rw [Array.getElem?_eq_none (by simpa using h2)] at hc; cases hc
/-- The place is another one, or is not; the row is the same. -/
def Same (ao ao' : Option Addr) : Prop := ∀ a, ao' = some a → ∃ b, ao = some b ∧ b.block = a.block
theorem Same.refl (ao : Option Addr) : Same ao ao := fun a h => ⟨a, h, rfl⟩
theorem same_cut (ao : Option Addr) (cap i : Nat) : Same ao (cutAt ao cap i) := fun a h => by
  obtain ⟨b, h1, h2⟩ := cutAt_block a h
  exact ⟨b, h1, h2.symm⟩

/-- What a taking leaves: the bytes bs', the error e'. -/
def Took (w w' : World) (p : Nat) (ao : Option Addr) (bs' : List UInt8) (e' : Int) : Prop :=
  ∃ ao' n' cap', Rr w' p ao' n' cap' bs' e' ∧ Fr (fun k => k = p) w w' ∧ Same ao ao'
theorem Took.same {w : World} {p : Nat} {ao : Option Addr} {n cap : Nat} {bs : List UInt8} {e : Int} (h : Rr w p ao n cap bs e) : Took w w p ao bs e := ⟨ao, n, cap, h, Fr.refl _ _, Same.refl _⟩
theorem Took.err {w w1 : World} {p : Nat} {ao : Option Addr} {n cap : Nat} {bs : List UInt8} {e : Int} (h : Rr w p ao n cap bs e) (hs : Still w w1) (e' : Int) : Took w (w1.setCell ⟨p, 1, none⟩ (.int .i64 e')) p ao bs e' := by
  have h1 := h.still hs
  refine ⟨ao, n, cap, ⟨set1 h1.blk, h1.rd.kept ((Fr.refl (fun k => k = p) w1).setCell _ _ (.inl rfl)) ?_⟩, (Still.to hs).setCell _ _ (.inl rfl), Same.refl _⟩
  intro a ha hn
  exact h1.apart a ha hn
theorem Took.ok {w w1 : World} {p : Nat} {ao : Option Addr} {n cap : Nat} {bs : List UInt8} {e : Int} (h : Rr w p ao n cap bs e) (hs : Still w w1) (i : Nat) (hi : i ≤ n) : Took w (w1.setCell ⟨p, 0, none⟩ (.slice (cutAt ao cap i) (n - i) (cap - i))) p ao (bs.drop i) e := by
  have h1 := h.still hs
  refine ⟨cutAt ao cap i, n - i, cap - i, ⟨set0 h1.blk, (h1.rd.drop hi).kept ((Fr.refl (fun k => k = p) w1).setCell _ _ (.inl rfl)) ?_⟩, (Still.to hs).setCell _ _ (.inl rfl), same_cut _ _ _⟩
  intro a ha hn
  obtain ⟨b, h2, h3⟩ := cutAt_block a ha
  rw [h3]
  exact h1.apart b h2 (by omega)


/-- one taking: what is found, and how many bytes that is; or an error -/
theorem take_uint (p : Nat) (ao : Option Addr) (n cap : Nat) (bs : List UInt8) (e : Int) (V : Nat) (sz : Nat) (er : Int) (w : World) (hr : Rr w p ao n cap bs e) (hsz : sz ≤ n)
    (hfind : Calls Try.prog 47 #[.slice ao n cap] w fun r w1 => r = .returned (.tuple #[.int .u64 (V : Int), .int .i64 (sz : Int), .int .i64 er]) ∧ w1 = w) :
    Calls Try.prog 46 #[.pointer (some ⟨p, 0, none⟩), .func (Fn.func 47) #[] #[]] w fun r w' =>
      (e ≠ 0 ∧ r = .returned (.int .u64 0) ∧ w' = w) ∨ (e = 0 ∧ er ≠ 0 ∧ r = .returned (.int .u64 0) ∧ Took w w' p ao bs er) ∨ (e = 0 ∧ er = 0 ∧ r = .returned (.int .u64 (V : Int)) ∧ Took w w' p ao (bs.drop sz) 0) := by
  obtain ⟨i0, hi, hz, hs1, hb1⟩ := info_parts info_u8
  obtain ⟨c0, c1, cf⟩ := two hr.blk
  have hsm := hr.rd.small
  have HF := hid hfind
  clear hfind
  by_cases he : e = 0
  · subst he
    by_cases hr0 : er = 0
    · subst hr0
      have hsl : ∀ W : World, (Instr.slice 26 (.slice ao n cap) (some (.int .i64 (sz : Int))) none none).run Try.prog W = .ok (.slice (cutAt ao cap sz) (n - sz) (cap - sz)) W := fun W => by
        have := run_from (P := Try.prog) W 26 5 i0 Try.underlying26 hi hs1 .i64 ao n cap (sz : Int) (by omega) (by omega)
        simpa using this
      go_enter Try.func46, Try.ntmps46
      go_wp2_with fail
      refine HF.out.mono ?_
      rintro r w1 ⟨rfl, rfl⟩
      go_wp2
      go_ret
      exact .inr (.inr ⟨trivial, trivial, rfl, Took.ok hr (Fr.refl _ _) sz hsz⟩)
    · have hne : (er != 0) = true := by simpa using hr0
      go_enter Try.func46, Try.ntmps46
      go_wp2_with fail
      refine HF.out.mono ?_
      rintro r w1 ⟨rfl, rfl⟩
      go_wp2
      go_ret
      exact .inr (.inl ⟨trivial, hr0, rfl, Took.err hr (Fr.refl _ _) er⟩)
  · have hne : (e != 0) = true := by simpa using he
    go_enter Try.func46, Try.ntmps46
    go_wp2
    go_ret
    exact .inl ⟨he, rfl, rfl⟩

/-- one taking: what is found, and how many bytes that is; or an error -/
theorem take_int (p : Nat) (ao : Option Addr) (n cap : Nat) (bs : List UInt8) (e : Int) (V : Int) (sz : Nat) (er : Int) (w : World) (hr : Rr w p ao n cap bs e) (hsz : sz ≤ n)
    (hfind : Calls Try.prog 49 #[.slice ao n cap] w fun r w1 => r = .returned (.tuple #[.int .i64 V, .int .i64 (sz : Int), .int .i64 er]) ∧ w1 = w) :
    Calls Try.prog 48 #[.pointer (some ⟨p, 0, none⟩), .func (Fn.func 49) #[] #[]] w fun r w' =>
      (e ≠ 0 ∧ r = .returned (.int .i64 0) ∧ w' = w) ∨ (e = 0 ∧ er ≠ 0 ∧ r = .returned (.int .i64 0) ∧ Took w w' p ao bs er) ∨ (e = 0 ∧ er = 0 ∧ r = .returned (.int .i64 V) ∧ Took w w' p ao (bs.drop sz) 0) := by
  obtain ⟨i0, hi, hz, hs1, hb1⟩ := info_parts info_u8
  obtain ⟨c0, c1, cf⟩ := two hr.blk
  have hsm := hr.rd.small
  have HF := hid hfind
  clear hfind
  by_cases he : e = 0
  · subst he
    by_cases hr0 : er = 0
    · subst hr0
      have hsl : ∀ W : World, (Instr.slice 26 (.slice ao n cap) (some (.int .i64 (sz : Int))) none none).run Try.prog W = .ok (.slice (cutAt ao cap sz) (n - sz) (cap - sz)) W := fun W => by
        have := run_from (P := Try.prog) W 26 5 i0 Try.underlying26 hi hs1 .i64 ao n cap (sz : Int) (by omega) (by omega)
        simpa using this
      go_enter Try.func48, Try.ntmps48
      go_wp2_with fail
      refine HF.out.mono ?_
      rintro r w1 ⟨rfl, rfl⟩
      go_wp2
      go_ret
      exact .inr (.inr ⟨trivial, trivial, rfl, Took.ok hr (Fr.refl _ _) sz hsz⟩)
    · have hne : (er != 0) = true := by simpa using hr0
      go_enter Try.func48, Try.ntmps48
      go_wp2_with fail
      refine HF.out.mono ?_
      rintro r w1 ⟨rfl, rfl⟩
      go_wp2
      go_ret
      exact .inr (.inl ⟨trivial, hr0, rfl, Took.err hr (Fr.refl _ _) er⟩)
  · have hne : (e != 0) = true := by simpa using he
    go_enter Try.func48, Try.ntmps48
    go_wp2
    go_ret
    exact .inl ⟨he, rfl, rfl⟩

/-- one taking: what is found, and how many bytes that is; or an error -/
theorem take_byte (p : Nat) (ao : Option Addr) (n cap : Nat) (bs : List UInt8) (e : Int) (V : UInt8) (sz : Nat) (er : Int) (w : World) (hr : Rr w p ao n cap bs e) (hsz : sz ≤ n)
    (hfind : Calls Try.prog 45 #[.slice ao n cap] w fun r w1 => r = .returned (.tuple #[.int .u8 (V.toNat : Int), .int .i64 (sz : Int), .int .i64 er]) ∧ w1 = w) :
    Calls Try.prog 44 #[.pointer (some ⟨p, 0, none⟩), .func (Fn.func 45) #[] #[]] w fun r w' =>
      (e ≠ 0 ∧ r = .returned (.int .u8 0) ∧ w' = w) ∨ (e = 0 ∧ er ≠ 0 ∧ r = .returned (.int .u8 0) ∧ Took w w' p ao bs er) ∨ (e = 0 ∧ er = 0 ∧ r = .returned (.int .u8 (V.toNat : Int)) ∧ Took w w' p ao (bs.drop sz) 0) := by
  obtain ⟨i0, hi, hz, hs1, hb1⟩ := info_parts info_u8
  obtain ⟨c0, c1, cf⟩ := two hr.blk
  have hsm := hr.rd.small
  have HF := hid hfind
  clear hfind
  by_cases he : e = 0
  · subst he
    by_cases hr0 : er = 0
    · subst hr0
      have hsl : ∀ W : World, (Instr.slice 26 (.slice ao n cap) (some (.int .i64 (sz : Int))) none none).run Try.prog W = .ok (.slice (cutAt ao cap sz) (n - sz) (cap - sz)) W := fun W => by
        have := run_from (P := Try.prog) W 26 5 i0 Try.underlying26 hi hs1 .i64 ao n cap (sz : Int) (by omega) (by omega)
        simpa using this
      go_enter Try.func44, Try.ntmps44
      go_wp2_with fail
      refine HF.out.mono ?_
      rintro r w1 ⟨rfl, rfl⟩
      go_wp2
      go_ret
      exact .inr (.inr ⟨trivial, trivial, rfl, Took.ok hr (Fr.refl _ _) sz hsz⟩)
    · have hne : (er != 0) = true := by simpa using hr0
      go_enter Try.func44, Try.ntmps44
      go_wp2_with fail
      refine HF.out.mono ?_
      rintro r w1 ⟨rfl, rfl⟩
      go_wp2
      go_ret
      exact .inr (.inl ⟨trivial, hr0, rfl, Took.err hr (Fr.refl _ _) er⟩)
  · have hne : (e != 0) = true := by simpa using he
    go_enter Try.func44, Try.ntmps44
    go_wp2
    go_ret
    exact .inl ⟨he, rfl, rfl⟩

theorem uint_any (p : Nat) (ao : Option Addr) (n cap : Nat) (bs : List UInt8) (e : Int) (w : World) (hr : Rr w p ao n cap bs e) :
    Calls Try.prog 26 #[.pointer (some ⟨p, 0, none⟩)] w fun r w' => r = .returned (.int .u64 ((Cp.uintS bs e).1 : Int)) ∧ Took w w' p ao (Cp.uintS bs e).2.1 (Cp.uintS bs e).2.2 := by
  have hlen := hr.rd.len
  have HN := hid (Cp.num_err bs)
  have HC := hid (take_uint p ao n cap bs e (Cp.num 0 0 bs).1 (Cp.num 0 0 bs).2.1 (Cp.num 0 0 bs).2.2 w hr (by have := HN.out; omega) (number_any ao n cap bs w hr.rd))
  go_enter Try.func26, Try.ntmps26
  go_wp2_with fail
  refine HC.out.mono ?_
  rintro r w1 (⟨he, rfl, rfl⟩ | ⟨he, hr0, rfl, ht⟩ | ⟨he, hr0, rfl, ht⟩)
  · have HU : Hid (Cp.uintS bs e = (0, bs, e)) := by unfold Cp.uintS; rw [if_pos he]; exact rfl
    go_wp2
    go_ret
    rw [HU.out]
    exact ⟨rfl, Took.same hr⟩
  · have HU : Hid (Cp.uintS bs e = (0, bs, (Cp.num 0 0 bs).2.2)) := by unfold Cp.uintS; rw [if_neg (by omega), if_pos hr0]; exact rfl
    have HR := hid hr0
    have HE := hid he
    clear hr0 he
    go_wp2
    go_ret
    rw [HU.out]
    exact ⟨rfl, ht⟩
  · have HU : Hid (Cp.uintS bs e = ((Cp.num 0 0 bs).1, bs.drop (Cp.num 0 0 bs).2.1, 0)) := by unfold Cp.uintS; rw [if_neg (by omega), if_neg (by omega)]; exact rfl
    have HR := hid hr0
    have HE := hid he
    clear hr0 he
    go_wp2
    go_ret
    rw [HU.out]
    exact ⟨rfl, ht⟩

theorem int1_any (ao : Option Addr) (n cap : Nat) (bs : List UInt8) (w : World) (hr : Rd w ao n cap bs) :
    Calls Try.prog 49 #[.slice ao n cap] w fun r w' => r = .returned (.tuple #[.int .i64 (Cp.unfold (Cp.num 0 0 bs).1), .int .i64 ((Cp.num 0 0 bs).2.1 : Int), .int .i64 (Cp.num 0 0 bs).2.2]) ∧ w' = w := by
  have HN := hid (Cp.num_err bs)
  go_enter Try.func49, Try.ntmps49
  go_wp2_with fail
  refine (number_any ao n cap bs w hr).mono ?_
  rintro r w1 ⟨rfl, rfl⟩
  go_wp2_with fail
  refine (unfold_any _ (by have := HN.out; omega) _).mono ?_
  rintro r w2 ⟨rfl, rfl⟩
  go_wp2
  go_ret3
  exact ⟨rfl, rfl⟩

theorem int_any (p : Nat) (ao : Option Addr) (n cap : Nat) (bs : List UInt8) (e : Int) (w : World) (hr : Rr w p ao n cap bs e) :
    Calls Try.prog 27 #[.pointer (some ⟨p, 0, none⟩)] w fun r w' => r = .returned (.int .i64 (Cp.unfold (Cp.uintS bs e).1)) ∧ Took w w' p ao (Cp.uintS bs e).2.1 (Cp.uintS bs e).2.2 := by
  have hlen := hr.rd.len
  have HN := hid (Cp.num_err bs)
  have HC := hid (take_int p ao n cap bs e (Cp.unfold (Cp.num 0 0 bs).1) (Cp.num 0 0 bs).2.1 (Cp.num 0 0 bs).2.2 w hr (by have := HN.out; omega) (int1_any ao n cap bs w hr.rd))
  have HZ : Hid (Cp.unfold 0 = 0) := rfl
  go_enter Try.func27, Try.ntmps27
  go_wp2_with fail
  refine HC.out.mono ?_
  rintro r w1 (⟨he, rfl, rfl⟩ | ⟨he, hr0, rfl, ht⟩ | ⟨he, hr0, rfl, ht⟩)
  · have HU : Hid (Cp.uintS bs e = (0, bs, e)) := by unfold Cp.uintS; rw [if_pos he]; exact rfl
    go_wp2
    go_ret
    rw [HU.out]
    exact ⟨by show Ending.returned (.int .i64 0) = .returned (.int .i64 (Cp.unfold 0)); rw [HZ.out], Took.same hr⟩
  · have HU : Hid (Cp.uintS bs e = (0, bs, (Cp.num 0 0 bs).2.2)) := by unfold Cp.uintS; rw [if_neg (by omega), if_pos hr0]; exact rfl
    have HR := hid hr0
    have HE := hid he
    clear hr0 he
    go_wp2
    go_ret
    rw [HU.out]
    exact ⟨by show Ending.returned (.int .i64 0) = .returned (.int .i64 (Cp.unfold 0)); rw [HZ.out], ht⟩
  · have HU : Hid (Cp.uintS bs e = ((Cp.num 0 0 bs).1, bs.drop (Cp.num 0 0 bs).2.1, 0)) := by unfold Cp.uintS; rw [if_neg (by omega), if_neg (by omega)]; exact rfl
    have HR := hid hr0
    have HE := hid he
    clear hr0 he
    go_wp2
    go_ret
    rw [HU.out]
    exact ⟨rfl, ht⟩
end Go.Proofs.Ythgjhfooodcfbaa
