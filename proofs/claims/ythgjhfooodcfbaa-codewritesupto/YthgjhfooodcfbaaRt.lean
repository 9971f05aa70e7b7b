/- Contracts: bytes that are taken up. -/
import Derived.Test.YthgjhfooodcfbaaRs
namespace Go.Proofs.Ythgjhfooodcfbaa
open Go.RowKit

theorem ret_first {ao ao' : Option Addr} {n m cap cap' : Nat} {a b : Int} {e : Int} (h : Value.slice ao n cap = .slice ao' m cap') (h2 : a = b) : Ending.returned (.tuple #[.slice ao n cap, .int .i64 a, .int .i64 e]) = .returned (.tuple #[.slice ao' m cap', .int .i64 b, .int .i64 e]) := by rw [h, h2]

set_option maxHeartbeats 1000000 in
set_option maxRecDepth 100000 in
theorem firstBytes_any (ao : Option Addr) (n cap : Nat) (bs : List UInt8) (most : Int) (hm1 : -9223372036854775808 ≤ most) (hm2 : most ≤ 9223372036854775807) (w : World) (hr : Rd w ao n cap bs) (h47 : n ≤ 140737488355328) :
    Calls Try.prog 53 #[.slice ao n cap, .int .i64 most] w fun r w' => ∃ fo d, r = .returned (.tuple #[.slice fo (Cp.firstS most bs).1.length d, .int .i64 ((Cp.firstS most bs).2.1 : Int), .int .i64 (Cp.firstS most bs).2.2]) ∧
      Ow 5 w' fo (Cp.firstS most bs).1.length d (Cp.firstS most bs).1 ∧ Still w w' ∧ ∀ a, fo = some a → w.heap.size ≤ a.block := by
  obtain ⟨i0, hi, hz, hs1, hb1⟩ := info_parts info_u8
  have hlen := hr.len
  have hle := hr.le
  have hfirst : Cp.firstS most bs = Cp.firstS most bs := rfl
  have hne := Cp.num_err bs
  have hc := number_any ao n cap bs w hr
  conv at hfirst => rhs; unfold Cp.firstS
  obtain ⟨N, K, E, hnum⟩ : ∃ N K E, Cp.num 0 0 bs = (N, K, E) := ⟨_, _, _, rfl⟩
  rw [hnum] at hfirst hne hc
  dsimp only at hfirst hne hc
  rw [hlen] at hfirst hne
  have HC := hid hc
  clear hc hnum
  by_cases hE : E = 0
  · subst hE
    have hN : N < 18446744073709551616 := by omega
    have hK : K ≤ n := by omega
    have hK10 : K ≤ 10 := by omega
    rw [if_neg (by simp)] at hfirst
    clear hne
    have hsl : ∀ W : World, (Instr.slice 26 (.slice ao n cap) (some (.int .i64 (K : Int))) none none).run Try.prog W = .ok (.slice (cutAt ao cap K) (n - K) (cap - K)) W := fun W => by
      have := run_from (P := Try.prog) W 26 5 i0 Try.underlying26 hi hs1 .i64 ao n cap (K : Int) (by omega) (by omega)
      simpa using this
    by_cases hm0 : most < 0
    · rw [if_pos (.inl hm0)] at hfirst
      have HF := hid hfirst
      clear hfirst
      go_enter Try.func53, Try.ntmps53
      go_wp2_with fail
      refine HC.out.mono ?_
      rintro r w1 ⟨rfl, rfl⟩
      go_wp2
      go_ret3
      rw [HF.out]
      exact ⟨none, 0, rfl, Ow.empty _ _, Fr.refl _ _, fun _ h => by cases h⟩
    · by_cases hmN : most < (N : Int)
      · rw [if_pos (.inr hmN)] at hfirst
        have HF := hid hfirst
        clear hfirst
        go_enter Try.func53, Try.ntmps53
        go_wp2_with fail
        refine HC.out.mono ?_
        rintro r w1 ⟨rfl, rfl⟩
        go_wp2
        go_ret3
        rw [HF.out]
        exact ⟨none, 0, rfl, Ow.empty _ _, Fr.refl _ _, fun _ h => by cases h⟩
      · rw [if_neg (by omega)] at hfirst
        by_cases hsh : n - K < N
        · rw [if_pos hsh] at hfirst
          have HF := hid hfirst
          clear hfirst
          go_enter Try.func53, Try.ntmps53
          go_wp2_with fail
          refine HC.out.mono ?_
          rintro r w1 ⟨rfl, rfl⟩
          go_wp2
          go_ret3
          rw [HF.out]
          exact ⟨none, 0, rfl, Ow.empty _ _, Fr.refl _ _, fun _ h => by cases h⟩
        · rw [if_neg hsh] at hfirst
          have HF := hid hfirst
          clear hfirst
          have hsu : ∀ W : World, (Instr.slice 26 (.slice (cutAt ao cap K) (n - K) (cap - K)) none (some (.int .u64 (N : Int))) none).run Try.prog W = .ok (.slice (cutAt ao cap K) N (cap - K)) W := fun W => by
            have := run_upto (P := Try.prog) W 26 5 i0 Try.underlying26 hi hs1 .u64 (cutAt ao cap K) (n - K) (cap - K) (N : Int) (by omega) (by omega)
            simpa using this
          have hrd := (hr.drop hK).take (i := N) (by omega)
          have HL : Hid (N = ((bs.drop K).take N).length) := by show _ = _; simp; omega
          go_enter Try.func53, Try.ntmps53
          go_wp2_with fail
          refine HC.out.mono ?_
          rintro r w1 ⟨rfl, rfl⟩
          go_wp2_with fail
          refine (clone_any _ N (cap - K) _ _ hrd (by omega)).mono ?_
          rintro r w2 ⟨fo, d, rfl, ho, hst, hfo⟩
          go_wp2
          go_ret3
          rw [HF.out]
          dsimp only
          rw [← HL.out]
          exact ⟨fo, d, ret_first rfl (by omega), ho, hst, hfo⟩
  · rw [if_pos hE] at hfirst
    have HF := hid hfirst
    have hEb : (E != 0) = true := by simpa using hE
    clear hfirst hne
    go_enter Try.func53, Try.ntmps53
    go_wp2_with fail
    refine HC.out.mono ?_
    rintro r w1 ⟨rfl, rfl⟩
    go_wp2
    go_ret3
    rw [HF.out]
    exact ⟨none, 0, rfl, Ow.empty _ _, Fr.refl _ _, fun _ h => by cases h⟩

theorem bytes1_any (ao : Option Addr) (n cap : Nat) (bs : List UInt8) (most : Int) (mb : Nat) (hm1 : -9223372036854775808 ≤ most) (hm2 : most ≤ 9223372036854775807) (w : World) (hr : Rd w ao n cap bs) (h47 : n ≤ 140737488355328) (hc : w.cell? ⟨mb, 0, none⟩ = some (.int .i64 most)) :
    Calls Try.prog 52 #[.slice ao n cap, .pointer (some ⟨mb, 0, none⟩)] w fun r w' => ∃ fo d, r = .returned (.tuple #[.slice fo (Cp.firstS most bs).1.length d, .int .i64 ((Cp.firstS most bs).2.1 : Int), .int .i64 (Cp.firstS most bs).2.2]) ∧
      Ow 5 w' fo (Cp.firstS most bs).1.length d (Cp.firstS most bs).1 ∧ Still w w' ∧ ∀ a, fo = some a → w.heap.size ≤ a.block := by
  go_enter Try.func52, Try.ntmps52
  go_wp2_with fail
  refine (firstBytes_any ao n cap bs most hm1 hm2 w hr h47).mono ?_
  rintro r w1 ⟨fo, d, rfl, ho, hst, hfo⟩
  go_wp2
  go_ret3
  exact ⟨fo, d, rfl, ho, hst, hfo⟩

theorem take_bytes (p : Nat) (ao : Option Addr) (n cap : Nat) (bs : List UInt8) (e : Int) (mb : Nat) (X : List UInt8) (sz : Nat) (er : Int) (w : World) (hr : Rr w p ao n cap bs e) (hsz : sz ≤ n)
    (hfind : Calls Try.prog 52 #[.slice ao n cap, .pointer (some ⟨mb, 0, none⟩)] w fun r w1 => ∃ fo d, r = .returned (.tuple #[.slice fo X.length d, .int .i64 (sz : Int), .int .i64 er]) ∧ Ow 5 w1 fo X.length d X ∧ Still w w1 ∧ ∀ a, fo = some a → w.heap.size ≤ a.block) :
    Calls Try.prog 51 #[.pointer (some ⟨p, 0, none⟩), .func (Fn.func 52) #[] #[.pointer (some ⟨mb, 0, none⟩)]] w fun r w' =>
      (e ≠ 0 ∧ r = .returned (.slice none 0 0) ∧ w' = w) ∨ (e = 0 ∧ er ≠ 0 ∧ r = .returned (.slice none 0 0) ∧ Took w w' p ao bs er) ∨
      (e = 0 ∧ er = 0 ∧ (∃ fo d, r = .returned (.slice fo X.length d) ∧ Ow 5 w' fo X.length d X ∧ ∀ a, fo = some a → w.heap.size ≤ a.block) ∧ Took w w' p ao (bs.drop sz) 0) := by
  obtain ⟨i0, hi, hz, hs1, hb1⟩ := info_parts info_u8
  have hblk := hr.blk
  obtain ⟨c0, c1, cf⟩ := two hr.blk
  have hsm := hr.rd.small
  have HF := hid hfind
  clear hfind
  by_cases he : e = 0
  · subst he
    by_cases hr0 : er = 0
    · subst hr0
      have hsl : ∀ W : World, (Instr.slice 26 (.slice ao n cap) (some (.int .i64 (sz : Int))) none none).run Try.prog W = .ok (.slice (cutAt ao cap sz) (n - sz) (cap - sz)) W := fun W => by
        have := run_from (P := Try.prog) W 26 5 i0 Try.underlying26 hi hs1 .i64 ao n cap (sz : Int) (by omega) (by omega)
        simpa using this
      go_enter Try.func51, Try.ntmps51
      go_wp2_with fail
      refine HF.out.mono ?_
      rintro r w1 ⟨fo, d, rfl, ho, hst, hfo⟩
      obtain ⟨d0, d1, df⟩ := two (Fr.kept_still hst hblk)
      go_wp2
      go_ret
      refine .inr (.inr ⟨trivial, trivial, ⟨fo, d, rfl, ho.kept ((Fr.refl (fun k => k = p) w1).setCell _ _ (.inl rfl)) ?_, hfo⟩, Took.ok hr hst sz hsz⟩)
      rintro a h1 h2
      have := hfo a h1
      have := hr.lt
      omega
    · have hne : (er != 0) = true := by simpa using hr0
      go_enter Try.func51, Try.ntmps51
      go_wp2_with fail
      refine HF.out.mono ?_
      rintro r w1 ⟨fo, d, rfl, ho, hst, hfo⟩
      obtain ⟨d0, d1, df⟩ := two (Fr.kept_still hst hblk)
      go_wp2
      go_ret
      exact .inr (.inl ⟨trivial, hr0, rfl, Took.err hr hst er⟩)
  · have hne : (e != 0) = true := by simpa using he
    go_enter Try.func51, Try.ntmps51
    go_wp2
    go_ret
    exact .inl ⟨he, rfl, rfl⟩

theorem Took.from {w w1 w' : World} {p : Nat} {ao : Option Addr} {bs : List UInt8} {e : Int} (hs : Still w w1) (h : Took w1 w' p ao bs e) : Took w w' p ao bs e := by
  obtain ⟨ao', n', cap', h1, h2, h3⟩ := h
  exact ⟨ao', n', cap', h1, (Still.to hs).trans h2 (fun _ _ h => h), h3⟩

theorem bytes_any (p : Nat) (ao : Option Addr) (n cap : Nat) (bs : List UInt8) (e : Int) (most : Int) (hm1 : -9223372036854775808 ≤ most) (hm2 : most ≤ 9223372036854775807) (w : World) (hr : Rr w p ao n cap bs e) (h47 : n ≤ 140737488355328) :
    Calls Try.prog 28 #[.pointer (some ⟨p, 0, none⟩), .int .i64 most] w fun r w' => ∃ fo d, r = .returned (.slice fo (Cp.bytesS most bs e).1.length d) ∧ Ow 5 w' fo (Cp.bytesS most bs e).1.length d (Cp.bytesS most bs e).1 ∧
      (∀ a, fo = some a → w.heap.size ≤ a.block) ∧ Took w w' p ao (Cp.bytesS most bs e).2.1 (Cp.bytesS most bs e).2.2 := by
  have hst0 := Still.alloc w (.cells #[.int .i64 most] 3)
  have hr1 := hr.still hst0
  have hlen := hr.rd.len
  have HN := hid (Cp.first_err most bs)
  have hcell : (w.alloc (.cells #[.int .i64 most] 3)).cell? ⟨w.heap.size, 0, none⟩ = some (.int .i64 most) := by rw [cell_of_row _ _ _ _ _ _ (heap_alloc_new w _)]; rfl
  have HC := hid (take_bytes p ao n cap bs e w.heap.size (Cp.firstS most bs).1 (Cp.firstS most bs).2.1 (Cp.firstS most bs).2.2 _ hr1 (by have := HN.out; omega) (bytes1_any ao n cap bs most w.heap.size hm1 hm2 _ hr1.rd h47 hcell))
  go_enter Try.func28, Try.ntmps28
  go_wp2_with fail
  refine HC.out.mono ?_
  rintro r w1 (⟨he, rfl, rfl⟩ | ⟨he, hr0, rfl, ht⟩ | ⟨he, hr0, ⟨fo, d, rfl, ho, hfo⟩, ht⟩)
  · have HU : Hid (Cp.bytesS most bs e = ([], bs, e)) := by unfold Cp.bytesS; rw [if_pos he]; exact rfl
    go_wp2
    go_ret
    rw [HU.out]
    exact ⟨none, 0, rfl, Ow.empty _ _, fun _ h => (by cases h), Took.from hst0 (Took.same hr1)⟩
  · have HU : Hid (Cp.bytesS most bs e = ([], bs, (Cp.firstS most bs).2.2)) := by unfold Cp.bytesS; rw [if_neg (by omega), if_pos hr0]; exact rfl
    have HR := hid hr0
    have HE := hid he
    clear hr0 he
    go_wp2
    go_ret
    rw [HU.out]
    exact ⟨none, 0, rfl, Ow.empty _ _, fun _ h => (by cases h), Took.from hst0 ht⟩
  · have HU : Hid (Cp.bytesS most bs e = ((Cp.firstS most bs).1, bs.drop (Cp.firstS most bs).2.1, 0)) := by unfold Cp.bytesS; rw [if_neg (by omega), if_neg (by omega)]; exact rfl
    have HR := hid hr0
    have HE := hid he
    clear hr0 he
    go_wp2
    go_ret
    rw [HU.out]
    refine ⟨fo, d, rfl, ho, fun a h => ?_, Took.from hst0 ht⟩
    have := hfo a h
    simp at this
    omega
end Go.Proofs.Ythgjhfooodcfbaa
