/- The program's reader of a datagram: its parts. -/
import Derived.Test.YtaaongbdincimaaGreatDoorWwe
namespace Go.Proofs.YtaaongbdincimaaGreatDoor
open Go.RowKit
open Wp Vp
set_option maxRecDepth 100000
set_option linter.unusedVariables false
set_option linter.unusedSimpArgs false

abbrev efv (a : Addr) : Value := .iface 159 (.pointer (some a))
abbrev rzc (p : Nat) (ef : Addr) (y : Bool) : Array Value := #[.pointer (some ⟨p, 0, none⟩), if y then efv ef else .nilIface]
/-- what a reader's methods may turn -/
def RF (q p : Nat) (k : Nat) : Prop := k = p ∨ k = q
/-- the row of bytes is a row of bytes -/
def Ub (w : World) (ao : Option Addr) : Prop := ∀ a, ao = some a → ∃ cur, w.heap[a.block]? = some (.cells cur 5 (0, 0))
theorem Ub.ne {w : World} {ao : Option Addr} {g : Nat} {cs : Array Value} {t : TypeId} {z : Nat × Nat} (h : Ub w ao) (hg : w.heap[g]? = some (.cells cs t z)) (ht : t ≠ 5) : ∀ a, ao = some a → a.block ≠ g := fun a ha e => by
  obtain ⟨cur, hc⟩ := h a ha
  rw [e, hg] at hc
  cases hc
  exact ht rfl
theorem Ub.kept {F : Nat → Prop} {w w' : World} {ao : Option Addr} (h : Ub w ao) (hf : Fr F w w') (hn : ∀ a, ao = some a → ¬ F a.block) : Ub w' ao := fun a ha => by
  obtain ⟨cur, hc⟩ := h a ha
  exact ⟨cur, hf.kept hc (hn a ha)⟩
/-- a reader in block q (its inner one in block p): the state s; ef: the error of its form -/
structure Rz (w : World) (q p : Nat) (ef : Addr) (s : Rs) : Prop where
  box : w.heap[q]? = some (.cells (rzc p ef s.y) 110 (0, 0))
  rd : ∃ ao n cap, Rr w p ao n cap s.bs s.e ∧ Ub w ao
  er : w.cell? ⟨0, 0, none⟩ = some (efv ef)
  nq : q ≠ p
  n1 : 0 ≠ q
  n2 : 0 ≠ p
theorem Rz.still {w w' : World} {q p : Nat} {ef : Addr} {s : Rs} (h : Rz w q p ef s) (hs : Still w w') : Rz w' q p ef s := by
  obtain ⟨ao, n, cap, h1, h2⟩ := h.rd
  exact ⟨hs.kept_still h.box, ⟨ao, n, cap, h1.still hs, h2.kept hs (fun _ _ e => e)⟩, (hs.cell (World.block_lt_of_cell? w _ h.er) (fun e => e)).trans h.er, h.nq, h.n1, h.n2⟩
theorem Rz.cells {w : World} {q p : Nat} {ef : Addr} {s : Rs} (h : Rz w q p ef s) : w.cell? ⟨q, 0, none⟩ = some (.pointer (some ⟨p, 0, none⟩)) ∧ w.cell? ⟨q, 1, none⟩ = some (if s.y then efv ef else .nilIface) ∧ ∀ o, w.frozen? ⟨q, o, none⟩ = false := by
  refine ⟨?_, ?_, fun o => frozen_of_row w q o _ _ h.box⟩ <;> (rw [cell_of_row _ _ _ _ _ _ h.box]; rfl)
theorem Rz.ptr {w : World} {q p : Nat} {ef : Addr} {s : Rs} (h : Rz w q p ef s) : w.cell? ⟨q, 0, none⟩ = some (.pointer (some ⟨p, 0, none⟩)) := h.cells.1
theorem Rz.lt {w : World} {q p : Nat} {ef : Addr} {s : Rs} (h : Rz w q p ef s) : q < w.heap.size ∧ p < w.heap.size := by
  obtain ⟨ao, n, cap, h1, _⟩ := h.rd
  exact ⟨block_lt h.box, block_lt h1.blk⟩
/-- something was taken up -/
structure Tz (w w' : World) (q p : Nat) (ef : Addr) (s : Rs) : Prop where
  r : Rz w' q p ef s
  f : Fr (RF q p) w w'
theorem Tz.trans {w w1 w2 : World} {q p : Nat} {ef : Addr} {s s2 : Rs} (h : Tz w w1 q p ef s) (k : Tz w1 w2 q p ef s2) : Tz w w2 q p ef s2 := ⟨k.r, h.f.trans k.f (fun _ _ h => h)⟩
theorem Tz.still {w w1 w2 : World} {q p : Nat} {ef : Addr} {s : Rs} (h : Tz w w1 q p ef s) (k : Still w1 w2) : Tz w w2 q p ef s := ⟨h.r.still k, h.f.trans k (fun _ _ e => e.elim)⟩
theorem Tz.from {w w1 w2 : World} {q p : Nat} {ef : Addr} {s : Rs} (k : Still w w1) (h : Tz w1 w2 q p ef s) : Tz w w2 q p ef s := ⟨h.r, (Still.to k).trans h.f (fun _ _ h => h)⟩
theorem Tz.same {w w' : World} {q p : Nat} {ef : Addr} {s : Rs} (h : Rz w q p ef s) (hs : Still w w') : Tz w w' q p ef s := ⟨h.still hs, Still.to hs⟩
theorem Tz.of {w w' : World} {q p : Nat} {ef : Addr} {s : Rs} {ao : Option Addr} {bs : List UInt8} {e : Int} (h : Rz w q p ef s) (ha : Ub w ao) (hp : ∃ cs, w.heap[p]? = some (.cells cs 123 (0, 0))) (k : Took w w' p ao bs e) : Tz w w' q p ef ⟨bs, e, s.y⟩ := by
  obtain ⟨ao', n', cap', h1, h2, h3⟩ := k
  refine ⟨⟨h2.kept h.box h.nq, ⟨ao', n', cap', h1, fun a hb => ?_⟩, (h2.cell (World.block_lt_of_cell? w _ h.er) h.n2).trans h.er, h.nq, h.n1, h.n2⟩, h2.mono fun k _ e => .inl e⟩
  obtain ⟨b, hb1, hb2⟩ := h3 a hb
  obtain ⟨cs, hp⟩ := hp
  obtain ⟨cur, hc⟩ := ha.kept h2 (ha.ne hp (by decide)) b hb1
  exact ⟨cur, by rw [← hb2]; exact hc⟩
/-- the inner reader's methods -/
theorem ybyte_any (q p : Nat) (ef : Addr) (s : Rs) (w : World) (h : Rz w q p ef s) : Calls Tryz.prog 68 #[.pointer (some ⟨p, 0, none⟩)] w fun r w' => r = .returned (.int .u8 (nm (byM s).1)) ∧ Tz w w' q p ef (byM s).2 := by
  obtain ⟨ao, n, cap, h1, h2⟩ := h.rd
  refine (byte_any p ao n cap s.bs s.e w h1).mono ?_
  rintro r w' ⟨rfl, ht⟩
  exact ⟨rfl, Tz.of h h2 ⟨_, h1.blk⟩ ht⟩
theorem yuint_any (q p : Nat) (ef : Addr) (s : Rs) (w : World) (h : Rz w q p ef s) : Calls Tryz.prog 83 #[.pointer (some ⟨p, 0, none⟩)] w fun r w' => r = .returned (.int .u64 ((unM s).1 : Int)) ∧ Tz w w' q p ef (unM s).2 := by
  obtain ⟨ao, n, cap, h1, h2⟩ := h.rd
  refine (uint_any p ao n cap s.bs s.e w h1).mono ?_
  rintro r w' ⟨rfl, ht⟩
  exact ⟨rfl, Tz.of h h2 ⟨_, h1.blk⟩ ht⟩
theorem yint_any (q p : Nat) (ef : Addr) (s : Rs) (w : World) (h : Rz w q p ef s) : Calls Tryz.prog 93 #[.pointer (some ⟨p, 0, none⟩)] w fun r w' => r = .returned (.int .i64 (inM s).1) ∧ Tz w w' q p ef (inM s).2 := by
  obtain ⟨ao, n, cap, h1, h2⟩ := h.rd
  refine (int_any p ao n cap s.bs s.e w h1).mono ?_
  rintro r w' ⟨rfl, ht⟩
  exact ⟨rfl, Tz.of h h2 ⟨_, h1.blk⟩ ht⟩
theorem ydone_any (q p : Nat) (ef : Addr) (s : Rs) (w : World) (h : Rz w q p ef s) : Calls Tryz.prog 72 #[.pointer (some ⟨p, 0, none⟩)] w fun r w' => r = .returned (.int .i64 (if s.e = 0 ∧ 0 < s.bs.length then 23 else s.e)) ∧ w' = w := by
  obtain ⟨ao, n, cap, h1, h2⟩ := h.rd
  exact rdone_any p ao n cap s.bs s.e w h1
theorem inM_in (s : Rs) : -9223372036854775808 ≤ (inM s).1 ∧ (inM s).1 ≤ 9223372036854775807 := by
  have h : (Cp.uintS s.bs s.e).1 < 18446744073709551616 := by
    unfold Cp.uintS
    split
    · exact (by omega : (0 : Nat) < 18446744073709551616)
    · split
      · exact (by omega : (0 : Nat) < 18446744073709551616)
      · rcases Cp.num_err s.bs with h | h
        · exact h.2.1
        · rw [h.1]; decide
  exact ⟨Cp.unfold_lo h, Cp.unfold_hi h⟩
theorem unM_lt (s : Rs) : (unM s).1 < 18446744073709551616 := by
  show (Cp.uintS s.bs s.e).1 < 18446744073709551616
  unfold Cp.uintS
  split
  · exact (by omega : (0 : Nat) < 18446744073709551616)
  · split
    · exact (by omega : (0 : Nat) < 18446744073709551616)
    · rcases Cp.num_err s.bs with h | h
      · exact h.2.1
      · rw [h.1]; decide
/-! the reader's own methods -/
theorem must_t (q p : Nat) (ef : Addr) (s : Rs) (w : World) (h : Rz w q p ef s) : Calls Tryz.prog 69 #[.pointer (some ⟨q, 0, none⟩), .bool true] w fun r w' => r = .returned (.tuple #[]) ∧ w' = w := by
  go_enter Tryz.func69, Tryz.ntmps69
  go_wp2_with fail
  go_end0
  exact ⟨rfl, rfl⟩
theorem must_f (q p : Nat) (ef : Addr) (s : Rs) (w : World) (h : Rz w q p ef s) : Calls Tryz.prog 69 #[.pointer (some ⟨q, 0, none⟩), .bool false] w fun r w' => r = .returned (.tuple #[]) ∧ Tz w w' q p ef ⟨s.bs, s.e, true⟩ := by
  obtain ⟨c0, c1, cf⟩ := h.cells
  have g1 := cf 1
  have e0 := h.er
  have HH := hid h
  have HF : Hid (Tz w (w.setCell ⟨q, 1, none⟩ (efv ef)) q p ef ⟨s.bs, s.e, true⟩) := hid (by
    obtain ⟨ao, n, cap, h1, h2⟩ := h.rd
    have hf : Fr (fun k => k = q) w (w.setCell ⟨q, 1, none⟩ (efv ef)) := (Fr.refl _ w).setCell ⟨q, 1, none⟩ _ (.inl rfl)
    refine ⟨⟨?_, ⟨ao, n, cap, h1.kept hf (fun e => h.nq e.symm) (fun a ha _ => h2.ne h.box (by decide) a ha), h2.kept hf (h2.ne h.box (by decide))⟩, (hf.cell (World.block_lt_of_cell? w _ h.er) h.n1).trans h.er, h.nq, h.n1, h.n2⟩, hf.mono fun k _ e => .inr e⟩
    exact set1 h.box)
  clear h
  go_enter Tryz.func69, Tryz.ntmps69
  go_wp2_with fail
  go_end0
  exact ⟨rfl, HF.out⟩
theorem must_any (q p : Nat) (ef : Addr) (s : Rs) (b : Bool) (w : World) (h : Rz w q p ef s) : Calls Tryz.prog 69 #[.pointer (some ⟨q, 0, none⟩), .bool b] w fun r w' => r = .returned (.tuple #[]) ∧ Tz w w' q p ef (mG b s).2 := by
  cases b with
  | true =>
    refine (must_t q p ef s w h).mono ?_
    rintro r w' ⟨rfl, rfl⟩
    exact ⟨rfl, by simpa [mG] using Tz.same h (Fr.refl _ _)⟩
  | false =>
    refine (must_f q p ef s w h).mono ?_
    rintro r w' ⟨rfl, h1⟩
    exact ⟨rfl, by simpa [mG] using h1⟩
set_option maxHeartbeats 2000000 in
theorem upto_any (q p : Nat) (ef : Addr) (s : Rs) (m : Nat) (hm : m ≤ 1099511627776) (w : World) (h : Rz w q p ef s) : Calls Tryz.prog 70 #[.pointer (some ⟨q, 0, none⟩), .int .u64 (m : Int)] w fun r w' => r = .returned (.int .i64 ((upM m s).1 : Int)) ∧ Tz w w' q p ef (upM m s).2 := by
  have c0 := h.ptr
  have HC := hid (yuint_any q p ef s w h)
  have HE : Hid (upM m s = (if (unM s).1 ≤ m then mR (unM s).1 else mB (mG false) fun _ => mR 0) (unM s).2) := hid rfl
  obtain ⟨N, S, eN⟩ : ∃ N S, unM s = (N, S) := ⟨_, _, rfl⟩
  rw [eN] at HC HE
  dsimp only at HC HE
  clear h eN
  go_enter Tryz.func70, Tryz.ntmps70
  go_wp2_with fail
  refine HC.out.mono ?_
  rintro e w1 ⟨he, h1⟩
  rw [he]
  clear he c0 HC
  have HT := hid h1
  clear h1
  by_cases hN : N ≤ m
  · have hlt : ¬ (m : Int) < (N : Int) := by omega
    have hcv : IntKind.i64.wrap (N : Int) = (N : Int) := wr64 (by omega) (by omega)
    rw [if_pos hN] at HE
    have HE2 : Hid (upM m s = (N, S)) := hid HE.out
    clear HE
    go_wp2_with fail
    go_ret
    exact ⟨by rw [HE2.out]; rfl, by rw [HE2.out]; exact HT.out⟩
  · have hlt : (m : Int) < (N : Int) := by omega
    rw [if_neg hN] at HE
    have HE2 : Hid (upM m s = (0, (mG false S).2)) := hid HE.out
    have HC := hid (must_any q p ef S false w1 HT.out.r)
    clear HE
    go_wp2_with fail
    refine HC.out.mono ?_
    rintro e w2 ⟨he, h2⟩
    rw [he]
    have HT2 := hid (HT.out.trans h2)
    clear he h2 HC
    go_wp2_with fail
    go_ret
    exact ⟨by rw [HE2.out]; rfl, by rw [HE2.out]; exact HT2.out⟩
end Go.Proofs.YtaaongbdincimaaGreatDoor
