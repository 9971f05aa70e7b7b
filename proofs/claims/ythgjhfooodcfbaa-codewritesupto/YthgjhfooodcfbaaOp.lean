/- A call of a script; again: what is taken up next is what was laid down. -/
import Derived.Test.YthgjhfooodcfbaaRt
import Derived.Test.YthgjhfooodcfbaaCb
namespace Go.Proofs.Ythgjhfooodcfbaa
open Go.RowKit

/-- A call of a script, as it lies in memory. -/
structure Op where
  kind : Int
  which : Int
  n : Nat
  i : Int
  ao : Option Addr
  len : Nat
  cap : Nat
  b : List UInt8
  most : Int
def Op.val (o : Op) : Array Value := #[.int .i64 o.kind, .int .i64 o.which, .int .u64 (o.n : Int), .int .i64 o.i, .slice o.ao o.len o.cap, .int .i64 o.most]
structure Op.ok (w : World) (o : Op) : Prop where
  k1 : -9223372036854775808 ≤ o.kind
  k2 : o.kind ≤ 9223372036854775807
  w1 : -9223372036854775808 ≤ o.which
  w2 : o.which ≤ 9223372036854775807
  n1 : o.n < 18446744073709551616
  i1 : -9223372036854775808 ≤ o.i
  i2 : o.i ≤ 9223372036854775807
  m1 : -9223372036854775808 ≤ o.most
  m2 : o.most ≤ 9223372036854775807
  rd : Rd w o.ao o.len o.cap o.b
theorem Op.ok.kept {F : Nat → Prop} {w w' : World} {o : Op} (h : o.ok w) (hf : Fr F w w') (hn : ∀ a, o.ao = some a → 0 < o.len → ¬ F a.block) : o.ok w' :=
  ⟨h.k1, h.k2, h.w1, h.w2, h.n1, h.i1, h.i2, h.m1, h.m2, h.rd.kept hf hn⟩
theorem Op.ok.still {w w' : World} {o : Op} (h : o.ok w) (hs : Still w w') : o.ok w' := h.kept hs fun _ _ _ e => e

/-- The six cells of a call, in a block of its own. -/
theorem six {w : World} {p : Nat} {o : Op} {t : TypeId} (h : w.heap[p]? = some (.cells o.val t (0, 0))) :
    w.cell? ⟨p, 0, none⟩ = some (.int .i64 o.kind) ∧ w.cell? ⟨p, 1, none⟩ = some (.int .i64 o.which) ∧ w.cell? ⟨p, 2, none⟩ = some (.int .u64 (o.n : Int)) ∧ w.cell? ⟨p, 3, none⟩ = some (.int .i64 o.i) ∧
    w.cell? ⟨p, 4, none⟩ = some (.slice o.ao o.len o.cap) ∧ w.cell? ⟨p, 5, none⟩ = some (.int .i64 o.most) :=
  ⟨by rw [cell_of_row _ _ _ _ _ _ h]; rfl, by rw [cell_of_row _ _ _ _ _ _ h]; rfl, by rw [cell_of_row _ _ _ _ _ _ h]; rfl, by rw [cell_of_row _ _ _ _ _ _ h]; rfl, by rw [cell_of_row _ _ _ _ _ _ h]; rfl, by rw [cell_of_row _ _ _ _ _ _ h]; rfl⟩
theorem six' {w : World} {p : Nat} {a b c d e f : Value} {t : TypeId} (h : w.heap[p]? = some (.cells #[a, b, c, d, e, f] t (0, 0))) :
    w.cell? ⟨p, 0, none⟩ = some a ∧ w.cell? ⟨p, 1, none⟩ = some b ∧ w.cell? ⟨p, 2, none⟩ = some c ∧ w.cell? ⟨p, 3, none⟩ = some d ∧ w.cell? ⟨p, 4, none⟩ = some e ∧ w.cell? ⟨p, 5, none⟩ = some f :=
  ⟨by rw [cell_of_row _ _ _ _ _ _ h]; rfl, by rw [cell_of_row _ _ _ _ _ _ h]; rfl, by rw [cell_of_row _ _ _ _ _ _ h]; rfl, by rw [cell_of_row _ _ _ _ _ _ h]; rfl, by rw [cell_of_row _ _ _ _ _ _ h]; rfl, by rw [cell_of_row _ _ _ _ _ _ h]; rfl⟩
theorem took_block {w w' : World} {p : Nat} {ao : Option Addr} {bs : List UInt8} {e : Int} {k : Nat} {o : Obj} (h : Took w w' p ao bs e) (hk : w.heap[k]? = some o) (hp : k ≠ p) : w'.heap[k]? = some o := by
  obtain ⟨_, _, _, _, hf, _⟩ := h
  exact hf.kept hk hp
theorem took_rd {w w' : World} {p : Nat} {ao so : Option Addr} {bs cs : List UInt8} {e : Int} {n cap : Nat} (h : Took w w' p ao bs e) (hr : Rd w so n cap cs) (hp : ∀ a, so = some a → 0 < n → a.block ≠ p) : Rd w' so n cap cs := by
  obtain ⟨_, _, _, _, hf, _⟩ := h
  exact hr.kept hf hp
def Op.enc (o : Op) : List UInt8 := Cp.enc (Cp.pick o.kind 4) o.n o.i o.b

set_option maxHeartbeats 1000000 in
set_option maxRecDepth 100000 in
theorem again_any (p : Nat) (ao : Option Addr) (n cap : Nat) (rest : List UInt8) (o : Op) (w : World) (hr : Rr w p ao n cap (o.enc ++ rest) 0) (ho : o.ok w) (hop : ∀ a, o.ao = some a → 0 < o.len → a.block ≠ p) (h47 : n ≤ 140737488355328) :
    Calls Try.prog 22 #[.pointer (some ⟨p, 0, none⟩), .agg o.val] w fun r w' => r = .returned (.bool true) ∧ Took w w' p ao rest 0 := by
  have hst0 := Still.alloc w (.cells o.val 28)
  have hr1 := hr.still hst0
  have ho1 := ho.still hst0
  have hb0 : (w.alloc (.cells o.val 28)).heap[w.heap.size]? = some (.cells o.val 28 (0, 0)) := heap_alloc_new w _
  have hplt := hr.lt
  obtain ⟨q0, q1, q2, q3, q4, q5⟩ := six hb0
  have hp0 := Cp.pick_lo o.kind (n := 4) (by omega)
  have hp4 := Cp.pick_hi o.kind (n := 4) (by omega)
  have hpk := pick_any o.kind 4 ho.k1 ho.k2 (by omega) (by omega)
  have henc : o.enc = Cp.enc (Cp.pick o.kind 4) o.n o.i o.b := rfl
  obtain ⟨q, hq⟩ : ∃ q, q = Cp.pick o.kind 4 := ⟨_, rfl⟩
  rw [← hq] at hp0 hp4 henc
  simp only [← hq] at hpk
  have HP := hid hpk
  clear hpk hq
  have hn1 := ho.n1
  have hi1 := ho.i1
  have hi2 := ho.i2
  obtain ⟨kind, which, on, oi, oa, ol, oc, ob, most⟩ := o
  simp only [Op.val] at *
  have hrd := ho1.rd
  by_cases h0 : q < 1
  · have he : Op.enc ⟨kind, which, on, oi, oa, ol, oc, ob, most⟩ = Cp.form on := by rw [henc]; unfold Cp.enc; rw [if_pos (by omega)]
    rw [he] at hr1
    have hc := uint_any p ao n cap _ 0 _ hr1
    rw [Cp.uint_form hn1] at hc
    have HC := hid hc
    clear hc he henc
    go_enter Try.func22, Try.ntmps22
    go_wp2_with fail
    refine (HP.out _).mono ?_
    rintro r w1 ⟨rfl, rfl⟩
    go_wp2_with fail
    refine HC.out.mono ?_
    rintro r w1 ⟨rfl, ht⟩
    obtain ⟨r0, r1, r2, r3, r4, r5⟩ := six' (took_block ht hb0 (by omega))
    go_wp2
    go_ret
    exact ⟨by rfl, Took.from hst0 ht⟩
  · by_cases h1 : q < 2
    · have he : Op.enc ⟨kind, which, on, oi, oa, ol, oc, ob, most⟩ = Cp.form (Cp.fold oi) := by rw [henc]; unfold Cp.enc; rw [if_neg (by omega), if_pos (by omega)]
      rw [he] at hr1
      have hc := int_any p ao n cap _ 0 _ hr1
      rw [Cp.uint_form (Cp.fold_lt hi1 hi2)] at hc
      dsimp only at hc
      rw [Cp.unfold_fold] at hc
      have HC := hid hc
      clear hc he henc
      go_enter Try.func22, Try.ntmps22
      go_wp2_with fail
      refine (HP.out _).mono ?_
      rintro r w1 ⟨rfl, rfl⟩
      go_wp2_with fail
      refine HC.out.mono ?_
      rintro r w1 ⟨rfl, ht⟩
      obtain ⟨r0, r1, r2, r3, r4, r5⟩ := six' (took_block ht hb0 (by omega))
      go_wp2
      go_ret
      exact ⟨by rfl, Took.from hst0 ht⟩
    · by_cases h2 : q < 3
      · have he : Op.enc ⟨kind, which, on, oi, oa, ol, oc, ob, most⟩ = [UInt8.ofNat (on % 256)] := by rw [henc]; unfold Cp.enc; rw [if_neg (by omega), if_neg (by omega), if_pos (by omega)]
        rw [he] at hr1
        have hc := byte_any p ao n cap _ 0 _ hr1
        rw [List.singleton_append, Cp.byte_form] at hc
        dsimp only at hc
        rw [Cp.ofNat_toNat (by omega)] at hc
        have HC := hid hc
        have hwrap : IntKind.u8.wrap (on : Int) = ((on % 256 : Nat) : Int) := by rw [IntKind.wrap_u8]; omega
        clear hc he henc
        go_enter Try.func22, Try.ntmps22
        go_wp2_with fail
        refine (HP.out _).mono ?_
        rintro r w1 ⟨rfl, rfl⟩
        go_wp2_with fail
        refine HC.out.mono ?_
        rintro r w1 ⟨rfl, ht⟩
        obtain ⟨r0, r1, r2, r3, r4, r5⟩ := six' (took_block ht hb0 (by omega))
        go_wp2
        go_ret
        exact ⟨by rfl, Took.from hst0 ht⟩
      · have he : Op.enc ⟨kind, which, on, oi, oa, ol, oc, ob, most⟩ = Cp.counted ob := by rw [henc]; unfold Cp.enc; rw [if_neg (by omega), if_neg (by omega), if_neg (by omega)]
        rw [he] at hr1
        have hol : ob.length = ol := hrd.len
        have hos : ol ≤ 9223372036854775807 := hrd.small
        have hc := bytes_any p ao n cap _ 0 (ol : Int) (by omega) (by omega) _ hr1 h47
        rw [← hol, Cp.bytes_form (by omega)] at hc
        dsimp only at hc
        rw [hol] at hc
        have HC := hid hc
        clear hc he henc
        have HO := hid hol
        clear hol
        go_enter Try.func22, Try.ntmps22
        go_wp2_with fail
        refine (HP.out _).mono ?_
        rintro r w1 ⟨rfl, rfl⟩
        go_wp2_with fail
        refine HC.out.mono ?_
        rintro r w1 ⟨fo, d, rfl, hfo, hnew, ht⟩
        obtain ⟨r0, r1, r2, r3, r4, r5⟩ := six' (took_block ht hb0 (by omega))
        have s1 := run_string (P := Try.prog) w1 26 5 9 Try.underlying26 Try.underlying5 Try.underlying9 hfo.rd
        have s2 := run_string (P := Try.prog) w1 26 5 9 Try.underlying26 Try.underlying5 Try.underlying9 (took_rd ht hrd hop)
        go_wp2
        go_ret
        exact ⟨by rfl, Took.from hst0 ht⟩
end Go.Proofs.Ythgjhfooodcfbaa
