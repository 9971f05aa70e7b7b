/- The program's writer of a datagram: a number in full, an order. -/
import Derived.Test.YtaaongbdincimaaGreatDoorWmb
import Derived.Test.YtaaongbdincimaaGreatDoorK2b
import Derived.Test.YtaaongbdincimaaGreatDoorRgi
namespace Go.Proofs.YtaaongbdincimaaGreatDoor
open Go.RowKit
open Wp Vp
set_option maxRecDepth 100000
set_option linter.unusedVariables false

theorem RdG.keepZ {α : Type} {K : Kd α} {F : Nat → Prop} {w w' : World} {ao : Option Addr} {n : Nat} {L : List α} (h : RdG K w ao n L) (hf : Fr F w w') (hn : ∀ a, ao = some a → 0 < n → ¬ F a.block) : RdG K w' ao n L := by
  refine ⟨h.1, h.2.1, ?_⟩
  by_cases h0 : n = 0
  · exact .inl h0
  rcases h.2.2 with h1 | ⟨B, o, e, hc⟩
  · exact .inl h1
  · exact .inr ⟨B, o, e, fun i hi j u hu => (hf.cell (World.block_lt_of_cell? w _ (hc i hi j u hu)) (fun hb => hn ⟨B, o, none⟩ e (by omega) hb)).trans (hc i hi j u hu)⟩
theorem RdG.ltZ {w : World} {ao : Option Addr} {n : Nat} {L : List Cc} (h : RdG KCc w ao n L) (h0 : 0 < n) : ∀ a, ao = some a → a.block < w.heap.size := by
  intro a ha
  rcases h.2.2 with h1 | ⟨B, o, e, hc⟩
  · omega
  · rw [e] at ha
    cases ha
    exact World.block_lt_of_cell? w _ (hc 0 h0 0 _ rfl)
/-- a writer of a datagram in block p, the bytes bs in the row at ao -/
structure Wz (w : World) (p : Nat) (ao : Option Addr) (bs : List UInt8) : Prop where
  wr : ∃ cap, Wr w p ao bs.length cap 16384 bs 0
theorem Wz.of {w : World} {p n cap : Nat} {ao : Option Addr} {bs : List UInt8} (h : Wr w p ao n cap 16384 bs 0) : Wz w p ao bs := ⟨cap, by
  have := h.own.rd.len
  subst this
  exact h⟩
theorem Wz.wf_lt {w : World} {p : Nat} {ao : Option Addr} {bs : List UInt8} (h : Wz w p ao bs) : ∀ k, Wf p ao k → k < w.heap.size := by
  obtain ⟨cap, h⟩ := h.wr
  exact h.wf_lt
theorem Wz.still {w w' : World} {p : Nat} {ao : Option Addr} {bs : List UInt8} (h : Wz w p ao bs) (hs : Still w w') : Wz w' p ao bs := by
  obtain ⟨cap, h⟩ := h.wr
  exact ⟨cap, h.still hs⟩
/-- x was laid down behind -/
structure Lz (w w' : World) (p : Nat) (ao ao' : Option Addr) (bs x : List UInt8) : Prop where
  q : Wz w' p ao' (bs ++ x)
  f : Fr (Wf p ao) w w'
  l : Later w ao ao'
theorem Lz.nil {w w' : World} {p : Nat} {ao : Option Addr} {bs : List UInt8} (h : Wz w p ao bs) (hs : Still w w') : Lz w w' p ao ao bs [] := ⟨by rw [List.append_nil]; exact h.still hs, Still.to hs, Later.refl _ _⟩
theorem Lz.from {w w1 w' : World} {p : Nat} {ao ao' : Option Addr} {bs x : List UInt8} (hs : Still w w1) (h : Lz w1 w' p ao ao' bs x) : Lz w w' p ao ao' bs x := ⟨h.q, (Still.to hs).trans h.f (fun _ _ h => h), fun a ha => by
  rcases h.l a ha with h | h
  · exact .inl h
  · exact .inr (Nat.le_trans hs.size h)⟩
theorem Lz.still {w w1 w' : World} {p : Nat} {ao ao' : Option Addr} {bs x : List UInt8} (h : Lz w w1 p ao ao' bs x) (hs : Still w1 w') : Lz w w' p ao ao' bs x := ⟨h.q.still hs, h.f.trans hs (fun _ _ e => e.elim), h.l⟩
theorem Lz.wf {w w1 : World} {p : Nat} {ao ao1 : Option Addr} {bs x : List UInt8} (h : Lz w w1 p ao ao1 bs x) : ∀ k, Wf p ao1 k → Wf p ao k ∨ w.heap.size ≤ k := by
  rintro k (rfl | ⟨a, ha, rfl⟩)
  · exact .inl (.inl rfl)
  · rcases h.l a ha with ⟨b, hb, e⟩ | h
    · exact .inl (.inr ⟨b, hb, e⟩)
    · exact .inr h
theorem Lz.trans {w w1 w2 : World} {p : Nat} {ao ao1 ao2 : Option Addr} {bs x y : List UInt8} (h : Lz w w1 p ao ao1 bs x) (k : Lz w1 w2 p ao1 ao2 (bs ++ x) y) : Lz w w2 p ao ao2 bs (x ++ y) := by
  refine ⟨by rw [← List.append_assoc]; exact k.q, h.f.trans k.f (fun j hj e => ?_), fun a ha => ?_⟩
  · rcases h.wf j e with h1 | h1
    · exact h1
    · omega
  · rcases k.l a ha with ⟨b, hb, e⟩ | h1
    · rcases h.l b hb with ⟨c, hc, e2⟩ | h2
      · exact .inl ⟨c, hc, e2.trans e⟩
      · exact .inr (by rw [← e]; exact h2)
    · exact .inr (Nat.le_trans h.f.size h1)
theorem Lz.off {w w1 : World} {p : Nat} {ao ao1 : Option Addr} {bs x : List UInt8} (h : Lz w w1 p ao ao1 bs x) {k : Nat} (hk : k < w.heap.size) (hn : ¬ Wf p ao k) : ¬ Wf p ao1 k := fun e => by
  rcases h.wf k e with h1 | h1
  · exact hn h1
  · omega
theorem layS_fitZ {bs x : List UInt8} (h : bs.length + x.length ≤ 16384) : layS 16384 bs 0 x = (bs ++ x, 0) := by
  unfold layS
  rw [if_neg (by simp), if_neg (by omega)]
theorem Lz.of {w w' : World} {p : Nat} {ao : Option Addr} {bs x : List UInt8} (h : Laid w w' p ao 16384 bs 0 x) (hb : bs.length + x.length ≤ 16384) : ∃ ao', Lz w w' p ao ao' bs x := by
  obtain ⟨ao', n, cap, h1, h2, h3⟩ := h
  rw [layS_fitZ hb] at h1
  exact ⟨ao', Wz.of h1, h2, h3⟩
theorem zint_any (p : Nat) (ao : Option Addr) (bs : List UInt8) (m : Int) (h1 : -9223372036854775808 ≤ m) (h2 : m ≤ 9223372036854775807) (hb : bs.length + 10 ≤ 16384) (w : World) (hw : Wz w p ao bs) :
    Calls Tryz.prog 60 #[.pointer (some ⟨p, 0, none⟩), .int .i64 m] w fun r w' => r = .returned (.tuple #[]) ∧ ∃ ao', Lz w w' p ao ao' bs (sgB m) := by
  obtain ⟨cap, h⟩ := hw.wr
  refine (wint_any p ao _ cap _ bs 0 m h1 h2 w h (by omega) (by omega) (by omega)).mono ?_
  rintro r w' ⟨rfl, hl⟩
  exact ⟨rfl, Lz.of hl (by have := sgB_le h1 h2; omega)⟩
theorem zuint_any (p : Nat) (ao : Option Addr) (bs : List UInt8) (m : Nat) (hm : m < 18446744073709551616) (hb : bs.length + 10 ≤ 16384) (w : World) (hw : Wz w p ao bs) :
    Calls Tryz.prog 35 #[.pointer (some ⟨p, 0, none⟩), .int .u64 (m : Int)] w fun r w' => r = .returned (.tuple #[]) ∧ ∃ ao', Lz w w' p ao ao' bs (Cp.form m) := by
  obtain ⟨cap, h⟩ := hw.wr
  refine (wuint_any p ao _ cap _ bs 0 m hm w h (by omega) (by omega) (by omega)).mono ?_
  rintro r w' ⟨rfl, hl⟩
  exact ⟨rfl, Lz.of hl (by have := Cp.form_ten hm; omega)⟩
theorem zbyte_any (p : Nat) (ao : Option Addr) (bs : List UInt8) (m : UInt8) (x : Int) (hm : x = (m.toNat : Int)) (hb : bs.length + 10 ≤ 16384) (w : World) (hw : Wz w p ao bs) :
    Calls Tryz.prog 34 #[.pointer (some ⟨p, 0, none⟩), .int .u8 x] w fun r w' => r = .returned (.tuple #[]) ∧ ∃ ao', Lz w w' p ao ao' bs [m] := by
  obtain ⟨cap, h⟩ := hw.wr
  refine (wbyte_any p ao _ cap _ bs 0 m x hm w h (by omega) (by omega) (by omega)).mono ?_
  rintro r w' ⟨rfl, hl⟩
  exact ⟨rfl, Lz.of hl (by simp; omega)⟩
/-- a block that is no writer's -/
structure Ofz (w : World) (p : Nat) (ao : Option Addr) (g : Nat) (o : Obj) : Prop where
  b : w.heap[g]? = some o
  n : ¬ Wf p ao g
theorem Ofz.on {w w1 : World} {p g : Nat} {ao ao1 : Option Addr} {o : Obj} {bs x : List UInt8} (b : Ofz w p ao g o) (hl : Lz w w1 p ao ao1 bs x) : Ofz w1 p ao1 g o := ⟨hl.f.kept b.b b.n, hl.off (block_lt b.b) b.n⟩
theorem Ofz.still {w w1 : World} {p g : Nat} {ao : Option Addr} {o : Obj} (b : Ofz w p ao g o) (hs : Still w w1) : Ofz w1 p ao g o := ⟨hs.kept_still b.b, b.n⟩
theorem Ofz.new {w : World} {p : Nat} {ao : Option Addr} {bs : List UInt8} (hw : Wz w p ao bs) (cs : Array Value) (t : TypeId) : Ofz (w.alloc (.cells cs t)) p ao w.heap.size (.cells cs t (0, 0)) := ⟨heap_alloc_new w _, fun e => by have := hw.wf_lt _ e; omega⟩
theorem Ofz.cell {w : World} {p g : Nat} {ao : Option Addr} {cs : List Value} {t : TypeId} (b : Ofz w p ao g (.cells cs.toArray t (0, 0))) (j : Nat) : w.cell? ⟨g, j, none⟩ = cs[j]? := by
  rw [cell_of_row _ _ _ _ _ _ b.b]; simp
/-- the writer's variable of a method -/
abbrev wzv (p : Nat) : Value := .agg #[.pointer (some ⟨p, 0, none⟩)]
abbrev wzo (p : Nat) : Obj := .cells #[.pointer (some ⟨p, 0, none⟩)] 50 (0, 0)
theorem Ofz.wr {w : World} {p g : Nat} {ao : Option Addr} (b : Ofz w p ao g (wzo p)) : w.cell? ⟨g, 0, none⟩ = some (.pointer (some ⟨p, 0, none⟩)) := by rw [cell_of_row _ _ _ _ _ _ b.b]; rfl
theorem wrap8z (m : Nat) : IntKind.u8.wrap (m : Int) = ((UInt8.ofNat (m % 256)).toNat : Int) := by
  rw [Cp.ofNat_toNat (by omega)]
  simp [IntKind.wrap, IntKind.bits, IntKind.signed]
set_option maxHeartbeats 2000000 in
theorem zfull_any (p : Nat) (ao : Option Addr) (bs : List UInt8) (d : Nat) (hd : d < 18446744073709551616) (hb : bs.length + 20 ≤ 16384) (w : World) (hw : Wz w p ao bs) :
    Calls Tryz.prog 23 #[wzv p, .int .u64 (d : Int)] w fun r w' => r = .returned (.tuple #[]) ∧ ∃ ao', Lz w w' p ao ao' bs (Wp.sumF 8 d) := by
  have A0 := Still.alloc w (.cells #[.pointer (some ⟨p, 0, none⟩)] 50)
  have B0 := Ofz.new hw #[.pointer (some ⟨p, 0, none⟩)] 50
  obtain ⟨W, eW⟩ : ∃ W, w.alloc (.cells #[.pointer (some ⟨p, 0, none⟩)] 50) = W := ⟨_, rfl⟩
  obtain ⟨g, eg⟩ : ∃ g, w.heap.size = g := ⟨_, rfl⟩
  rw [eW] at A0 B0
  rw [eg] at B0
  have HA := hid A0
  have HB := hid B0
  have HW := hid (hw.still A0)
  clear A0 B0 hw
  go_enter Tryz.func23, Tryz.ntmps23
  go_wp2_with fail
  go_loopw [1, 4] (fun u1 u4 wr => ∃ (i m : Nat) (ao1 : Option Addr) (xs : List UInt8), i ≤ 8 ∧ m < 18446744073709551616 ∧ u1 = .int .u64 (m : Int) ∧ u4 = .int .i64 (i : Int) ∧ Hid (Lz W wr p ao ao1 bs xs ∧ xs.length = i ∧ xs ++ Wp.sumF (8 - i) m = Wp.sumF 8 d)) (fun _ u4 _ => 8 - (intOf u4).toNat)
  case atStart => exact ⟨0, d, ao, [], by omega, hd, rfl, rfl, hid ⟨Lz.nil HW.out (Fr.refl _ _), rfl, rfl⟩⟩
  case round =>
    obtain ⟨i, m, ao1, xs, hi, hm, rfl, rfl, HL⟩ := hrel
    by_cases hin : i < 8
    · have hlt : (i : Int) < 8 := by omega
      have c0 := (HB.out.on HL.out.1).wr
      have HC := hid (zbyte_any p ao1 (bs ++ xs) (UInt8.ofNat (m % 256)) _ (wrap8z m) (by rw [List.length_append]; have := HL.out.2.1; omega) wr HL.out.1.q)
      have HF : Hid ((xs ++ [UInt8.ofNat (m % 256)]) ++ Wp.sumF (8 - (i + 1)) (m / 256) = Wp.sumF 8 d) := hid (by
        rw [← HL.out.2.2, show 8 - i = (8 - (i + 1)) + 1 by omega]
        simp [Wp.sumF])
      go_wp2_with fail
      refine HC.out.mono ?_
      rintro e w2 ⟨he, ao2, h2⟩
      rw [he]
      have HL2 : Hid (Lz W w2 p ao ao2 bs (xs ++ [UInt8.ofNat (m % 256)]) ∧ (xs ++ [UInt8.ofNat (m % 256)]).length = i + 1) := hid ⟨HL.out.1.trans h2, by simp [HL.out.2.1]⟩
      clear he h2 HC c0 HL
      go_wp2_with fail
      go_roundw
      case rel => exact ⟨i + 1, m / 256, ao2, _, by omega, by omega, by go_num, by go_num, hid ⟨HL2.out.1, HL2.out.2, HF.out⟩⟩
      case measure => simp [intOf]; omega
    · obtain rfl : i = 8 := by omega
      have HL2 : Hid (Lz w wr p ao ao1 bs (Wp.sumF 8 d)) := hid (by
        have h1 := HL.out.1.from HA.out
        have h2 := HL.out.2.2
        simp only [Nat.sub_self, Wp.sumF, List.append_nil] at h2
        rw [show Wp.sumF 8 d = xs from h2.symm]
        exact h1)
      go_wp2_with fail
      go_end0
      exact ⟨rfl, ao1, HL2.out⟩
end Go.Proofs.YtaaongbdincimaaGreatDoor
