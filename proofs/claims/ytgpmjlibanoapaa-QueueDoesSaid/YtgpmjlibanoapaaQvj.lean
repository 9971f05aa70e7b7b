/- A queue of the program beside the document's, and what a call on the two may turn. -/
import Derived.Test.YtgpmjlibanoapaaQvi
import Derived.Test.YtgpmjlibanoapaaQvg
namespace Go.Proofs.Ytgpmjlibanoapaa
open Go.RowKit
set_option maxRecDepth 100000

structure Pd where
  p : Nat
  v : Value
  M : List En
  yb : Nat
  ao : Option Addr
  cap : Nat
  S : List En
/-- blocks that its calls may turn; the block that its list is read in -/
def Wt (P : Pd) (k : Nat) : Prop := k = P.p ∨ P.v.ownBlock = some k ∨ k = P.yb
def Rb (P : Pd) (k : Nat) : Prop := ∃ a, P.ao = some a ∧ 0 < P.S.length ∧ a.block = k
structure Ok (B : Nat) (w : World) (P : Pd) : Prop where
  q : Qk w B P.p P.v P.M
  m : Qu P.M
  y : Yk w P.yb P.ao P.cap P.S
  pm : P.M.Perm P.S
  sr : Srt P.S
  yl : B ≤ P.yb
  sp : ∀ k, Rb P k → P.v.ownBlock ≠ some k
/-- a block of one cell that is a slice is no block that a list is read in -/
theorem Sr.ne {w : World} {ao : Option Addr} {cap k : Nat} {S : List En} {u : Value} {t : TypeId} (h : Sr w ao cap S) (hb : w.heap[k]? = some (.cells #[u] t (0, 0))) (hu : ∃ a n c, u = .slice a n c) : ∀ a, ao = some a → 0 < S.length → a.block ≠ k := by
  rintro a ha h0 rfl
  obtain ⟨B, o, e⟩ := h.rd.at h0
  have hrd := h.rd
  rw [e] at hrd
  rw [ha] at e
  cases e
  have c := hrd.get h0 0 _ rfl
  rw [cell_of_row _ _ _ _ _ _ hb] at c
  obtain ⟨a, n, cp, rfl⟩ := hu
  simp only [Nat.zero_mul, Nat.add_zero] at c
  by_cases ho : o = 0
  · subst ho; cases c
  · rw [Array.getElem?_eq_none (by simp; omega)] at c; cases c
theorem Ok.still {B : Nat} {w w' : World} {P : Pd} (h : Ok B w P) (hs : Still w w') : Ok B w' P := ⟨h.q.still hs, h.m, h.y.still hs, h.pm, h.sr, h.yl, h.sp⟩
theorem Ok.keep {B : Nat} {w w' : World} {P : Pd} {F : Nat → Prop} (h : Ok B w P) (hf : Fr F w w') (hw : ∀ k, F k → ¬ Wt P k ∧ ¬ Rb P k) : Ok B w' P := by
  refine ⟨h.q.keep hf (fun e => (hw _ e).1 (.inl rfl)) (fun k hk e => (hw k hk).1 (.inr (.inl e))), h.m, ⟨hf.kept h.y.bk (fun e => (hw _ e).1 (.inr (.inr rfl))), h.y.sr.keep hf (fun a ha h0 e => (hw _ e).2 ⟨a, ha, h0, rfl⟩)⟩, h.pm, h.sr, h.yl, h.sp⟩
theorem Ok.wlt {B : Nat} {w : World} {P : Pd} (h : Ok B w P) : ∀ k, Wt P k → B ≤ k ∧ k < w.heap.size := by
  rintro k (rfl | hk | rfl)
  · exact ⟨h.q.lo, block_lt h.q.bk⟩
  · exact h.q.ow.block hk
  · exact ⟨h.yl, block_lt h.y.bk⟩
theorem Ok.rlt {B : Nat} {w : World} {P : Pd} (h : Ok B w P) : ∀ k, Rb P k → k < w.heap.size := by
  rintro k ⟨a, ha, h0, rfl⟩
  exact h.y.sr.lt a ha h0
theorem Ok.rw_ne {B : Nat} {w : World} {P : Pd} (h : Ok B w P) : ∀ k, Rb P k → ¬ Wt P k := by
  rintro k ⟨a, ha, h0, rfl⟩ (e | e | e)
  · obtain ⟨ao, cap, ev'⟩ := h.q.own
    exact h.y.sr.ne h.q.bk ⟨ao, _, cap, ev'⟩ a ha h0 e
  · exact h.sp _ ⟨a, ha, h0, rfl⟩ e
  · exact h.y.sr.ne h.y.bk ⟨_, _, _, rfl⟩ a ha h0 e
theorem Ok.ypne {B : Nat} {w : World} {P : Pd} (h : Ok B w P) : P.yb ≠ P.p ∧ P.v.ownBlock ≠ some P.yb := ⟨fun e => ty_ne h.y.bk h.q.bk (by decide) e, ow_ne_t h.q.ow h.y.bk (by decide)⟩
/-- what a call on it has done -/
structure Eff (B : Nat) (w w' : World) (P P' : Pd) : Prop where
  ok : Ok B w' P'
  fr : Fr (Wt P) w w'
  wt : ∀ k, Wt P' k → Wt P k ∨ w.heap.size ≤ k
  rb : ∀ k, Rb P' k → Rb P k ∨ w.heap.size ≤ k
  ep : P'.p = P.p
  ey : P'.yb = P.yb
theorem Eff.same {B : Nat} {w w' : World} {P : Pd} (h : Ok B w P) (hs : Still w w') : Eff B w w' P P := ⟨h.still hs, Still.to hs, fun _ hk => .inl hk, fun _ hk => .inl hk, rfl, rfl⟩
theorem Eff.still {B : Nat} {w w' w2 : World} {P P' : Pd} (h : Eff B w w' P P') (hs : Still w' w2) : Eff B w w2 P P' := ⟨h.ok.still hs, Fr.trans h.fr hs (fun _ _ e => e.elim), h.wt, h.rb, h.ep, h.ey⟩
/-- .. and then what was new is turned -/
theorem Eff.then {B : Nat} {w w' w2 : World} {P P' : Pd} {F : Nat → Prop} (h : Eff B w w' P P') (hf : Fr F w' w2) (hF : ∀ k, F k → w.heap.size ≤ k) (hn : ∀ k, F k → ¬ Wt P' k ∧ ¬ Rb P' k) : Eff B w w2 P P' :=
  ⟨h.ok.keep hf hn, Fr.trans h.fr hf (fun k hk e => by have := hF k e; omega), h.wt, h.rb, h.ep, h.ey⟩
theorem Ok.yk1 {B : Nat} {w w1 : World} {P : Pd} (h : Ok B w P) (hf : Fr (fun k => k = P.p ∨ P.v.ownBlock = some k) w w1) : Yk w1 P.yb P.ao P.cap P.S := by
  refine ⟨hf.kept h.y.bk (fun e => ?_), h.y.sr.keep hf (fun a ha h0 e => ?_)⟩
  · rcases e with e | e
    · exact h.ypne.1 e
    · exact h.ypne.2 e
  · exact h.rw_ne _ ⟨a, ha, h0, rfl⟩ (by rcases e with e | e; exact .inl e; exact .inr (.inl e))
/-- a call on the one, then a call on the other -/
theorem Ok.both {B : Nat} {w w1 w2 : World} {P : Pd} (h : Ok B w P) {v' : Value} {M' S' : List En} {ao' : Option Addr} {cap' : Nat}
    (hf : Fr (fun k => k = P.p ∨ P.v.ownBlock = some k) w w1) (hq : Qk w1 B P.p v' M') (hm : Qu M') (ho : ∀ k, v'.ownBlock = some k → P.v.ownBlock = some k ∨ w.heap.size ≤ k)
    (hf2 : Fr (fun k => k = P.yb) w1 w2) (hy : Yk w2 P.yb ao' cap' S') (hp : M'.Perm S') (hs : Srt S') (hr : ∀ a, ao' = some a → 0 < S'.length → Rb P a.block ∨ w1.heap.size ≤ a.block) : Eff B w w2 P ⟨P.p, v', M', P.yb, ao', cap', S'⟩ := by
  have hy1 := h.yk1 hf
  have hq2 : Qk w2 B P.p v' M' := hq.keep hf2 (fun e => h.ypne.1 e.symm) (fun k hk e => by subst hk; exact ow_ne_t hq.ow hy1.bk (by decide) e)
  refine ⟨⟨hq2, hm, hy, hp, hs, h.yl, ?_⟩, ?_, ?_, ?_, rfl, rfl⟩
  · rintro k ⟨a, ha, h0, rfl⟩ e
    have hlt := (hq.ow.block e).2
    rcases hr a ha h0 with h1 | h1
    · have h2 := h.rlt _ h1
      rcases ho _ e with h3 | h3
      · exact h.sp _ h1 h3
      · omega
    · omega
  · refine Fr.trans (hf.mono (fun k _ e => ?_)) hf2 (fun k _ e => .inr (.inr e))
    rcases e with e | e
    · exact .inl e
    · exact .inr (.inl e)
  · rintro k (e | e | e)
    · exact .inl (.inl e)
    · rcases ho _ e with h3 | h3
      · exact .inl (.inr (.inl h3))
      · exact .inr h3
    · exact .inl (.inr (.inr e))
  · rintro k ⟨a, ha, h0, rfl⟩
    rcases hr a ha h0 with h1 | h1
    · exact .inl h1
    · have := hf.size
      exact .inr (by omega)
/-- an op's cells -/
structure Oq where
  k : Int
  n : Int
  e : En
  f : Int
abbrev oqs (o : Oq) : Array Value := #[.int .i64 o.k, .int .i64 o.n, .int .i64 o.e.fr, .int .i64 o.e.pe, .int .i64 o.e.se, .int .i64 o.e.vb, .int .i64 o.e.a, .int .i64 o.e.b, .int .i64 o.e.c, .int .i64 o.e.ms, .int .i64 o.f]
abbrev pvs (P : Pd) : Array Value := #[.pointer (some ⟨P.p, 0, none⟩), .pointer (some ⟨P.yb, 0, none⟩)]
/-- the two variables of a call -/
structure Bx (w : World) (b2 b3 : Nat) (P : Pd) (o : Oq) : Prop where
  h2 : w.heap[b2]? = some (.cells (pvs P) 31 (0, 0))
  h3 : w.heap[b3]? = some (.cells (oqs o) 40 (0, 0))
theorem Bx.keep {w w' : World} {b2 b3 : Nat} {P : Pd} {o : Oq} {F : Nat → Prop} (h : Bx w b2 b3 P o) (hf : Fr F w w') (h2 : ¬ F b2) (h3 : ¬ F b3) : Bx w' b2 b3 P o := ⟨hf.kept h.h2 h2, hf.kept h.h3 h3⟩
theorem Bx.cells {w : World} {b2 b3 : Nat} {P : Pd} {o : Oq} (h : Bx w b2 b3 P o) : w.cell? ⟨b2, 0, none⟩ = some (.pointer (some ⟨P.p, 0, none⟩)) ∧ w.cell? ⟨b2, 1, none⟩ = some (.pointer (some ⟨P.yb, 0, none⟩)) ∧ w.cell? ⟨b3, 0, none⟩ = some (.int .i64 o.k) ∧ w.cell? ⟨b3, 2, none⟩ = some (.int .i64 o.e.fr) ∧ w.cell? ⟨b3, 3, none⟩ = some (.int .i64 o.e.pe) ∧ w.cell? ⟨b3, 4, none⟩ = some (.int .i64 o.e.se) ∧ w.cell? ⟨b3, 5, none⟩ = some (.int .i64 o.e.vb) ∧ w.cell? ⟨b3, 6, none⟩ = some (.int .i64 o.e.a) ∧ w.cell? ⟨b3, 7, none⟩ = some (.int .i64 o.e.b) ∧ w.cell? ⟨b3, 8, none⟩ = some (.int .i64 o.e.c) ∧ w.cell? ⟨b3, 9, none⟩ = some (.int .i64 o.e.ms) ∧ w.cell? ⟨b3, 10, none⟩ = some (.int .i64 o.f) := by
  refine ⟨?_, ?_, ?_, ?_, ?_, ?_, ?_, ?_, ?_, ?_, ?_, ?_⟩ <;> first | (rw [cell_of_row _ _ _ _ _ _ h.h2]; rfl) | (rw [cell_of_row _ _ _ _ _ _ h.h3]; rfl)
end Go.Proofs.Ytgpmjlibanoapaa
