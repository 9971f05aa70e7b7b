/- QueueSorts. -/
import Derived.Test.YtdmgalaajgebkaaQuq
namespace Go.Proofs.Ytdmgalaajgebkaa
open Go.RowKit
set_option maxRecDepth 100000

theorem ow_ne_q {w : World} {B p : Nat} {u v : Value} {I : List En} (ho : OwG KE 44 w B u I) (hb : w.heap[p]? = some (.cells #[v] 90 (0, 0))) : u.ownBlock ≠ some p := by
  intro e
  rcases ho.2 with ⟨rfl, _⟩ | ⟨g, cap, cur, rfl, _, hg, _⟩
  · cases e
  · simp [Value.ownBlock] at e
    subst e
    have := hg.symm.trans hb
    simp at this
/-- the queue and the list of what went in, each in memory of its own -/
structure Two (w wr : World) (p : Nat) (v : Value) (M : List En) (u : Value) (I : List En) : Prop where
  q : Qk wr w.heap.size p v M
  o : OwG KE 44 wr w.heap.size u I
  m : Qu M
  s : Still w wr
  a : ∀ k, v.ownBlock = some k → u.ownBlock ≠ some k
theorem Two.still {w wr w' : World} {p : Nat} {v u : Value} {M I : List En} (h : Two w wr p v M u I) (hs : Still wr w') : Two w w' p v M u I := ⟨h.q.still hs, h.o.still hs, h.m, h.s.trans hs, h.a⟩
theorem Two.call {w wr w' : World} {p : Nat} {v v' u : Value} {M M' I : List En} (h : Two w wr p v M u I) (hq : Qk w' w.heap.size p v' M') (hm : Qu M') (hf : Fr (fun k => k = p ∨ v.ownBlock = some k) wr w') (hb : ∀ k, v'.ownBlock = some k → v.ownBlock = some k ∨ wr.heap.size ≤ k) : Two w w' p v' M' u I := by
  refine ⟨hq, h.o.keep hf (fun k hk e => ?_), hm, h.q.stl h.s (Nat.le_refl _) hf, fun k hk e => ?_⟩
  · rcases hk with rfl | hk
    · exact ow_ne_q h.o h.q.bk e
    · exact h.a k hk e
  · rcases hb k hk with h1 | h1
    · exact h.a k h1 e
    · have := (h.o.block e).2; omega
theorem Two.app {w wr w' : World} {p : Nat} {v u u' : Value} {M I I' : List En} (h : Two w wr p v M u I) (ho : OwG KE 44 w' w.heap.size u' I') (hf : Fr (fun k => u.ownBlock = some k) wr w') (hb : ∀ k, u'.ownBlock = some k → u.ownBlock = some k ∨ wr.heap.size ≤ k) : Two w w' p v M u' I' := by
  refine ⟨h.q.keep hf (fun e => ow_ne_q h.o h.q.bk e) (fun k hk e => h.a k e hk), ho, h.m, Fr.trans h.s hf (fun k hk e => by have := (h.o.block e).1; omega), fun k hk e => ?_⟩
  rcases hb k e with h1 | h1
  · exact h.a k hk h1
  · have := (h.q.ow.block hk).2; omega
theorem Two.set {w wr w' : World} {p g : Nat} {v u : Value} {M I : List En} (h : Two w wr p v M u I) (hf : Fr (fun k => k = g) wr w') (hp : p ≠ g) (hv : v.ownBlock ≠ some g) (hu : u.ownBlock ≠ some g) (hg : w.heap.size ≤ g) : Two w w' p v M u I :=
  ⟨h.q.keep hf (fun e => hp e) (fun k hk e => hv (by rw [← hk]; exact e)), h.o.keep hf (fun k hk e => hu (by rw [← hk]; exact e)), h.m, Fr.trans h.s hf (fun k hk e => by omega), h.a⟩
end Go.Proofs.Ytdmgalaajgebkaa
