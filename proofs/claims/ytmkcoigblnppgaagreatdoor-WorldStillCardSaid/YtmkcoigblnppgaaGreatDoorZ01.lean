/- Parts of the proof, laid end to end. -/
import Derived.WalkKit
import Derived.Lib.SlBytesRow
import Derived.StillTail
import Derived.Deep.QuietTactic
import Derived.BigQuiet
import Derived.Test.YtmkcoigblnppgaaGreatDoorZ00
import Derived.Deep.RegionWith
import Derived.BigRegion
import Derived.Laws.ResultCell
import Derived.KernelRfl
import Derived.Laws.StructEq
import Derived.Lib.Strings
import Derived.WalkMore
import Derived.Laws.MakeOwn
set_option maxRecDepth 100000
namespace Go.Proofs.YtmkcoigblnppgaaGreatDoor
open Go.RowKit
theorem hid {p : Prop} (h : p) : Hid p := h
structure Fr (F : Nat -> Prop) (w w' : World) : Prop where
 os : w'.os = w.os
 tape : w'.tape = w.tape
 output : w'.output = w.output
 size : w.heap.size <= w'.heap.size
 block : ∀ k, k < w.heap.size -> ¬ F k -> w'.heap[k]? = w.heap[k]?
theorem Fr.refl (F : Nat -> Prop) (w : World) : Fr F w w := ⟨rfl, rfl, rfl, Nat.le_refl _, fun _ _ _ => rfl⟩
theorem Fr.mono {F G : Nat -> Prop} {w w' : World} (h : Fr F w w') (hG : ∀ k, k < w.heap.size -> F k -> G k) : Fr G w w' :=
 ⟨h.os, h.tape, h.output, h.size, fun k hk hn => h.block k hk fun hf => hn (hG k hk hf)⟩
theorem Fr.trans {F G : Nat -> Prop} {a b c : World} (h : Fr F a b) (k : Fr G b c) (hG : ∀ k, k < a.heap.size -> G k -> F k) : Fr F a c :=
 ⟨k.os.trans h.os, k.tape.trans h.tape, k.output.trans h.output, Nat.le_trans h.size k.size,
  fun i hi hn => (k.block i (Nat.lt_of_lt_of_le hi h.size) fun hg => hn (hG i hi hg)).trans (h.block i hi hn)⟩
theorem Fr.drew {F : Nat -> Prop} {a w : World} (h : Fr F a w) : Fr F a w.drew := ⟨h.os, h.tape, h.output, h.size, h.block⟩
theorem Fr.drewN {F : Nat -> Prop} {a w : World} (h : Fr F a w) (n : Nat) : Fr F a (w.drewN n) :=
 ⟨h.os, h.tape, h.output, h.size, h.block⟩
theorem Fr.alloc {F : Nat -> Prop} {a w : World} (h : Fr F a w) (o : Obj) : Fr F a (w.alloc o) :=
 ⟨h.os, h.tape, h.output, by have := h.size; simp; omega, fun k hk hn => (Below.heap_alloc _ _ _ (Nat.lt_of_lt_of_le hk h.size)).trans (h.block k hk hn)⟩
theorem Fr.setCell {F : Nat -> Prop} {a w : World} (h : Fr F a w) (p : Addr) (u : Value) (hp : F p.block \/ a.heap.size <= p.block) : Fr F a (w.setCell p u) :=
 ⟨h.os, h.tape, h.output, by have := h.size; simpa [World.setCell] using this, fun k hk hn => by
  rw [Below.heap_setCell _ _ _ _ (fun e => by subst e; rcases hp with hp | hp; exact hn hp; omega)]
  exact h.block k hk hn⟩
theorem Fr.setRow {F : Nat -> Prop} {a w : World} (h : Fr F a w) (g : Nat) (cs : Array Value) (hp : F g \/ a.heap.size <= g) : Fr F a (w.setRow g cs) :=
 ⟨h.os, h.tape, h.output, by have := h.size; simpa using this, fun k hk hn => by
  rw [setRow_other w g k cs (fun e => by subst e; rcases hp with hp | hp; exact hn hp; omega)]
  exact h.block k hk hn⟩
theorem Fr.below {F : Nat -> Prop} {B : Nat} {W w' : World} (h : Fr F W w') (hF : ∀ k, F k -> B <= k) (hB : B <= W.heap.size) : Below B W w' :=
 ⟨h.os, h.tape, h.output, h.size, fun k hk => h.block k (by omega) fun hf => by have := hF k hf; omega⟩
theorem Fr.cell {F : Nat -> Prop} {w w' : World} (h : Fr F w w') {p : Addr} (hp : p.block < w.heap.size) (hn : ¬ F p.block) : w'.cell? p = w.cell? p :=
 World.cell?_of_block (w := w) (h.block p.block hp hn)
theorem Fr.kept {F : Nat -> Prop} {w w' : World} (h : Fr F w w') {k : Nat} {o : Obj} (hk : w.heap[k]? = some o) (hn : ¬ F k) : w'.heap[k]? = some o :=
 (h.block k (Array.getElem?_eq_some_iff.1 hk).1 hn).trans hk
abbrev Still (w w' : World) : Prop := Fr (fun _ => False) w w'
theorem Fr.kept_still {w w' : World} (h : Still w w') {k : Nat} {o : Obj} (hk : w.heap[k]? = some o) : w'.heap[k]? = some o := h.kept hk (fun e => e)
theorem block_lt {w : World} {k : Nat} {o : Obj} (hk : w.heap[k]? = some o) : k < w.heap.size := (Array.getElem?_eq_some_iff.1 hk).1
theorem Still.to {F : Nat -> Prop} {w w' : World} (h : Still w w') : Fr F w w' := h.mono fun _ _ e => e.elim
theorem Still.below {w w' : World} (h : Still w w') : Below w.heap.size w w' := Fr.below h (fun _ e => e.elim) (Nat.le_refl _)
theorem Still.undrew {w w' : World} (h : Still w.drew w') : Still w w' := ⟨h.os, h.tape, h.output, h.size, h.block⟩
theorem Still.trans {a b c : World} (h : Still a b) (k : Still b c) : Still a c := Fr.trans h k fun _ _ e => e
theorem Still.alloc (w : World) (o : Obj) : Still w (w.alloc o) := (Fr.refl _ w).alloc o
def cutAt (ao : Option Addr) (cap i : Nat) : Option Addr := if cap = i then ao else ao.map (·.add (i * 1))
theorem add_plain (b o j : Nat) : (⟨b, o, none⟩ : Addr).add j = ⟨b, o + j, none⟩ := by unfold Addr.add; split <;> simp_all
theorem cutAt_zero (ao : Option Addr) (cap : Nat) : cutAt ao cap 0 = ao := by
 unfold cutAt
 split
 ·rfl
 ·cases ao with
  | none => rfl
  | some a => simp [Addr.add]
section
variable {P : Program}
end
section
variable {P : Program}
end
end Go.Proofs.YtmkcoigblnppgaaGreatDoor
namespace Go.Proofs.YtmkcoigblnppgaaGreatDoor
open Go
def cnt (L : Array Bool) : Nat -> Nat
 | 0 => 0
 | k + 1 => cnt L k + (if L.getD k true then 0 else 1)
theorem cnt_set_ge {L : Array Bool} {j : Nat} : ∀ {n : Nat}, n <= j -> cnt (L.setIfInBounds j true) n = cnt L n
 | 0, _ => rfl
 | n + 1, h => by
  unfold cnt
  rw [cnt_set_ge (by omega), getD_set_ne true (by omega)]
theorem cnt_set {L : Array Bool} {j : Nat} (hu : L.getD j true = false) : ∀ {n : Nat}, j < n -> cnt (L.setIfInBounds j true) n + 1 = cnt L n
 | 0, h => by omega
 | n + 1, h => by
  unfold cnt
  by_cases hj : j = n
  ·subst hj
   have hlt : j < L.size := by
    rcases Nat.lt_or_ge j L.size with h' | h'
    ·exact h'
    ·simp [Array.getElem?_eq_none h'] at hu
   rw [cnt_set_ge (Nat.le_refl _), hu]
   simp [hlt]
  ·rw [getD_set_ne true hj]
   have := cnt_set hu (n := n) (by omega)
   omega
theorem cnt_zero {L : Array Bool} : ∀ {n : Nat}, cnt L n = 0 -> ∀ i, i < n -> L.getD i true = true
 | 0, _, i, h => by omega
 | n + 1, hc, i, h => by
  unfold cnt at hc
  by_cases hi : i = n
  ·subst hi
   cases hb : L.getD i true with
   | true => rfl
   | false => rw [hb] at hc; simp at hc
  ·exact cnt_zero (n := n) (by omega) i (by omega)
theorem cnt_pos {L : Array Bool} : ∀ {n : Nat}, cnt L n ≠ 0 -> ∃ i, i < n /\ L.getD i true = false /\ ∀ k, k < i -> L.getD k true = true
 | 0, h => by simp [cnt] at h
 | n + 1, hc => by
  by_cases h0 : cnt L n = 0
  ·refine ⟨n, by omega, ?_, cnt_zero h0⟩
   unfold cnt at hc
   cases hb : L.getD n true with
   | true => rw [hb, h0] at hc; simp at hc
   | false => rfl
  ·obtain ⟨i, hi, h1, h2⟩ := cnt_pos h0
   exact ⟨i, by omega, h1, h2⟩
theorem cnt_new {N : Nat} : ∀ {n : Nat}, n <= N -> cnt (Array.replicate N false) n = n
 | 0, _ => rfl
 | n + 1, h => by
  unfold cnt
  rw [cnt_new (by omega)]
  simp [show n < N by omega]
def lowB (ops : Array Oper) (n : Nat) : Bool :=
 (List.range n).all fun i => match ops[i]? with
  | some o => (o.after.all fun e => decide (e.on < i)) && (match o.guard with | none => true | some (j, _) => decide (j < n))
  | none => false
theorem lowB_spec {ops : Array Oper} {n i : Nat} {o : Oper} (h : lowB ops n = true) (hi : i < n) (ho : ops[i]? = some o) :
  (∀ e ∈ o.after, e.on < i) /\ ∀ j b, o.guard = some (j, b) -> j < n := by
 have h1 := List.all_eq_true.1 h i (List.mem_range.2 hi)
 simp only [ho, Bool.and_eq_true] at h1
 refine ⟨fun e he => by simpa using (Array.all_eq_true'.1 h1.1) e he, fun j b hg => ?_⟩
 have h2 := h1.2
 rw [hg] at h2
 simpa using h2
section
variable {P : Program} {C : World -> Prop}
theorem head_at {l : List Oper} {n j : Nat} (hj : j < n) : (l.take n).toArray[j]? = l.toArray[j]? := by simp [hj]
theorem wanted_head {l : List Oper} {n : Nat} {o : Oper} {t : Array Value} (hg : ∀ j b, o.guard = some (j, b) -> j < n) :
  Region.wanted o (yielded (l.take n).toArray t) = Region.wanted o (yielded l.toArray t) := by
 unfold Region.wanted
 cases h : o.guard with
 | none => rfl
 | some x =>
  obtain ⟨j, b⟩ := x
  have : yielded (l.take n).toArray t j = yielded l.toArray t j := by unfold yielded; rw [head_at (hg j b h)]
  simp only [this]
theorem qOp_head {l : List Oper} {n j : Nat} (hlow : lowB l.toArray n = true) (hj : j < n) {K : Act -> Prop} {a : Act} (h : qOp P (l.take n).toArray C j K a) : qOp P l.toArray C j K a := by
 unfold qOp at h ⊢
 rw [head_at hj] at h
 cases ho : l.toArray[j]? with
 | none => simpa only [ho] using h
 | some o =>
  simp only [ho] at h ⊢
  rw [wanted_head (lowB_spec hlow hj ho).2] at h
  exact h
theorem any_of_head {l : List Oper} {n g : Nat} {Lq : Act -> Prop} {Q' : Exit -> Act -> World -> Prop} (hlow : lowB l.toArray n = true) (hs : Region.sinkB .any l.toArray n = true) (hc : Region.chainB .any l.toArray n = true) (hn : n < l.length)
  (hdone : ∀ (L : Array Bool) a w, L.size = l.length -> (∀ i, i < n -> L.getD i true = true) -> (∀ t, n <= t -> t < l.length -> L.getD t true = false) -> C w -> Lq a -> wpAny P .any l.toArray Q' g L a w) :
  ∀ (f : Nat) (lh L : Array Bool) (a : Act) (w : World), C w -> (∀ i b, i < n -> L.getD i b = lh.getD i b) -> HeadInv .any l.toArray n L -> cnt L n = f ->
   wpAnyQ P .any (l.take n).toArray C Lq f lh a -> wpAny P .any l.toArray Q' (f + g) L a w
 | 0, lh, L, a, w, hw, hag, inv, hcnt, h => by
  rw [Nat.zero_add]
  exact hdone L a w (by simpa using inv.size) (cnt_zero hcnt) (fun t h1 h2 => inv.tail t h1 (by simpa using h2)) hw h.2
 | f + 1, lh, L, a, w, hw, hag, inv, hcnt, h => by
  rw [show f + 1 + g = (f + g) + 1 by omega]
  obtain ⟨i, hi, hun, hmin⟩ := cnt_pos (L := L) (n := n) (by omega)
  have hsz : l.toArray.size = l.length := by simp
  refine ⟨fun h0 => ?_, fun j hj => ?_⟩
  ·exfalso
   have hio : ∃ o, l.toArray[i]? = some o := ⟨_, Array.getElem?_eq_getElem (by simp; omega)⟩
   obtain ⟨o, ho⟩ := hio
   have : i ∈ Region.ready .any l.toArray L := mem_ready.2 ⟨hun, o, ho, fun e he _ => by
    have hlt := (lowB_spec hlow hi ho).1 e he
    have hin : e.on < L.size := by rw [inv.size]; simp; omega
    have := hmin e.on hlt
    simp [hin] at this ⊢
    exact this⟩
   rw [h0] at this
   cases this
  ·have hjn : j < n := by
    rcases Nat.lt_or_ge j n with h' | h'
    ·exact h'
    ·exact absurd hj (tail_waits hs hc (by rw [hsz]; exact hn) inv _ i rfl hi hun j h')
   obtain ⟨hju, o, ho, hall⟩ := mem_ready.1 hj
   have hjh : j ∈ Region.ready .any (l.take n).toArray lh := mem_ready.2 ⟨by rw [<- hag j true hjn]; exact hju, o, by rw [head_at hjn]; exact ho, fun e he hb => by
    have hlt := (lowB_spec hlow hjn ho).1 e he
    rw [<- hag e.on false (by omega)]
    exact hall e he hb⟩
   have hq := qOp_head hlow hjn (h.2 j hjh)
   refine wpOp_of_qOp hw (fun a' w' hw' h' => any_of_head hlow hs hc hn hdone f (lh.setIfInBounds j true) (L.setIfInBounds j true) a' w' hw' ?_ (inv.set hj hjn) ?_ h') hq
   ·intro k b hk
    by_cases hjk : j = k
    ·subst hjk
     have h1 : j < L.size := by rw [inv.size, hsz]; omega
     have h2 : j < lh.size := by
      rcases Nat.lt_or_ge j lh.size with h' | h'
      ·exact h'
      ·have := (mem_ready.1 hjh).1
       simp [Array.getElem?_eq_none h'] at this
     simp [h1, h2]
    ·rw [getD_set_ne b hjk, getD_set_ne b hjk]
     exact hag k b hk
   ·have := cnt_set hju hjn
    omega
def tailB (l : List Oper) (n : Nat) : Bool :=
 lowB l.toArray n && Region.sinkB .any l.toArray n && Region.chainB .any l.toArray n && decide (n < l.length) && Region.lexB .any (l.take n).toArray &&
  Region.seqB .any l.toArray (l.length - n) n (List.replicate n true ++ List.replicate (l.length - n) false).toArray
theorem full_eq {N n : Nat} {L : Array Bool} (hn : n <= N) (hsz : L.size = N) (h1 : ∀ i, i < n -> L.getD i true = true) (h2 : ∀ t, n <= t -> t < N -> L.getD t true = false) :
  L = (List.replicate n true ++ List.replicate (N - n) false).toArray := by
 apply Array.ext
 ·simp; omega
 ·intro i hi1 hi2
  by_cases hi : i < n
  ·have := h1 i hi
   simp [hi1] at this
   simp [hi, this]
  ·have := h2 i (by omega) (by omega)
   simp [hi1] at this
   simp [List.getElem_append, hi, this]
theorem region_tail {id : Nat} {Q : Exit -> Act -> World -> Prop} {a : Act} {w : World} {l : List Oper} (n : Nat) (hm : P.follows .mixedOrders = true) (hB : tailB l n = true) (hC : C { w with drawn := w.drawn + 1 })
  (h : wpQuiet P (l.take n).toArray C (fun a' => ∀ w', C w' -> wpList P l.toArray Q (l.drop n) a' w') (l.take n) a) : (Code.region id l.toArray true).wp P Q a w := by
 simp only [tailB, Bool.and_eq_true, decide_eq_true_eq] at hB
 obtain ⟨⟨⟨⟨⟨hlow, hs⟩, hc⟩, hn⟩, hlex⟩, hseq⟩ := hB
 simp only [Region.lexB, Bool.and_eq_true] at hlex
 have hlen : (l.take n).length = n := by simp; omega
 have H := wpAnyQ_lex (P := P) (C := C) (md := .any) hlex.1 (l.take n) 0 (Array.replicate (l.take n).toArray.size false) a (by simp) (by simpa using hlex.2) h
 have inv0 : HeadInv .any l.toArray n (Array.replicate l.length false) :=
  ⟨by simp, fun j oj _ hl => (by rw [getD_replicate_false] at hl; cases hl), fun t _ ht => getD_in (by simpa using ht) (getD_replicate_false _ _)⟩
 refine wp_region_any hm ?_
 have key := any_of_head (P := P) (C := C) (Q' := Q) (g := l.length - n) hlow hs hc hn (Lq := fun a' => ∀ w', C w' -> wpList P l.toArray Q (l.drop n) a' w') (fun L a' w' hsz h1 h2 hw' hq => by
  have e := full_eq (by omega) hsz h1 h2
  subst e
  have := wpAny_of_seq (P := P) (md := .any) (ops := l.toArray) (Q' := Q) (l.drop n) n _ a' w' (fun j => by simp [List.getElem?_drop]) (by simpa using hseq) (hq w' hw')
  simpa using this) n (Array.replicate n false) (Array.replicate l.length false) a _ hC (fun i b hi => by
   simp [show i < l.length by omega, hi]) inv0 (cnt_new (by omega)) (by simp only [List.size_toArray, hlen] at H; exact H)
 have e : n + (l.length - n) = l.toArray.size := by simp; omega
 rw [e] at key
 simpa using key
end
structure Aft (w : World) : Type where
 u : World
 s : Still w u
theorem Aft.here (w : World) : Nonempty (Aft w) := ⟨⟨w, Fr.refl _ w⟩⟩
abbrev Cl (w : World) : World -> Prop := fun w' => ∃ z : Aft w, w' = z.u
theorem Cl.here (w : World) : Cl w { w with drawn := w.drawn + 1 } := ⟨⟨w.drew, (Fr.refl _ w).drew⟩, rfl⟩
theorem Calls.cl {P : Program} {f : FuncId} {args : Array Value} {w : World} {z : Aft w} {v : Value}
  (h : Calls P f args z.u fun e w' => e = .returned v /\ Still z.u w') : Calls P f args z.u fun e w'' => e = .returned v /\ ∃ y : Aft w, w'' = y.u :=
 h.mono fun _ w' ⟨he, hs⟩ => ⟨he, ⟨w', z.s.trans hs⟩, rfl⟩
theorem Calls.cl_same {P : Program} {f : FuncId} {args : Array Value} {w : World} {z : Aft w} {v : Value}
  (h : Calls P f args z.u fun e w' => e = .returned v /\ w' = z.u) : Calls P f args z.u fun e w'' => e = .returned v /\ ∃ y : Aft w, w'' = y.u :=
 h.mono fun _ _ ⟨he, hs⟩ => ⟨he, z, hs⟩
theorem region_all {P : Program} {id : Nat} {Q : Exit -> Act -> World -> Prop} {a : Act} {w : World} {l : List Oper} (hm : P.follows .mixedOrders = true) (hB : Region.lexB .any l.toArray = true)
  (h : wpQuiet P l.toArray (fun w' => ∃ z : Aft w, w' = z.u) (fun a' => ∀ w', Still w w' -> Q .normal a' w') l a) : (Code.region id l.toArray true).wp P Q a w :=
 wp_region_quiet (C := Cl w) hm hB (Cl.here w) (by
  have e : (fun a' => ∀ w', Still w w' -> Q .normal a' w') = fun a' => ∀ w', Cl w w' -> Q .normal a' w' := funext fun a' => propext ⟨fun h w' ⟨z, e⟩ => e ▸ h z.u z.s, fun h w' hs => h w' ⟨⟨w', hs⟩, rfl⟩⟩
  rw [e] at h
  simpa using h)
theorem region_rest {P : Program} {id : Nat} {Q : Exit -> Act -> World -> Prop} {a : Act} {w : World} {l : List Oper} (n : Nat) (hm : P.follows .mixedOrders = true) (hB : tailB l n = true)
  (h : wpQuiet P (l.take n).toArray (fun w' => ∃ z : Aft w, w' = z.u) (fun a' => ∀ w', Still w w' -> wpList P l.toArray Q (l.drop n) a' w') (l.take n) a) : (Code.region id l.toArray true).wp P Q a w := by
 have e : (fun a' => ∀ w', Still w w' -> wpList P l.toArray Q (l.drop n) a' w') = fun a' => ∀ w', Cl w w' -> wpList P l.toArray Q (l.drop n) a' w' := funext fun a' => propext ⟨fun h w' ⟨z, e⟩ => e ▸ h z.u z.s, fun h w' hs => h w' ⟨⟨w', hs⟩, rfl⟩⟩
 rw [e] at h
 exact region_tail (C := Cl w) n hm hB (Cl.here w) h
theorem Cl.cell {w : World} {p : Addr} {v : Value} (h : w.cell? p = some v) : ∀ z : Aft w, z.u.cell? p = some v :=
 fun z => (z.s.cell (World.block_lt_of_cell? w _ h) (fun e => e)).trans h
end Go.Proofs.YtmkcoigblnppgaaGreatDoor
namespace Go.Proofs.YtmkcoigblnppgaaGreatDoor
open Go.RowKit
open Pu Gp
abbrev pt (x y : Int) : Value := .agg #[.int .i64 x, .int .i64 y]
abbrev bx (a b c d : Int) : Value := .agg #[.int .i64 a, .int .i64 b, .int .i64 c, .int .i64 d]
theorem load_pt (w : World) (g : Nat) (x y : Int) (c0 : w.cell? ⟨g, 0, none⟩ = some (.int .i64 x)) (c1 : w.cell? ⟨g, 1, none⟩ = some (.int .i64 y)) :
  (loadVar 54 ⟨g, 0, none⟩).run Tryz.prog w = .ok (pt x y) w := by
 go_simp
theorem load_bx (w : World) (g : Nat) (x y z u : Int) (c0 : w.cell? ⟨g, 0, none⟩ = some (.int .i64 x)) (c1 : w.cell? ⟨g, 1, none⟩ = some (.int .i64 y)) (c2 : w.cell? ⟨g, 2, none⟩ = some (.int .i64 z)) (c3 : w.cell? ⟨g, 3, none⟩ = some (.int .i64 u)) :
  (loadVar 222 ⟨g, 0, none⟩).run Tryz.prog w = .ok (bx x y z u) w := by
 go_simp
theorem res_pt {fn : Func} {p : Tmp} (h : fn.results = #[.cell p 54]) (tmps : Array Value) (w : World) (g : Nat) (x y : Int) (hp : tmps.getD p undef = .pointer (some ⟨g, 0, none⟩))
  (c0 : w.cell? ⟨g, 0, none⟩ = some (.int .i64 x)) (c1 : w.cell? ⟨g, 1, none⟩ = some (.int .i64 y)) : (results fn tmps).run Tryz.prog w = .ok (pt x y) w := by
 have hp' : tmps[p]?.getD undef = .pointer (some ⟨g, 0, none⟩) := by simpa using hp
 simp [results, h, hp', asAddr, load_pt w g x y c0 c1]
theorem res_bx {fn : Func} {p : Tmp} (h : fn.results = #[.cell p 222]) (tmps : Array Value) (w : World) (g : Nat) (x y z u : Int) (hp : tmps.getD p undef = .pointer (some ⟨g, 0, none⟩))
  (c0 : w.cell? ⟨g, 0, none⟩ = some (.int .i64 x)) (c1 : w.cell? ⟨g, 1, none⟩ = some (.int .i64 y)) (c2 : w.cell? ⟨g, 2, none⟩ = some (.int .i64 z)) (c3 : w.cell? ⟨g, 3, none⟩ = some (.int .i64 u)) :
  (results fn tmps).run Tryz.prog w = .ok (bx x y z u) w := by
 have hp' : tmps[p]?.getD undef = .pointer (some ⟨g, 0, none⟩) := by simpa using hp
 simp [results, h, hp', asAddr, load_bx w g x y z u c0 c1 c2 c3]
theorem res_bxb {fn : Func} {p q : Tmp} (h : fn.results = #[.cell p 222, .tmp q]) (tmps : Array Value) (w : World) (g : Nat) (x y z u : Int) (t : Value) (hp : tmps.getD p undef = .pointer (some ⟨g, 0, none⟩)) (hq : tmps.getD q undef = t)
  (c0 : w.cell? ⟨g, 0, none⟩ = some (.int .i64 x)) (c1 : w.cell? ⟨g, 1, none⟩ = some (.int .i64 y)) (c2 : w.cell? ⟨g, 2, none⟩ = some (.int .i64 z)) (c3 : w.cell? ⟨g, 3, none⟩ = some (.int .i64 u)) :
  (results fn tmps).run Tryz.prog w = .ok (.tuple #[bx x y z u, t]) w := by
 rw [results_cell_tmp h, hp, hq]
 simp [asAddr, Result.andThen, load_bx w g x y z u c0 c1 c2 c3]
def Pb (w : World) (b : Nat) (x y : Int) : Prop := w.heap[b]? = some (.cells #[.int .i64 x, .int .i64 y] 54 (0, 0))
def Bb (w : World) (b : Nat) (x y z u : Int) : Prop := w.heap[b]? = some (.cells #[.int .i64 x, .int .i64 y, .int .i64 z, .int .i64 u] 222 (0, 0))
theorem Pb.still {w w' : World} {b : Nat} {x y : Int} (h : Pb w b x y) (hs : Still w w') : Pb w' b x y := hs.kept_still h
theorem Bb.still {w w' : World} {b : Nat} {x y z u : Int} (h : Bb w b x y z u) (hs : Still w w') : Bb w' b x y z u := hs.kept_still h
theorem Pb.cells {w : World} {b : Nat} {x y : Int} (h : Pb w b x y) :
  w.cell? ⟨b, 0, none⟩ = some (.int .i64 x) /\ w.cell? ⟨b, 1, none⟩ = some (.int .i64 y) /\ ∀ o, w.frozen? ⟨b, o, none⟩ = false := by
 refine ⟨?_, ?_, fun o => frozen_of_row w b o _ _ h⟩ <;> (rw [cell_of_row _ _ _ _ _ _ h]; rfl)
theorem Bb.cells {w : World} {b : Nat} {x y z u : Int} (h : Bb w b x y z u) :
  w.cell? ⟨b, 0, none⟩ = some (.int .i64 x) /\ w.cell? ⟨b, 1, none⟩ = some (.int .i64 y) /\ w.cell? ⟨b, 2, none⟩ = some (.int .i64 z) /\ w.cell? ⟨b, 3, none⟩ = some (.int .i64 u) /\ ∀ o, w.frozen? ⟨b, o, none⟩ = false := by
 refine ⟨?_, ?_, ?_, ?_, fun o => frozen_of_row w b o _ _ h⟩ <;> (rw [cell_of_row _ _ _ _ _ _ h]; rfl)
abbrev setP (w : World) (b : Nat) (x y : Int) : World := (w.setCell ⟨b, 0, none⟩ (.int .i64 x)).setCell ⟨b, 1, none⟩ (.int .i64 y)
abbrev setB (w : World) (b : Nat) (x y z u : Int) : World := (((w.setCell ⟨b, 0, none⟩ (.int .i64 x)).setCell ⟨b, 1, none⟩ (.int .i64 y)).setCell ⟨b, 2, none⟩ (.int .i64 z)).setCell ⟨b, 3, none⟩ (.int .i64 u)
theorem Pb.set {w : World} {b : Nat} {x y : Int} (h : Pb w b x y) (x' y' : Int) : Pb (setP w b x' y') b x' y' := by
 unfold Pb
 have h1 := heap_setCell_same w b 0 _ _ (.int .i64 x') h
 have h2 := heap_setCell_same _ b 1 _ _ (.int .i64 y') h1
 rw [h2]; rfl
theorem Bb.set {w : World} {b : Nat} {x y z u : Int} (h : Bb w b x y z u) (x' y' z' u' : Int) : Bb (setB w b x' y' z' u') b x' y' z' u' := by
 unfold Bb
 have h1 := heap_setCell_same w b 0 _ _ (.int .i64 x') h
 have h2 := heap_setCell_same _ b 1 _ _ (.int .i64 y') h1
 have h3 := heap_setCell_same _ b 2 _ _ (.int .i64 z') h2
 have h4 := heap_setCell_same _ b 3 _ _ (.int .i64 u') h3
 rw [h4]; rfl
theorem setP_fr {F : Nat -> Prop} {a w : World} (h : Fr F a w) (b : Nat) (x y : Int) (hb : F b \/ a.heap.size <= b) : Fr F a (setP w b x y) := (h.setCell _ _ hb).setCell _ _ hb
theorem setB_fr {F : Nat -> Prop} {a w : World} (h : Fr F a w) (b : Nat) (x y z u : Int) (hb : F b \/ a.heap.size <= b) : Fr F a (setB w b x y z u) := (((h.setCell _ _ hb).setCell _ _ hb).setCell _ _ hb).setCell _ _ hb
theorem Pb.res {fn : Func} {p : Tmp} {w : World} {g : Nat} {x y : Int} (hb : Pb w g x y) (h : fn.results = #[.cell p 54]) (tmps : Array Value) (hp : tmps.getD p undef = .pointer (some ⟨g, 0, none⟩)) :
  (results fn tmps).run Tryz.prog w = .ok (pt x y) w := res_pt h tmps w g x y hp hb.cells.1 hb.cells.2.1
theorem Bb.res {fn : Func} {p : Tmp} {w : World} {g : Nat} {x y z u : Int} (hb : Bb w g x y z u) (h : fn.results = #[.cell p 222]) (tmps : Array Value) (hp : tmps.getD p undef = .pointer (some ⟨g, 0, none⟩)) :
  (results fn tmps).run Tryz.prog w = .ok (bx x y z u) w := res_bx h tmps w g x y z u hp hb.cells.1 hb.cells.2.1 hb.cells.2.2.1 hb.cells.2.2.2.1
theorem Bb.resb {fn : Func} {p q : Tmp} {w : World} {g : Nat} {x y z u : Int} (hb : Bb w g x y z u) (h : fn.results = #[.cell p 222, .tmp q]) (tmps : Array Value) (t : Value) (hp : tmps.getD p undef = .pointer (some ⟨g, 0, none⟩)) (hq : tmps.getD q undef = t) :
  (results fn tmps).run Tryz.prog w = .ok (.tuple #[bx x y z u, t]) w := res_bxb h tmps w g x y z u t hp hq hb.cells.1 hb.cells.2.1 hb.cells.2.2.1 hb.cells.2.2.2.1
abbrev newP (w : World) (x y : Int) : World := w.alloc (.cells #[.int .i64 x, .int .i64 y] 54)
abbrev newB (w : World) (x y z u : Int) : World := w.alloc (.cells #[.int .i64 x, .int .i64 y, .int .i64 z, .int .i64 u] 222)
theorem newP_pb (w : World) (x y : Int) : Pb (newP w x y) w.heap.size x y := heap_alloc_new w _
theorem newB_bb (w : World) (x y z u : Int) : Bb (newB w x y z u) w.heap.size x y z u := heap_alloc_new w _
theorem size_alloc (w : World) (o : Obj) : (w.alloc o).heap.size = w.heap.size + 1 := by simp
theorem gbound_any (x y : Int) (w : World) : Calls Tryz.prog 74 #[pt x y] w fun e w' => e = .returned (pt (bnd x) (bnd y)) /\ Still w w' := by
 obtain ⟨W, eW⟩ : ∃ W, W = (newP (newP w x y) 0 0) := ⟨_, rfl⟩
 have p0 : Pb W (w.heap.size) x y := by rw [eW]; have h := newP_pb w x y; exact (h.still (Still.alloc _ _))
 have c00 := Cl.cell p0.cells.1
 have c01 := Cl.cell p0.cells.2.1
 clear p0
 have r : Pb W (w.heap.size + 1) 0 0 := by rw [eW]; have h := newP_pb (newP w x y) 0 0; simp only [size_alloc] at h; exact h
 have HF := hid (show Still w W by rw [eW]; exact ((Still.alloc w _).trans (Still.alloc _ _)))
 have HW := hid eW
 have hne := Aft.here W
 clear eW
 have HB := hid (show w.heap.size <= w.heap.size + 1 by omega)
 go_enter Tryz.func74, Tryz.ntmps74
 go_wp2_with fail
 have e := HW.out
 simp only [newP] at e
 rw [<- e]
 clear e HW
 refine region_rest 6 (by kernel_rfl) (by kernel_rfl) ?_
 simp only [List.take_succ_cons, List.take_zero, List.drop_succ_cons, List.drop_zero]
 repeat (go_big_quiet_step ((go_at_call 117; exact Calls.cl_same (bound_any _ _))))
 refine wpQuiet_nil ?_
 intro w1 hs
 clear hne c00 c01
 have q := r.still hs
 obtain ⟨d0, d1, df⟩ := q.cells
 go_wp2_with fail
 (try simp only [Exit.inBlock, Exit.then])
 exact bodyPost_ret ((q.set _ _).res rfl _ rfl) rfl ⟨rfl, setP_fr (HF.out.trans hs) _ _ _ (.inr HB.out)⟩
theorem gadd_any (x y z u : Int) (w : World) : Calls Tryz.prog 220 #[pt x y, pt z u] w fun e w' => e = .returned (pt (addf x z) (addf y u)) /\ Still w w' := by
 obtain ⟨W, eW⟩ : ∃ W, W = (newP (newP (newP w x y) z u) 0 0) := ⟨_, rfl⟩
 have p0 : Pb W (w.heap.size) x y := by rw [eW]; have h := newP_pb w x y; exact ((h.still (Still.alloc _ _)).still (Still.alloc _ _))
 have c00 := Cl.cell p0.cells.1
 have c01 := Cl.cell p0.cells.2.1
 clear p0
 have p1 : Pb W (w.heap.size + 1) z u := by rw [eW]; have h := newP_pb (newP w x y) z u; simp only [size_alloc] at h; exact (h.still (Still.alloc _ _))
 have c10 := Cl.cell p1.cells.1
 have c11 := Cl.cell p1.cells.2.1
 clear p1
 have r : Pb W (w.heap.size + 1 + 1) 0 0 := by rw [eW]; have h := newP_pb (newP (newP w x y) z u) 0 0; simp only [size_alloc] at h; exact h
 have HF := hid (show Still w W by rw [eW]; exact (((Still.alloc w _).trans (Still.alloc _ _)).trans (Still.alloc _ _)))
 have HW := hid eW
 have hne := Aft.here W
 clear eW
 have HB := hid (show w.heap.size <= w.heap.size + 1 + 1 by omega)
 go_enter Tryz.func220, Tryz.ntmps220
 go_wp2_with fail
 have e := HW.out
 simp only [newP] at e
 rw [<- e]
 clear e HW
 refine region_rest 10 (by kernel_rfl) (by kernel_rfl) ?_
 simp only [List.take_succ_cons, List.take_zero, List.drop_succ_cons, List.drop_zero]
 repeat (go_big_quiet_step ((go_at_call 248; exact Calls.cl_same (add_any _ _ _))))
 refine wpQuiet_nil ?_
 intro w1 hs
 clear hne c00 c01 c10 c11
 have q := r.still hs
 obtain ⟨d0, d1, df⟩ := q.cells
 go_wp2_with fail
 (try simp only [Exit.inBlock, Exit.then])
 exact bodyPost_ret ((q.set _ _).res rfl _ rfl) rfl ⟨rfl, setP_fr (HF.out.trans hs) _ _ _ (.inr HB.out)⟩
theorem gsub_any (x y z u : Int) (w : World) : Calls Tryz.prog 235 #[pt x y, pt z u] w fun e w' => e = .returned (pt (subf x z) (subf y u)) /\ Still w w' := by
 obtain ⟨W, eW⟩ : ∃ W, W = (newP (newP (newP w x y) z u) 0 0) := ⟨_, rfl⟩
 have p0 : Pb W (w.heap.size) x y := by rw [eW]; have h := newP_pb w x y; exact ((h.still (Still.alloc _ _)).still (Still.alloc _ _))
 have c00 := Cl.cell p0.cells.1
 have c01 := Cl.cell p0.cells.2.1
 clear p0
 have p1 : Pb W (w.heap.size + 1) z u := by rw [eW]; have h := newP_pb (newP w x y) z u; simp only [size_alloc] at h; exact (h.still (Still.alloc _ _))
 have c10 := Cl.cell p1.cells.1
 have c11 := Cl.cell p1.cells.2.1
 clear p1
 have r : Pb W (w.heap.size + 1 + 1) 0 0 := by rw [eW]; have h := newP_pb (newP (newP w x y) z u) 0 0; simp only [size_alloc] at h; exact h
 have HF := hid (show Still w W by rw [eW]; exact (((Still.alloc w _).trans (Still.alloc _ _)).trans (Still.alloc _ _)))
 have HW := hid eW
 have hne := Aft.here W
 clear eW
 have HB := hid (show w.heap.size <= w.heap.size + 1 + 1 by omega)
 go_enter Tryz.func235, Tryz.ntmps235
 go_wp2_with fail
 have e := HW.out
 simp only [newP] at e
 rw [<- e]
 clear e HW
 refine region_rest 10 (by kernel_rfl) (by kernel_rfl) ?_
 simp only [List.take_succ_cons, List.take_zero, List.drop_succ_cons, List.drop_zero]
 repeat (go_big_quiet_step ((go_at_call 261; exact Calls.cl_same (sub_any _ _ _))))
 refine wpQuiet_nil ?_
 intro w1 hs
 clear hne c00 c01 c10 c11
 have q := r.still hs
 obtain ⟨d0, d1, df⟩ := q.cells
 go_wp2_with fail
 (try simp only [Exit.inBlock, Exit.then])
 exact bodyPost_ret ((q.set _ _).res rfl _ rfl) rfl ⟨rfl, setP_fr (HF.out.trans hs) _ _ _ (.inr HB.out)⟩
theorem gscale_any (x y b : Int) (w : World) : Calls Tryz.prog 221 #[pt x y, .int .i64 b] w fun e w' => e = .returned (pt (mulf x b) (mulf y b)) /\ Still w w' := by
 obtain ⟨W, eW⟩ : ∃ W, W = (newP (newP w x y) 0 0) := ⟨_, rfl⟩
 have p0 : Pb W (w.heap.size) x y := by rw [eW]; have h := newP_pb w x y; exact (h.still (Still.alloc _ _))
 have c00 := Cl.cell p0.cells.1
 have c01 := Cl.cell p0.cells.2.1
 clear p0
 have r : Pb W (w.heap.size + 1) 0 0 := by rw [eW]; have h := newP_pb (newP w x y) 0 0; simp only [size_alloc] at h; exact h
 have HF := hid (show Still w W by rw [eW]; exact ((Still.alloc w _).trans (Still.alloc _ _)))
 have HW := hid eW
 have hne := Aft.here W
 clear eW
 have HB := hid (show w.heap.size <= w.heap.size + 1 by omega)
 go_enter Tryz.func221, Tryz.ntmps221
 go_wp2_with fail
 have e := HW.out
 simp only [newP] at e
 rw [<- e]
 clear e HW
 refine region_rest 8 (by kernel_rfl) (by kernel_rfl) ?_
 simp only [List.take_succ_cons, List.take_zero, List.drop_succ_cons, List.drop_zero]
 repeat (go_big_quiet_step ((go_at_call 249; exact Calls.cl_same (mul_any _ _ _))))
 refine wpQuiet_nil ?_
 intro w1 hs
 clear hne c00 c01
 have q := r.still hs
 obtain ⟨d0, d1, df⟩ := q.cells
 go_wp2_with fail
 (try simp only [Exit.inBlock, Exit.then])
 exact bodyPost_ret ((q.set _ _).res rfl _ rfl) rfl ⟨rfl, setP_fr (HF.out.trans hs) _ _ _ (.inr HB.out)⟩
end Go.Proofs.YtmkcoigblnppgaaGreatDoor
namespace Go.Proofs.YtmkcoigblnppgaaGreatDoor
open Go.RowKit
open Pu Gp
theorem equal_pt (d : Nat) (x y z u : Int) (w : World) : (Op.equalIn (d + 2) 54 (pt x y) (pt z u)).run Tryz.prog w = .ok (x == z && y == u) w := by
 rw [run_equalIn_struct w (d + 1) _ _ _ (by kernel_rfl) (by kernel_rfl)]
 have e : (Tryz.prog.fieldsOf 54) = #[⟨ "X", 3, 0, false, "", "", 0⟩, ⟨ "Y", 3, 1, false, "", "", 8⟩] := by kernel_rfl
 rw [e]
 by_cases h1 : x = z
 ·by_cases h2 : y = u
  ·subst h1 h2
   go_simp
  ·have h3 : (y == u) = false := by simpa using h2
   subst h1
   go_simp
 ·have h3 : (x == z) = false := by simpa using h1
  go_simp
theorem equal_bx (x y z u x' y' z' u' : Int) (w : World) : (Op.equalIn 10000 222 (bx x y z u) (bx x' y' z' u')).run Tryz.prog w = .ok ((x == x' && y == y') && (z == z' && u == u')) w := by
 have q1 := fun w => equal_pt 9997 x y x' y' w
 have q2 := fun w => equal_pt 9997 z u z' u' w
 rw [run_equalIn_struct w 9999 _ _ _ (by kernel_rfl) (by kernel_rfl)]
 have e : (Tryz.prog.fieldsOf 222) = #[⟨ "Min", 54, 0, false, "", "", 0⟩, ⟨ "Max", 54, 2, false, "", "", 16⟩] := by kernel_rfl
 rw [e]
 have p1 : ∀ w, (part 54 #[.int .i64 x, .int .i64 y, .int .i64 z, .int .i64 u] 0).run Tryz.prog w = .ok (pt x y) w := fun w => by go_simp
 have p2 : ∀ w, (part 54 #[.int .i64 x, .int .i64 y, .int .i64 z, .int .i64 u] 2).run Tryz.prog w = .ok (pt z u) w := fun w => by go_simp
 have p3 : ∀ w, (part 54 #[.int .i64 x', .int .i64 y', .int .i64 z', .int .i64 u'] 0).run Tryz.prog w = .ok (pt x' y') w := fun w => by go_simp
 have p4 : ∀ w, (part 54 #[.int .i64 x', .int .i64 y', .int .i64 z', .int .i64 u'] 2).run Tryz.prog w = .ok (pt z' u') w := fun w => by go_simp
 simp only [Op.eqFields, ne_eq, String.reduceEq, not_false_eq_true, if_true, Sem.run_bind, p1, p2, p3, p4, Result.andThen_ok, q1, q2, Sem.run_ite, Sem.run_pure]
 cases (x == x' && y == y') <;> cases (z == z' && u == u') <;> rfl
theorem eql_pt (x y z u : Int) (w : World) : (binOp .eql 54 (pt x y) (pt z u)).run Tryz.prog w = .ok (.bool (x == z && y == u)) w := by
 rw [run_eql_struct, equal_pt 9998]; rfl
theorem neq_pt (x y z u : Int) (w : World) : (binOp .neq 54 (pt x y) (pt z u)).run Tryz.prog w = .ok (.bool (!(x == z && y == u))) w := by
 rw [run_neq_struct, equal_pt 9998]; rfl
theorem neq_bx (x y z u x' y' z' u' : Int) (w : World) : (binOp .neq 222 (bx x y z u) (bx x' y' z' u')).run Tryz.prog w = .ok (.bool (!((x == x' && y == y') && (z == z' && u == u')))) w := by
 rw [run_neq_struct, equal_bx]; rfl
theorem guard_pt (op : BinOp) (a b : Operand) (xs ys : Array Value) (w : World) : (eqGuard op 54 a b (.agg xs) (.agg ys)).run Tryz.prog w = .ok () w := run_eqGuard_agg w op _ a b xs ys (by kernel_rfl)
theorem guard_bx (op : BinOp) (a b : Operand) (xs ys : Array Value) (w : World) : (eqGuard op 222 a b (.agg xs) (.agg ys)).run Tryz.prog w = .ok () w := run_eqGuard_agg w op _ a b xs ys (by kernel_rfl)
theorem neq_bx_f {x y z u x' y' z' u' : Int} (h : x = x' /\ y = y' /\ z = z' /\ u = u') (w : World) : (binOp .neq 222 (bx x y z u) (bx x' y' z' u')).run Tryz.prog w = .ok (.bool false) w := by
 obtain ⟨h1, h2, h3, h4⟩ := h
 rw [neq_bx, h1, h2, h3, h4]; simp
theorem neq_bx_t {x y z u x' y' z' u' : Int} (h : ¬ (x = x' /\ y = y' /\ z = z' /\ u = u')) (w : World) : (binOp .neq 222 (bx x y z u) (bx x' y' z' u')).run Tryz.prog w = .ok (.bool true) w := by
 rw [neq_bx]
 have : ((x == x' && y == y') && (z == z' && u == u')) = false := by
  cases hb : ((x == x' && y == y') && (z == z' && u == u')) with
  | false => rfl
  | true =>
   simp at hb
   exact absurd ⟨hb.1.1, hb.1.2, hb.2.1, hb.2.2⟩ h
 rw [this]; rfl
theorem neq_pt_f {x y z u : Int} (h : x = z /\ y = u) (w : World) : (binOp .neq 54 (pt x y) (pt z u)).run Tryz.prog w = .ok (.bool false) w := by
 obtain ⟨h1, h2⟩ := h
 rw [neq_pt, h1, h2]; simp
end Go.Proofs.YtmkcoigblnppgaaGreatDoor
namespace Go.Proofs.YtmkcoigblnppgaaGreatDoor
open Go.RowKit
open Pu Gp
theorem greater_any (x y z u : Int) (w : World) :
  Calls Tryz.prog 255 #[pt x y, pt z u] w fun e w' => e = .returned (pt (max x z) (max y u)) /\ Still w w' := by
 have r := newP_pb (newP (newP w x y) z u) (max x z) (max y u)
 simp only [size_alloc] at r
 have HR := hid r
 clear r
 go_enter Tryz.func255, Tryz.ntmps255
 go_wp2_with fail
 (try simp only [Exit.inBlock, Exit.then])
 exact bodyPost_ret (HR.out.res rfl _ rfl) rfl ⟨rfl, ((Still.alloc w _).trans (Still.alloc _ _)).trans (Still.alloc _ _)⟩
theorem lesser_any (x y z u : Int) (w : World) :
  Calls Tryz.prog 256 #[pt x y, pt z u] w fun e w' => e = .returned (pt (min x z) (min y u)) /\ Still w w' := by
 have r := newP_pb (newP (newP w x y) z u) (min x z) (min y u)
 simp only [size_alloc] at r
 have HR := hid r
 clear r
 go_enter Tryz.func256, Tryz.ntmps256
 go_wp2_with fail
 (try simp only [Exit.inBlock, Exit.then])
 exact bodyPost_ret (HR.out.res rfl _ rfl) rfl ⟨rfl, ((Still.alloc w _).trans (Still.alloc _ _)).trans (Still.alloc _ _)⟩
theorem between_any (x y z u : Int) (w : World) : Calls Tryz.prog 269 #[pt x y, pt z u] w fun e w' => e = .returned (bx (min x z) (min y u) (max x z) (max y u)) /\ Still w w' := by
 obtain ⟨W, eW⟩ : ∃ W, W = (newB (newP (newP w x y) z u) 0 0 0 0) := ⟨_, rfl⟩
 have p0 : Pb W (w.heap.size) x y := by rw [eW]; have h := newP_pb w x y; exact ((h.still (Still.alloc _ _)).still (Still.alloc _ _))
 have c00 := Cl.cell p0.cells.1
 have c01 := Cl.cell p0.cells.2.1
 clear p0
 have p1 : Pb W (w.heap.size + 1) z u := by rw [eW]; have h := newP_pb (newP w x y) z u; simp only [size_alloc] at h; exact (h.still (Still.alloc _ _))
 have c10 := Cl.cell p1.cells.1
 have c11 := Cl.cell p1.cells.2.1
 clear p1
 have r : Bb W (w.heap.size + 1 + 1) 0 0 0 0 := by rw [eW]; have h := newB_bb (newP (newP w x y) z u) 0 0 0 0; simp only [size_alloc] at h; exact h
 have HF := hid (show Still w W by rw [eW]; exact (((Still.alloc w _).trans (Still.alloc _ _)).trans (Still.alloc _ _)))
 have HW := hid eW
 have hne := Aft.here W
 clear eW
 have HB := hid (show w.heap.size <= w.heap.size + 1 + 1 by omega)
 go_enter Tryz.func269, Tryz.ntmps269
 go_wp2_with fail
 have e := HW.out
 simp only [newP, newB] at e
 rw [<- e]
 clear e HW
 refine region_rest 6 (by kernel_rfl) (by kernel_rfl) ?_
 simp only [List.take_succ_cons, List.take_zero, List.drop_succ_cons, List.drop_zero]
 repeat (go_big_quiet_step ((first | (go_at_call 256; exact Calls.cl (lesser_any _ _ _ _ _)) | (go_at_call 255; exact Calls.cl (greater_any _ _ _ _ _)))))
 refine wpQuiet_nil ?_
 intro w1 hs
 clear hne c00 c01 c10 c11
 have q := r.still hs
 obtain ⟨d0, d1, d2, d3, df⟩ := q.cells
 go_wp2_with fail
 (try simp only [Exit.inBlock, Exit.then])
 exact bodyPost_ret ((q.set _ _ _ _).res rfl _ rfl) rfl ⟨rfl, setB_fr (HF.out.trans hs) _ _ _ _ _ (.inr HB.out)⟩
end Go.Proofs.YtmkcoigblnppgaaGreatDoor
namespace Go.Proofs.YtmkcoigblnppgaaGreatDoor
open Go.RowKit
open Pu Gp
def okb (a b c d : Int) : Bool := decide (-2147483647 <= a /\ a <= 2147483647 /\ -2147483647 <= b /\ b <= 2147483647 /\ -2147483647 <= c /\ c <= 2147483647 /\ -2147483647 <= d /\ d <= 2147483647 /\ a <= c /\ b <= d)
theorem okb_t {a b c d : Int} (h : okb a b c d = true) : okB a b c d := by unfold okb at h; simpa only [okB, decide_eq_true_eq] using h
theorem okb_f {a b c d : Int} (h : okb a b c d = false) : ¬ okB a b c d := by unfold okb at h; simpa only [okB, decide_eq_false_iff_not] using h
def chk (a b c d : Int) : Int := if okb a b c d then 0 else 50
theorem ok_same (a b c d : Int) : okB a b c d ↔ (min (bnd a) (bnd c) = a /\ min (bnd b) (bnd d) = b /\ max (bnd a) (bnd c) = c /\ max (bnd b) (bnd d) = d) := by
 have a0 := bnd_lo a; have a1 := bnd_hi a; have b0 := bnd_lo b; have b1 := bnd_hi b
 have c0 := bnd_lo c; have c1 := bnd_hi c; have d0 := bnd_lo d; have d1 := bnd_hi d
 constructor
 ·rintro ⟨h0, h1, h2, h3, h4, h5, h6, h7, h8, h9⟩
  rw [bnd_id h0 h1, bnd_id h2 h3, bnd_id h4 h5, bnd_id h6 h7]
  omega
 ·rintro ⟨h0, h1, h2, h3⟩
  refine ⟨?_, ?_, ?_, ?_, ?_, ?_, ?_, ?_, ?_, ?_⟩ <;> omega
theorem check_yes (a b c d : Int) (h : okb a b c d = true) (w : World) : Calls Tryz.prog 254 #[bx a b c d] w fun e w' => e = .returned (.int .i64 0) /\ Still w w' := by
 have E := neq_bx_f ((ok_same a b c d).1 (okb_t h))
 have G := guard_bx
 clear h
 obtain ⟨W, eW⟩ : ∃ W, W = (newB w a b c d) := ⟨_, rfl⟩
 have p0 : Bb W (w.heap.size) a b c d := by rw [eW]; have h := newB_bb w a b c d; exact h
 have c00 := Cl.cell p0.cells.1
 have c01 := Cl.cell p0.cells.2.1
 have c02 := Cl.cell p0.cells.2.2.1
 have c03 := Cl.cell p0.cells.2.2.2.1
 clear p0
 have HF := hid (show Still w W by rw [eW]; exact (Still.alloc w _))
 have HW := hid eW
 have hne := Aft.here W
 clear eW
 go_enter Tryz.func254, Tryz.ntmps254
 go_wp2_with fail
 have e := HW.out
 simp only [newB] at e
 rw [<- e]
 clear e HW
 refine region_all (by kernel_rfl) (by kernel_rfl) ?_
 repeat (go_big_quiet_step ((first | (go_at_call 74; exact Calls.cl (gbound_any _ _ _)) | (go_at_call 269; exact Calls.cl (between_any _ _ _ _ _)))))
 refine wpQuiet_nil ?_
 intro w1 hs
 clear hne c00 c01 c02 c03
 go_wp2_with fail
 go_ret
 exact ⟨rfl, HF.out.trans hs⟩
theorem check_no (a b c d : Int) (h : okb a b c d = false) (w : World) : Calls Tryz.prog 254 #[bx a b c d] w fun e w' => e = .returned (.int .i64 50) /\ Still w w' := by
 have E := neq_bx_t (fun k => okb_f h ((ok_same a b c d).2 k))
 have G := guard_bx
 clear h
 obtain ⟨W, eW⟩ : ∃ W, W = (newB w a b c d) := ⟨_, rfl⟩
 have p0 : Bb W (w.heap.size) a b c d := by rw [eW]; have h := newB_bb w a b c d; exact h
 have c00 := Cl.cell p0.cells.1
 have c01 := Cl.cell p0.cells.2.1
 have c02 := Cl.cell p0.cells.2.2.1
 have c03 := Cl.cell p0.cells.2.2.2.1
 clear p0
 have HF := hid (show Still w W by rw [eW]; exact (Still.alloc w _))
 have HW := hid eW
 have hne := Aft.here W
 clear eW
 go_enter Tryz.func254, Tryz.ntmps254
 go_wp2_with fail
 have e := HW.out
 simp only [newB] at e
 rw [<- e]
 clear e HW
 refine region_all (by kernel_rfl) (by kernel_rfl) ?_
 repeat (go_big_quiet_step ((first | (go_at_call 74; exact Calls.cl (gbound_any _ _ _)) | (go_at_call 269; exact Calls.cl (between_any _ _ _ _ _)))))
 refine wpQuiet_nil ?_
 intro w1 hs
 clear hne c00 c01 c02 c03
 go_wp2_with fail
 go_ret
 exact ⟨rfl, HF.out.trans hs⟩
theorem okb_of {a b c d : Int} (h : okB a b c d) : okb a b c d = true := by unfold okb; simpa only [okB, decide_eq_true_eq] using h
theorem bnd_in {x : Int} (h : bnd x = x) : -2147483647 <= x /\ x <= 2147483647 := by have a := bnd_lo x; have b := bnd_hi x; omega
end Go.Proofs.YtmkcoigblnppgaaGreatDoor
namespace Go.Proofs.YtmkcoigblnppgaaGreatDoor
open Go.RowKit
open Pu Gp
end Go.Proofs.YtmkcoigblnppgaaGreatDoor
namespace Go.Proofs.YtmkcoigblnppgaaGreatDoor
open Go
theorem wp_of_at {P : Program} {o : Oper} {a : Act} {w : World} {v : Value} {K : Act -> World -> Prop} {Q : Exit -> Act -> World -> Prop} (h : o.quietAt P a (fun u => Still w u) w v)
  (hK : ∀ w', Still w w' -> K (a.put o.dst v) w') : o.wp P a w K Q := by
 unfold Oper.quietAt at h
 unfold Oper.wp
 generalize (execOp a.eval o).run P w = r at h ⊢
 cases r with
 | halt x w' => simp only [Oper.quietUpon] at h
 | ok n w' =>
  cases n <;> simp only [Oper.quietUpon] at h
  case value u =>
   obtain ⟨rfl, rfl⟩ := h
   rw [Oper.upon_value]
   exact hK _ (Fr.refl _ _)
  case skip =>
   obtain ⟨rfl, rfl⟩ := h
   rw [Oper.upon_skip]
   exact hK _ (Fr.refl _ _)
  case enter f args =>
   obtain ⟨rfl, hc⟩ := h
   simp only [Oper.upon]
   exact hc.mono fun e w'' ⟨he, hs⟩ => by subst he; exact hK _ hs
def eachB (ops : Array Oper) (n d : Nat) : Bool :=
  (List.range n).all fun j => match ops[j]? with
    | some o => o.guard.isNone && (o.dst != some d) && (o.dst.isSome) &&
        ((List.range n).all fun i => (i == j) || (match ops[i]? with | some p => p.dst != o.dst | none => false)) &&
        o.op.operands.toList.all fun x => match x with
          | .tmp t => (t != d) && (List.range n).all fun i => match ops[i]? with
              | some p => (p.dst != some t) || o.after.any fun e => e.on == i && Region.binds .any e
              | none => false
          | _ => true
    | none => false
section
variable {P : Program} {W : World} {l : List Oper} {n d : Nat} {A : Act} {z : Obj}
structure Mid (l : List Oper) (n d : Nat) (A : Act) (W : World) (z : Obj) (L : Array Bool) (a : Act) (w : World) : Prop where
 still : Still W w
 size : a.tmps.size = A.tmps.size
 defers : a.defers = A.defers
 rest : ∀ t, (∀ j o, j < n -> l[j]? = some o -> o.dst ≠ some t) -> t ≠ d -> a.tmps[t]? = A.tmps[t]?
 done : ∀ j o t, j < n -> l[j]? = some o -> o.dst = some t -> L.getD j true = true -> a.tmps[t]? = A.tmps[t]?
 new : L.getD n true = true -> ∃ g, a.tmps[d]? = some (.pointer (some ⟨g, 0, none⟩)) /\ w.heap[g]? = some z /\ W.heap.size <= g
theorem each_spec (h : eachB l.toArray n d = true) {j : Nat} {o : Oper} (hj : j < n) (ho : l[j]? = some o) :
  o.guard = none /\ o.dst ≠ some d /\ (∃ t, o.dst = some t) /\ (∀ i p, i < n -> l[i]? = some p -> i ≠ j -> p.dst ≠ o.dst) /\
  ∀ t, .tmp t ∈ o.op.operands -> t ≠ d /\ ∀ i p, i < n -> l[i]? = some p -> p.dst = some t -> ∃ e ∈ o.after, e.on = i /\ Region.binds .any e = true := by
 have h1 := List.all_eq_true.1 h j (List.mem_range.2 hj)
 have ho' : l.toArray[j]? = some o := by simpa using ho
 simp only [ho', Bool.and_eq_true] at h1
 obtain ⟨⟨⟨⟨h2, h3⟩, h4⟩, h5⟩, h6⟩ := h1
 refine ⟨by simpa using h2, by simpa using h3, Option.isSome_iff_exists.1 h4, fun i p hi hp hij => ?_, fun t ht => ?_⟩
 ·have := List.all_eq_true.1 h5 i (List.mem_range.2 hi)
  have hp' : l.toArray[i]? = some p := by simpa using hp
  simp only [hp', Bool.or_eq_true, beq_iff_eq] at this
  rcases this with e | e
  ·exact absurd e hij
  ·simpa using e
 ·have := List.all_eq_true.1 h6 (.tmp t) (by simpa using ht)
  simp only [Bool.and_eq_true] at this
  refine ⟨by simpa using this.1, fun i p hi hp hd => ?_⟩
  have h7 := List.all_eq_true.1 this.2 i (List.mem_range.2 hi)
  have hp' : l.toArray[i]? = some p := by simpa using hp
  simp only [hp', Bool.or_eq_true] at h7
  rcases h7 with e | e
  ·simp [hd] at e
  ·obtain ⟨e, he, hb⟩ := Array.any_eq_true'.1 e
   simp only [Bool.and_eq_true, beq_iff_eq] at hb
   exact ⟨e, he, hb.1, hb.2⟩
theorem tmps_eval {a b : Act} {t : Nat} (h : a.tmps[t]? = b.tmps[t]?) : a.eval (.tmp t) = b.eval (.tmp t) := by
 simp only [Act.eval, Array.getD_eq_getD_getElem?, h]
theorem getD_true_false {L : Array Bool} {i : Nat} (hi : i < L.size) (h : L.getD i false = true) : L.getD i true = true := by
 simp [hi] at h ⊢; exact h
theorem any_new {dn : Nat} {on : Oper} {g' : Nat} {Q' : Exit -> Act -> World -> Prop} (hE : eachB l.toArray n dn = true) (hsel : Region.noSelect l.toArray = true) (hlow : lowB l.toArray (n + 1) = true)
  (hs : Region.sinkB .any l.toArray (n + 1) = true) (hc : Region.chainB .any l.toArray (n + 1) = true) (hn : n + 1 < l.length) (hon : l[n]? = some on) (hdn : on.dst = some dn) (hgn : on.guard = none) (hdA : dn < A.tmps.size)
  (hop : ∀ j o, j < n -> l[j]? = some o -> ∀ w, Still W w -> ∀ t, o.dst = some t -> o.quietAt P A (fun u => Still w u) w (A.tmps.getD t undef) /\ t < A.tmps.size)
  (hnew : ∀ w, Still W w -> ∀ a : Act, (execOp a.eval on).run P w = .ok (.value (.pointer (some ⟨w.heap.size, 0, none⟩))) (w.alloc z))
  (hdone : ∀ (L : Array Bool) a w, L.size = l.length -> (∀ i, i < n + 1 -> L.getD i true = true) -> (∀ t, n + 1 <= t -> t < l.length -> L.getD t true = false) -> Mid l n dn A W z L a w -> wpAny P .any l.toArray Q' g' L a w) :
  ∀ (f : Nat) (L : Array Bool) (a : Act) (w : World), HeadInv .any l.toArray (n + 1) L -> cnt L (n + 1) = f -> Mid l n dn A W z L a w -> wpAny P .any l.toArray Q' (f + g') L a w
 | 0, L, a, w, inv, hcnt, hm => by
  rw [Nat.zero_add]
  exact hdone L a w (by simpa using inv.size) (cnt_zero hcnt) (fun t h1 h2 => inv.tail t h1 (by simpa using h2)) hm
 | f + 1, L, a, w, inv, hcnt, hm => by
  rw [show f + 1 + g' = (f + g') + 1 by omega]
  obtain ⟨i, hi, hun, hmin⟩ := cnt_pos (L := L) (n := n + 1) (by omega)
  have hsz : l.toArray.size = l.length := by simp
  have hLs : L.size = l.length := by rw [inv.size, hsz]
  refine ⟨fun h0 => ?_, fun j hj => ?_⟩
  ·exfalso
   obtain ⟨o, ho⟩ : ∃ o, l.toArray[i]? = some o := ⟨_, Array.getElem?_eq_getElem (by simp; omega)⟩
   have : i ∈ Region.ready .any l.toArray L := mem_ready.2 ⟨hun, o, ho, fun e he _ => by
    have hlt := (lowB_spec hlow hi ho).1 e he
    have hin : e.on < L.size := by omega
    have := hmin e.on hlt
    simp [hin] at this ⊢
    exact this⟩
   rw [h0] at this
   cases this
  ·have hjn : j < n + 1 := by
    rcases Nat.lt_or_ge j (n + 1) with h' | h'
    ·exact h'
    ·exact absurd hj (tail_waits hs hc (by rw [hsz]; exact hn) inv _ i rfl hi hun j h')
   obtain ⟨hju, o, ho, hall⟩ := mem_ready.1 hj
   have ho' : l[j]? = some o := by simpa using ho
   have next : ∀ (a' : Act) (w' : World), Mid l n dn A W z (L.setIfInBounds j true) a' w' -> wpAny P .any l.toArray Q' (f + g') (L.setIfInBounds j true) a' w' := fun a' w' hm' =>
    any_new hE hsel hlow hs hc hn hon hdn hgn hdA hop hnew hdone f _ a' w' (inv.set hj hjn) (by have := cnt_set hju hjn; omega) hm'
   unfold wpOp
   simp only [ho]
   by_cases hjN : j = n
   ·subst hjN
    obtain rfl : on = o := Option.some.inj (hon.symm.trans ho')
    rw [if_pos (by unfold Region.wanted; rw [hgn])]
    refine .inl ?_
    unfold Oper.wp
    rw [hnew w hm.still a, Oper.upon_value]
    refine next _ _ ⟨hm.still.trans (Still.alloc w z), ?_, ?_, fun t h1 h2 => ?_, fun k p t hk hp ht hl => ?_, fun _ => ⟨w.heap.size, ?_, ?_, hm.still.size⟩⟩
    ·simp [Act.put, hdn, hm.size]
    ·simp [Act.put, hdn, hm.defers]
    ·simp only [Act.put, hdn, Array.getElem?_setIfInBounds_ne (Ne.symm h2)]
     exact hm.rest t h1 h2
    ·have hne : t ≠ dn := fun e => (each_spec hE hk hp).2.1 (by rw [ht, e])
     rw [getD_set_ne true (by omega)] at hl
     simp only [Act.put, hdn, Array.getElem?_setIfInBounds_ne (Ne.symm hne)]
     exact hm.done k p t hk hp ht hl
    ·simp only [Act.put, hdn]
     rw [Array.getElem?_setIfInBounds_self]
     simp [hm.size, hdA]
    ·exact heap_alloc_new w z
   ·have hj' : j < n := by omega
    obtain ⟨hg, hd1, ⟨t, ht⟩, hd2, hopn⟩ := each_spec hE hj' ho'
    rw [if_pos (by unfold Region.wanted; rw [hg])]
    refine .inl ?_
    have hcong : execOp a.eval o = execOp A.eval o := execOp_congr o (fun cs b => Region.noSelect_spec hsel j o cs b ho) fun x hx => by
     cases x with
     | tmp s =>
      obtain ⟨hs1, hs2⟩ := hopn s hx
      refine tmps_eval ?_
      by_cases hex : ∃ k p, k < n /\ l[k]? = some p /\ p.dst = some s
      ·obtain ⟨k, p, hk, hp, hps⟩ := hex
       obtain ⟨e, he, heo, hb⟩ := hs2 k p hk hp hps
       have := hall e he hb
       rw [heo] at this
       exact hm.done k p s hk hp hps (getD_true_false (by omega) this)
      ·exact hm.rest s (fun k p hk hp hps => hex ⟨k, p, hk, hp, hps⟩) hs1
     | const v => rfl
     | global g => rfl
     | func f => rfl
    obtain ⟨hq, hta⟩ := hop j o hj' ho' w hm.still t ht
    have hq' : o.quietAt P a (fun u => Still w u) w (A.tmps.getD t undef) := by
     unfold Oper.quietAt at hq ⊢
     rw [hcong]
     exact hq
    refine wp_of_at hq' fun w' hw' => next _ _ ⟨hm.still.trans hw', ?_, ?_, fun s h1 h2 => ?_, fun k p s hk hp hps hl => ?_, fun hl => ?_⟩
    ·simp [Act.put, ht, hm.size]
    ·simp [Act.put, ht, hm.defers]
    ·have hne : t ≠ s := fun e => h1 j o hj' ho' (by rw [ht, e])
     simp only [Act.put, ht, Array.getElem?_setIfInBounds_ne hne]
     exact hm.rest s h1 h2
    ·by_cases hkj : k = j
     ·subst hkj
      obtain rfl : o = p := Option.some.inj (ho'.symm.trans hp)
      obtain rfl : t = s := Option.some.inj (ht.symm.trans hps)
      simp only [Act.put, ht]
      rw [Array.getElem?_setIfInBounds_self]
      simp [hm.size, hta]
     ·have hne : t ≠ s := fun e => hd2 k p hk hp hkj (by rw [ht, hps, e])
      rw [getD_set_ne true (by omega)] at hl
      simp only [Act.put, ht, Array.getElem?_setIfInBounds_ne hne]
      exact hm.done k p s hk hp hps hl
    ·rw [getD_set_ne true hjN] at hl
     obtain ⟨g, hg1, hg2, hg3⟩ := hm.new hl
     have hne : t ≠ dn := fun e => hd1 (by rw [ht, e])
     refine ⟨g, ?_, hw'.kept_still hg2, hg3⟩
     simp only [Act.put, ht, Array.getElem?_setIfInBounds_ne hne]
     exact hg1
def newB? (l : List Oper) (n d : Nat) : Bool :=
 eachB l.toArray n d && Region.noSelect l.toArray && lowB l.toArray (n + 1) && Region.sinkB .any l.toArray (n + 1) && Region.chainB .any l.toArray (n + 1) && decide (n + 1 < l.length) &&
  Region.seqB .any l.toArray (l.length - (n + 1)) (n + 1) (List.replicate (n + 1) true ++ List.replicate (l.length - (n + 1)) false).toArray
theorem region_new {id : Nat} {Q : Exit -> Act -> World -> Prop} {a : Act} {w : World} {on : Oper} (n d : Nat) (A : Act) (z : Obj) (hm : P.follows .mixedOrders = true) (hB : newB? l n d = true) (hon : l[n]? = some on) (hdn : on.dst = some d) (hgn : on.guard = none) (hdA : d < A.tmps.size)
  (hsize : a.tmps.size = A.tmps.size) (hdef : a.defers = A.defers) (hrest : ∀ t, (∀ j o, j < n -> l[j]? = some o -> o.dst ≠ some t) -> t ≠ d -> a.tmps[t]? = A.tmps[t]?)
  (hop : ∀ j o, j < n -> l[j]? = some o -> ∀ u, Still w u -> ∀ t, o.dst = some t -> o.quietAt P A (fun v => Still u v) u (A.tmps.getD t undef) /\ t < A.tmps.size)
  (hnew : ∀ u, Still w u -> ∀ b : Act, (execOp b.eval on).run P u = .ok (.value (.pointer (some ⟨u.heap.size, 0, none⟩))) (u.alloc z))
  (h : ∀ u g, Still w u -> w.heap.size <= g -> u.heap[g]? = some z -> wpList P l.toArray Q (l.drop (n + 1)) (A.put (some d) (.pointer (some ⟨g, 0, none⟩))) u) : (Code.region id l.toArray true).wp P Q a w := by
 simp only [newB?, Bool.and_eq_true, decide_eq_true_eq] at hB
 obtain ⟨⟨⟨⟨⟨⟨hE, hsel⟩, hlow⟩, hs⟩, hc⟩, hn⟩, hseq⟩ := hB
 have inv0 : HeadInv .any l.toArray (n + 1) (Array.replicate l.length false) :=
  ⟨by simp, fun j oj _ hl => (by rw [getD_replicate_false] at hl; cases hl), fun t _ ht => getD_in (by simpa using ht) (getD_replicate_false _ _)⟩
 refine wp_region_any hm ?_
 have hst : Still w { w with drawn := w.drawn + 1 } := (Fr.refl _ w).drew
 have key := any_new (P := P) (W := w) (A := A) (z := z) (Q' := Q) (g' := l.length - (n + 1)) hE hsel hlow hs hc hn hon hdn hgn hdA hop hnew (fun L a' w' hsz h1 h2 hm' => by
  have e := full_eq (by omega) hsz h1 h2
  obtain ⟨g, hg1, hg2, hg3⟩ := hm'.new (h1 n (by omega))
  have ea : a' = A.put (some d) (.pointer (some ⟨g, 0, none⟩)) := by
   obtain ⟨ts, df⟩ := a'
   obtain ⟨Ts, Df⟩ := A
   have e2 : df = Df := hm'.defers
   subst e2
   have e1 : ts = Ts.setIfInBounds d (.pointer (some ⟨g, 0, none⟩)) := by
    apply Array.ext_getElem?
    intro t
    by_cases htd : t = d
    ·subst htd
     rw [hg1, Array.getElem?_setIfInBounds_self]
     simp only [show t < Ts.size from hdA, if_true]
    ·rw [Array.getElem?_setIfInBounds_ne (Ne.symm htd)]
     by_cases hex : ∃ k p, k < n /\ l[k]? = some p /\ p.dst = some t
     ·obtain ⟨k, p, hk, hp, hps⟩ := hex
      exact hm'.done k p t hk hp hps (h1 k (by omega))
     ·exact hm'.rest t (fun k p hk hp hps => hex ⟨k, p, hk, hp, hps⟩) htd
   rw [e1]; rfl
  rw [ea]
  subst e
  have := wpAny_of_seq (P := P) (md := .any) (ops := l.toArray) (Q' := Q) (l.drop (n + 1)) (n + 1) _ _ w' (fun j => by simp [List.getElem?_drop]) (by simpa using hseq) (h w' g hm'.still hg3 hg2)
  simpa using this) (n + 1) (Array.replicate l.length false) a { w with drawn := w.drawn + 1 } inv0 (cnt_new (by omega))
  ⟨hst, hsize, hdef, hrest, fun j o t hj ho ht hl => (by simp [show j < l.length by omega] at hl), fun hl => (by simp [show n < l.length by omega] at hl)⟩
 have e : n + 1 + (l.length - (n + 1)) = l.toArray.size := by simp; omega
 rw [e] at key
 simpa using key
def puts (a : Act) : List Oper -> List Value -> Act
 | o :: r, v :: vs => puts (a.put o.dst v) r vs
 | _, _ => a
theorem puts_same : ∀ (ops : List Oper) (vs : List Value) (a : Act), (puts a ops vs).tmps.size = a.tmps.size /\ (puts a ops vs).defers = a.defers /\ ∀ t, (∀ o ∈ ops, o.dst ≠ some t) -> (puts a ops vs).tmps[t]? = a.tmps[t]?
 | [], vs, a => by cases vs <;> exact ⟨rfl, rfl, fun _ _ => rfl⟩
 | o :: r, [], a => ⟨rfl, rfl, fun _ _ => rfl⟩
 | o :: r, v :: vs, a => by
  obtain ⟨h1, h2, h3⟩ := puts_same r vs (a.put o.dst v)
  have e : puts a (o :: r) (v :: vs) = puts (a.put o.dst v) r vs := rfl
  rw [e, h1, h2]
  refine ⟨?_, ?_, fun t ht => ?_⟩
  ·cases hd : o.dst <;> simp [Act.put]
  ·cases hd : o.dst <;> simp [Act.put]
  ·rw [h3 t fun p hp => ht p (List.mem_cons_of_mem _ hp)]
   have := ht o (List.mem_cons_self ..)
   cases hd : o.dst with
   | none => rfl
   | some d =>
    rw [hd] at this
    have hne : d ≠ t := fun e => this (by rw [e])
    simp only [Act.put, Array.getElem?_setIfInBounds_ne hne]
def wpEach (P : Program) (W : World) (A : Act) : List Oper -> Prop
 | [] => True
 | o :: r => (∀ u, Still W u -> o.quietAt P A (fun v => Still u v) u (A.tmps.getD (o.dst.getD 0) undef)) /\ wpEach P W A r
theorem wpEach_at : ∀ {ops : List Oper}, wpEach P W A ops -> ∀ (j : Nat) (o : Oper), ops[j]? = some o -> ∀ u, Still W u -> o.quietAt P A (fun v => Still u v) u (A.tmps.getD (o.dst.getD 0) undef)
 | [], _, j, o, h => by simp at h
 | p :: r, hw, 0, o, h => by
  simp at h
  subst h
  exact hw.1
 | p :: r, hw, j + 1, o, h => wpEach_at hw.2 j o (by simpa using h)
def inB (l : List Oper) (n m : Nat) : Bool := (l.take n).all fun o => match o.dst with | some t => decide (t < m) | none => true
theorem region_var {id : Nat} {Q : Exit -> Act -> World -> Prop} {a : Act} {w : World} {on : Oper} (n d : Nat) (z : Obj) (vs : List Value) (A : Act) (hm : P.follows .mixedOrders = true) (hB : newB? l n d = true) (hon : l[n]? = some on) (hdn : on.dst = some d) (hgn : on.guard = none)
  (hA : puts a (l.take n) vs = A) (hI : inB l n A.tmps.size = true) (hdA : d < A.tmps.size)
  (hop : wpEach P w A (l.take n))
  (hnew : ∀ u, Still w u -> ∀ b : Act, (execOp b.eval on).run P u = .ok (.value (.pointer (some ⟨u.heap.size, 0, none⟩))) (u.alloc z))
  (h : ∀ u g, Still w u -> w.heap.size <= g -> u.heap[g]? = some z -> wpList P l.toArray Q (l.drop (n + 1)) (A.put (some d) (.pointer (some ⟨g, 0, none⟩))) u) : (Code.region id l.toArray true).wp P Q a w := by
 obtain ⟨e1, e2, e3⟩ := puts_same (l.take n) vs a
 rw [hA] at e1 e2 e3
 refine region_new n d A z hm hB hon hdn hgn hdA e1.symm e2.symm (fun t h1 _ => (e3 t fun o ho => ?_).symm) (fun j o hj ho u hu t ht => ?_) hnew h
 ·obtain ⟨j, hj, e⟩ := List.mem_iff_getElem.1 ho
  have hjn : j < n := by simp at hj; omega
  exact h1 j o hjn (by rw [<- e]; simp)
 ·have := wpEach_at hop j o (by rw [List.getElem?_take_of_lt hj]; exact ho) u hu
  rw [ht] at this
  refine ⟨this, ?_⟩
  have h2 := List.all_eq_true.1 hI o (List.mem_iff_getElem?.2 ⟨j, by rw [List.getElem?_take_of_lt hj]; exact ho⟩)
  rw [ht] at h2
  simpa using h2
end
end Go.Proofs.YtmkcoigblnppgaaGreatDoor
namespace Go.Proofs.YtmkcoigblnppgaaGreatDoor
open Go.RowKit
open Pu Gp
theorem around_any (x y n : Int) (w : World) : Calls Tryz.prog 191 #[pt x y, .int .i64 n] w fun e w' => e = .returned (bx (subf x (clampf n 0 2147483647)) (subf y (clampf n 0 2147483647)) (addf x (clampf n 0 2147483647)) (addf y (clampf n 0 2147483647))) /\ Still w w' := by
 obtain ⟨R, eR⟩ : ∃ R, R = clampf n 0 2147483647 := ⟨_, rfl⟩
 rw [<- eR]
 have HR := hid eR
 clear eR
 obtain ⟨W, eW⟩ : ∃ W, W = newP (newB (newP w x y) 0 0 0 0) R R := ⟨_, rfl⟩
 have p0 : Pb W w.heap.size x y := by rw [eW]; exact ((newP_pb w x y).still (Still.alloc _ _)).still (Still.alloc _ _)
 have r : Bb W (w.heap.size + 1) 0 0 0 0 := by rw [eW]; have h := newB_bb (newP w x y) 0 0 0 0; simp only [size_alloc] at h; exact h.still (Still.alloc _ _)
 have p1 : Pb W (w.heap.size + 1 + 1) R R := by rw [eW]; have h := newP_pb (newB (newP w x y) 0 0 0 0) R R; simp only [size_alloc] at h; exact h
 have c00 := Cl.cell p0.cells.1
 have c01 := Cl.cell p0.cells.2.1
 have c10 := Cl.cell p1.cells.1
 have c11 := Cl.cell p1.cells.2.1
 have HF := hid (show Still w W by rw [eW]; exact ((Still.alloc w _).trans (Still.alloc _ _)).trans (Still.alloc _ _))
 have HW := hid eW
 have hne := Aft.here W
 have HB := hid (show w.heap.size <= w.heap.size + 1 by omega)
 clear eW p0 p1
 go_enter Tryz.func191, Tryz.ntmps191
 go_wp2_with (go_at_call 234; refine (size_any _ _).mono ?_; rintro e w' ⟨he, hw⟩; rw [he, hw, <- HR.out]; clear he hw w')
 have e := HW.out
 simp only [newP, newB] at e
 rw [<- e]
 clear e HW HR
 refine region_rest 6 (by kernel_rfl) (by kernel_rfl) ?_
 simp only [List.take_succ_cons, List.take_zero, List.drop_succ_cons, List.drop_zero]
 repeat (go_big_quiet_step ((first | (go_at_call 235; exact Calls.cl (gsub_any _ _ _ _ _)) | (go_at_call 220; exact Calls.cl (gadd_any _ _ _ _ _)))))
 refine wpQuiet_nil ?_
 intro w1 hs
 clear hne c00 c01 c10 c11
 have q := r.still hs
 obtain ⟨d0, d1, d2, d3, df⟩ := q.cells
 go_wp2_with fail
 (try simp only [Exit.inBlock, Exit.then])
 exact bodyPost_ret ((q.set _ _ _ _).res rfl _ rfl) rfl ⟨rfl, setB_fr (HF.out.trans hs) _ _ _ _ _ (.inr HB.out)⟩
def mt (a b c d a' b' c' d' : Int) : Bool := (okb a b c d && okb a' b' c' d') && okb (max a a') (max b b') (min c c') (min d d')
def mif (t : Bool) (x : Int) : Int := if t then x else 0
abbrev mb (a b c d a' b' c' d' : Int) : Value := bx (mif (mt a b c d a' b' c' d') (max a a')) (mif (mt a b c d a' b' c' d') (max b b')) (mif (mt a b c d a' b' c' d') (min c c')) (mif (mt a b c d a' b' c' d') (min d d'))
theorem meet1 (a b c d a' b' c' d' : Int) (h1 : okb a b c d = false) (w : World) : Calls Tryz.prog 227 #[bx a b c d, bx a' b' c' d'] w fun e w' => e = .returned (.tuple #[bx 0 0 0 0, .bool false]) /\ Still w w' := by
 have p := ((newB_bb w a b c d).still (Still.alloc (newB w a b c d) (.cells #[.int .i64 a', .int .i64 b', .int .i64 c', .int .i64 d'] 222))).still (Still.alloc (newB (newB w a b c d) a' b' c' d') (.cells #[.int .i64 0, .int .i64 0, .int .i64 0, .int .i64 0] 222))
 have q := (newB_bb (newB w a b c d) a' b' c' d').still (Still.alloc (newB (newB w a b c d) a' b' c' d') (.cells #[.int .i64 0, .int .i64 0, .int .i64 0, .int .i64 0] 222))
 have r := newB_bb (newB (newB w a b c d) a' b' c' d') 0 0 0 0
 simp only [size_alloc] at q r
 have HS0 := hid (((Still.alloc w (.cells #[.int .i64 a, .int .i64 b, .int .i64 c, .int .i64 d] 222)).trans (Still.alloc (newB w a b c d) (.cells #[.int .i64 a', .int .i64 b', .int .i64 c', .int .i64 d'] 222))).trans (Still.alloc (newB (newB w a b c d) a' b' c' d') (.cells #[.int .i64 0, .int .i64 0, .int .i64 0, .int .i64 0] 222)))
 have HB := hid (show w.heap.size <= w.heap.size + 1 + 1 by omega)
 go_enter Tryz.func227, Tryz.ntmps227
 go_wp2_with fail
 refine (check_no a b c d h1 _).mono ?_
 rintro e w1 ⟨rfl, hs1⟩
 have p1 := p.still hs1
 have q1 := q.still hs1
 have r1 := r.still hs1
 have HF1 := hid (HS0.out.trans hs1)
 clear p q r HS0 hs1
 obtain ⟨c0, c1, c2, c3, cf⟩ := p1.cells
 obtain ⟨g0, g1, g2, g3, gf⟩ := q1.cells
 obtain ⟨d0, d1, d2, d3, df⟩ := r1.cells
 go_wp2_with fail
 (try simp only [Exit.inBlock, Exit.then])
 exact bodyPost_ret ((r1.set _ _ _ _).resb rfl _ _ rfl rfl) rfl ⟨rfl, setB_fr HF1.out _ _ _ _ _ (.inr HB.out)⟩
theorem meet2 (a b c d a' b' c' d' : Int) (h1 : okb a b c d = true) (h2 : okb a' b' c' d' = false) (w : World) : Calls Tryz.prog 227 #[bx a b c d, bx a' b' c' d'] w fun e w' => e = .returned (.tuple #[bx 0 0 0 0, .bool false]) /\ Still w w' := by
 have p := ((newB_bb w a b c d).still (Still.alloc (newB w a b c d) (.cells #[.int .i64 a', .int .i64 b', .int .i64 c', .int .i64 d'] 222))).still (Still.alloc (newB (newB w a b c d) a' b' c' d') (.cells #[.int .i64 0, .int .i64 0, .int .i64 0, .int .i64 0] 222))
 have q := (newB_bb (newB w a b c d) a' b' c' d').still (Still.alloc (newB (newB w a b c d) a' b' c' d') (.cells #[.int .i64 0, .int .i64 0, .int .i64 0, .int .i64 0] 222))
 have r := newB_bb (newB (newB w a b c d) a' b' c' d') 0 0 0 0
 simp only [size_alloc] at q r
 have HS0 := hid (((Still.alloc w (.cells #[.int .i64 a, .int .i64 b, .int .i64 c, .int .i64 d] 222)).trans (Still.alloc (newB w a b c d) (.cells #[.int .i64 a', .int .i64 b', .int .i64 c', .int .i64 d'] 222))).trans (Still.alloc (newB (newB w a b c d) a' b' c' d') (.cells #[.int .i64 0, .int .i64 0, .int .i64 0, .int .i64 0] 222)))
 have HB := hid (show w.heap.size <= w.heap.size + 1 + 1 by omega)
 go_enter Tryz.func227, Tryz.ntmps227
 go_wp2_with fail
 refine (check_yes a b c d h1 _).mono ?_
 rintro e w1 ⟨rfl, hs1⟩
 have p1 := p.still hs1
 have q1 := q.still hs1
 have r1 := r.still hs1
 have HF1 := hid (HS0.out.trans hs1)
 clear p q r HS0 hs1
 obtain ⟨c0, c1, c2, c3, cf⟩ := p1.cells
 obtain ⟨g0, g1, g2, g3, gf⟩ := q1.cells
 obtain ⟨d0, d1, d2, d3, df⟩ := r1.cells
 go_wp2_with fail
 refine (check_no a' b' c' d' h2 _).mono ?_
 rintro e w2 ⟨rfl, hs2⟩
 have p2 := p1.still hs2
 have q2 := q1.still hs2
 have r2 := r1.still hs2
 have HF2 := hid (HF1.out.trans hs2)
 clear p1 q1 r1 HF1 hs2 c0 c1 c2 c3 cf g0 g1 g2 g3 gf d0 d1 d2 d3 df
 obtain ⟨d0, d1, d2, d3, df⟩ := r2.cells
 go_wp2_with fail
 (try simp only [Exit.inBlock, Exit.then])
 exact bodyPost_ret ((r2.set _ _ _ _).resb rfl _ _ rfl rfl) rfl ⟨rfl, setB_fr HF2.out _ _ _ _ _ (.inr HB.out)⟩
end Go.Proofs.YtmkcoigblnppgaaGreatDoor
namespace Go.Proofs.YtmkcoigblnppgaaGreatDoor
open Go.RowKit
open Pu Gp
structure Tab (w : World) : Prop where
 u : ∀ d, d < 16 -> w.cell? ⟨1, d * 2, none⟩ = some (.int .i64 (ux d)) /\ w.cell? ⟨1, d * 2 + 1, none⟩ = some (.int .i64 (uy d))
theorem Tab.still {w w' : World} (h : Tab w) (hs : Still w w') : Tab w' :=
 ⟨fun d hd => ⟨(hs.cell (World.block_lt_of_cell? w _ (h.u d hd).1) (fun e => e)).trans (h.u d hd).1, (hs.cell (World.block_lt_of_cell? w _ (h.u d hd).2) (fun e => e)).trans (h.u d hd).2⟩⟩
def dir (n : Int) : Nat := (n % 16).toNat
theorem dir_lt (n : Int) : dir n < 16 := by unfold dir; omega
theorem dir_mod (n : Int) : n % 16 = (dir n : Int) := by unfold dir; omega
theorem counted_nat (n : Int) (w : World) : Calls Tryz.prog 118 #[.int .i64 n] w fun e w' => e = .returned (.int .i64 (dir n : Int)) /\ w' = w := by
 have h := counted_any n w
 rw [dir_mod] at h
 exact h
theorem unit_any (n : Int) (w : World) (ht : Tab w) : Calls Tryz.prog 219 #[.int .i64 n] w fun e w' => e = .returned (pt (ux (dir n)) (uy (dir n))) /\ Still w w' := by
 have hd := dir_lt n
 obtain ⟨k0, k1⟩ := (ht.still (Still.alloc w (.cells #[.int .i64 0, .int .i64 0] 54))).u (dir n) hd
 have hi : ((dir n : Nat) : Int) < 16 := by omega
 go_enter Tryz.func219, Tryz.ntmps219
 go_wp2_with (go_at_call 118; refine (counted_nat _ _).mono ?_; rintro e w' ⟨he, hw⟩; rw [he, hw]; clear he hw w')
 (try simp only [Exit.inBlock, Exit.then])
 exact bodyPost_ret ((newP_pb w _ _).res rfl _ rfl) rfl ⟨rfl, Still.alloc w _⟩
def hdF (g : Nat -> Int) : Nat -> Nat
 | 0 => 0
 | k + 1 => if g (hdF g k) < g k then k else hdF g k
def hd (x y : Int) : Nat := hdF (dot x y) 16
end Go.Proofs.YtmkcoigblnppgaaGreatDoor
set_option maxRecDepth 100000
namespace Go.Proofs.YtmkcoigblnppgaaGreatDoor.Ap
open Pu Gp
/-! ### Cells -/
def dn (n : Int) : Int := n / 4096
theorem dn_mono {a b : Int} (h : a <= b) : dn a <= dn b := by unfold dn; omega
theorem dn_bd {n : Int} (h0 : -2147483647 <= n) (h1 : n <= 2147483647) : -524288 <= dn n /\ dn n <= 524287 := by unfold dn; omega
def anyC (sol : Int -> Int -> Bool) (l t r b : Int) : Bool := (List.range (b - t + 1).toNat).any fun j => (List.range (r - l + 1).toNat).any fun i => sol (l + (i : Int)) (t + (j : Int))
theorem anyC_iff {sol : Int -> Int -> Bool} {l t r b : Int} : anyC sol l t r b = true ↔ ∃ i j, l <= i /\ i <= r /\ t <= j /\ j <= b /\ sol i j = true := by
 unfold anyC
 rw [List.any_eq_true]
 constructor
 ·rintro ⟨j, hj, h⟩
  rw [List.any_eq_true] at h
  obtain ⟨i, hi, h⟩ := h
  rw [List.mem_range] at hi hj
  exact ⟨l + i, t + j, by omega, by omega, by omega, by omega, h⟩
 ·rintro ⟨i, j, h1, h2, h3, h4, h⟩
  refine ⟨(j - t).toNat, List.mem_range.2 (by omega), ?_⟩
  rw [List.any_eq_true]
  refine ⟨(i - l).toNat, List.mem_range.2 (by omega), ?_⟩
  rw [show l + ((i - l).toNat : Int) = i by omega, show t + ((j - t).toNat : Int) = j by omega]
  exact h
theorem anyC_false {sol : Int -> Int -> Bool} {l t r b : Int} (h : ∀ i j, l <= i -> i <= r -> t <= j -> j <= b -> sol i j = false) : anyC sol l t r b = false := by
 cases k : anyC sol l t r b with
 | false => rfl
 | true =>
  obtain ⟨i, j, h1, h2, h3, h4, h5⟩ := anyC_iff.1 k
  rw [h i j h1 h2 h3 h4] at h5
  cases h5
theorem anyC_not {sol : Int -> Int -> Bool} {l t r b : Int} (h : anyC sol l t r b = false) {i j : Int} (h1 : l <= i) (h2 : i <= r) (h3 : t <= j) (h4 : j <= b) : sol i j = false := by
 cases k : sol i j with
 | false => rfl
 | true =>
  rw [anyC_iff.2 ⟨i, j, h1, h2, h3, h4, k⟩] at h
  cases h
def tch (sol : Int -> Int -> Bool) (a b c d : Int) : Bool := anyC sol (dn a) (dn b) (dn c) (dn d)
/-! ### A way that is gone step by step -/
def go (t : Nat -> Bool) : Nat -> Nat
 | 0 => 0
 | n + 1 => if go t n = n /\ t (n + 1) = false then n + 1 else go t n
theorem go_le (t : Nat -> Bool) : ∀ n, go t n <= n
 | 0 => Nat.le_refl _
 | n + 1 => by
  have := go_le t n
  unfold go
  split <;> omega
theorem go_free (t : Nat -> Bool) : ∀ n j, 1 <= j -> j <= go t n -> t j = false
 | 0, j, h1, h2 => by simp [go] at h2; omega
 | n + 1, j, h1, h2 => by
  unfold go at h2
  split at h2
  ·rename_i h
   by_cases hj : j = n + 1
   ·subst hj; exact h.2
   ·exact go_free t n j h1 (by rw [h.1]; omega)
  ·exact go_free t n j h1 h2
theorem go_stop (t : Nat -> Bool) : ∀ n, go t n < n -> t (go t n + 1) = true
 | 0, h => by omega
 | n + 1, h => by
  unfold go at h ⊢
  split
  ·rename_i k; rw [if_pos k] at h; omega
  ·rename_i k
   rw [if_neg k] at h
   by_cases e : go t n = n
   ·rw [e]
    cases ht : t (n + 1) with
    | true => rfl
    | false => exact absurd ⟨e, ht⟩ k
   ·exact go_stop t n (by have := go_le t n; omega)
theorem go_one {t : Nat -> Bool} {n k : Nat} (h1 : k <= n) (h2 : ∀ j, 1 <= j -> j <= k -> t j = false) (h3 : k < n -> t (k + 1) = true) : go t n = k := by
 have a := go_le t n
 rcases Nat.lt_trichotomy (go t n) k with h | h | h
 ·have := go_stop t n (by omega)
  rw [h2 _ (by omega) (by omega)] at this
  cases this
 ·exact h
 ·have := h3 (by omega)
  rw [go_free t n (k + 1) (by omega) (by omega)] at this
  cases this
/-! ### Steps -/
def stp (n : Int) : Int := clampf n (-2048) 2048
theorem stp_in (n : Int) : -2048 <= stp n /\ stp n <= 2048 := by
 have h1 : bnd (-2048) = -2048 := by decide
 have h2 : bnd 2048 = 2048 := by decide
 unfold stp clampf
 rw [h1, h2]
 repeat' split
 all_goals omega
def sgn (n : Int) : Int := if 0 < n then 1 else if n < 0 then -1 else 0
def bdy (sol : Int -> Int -> Bool) (r x y : Int) : Bool := tch sol (subf x r) (subf y r) (addf x r) (addf y r)
end Go.Proofs.YtmkcoigblnppgaaGreatDoor.Ap
namespace Go.Proofs.YtmkcoigblnppgaaGreatDoor
open Go.RowKit
open Pu Gp Ap
abbrev ar (C R : Int) (s : ByteArray) : Value := .agg #[.int .i64 C, .int .i64 R, .string s]
def Ab (w : World) (b : Nat) (C R : Int) (s : ByteArray) : Prop := w.heap[b]? = some (.cells #[.int .i64 C, .int .i64 R, .string s] 24 (0, 0))
theorem Ab.still {w w' : World} {b : Nat} {C R : Int} {s : ByteArray} (h : Ab w b C R s) (hs : Still w w') : Ab w' b C R s := hs.kept_still h
theorem Ab.cells {w : World} {b : Nat} {C R : Int} {s : ByteArray} (h : Ab w b C R s) :
  w.cell? ⟨b, 0, none⟩ = some (.int .i64 C) /\ w.cell? ⟨b, 1, none⟩ = some (.int .i64 R) /\ w.cell? ⟨b, 2, none⟩ = some (.string s) /\ ∀ o, w.frozen? ⟨b, o, none⟩ = false := by
 refine ⟨?_, ?_, ?_, fun o => frozen_of_row w b o _ _ h⟩ <;> (rw [cell_of_row _ _ _ _ _ _ h]; rfl)
abbrev newA (w : World) (C R : Int) (s : ByteArray) : World := w.alloc (.cells #[.int .i64 C, .int .i64 R, .string s] 24)
theorem newA_ab (w : World) (C R : Int) (s : ByteArray) : Ab (newA w C R s) w.heap.size C R s := heap_alloc_new w _
def byt (s : ByteArray) (n : Nat) : Int := ((s.data.toList.getD n 0).toNat : Int)
theorem data_at (s : ByteArray) (n : Nat) (h : n < s.size) : s.data.toList[n]? = some s[n] := by
 rw [Array.getElem?_toList, Array.getElem?_eq_getElem h]; rfl
theorem byt_at (s : ByteArray) (n : Nat) (h : n < s.size) : ((s[n]'h).toNat : Int) = byt s n := by
 unfold byt
 rw [List.getD_eq_getElem?_getD, data_at s n h]
 rfl
def solB (C R : Int) (s : ByteArray) (col row : Int) : Bool := if col < 0 \/ C <= col \/ row < 0 \/ R <= row then true else if (s.size : Int) <= row * C + col then true else byt s (row * C + col).toNat == 35
theorem sol_out {C R col row : Int} {s : ByteArray} (h : col < 0 \/ C <= col \/ row < 0 \/ R <= row) : solB C R s col row = true := by unfold solB; rw [if_pos h]
theorem sol_end {C R col row : Int} {s : ByteArray} (h : (s.size : Int) <= row * C + col) : solB C R s col row = true := by
 unfold solB
 by_cases k : col < 0 \/ C <= col \/ row < 0 \/ R <= row
 ·rw [if_pos k]
 ·rw [if_neg k, if_pos h]
theorem sol_at {C R col row : Int} {s : ByteArray} {k : Nat} (h : ¬ (col < 0 \/ C <= col \/ row < 0 \/ R <= row)) (hk : row * C + col = (k : Int)) (hs : k < s.size) : solB C R s col row = (byt s k == 35) := by
 unfold solB
 rw [if_neg h, if_neg (by omega), hk]
 rfl
end Go.Proofs.YtmkcoigblnppgaaGreatDoor
namespace Go.Proofs.YtmkcoigblnppgaaGreatDoor
open Go.RowKit
open Pu Gp Ap
theorem ret_bool {a b : Bool} (h : a = b) : Ending.returned (.bool a) = .returned (.bool b) := by rw [h]
end Go.Proofs.YtmkcoigblnppgaaGreatDoor
namespace Go.Proofs.YtmkcoigblnppgaaGreatDoor
open Go.RowKit
open Pu Gp Ap
theorem and4095 (n : Int) : bits .and .i64 n 4095 = n % 4096 := by
 have h15 : (BitVec.ofInt 64 4095).toNat = 2 ^ 12 - 1 := by decide
 have key : (BitVec.ofInt 64 n &&& BitVec.ofInt 64 4095).toNat = (n % ((2 ^ 64 : Nat) : Int)).toNat % 2 ^ 12 := by
  rw [BitVec.toNat_and, BitVec.toNat_ofInt, h15, Nat.and_two_pow_sub_one_eq_mod]
 show IntKind.i64.wrap ((BitVec.ofInt 64 n &&& BitVec.ofInt 64 4095).toNat : Nat) = n % 4096
 rw [key, IntKind.wrap_i64]
 omega
theorem incell_any (n : Int) (w : World) : Calls Tryz.prog 270 #[.int .i64 n] w fun e w' => e = .returned (.int .i64 (n % 4096)) /\ w' = w := by
 rw [<- and4095 n]
 go_enter Tryz.func270, Tryz.ntmps270
 go_wp2
 go_ret
 exact ⟨rfl, rfl⟩
theorem dn_tdiv (n : Int) : (n - n % 4096).tdiv 4096 = dn n := by
 unfold dn
 have e : n - n % 4096 = n / 4096 * 4096 := by omega
 rw [e, Int.mul_tdiv_cancel _ (by omega)]
theorem sol1 (C R col row : Int) (s : ByteArray) (h : col < 0 \/ C <= col \/ row < 0 \/ R <= row) (w : World) : Calls Tryz.prog 150 #[ar C R s, .int .i64 col, .int .i64 row] w fun e w' => e = .returned (.bool true) /\ Still w w' := by
 have ho' : (decide (col < 0) = true) \/ (decide (col < 0) = false /\ decide (C <= col) = true) \/ (decide (col < 0) = false /\ decide (C <= col) = false /\ decide (row < 0) = true) \/ (decide (col < 0) = false /\ decide (C <= col) = false /\ decide (row < 0) = false /\ decide (R <= row) = true) := by
  by_cases x1 : col < 0
  ·exact .inl (by simpa using x1)
  by_cases x2 : C <= col
  ·exact .inr (.inl ⟨by simpa using x1, by simpa using x2⟩)
  by_cases x3 : row < 0
  ·exact .inr (.inr (.inl ⟨by simpa using x1, by simpa using x2, by simpa using x3⟩))
  ·exact .inr (.inr (.inr ⟨by simpa using x1, by simpa using x2, by simpa using x3, by simp; omega⟩))
 clear h
 rcases ho' with x1 | ⟨x1, x2⟩ | ⟨x1, x2, x3⟩ | ⟨x1, x2, x3, x4⟩
 all_goals
  go_enter Tryz.func150, Tryz.ntmps150
  go_wp2_with fail
  go_ret
  exact ⟨rfl, Still.alloc w _⟩
theorem sol2 (C R col row : Int) (s : ByteArray) (h1 : 0 <= col) (h2 : col < C) (h3 : 0 <= row) (h4 : row < R) (h5 : (s.size : Int) <= col) (w : World) : Calls Tryz.prog 150 #[ar C R s, .int .i64 col, .int .i64 row] w fun e w' => e = .returned (.bool true) /\ Still w w' := by
 go_enter Tryz.func150, Tryz.ntmps150
 go_wp2_with fail
 go_ret
 exact ⟨rfl, Still.alloc w _⟩
set_option maxHeartbeats 2000000 in
theorem sol3 (C R col row : Int) (s : ByteArray) (h1 : 0 <= col) (h2 : col < C) (h3 : 0 <= row) (h4 : row < R) (h5 : col < (s.size : Int)) (hz : s.size <= 281474976710656) (h6 : ((s.size : Int) - 1 - col) / C < row) (w : World) : Calls Tryz.prog 150 #[ar C R s, .int .i64 col, .int .i64 row] w fun e w' => e = .returned (.bool true) /\ Still w w' := by
 have e : ((s.size : Int) - 1 - col).tdiv C = ((s.size : Int) - 1 - col) / C := Int.tdiv_eq_ediv_of_nonneg (by omega)
 have q0 : 0 <= ((s.size : Int) - 1 - col) / C := Int.ediv_nonneg (by omega) (by omega)
 have q1 : ((s.size : Int) - 1 - col) / C <= (s.size : Int) - 1 - col := Int.ediv_le_self _ (by omega)
 go_enter Tryz.func150, Tryz.ntmps150
 go_wp2_with fail
 go_ret
 exact ⟨rfl, Still.alloc w _⟩
set_option maxHeartbeats 2000000 in
theorem sol4 (C R col row : Int) (s : ByteArray) (h1 : 0 <= col) (h2 : col < C) (h3 : 0 <= row) (h4 : row < R) (h5 : col < (s.size : Int)) (hz : s.size <= 281474976710656) (h6 : row <= ((s.size : Int) - 1 - col) / C) (k : Nat) (hk : row * C + col = (k : Int)) (hs : k < s.size) (w : World) : Calls Tryz.prog 150 #[ar C R s, .int .i64 col, .int .i64 row] w fun e w' => e = .returned (.bool (byt s k == 35)) /\ Still w w' := by
 have e : ((s.size : Int) - 1 - col).tdiv C = ((s.size : Int) - 1 - col) / C := Int.tdiv_eq_ediv_of_nonneg (by omega)
 have q0 : 0 <= ((s.size : Int) - 1 - col) / C := Int.ediv_nonneg (by omega) (by omega)
 have q1 : ((s.size : Int) - 1 - col) / C <= (s.size : Int) - 1 - col := Int.ediv_le_self _ (by omega)
 have m0 : 0 <= row * C := Int.mul_nonneg h3 (by omega)
 have m1 : row * C <= (s.size : Int) := by omega
 have hks : (k : Int) < (s.size : Int) := by omega
 have eb := byt_at s k hs
 go_enter Tryz.func150, Tryz.ntmps150
 go_wp2_with fail
 go_ret
 exact ⟨rfl, Still.alloc w _⟩
theorem solid_any (C R col row : Int) (s : ByteArray) (hz : s.size <= 281474976710656) (w : World) : Calls Tryz.prog 150 #[ar C R s, .int .i64 col, .int .i64 row] w fun e w' => e = .returned (.bool (solB C R s col row)) /\ Still w w' := by
 by_cases h : col < 0 \/ C <= col \/ row < 0 \/ R <= row
 ·rw [sol_out h]; exact sol1 C R col row s h w
 have n1 : 0 <= row * C := Int.mul_nonneg (by omega) (by omega)
 by_cases h5 : (s.size : Int) <= col
 ·rw [sol_end (by omega)]
  exact sol2 C R col row s (by omega) (by omega) (by omega) (by omega) h5 w
 by_cases h6 : ((s.size : Int) - 1 - col) / C < row
 ·have : (s.size : Int) - 1 - col < row * C := Int.lt_mul_of_ediv_lt (show 0 < C by omega) h6
  rw [sol_end (by omega)]
  exact sol3 C R col row s (by omega) (by omega) (by omega) (by omega) (by omega) hz h6 w
 ·have m1 : row * C <= (s.size : Int) - 1 - col := Int.le_trans (Int.mul_le_mul_of_nonneg_right (show row <= ((s.size : Int) - 1 - col) / C by omega) (by omega)) (Int.ediv_mul_le _ (by omega))
  obtain ⟨k, hk⟩ : ∃ k : Nat, row * C + col = (k : Int) := ⟨(row * C + col).toNat, by omega⟩
  rw [sol_at (k := k) h hk (by omega)]
  exact sol4 C R col row s (by omega) (by omega) (by omega) (by omega) (by omega) hz (by omega) k hk (by omega) w
theorem solid_is (C R col row : Int) (s : ByteArray) (hz : s.size <= 281474976710656) {t : Bool} (h : solB C R s col row = t) (w : World) : Calls Tryz.prog 150 #[ar C R s, .int .i64 col, .int .i64 row] w fun e w' => e = .returned (.bool t) /\ Still w w' := by
 have := solid_any C R col row s hz w
 rw [h] at this
 exact this
end Go.Proofs.YtmkcoigblnppgaaGreatDoor
set_option maxRecDepth 100000
namespace Go.Proofs.YtmkcoigblnppgaaGreatDoor
open Go.RowKit
open Pu Gp Ap
theorem around_ok (x y r : Int) (h0 : 0 <= r) (h1 : r <= 4096) : okb (subf x r) (subf y r) (addf x r) (addf y r) = true := by
 refine okb_of ?_
 have er := bnd_id (n := r) (by omega) (by omega)
 unfold okB subf addf
 exact ⟨bnd_lo _, bnd_hi _, bnd_lo _, bnd_hi _, bnd_lo _, bnd_hi _, bnd_lo _, bnd_hi _, bnd_mono (by omega), bnd_mono (by omega)⟩
def atS (x s : Int) (j : Nat) : Int := addf x (s * (j : Int))
end Go.Proofs.YtmkcoigblnppgaaGreatDoor
namespace Go.Proofs.YtmkcoigblnppgaaGreatDoor
open Go.RowKit
open Pu Gp Ap
theorem setP_ab {w : World} {b g : Nat} {C R : Int} {s : ByteArray} (h : Ab w b C R s) (hb : b ≠ g) (x y : Int) : Ab (setP w g x y) b C R s := by
 unfold Ab
 rw [heap_setCell_other _ _ _ _ hb, heap_setCell_other _ _ _ _ hb]
 exact h
theorem setP_pb {w : World} {b g : Nat} {p q : Int} (h : Pb w b p q) (hb : b ≠ g) (x y : Int) : Pb (setP w g x y) b p q := by
 unfold Pb
 rw [heap_setCell_other _ _ _ _ hb, heap_setCell_other _ _ _ _ hb]
 exact h
theorem Pb.rest {fn : Func} {p q : Tmp} {w : World} {g : Nat} {x y : Int} (hb : Pb w g x y) (h : fn.results = #[.cell p 54, .tmp q]) (tmps : Array Value) (t : Value) (hp : tmps.getD p undef = .pointer (some ⟨g, 0, none⟩)) (hq : tmps.getD q undef = t) :
  (results fn tmps).run Tryz.prog w = .ok (.tuple #[pt x y, t]) w := by
 rw [results_cell_tmp h, hp, hq]
 simp [asAddr, Result.andThen, load_pt w g x y hb.cells.1 hb.cells.2.1]
def kX (sol : Int -> Int -> Bool) (r X Y p : Int) : Nat := go (fun j => bdy sol r (atS X (sgn p) j) (atS Y 0 j)) p.natAbs
def kY (sol : Int -> Int -> Bool) (r X Y q : Int) : Nat := go (fun j => bdy sol r (atS X 0 j) (atS Y (sgn q) j)) q.natAbs
def side (k n l m : Nat) : Int := (if k < n then 1 else 0) + (if l < m then 2 else 0)
theorem kX_le (sol : Int -> Int -> Bool) (r X Y p : Int) : kX sol r X Y p <= p.natAbs := go_le _ _
theorem kY_le (sol : Int -> Int -> Bool) (r X Y q : Int) : kY sol r X Y q <= q.natAbs := go_le _ _
theorem clamp_r (n : Int) : 0 <= clampf n 0 4096 /\ clampf n 0 4096 <= 4096 := by
 have h1 : bnd 0 = 0 := by decide
 have h2 : bnd 4096 = 4096 := by decide
 unfold clampf
 rw [h1, h2]
 repeat' split
 all_goals omega
end Go.Proofs.YtmkcoigblnppgaaGreatDoor
namespace Go.Proofs.YtmkcoigblnppgaaGreatDoor
open Go.RowKit
open Pu Gp Ap
def rp (X p : Int) (n j : Nat) : Int := if j = 0 then X else addf X ((p * (j : Int)).tdiv (n : Int))
def rayN (p q : Int) : Nat := (max p.natAbs q.natAbs + 63) / 64
def rayT (sol : Int -> Int -> Bool) (X Y p q : Int) (n j : Nat) : Bool := sol (dn (rp X p n j)) (dn (rp Y q n j))
end Go.Proofs.YtmkcoigblnppgaaGreatDoor
namespace Go.Proofs.YtmkcoigblnppgaaGreatDoor
open Pu Gp Ap
/-! ### Within the bounds -/
def inB2 (x : Int) : Prop := -2147483647 <= x /\ x <= 2147483647
theorem addf_zero {x : Int} (h : inB2 x) : addf x 0 = x := by
 unfold addf
 rw [show bnd 0 = 0 by decide, bnd_id h.1 h.2, Int.add_zero, bnd_id h.1 h.2]
theorem addf_in (x y : Int) : inB2 (addf x y) := ⟨bnd_lo _, bnd_hi _⟩
theorem bnd_small {v : Int} (h0 : -67584 <= v) (h1 : v <= 67584) : bnd v = v := bnd_id (by omega) (by omega)
theorem addf_small {x v : Int} (h : inB2 x) (h0 : -67584 <= v) (h1 : v <= 67584) : addf x v = bnd (x + v) := by
 unfold addf
 rw [bnd_id h.1 h.2, bnd_small h0 h1]
/-! ### Where a body comes -/
section
variable {sol : Int -> Int -> Bool} {r X Y P Q : Int}
end
/-! ### Rays -/
/-! ### Two slides, one behind the other, to the right -/
section
variable {sol : Int -> Int -> Bool} {r X Y : Int}
theorem atS_one {X : Int} (j : Nat) : atS X 1 j = addf X (j : Int) := by unfold atS; rw [Int.one_mul]
end
end Go.Proofs.YtmkcoigblnppgaaGreatDoor
set_option maxRecDepth 100000
namespace Go.Proofs.YtmkcoigblnppgaaGreatDoor
open Go
def qi (n m j : Nat) : Bool := decide (j < n) || decide (n + 2 * m <= j)
def qlist (l : List Oper) (n m : Nat) : List Oper := l.take n ++ l.drop (n + 2 * m)
def goodB : List Oper -> Bool
  | [] => true
  | o :: r => o.guard.isNone && (match o.dst with | some t => r.all fun p => p.dst != some t | none => false) &&
      (o.op.operands.toList.all fun x => match x with | .tmp t => (o :: r).all fun p => p.dst != some t | _ => true) && goodB r
def dstB (l : List Oper) (z : Nat) : Bool := l.all fun o => match o.dst with | some t => decide (t < z) | none => true
theorem getE_set_self {ts : Array Value} {t : Nat} (h : t < ts.size) (v : Value) : (ts.setIfInBounds t v)[t]? = some v := by
 rw [Array.getElem?_setIfInBounds_self]; simp [h]
section
variable {P : Program}
theorem walk_each {ops : Array Oper} {u : World} {A : Act} (hsel : ∀ (o : Oper), o ∈ ops -> ∀ cs b, o.op ≠ .select cs b) : ∀ (r : List Oper) (a : Act), (∀ o ∈ r, o ∈ ops) -> goodB r = true -> dstB r a.tmps.size = true -> wpQuiet P ops (Cl u) (fun a' => a' = A) r a ->
  (A.tmps.size = a.tmps.size /\ A.defers = a.defers /\ ∀ t, (∀ o ∈ r, o.dst ≠ some t) -> A.tmps[t]? = a.tmps[t]?) /\
  ∀ o ∈ r, ∀ t, o.dst = some t -> o.quietAt P A (fun v => Still u v) u (A.tmps.getD t undef) /\ t < A.tmps.size
 | [], a, _, _, _, h => by
  obtain rfl : a = A := h
  exact ⟨⟨rfl, rfl, fun _ _ => rfl⟩, fun o ho => by cases ho⟩
 | o :: r, a, hin, hg, hd, h => by
  unfold goodB at hg
  simp only [Bool.and_eq_true] at hg
  obtain ⟨⟨⟨g1, g2⟩, g3⟩, g4⟩ := hg
  have hgn : o.guard = none := by simpa using g1
  unfold wpQuiet at h
  rw [if_pos (by unfold Region.wanted; rw [hgn])] at h
  obtain ⟨v, hq, hr⟩ := h
  obtain ⟨t0, ht0⟩ : ∃ t, o.dst = some t := by
   cases e : o.dst with
   | none => rw [e] at g2; cases g2
   | some t => exact ⟨t, rfl⟩
  rw [ht0] at g2
  have hlt : t0 < a.tmps.size := by
   have := List.all_eq_true.1 hd o (List.mem_cons_self ..)
   rw [ht0] at this
   simpa using this
  have hsz : (a.put o.dst v).tmps.size = a.tmps.size := by simp [Act.put, ht0]
  have hdr : dstB r (a.put o.dst v).tmps.size = true := by
   rw [hsz]
   exact List.all_eq_true.2 fun p hp => List.all_eq_true.1 hd p (List.mem_cons_of_mem _ hp)
  obtain ⟨⟨i1, i2, i3⟩, i4⟩ := walk_each hsel r (a.put o.dst v) (fun p hp => hin p (List.mem_cons_of_mem _ hp)) g4 hdr hr
  have hA : ∀ t, (∀ p ∈ o :: r, p.dst ≠ some t) -> A.tmps[t]? = a.tmps[t]? := fun t ht => by
   rw [i3 t fun p hp => ht p (List.mem_cons_of_mem _ hp)]
   have hne : t0 ≠ t := fun e => ht o (List.mem_cons_self ..) (by rw [ht0, e])
   simp only [Act.put, ht0, Array.getElem?_setIfInBounds_ne hne]
  refine ⟨⟨i1.trans hsz, i2.trans (by simp [Act.put, ht0]), hA⟩, fun p hp t ht => ?_⟩
  rcases List.mem_cons.1 hp with rfl | hp
  ·obtain rfl : t0 = t := Option.some.inj (ht0.symm.trans ht)
   have hv : A.tmps[t0]? = some v := by
    rw [i3 t0 fun q hq' => by simpa using List.all_eq_true.1 g2 q hq']
    simp only [Act.put, ht0]
    exact getE_set_self hlt v
   have hcong : execOp A.eval p = execOp a.eval p := execOp_congr p (fun cs b => hsel p (hin p (List.mem_cons_self ..)) cs b) fun x hx => by
    cases x with
    | tmp s =>
     refine tmps_eval (hA s fun q hq' => ?_)
     have := List.all_eq_true.1 g3 (.tmp s) (by simpa using hx)
     simpa using List.all_eq_true.1 this q hq'
    | const v => rfl
    | global g => rfl
    | func f => rfl
   have h1 := hq u ⟨⟨u, Fr.refl _ _⟩, rfl⟩
   have e : (fun v => Still u v) = Cl u := funext fun w' => propext ⟨fun hs => ⟨⟨w', hs⟩, rfl⟩, fun ⟨z, e⟩ => e ▸ z.s⟩
   refine ⟨?_, by rw [i1, hsz]; exact hlt⟩
   unfold Oper.quietAt at h1 ⊢
   rw [hcong, e, Array.getD_eq_getD_getElem?, hv]
   exact h1
  ·exact i4 p hp t ht
end
def lowK (l : List Oper) : Bool := (List.range l.length).all fun i => match l.toArray[i]? with | some o => o.after.all fun e => !Region.binds .any e || decide (e.on < i) | none => false
theorem lowK_spec {l : List Oper} (h : lowK l = true) {i : Nat} {o : Oper} (hi : i < l.length) (ho : l.toArray[i]? = some o) : ∀ e ∈ o.after, Region.binds .any e = true -> e.on < i := fun e he hb => by
 have h1 := List.all_eq_true.1 h i (List.mem_range.2 hi)
 simp only [ho] at h1
 have := Array.all_eq_true'.1 h1 e he
 simpa [hb] using this
def mkB (l : List Oper) (n m : Nat) (ds : List Nat) : Bool :=
  Region.noSelect l.toArray && lowK l && decide (n + 2 * m <= l.length) && decide ds.Nodup && decide (ds.length = m) && goodB (qlist l n m) &&
  (List.range l.length).all fun j => match l.toArray[j]? with
    | some o => o.guard.isNone && (if qi n m j then
          (match o.dst with | some t => !ds.contains t | none => false) &&
          ((List.range l.length).all fun i => (i == j) || !qi n m i || (match l.toArray[i]? with | some p => p.dst != o.dst | none => false)) &&
          (o.op.operands.toList.all fun x => match x with
            | .tmp t => !ds.contains t && (List.range l.length).all fun i => !qi n m i || (match l.toArray[i]? with | some p => (p.dst != some t) || o.after.any fun e => e.on == i && Region.binds .any e | none => false)
            | _ => true)
        else if j < n + m then o.dst == some (ds.getD (j - n) 0)
        else o.dst == none && (o.after.any fun e => e.on == j - m && Region.binds .any e) &&
          (o.op.operands.toList.all fun x => match x with
            | .tmp t => (t == ds.getD (j - n - m) 0) || (!ds.contains t && (List.range l.length).all fun i => !qi n m i || (match l.toArray[i]? with | some p => (p.dst != some t) || o.after.any fun e => e.on == i && Region.binds .any e | none => false))
            | _ => true))
    | none => false
section
variable {P : Program} {W : World} {l : List Oper} {n m : Nat} {ds : List Nat} {A : Act} {zs zs' : Nat -> Obj}
structure MidK (l : List Oper) (n m : Nat) (ds : List Nat) (A : Act) (W : World) (zs zs' : Nat -> Obj) (L : Array Bool) (a : Act) (w : World) (γ : Nat -> Nat) : Prop where
 still : Still W w
 size : a.tmps.size = A.tmps.size
 defers : a.defers = A.defers
 rest : ∀ t, (∀ j o, qi n m j = true -> l[j]? = some o -> o.dst ≠ some t) -> t ∉ ds -> a.tmps[t]? = A.tmps[t]?
 done : ∀ j o t, qi n m j = true -> l[j]? = some o -> o.dst = some t -> L.getD j true = true -> j < l.length -> a.tmps[t]? = A.tmps[t]?
 new : ∀ k, k < m -> L.getD (n + k) true = true -> a.tmps[ds.getD k 0]? = some (.pointer (some ⟨γ k, 0, none⟩)) /\ W.heap.size <= γ k /\ w.heap[γ k]? = some (if L.getD (n + m + k) true then zs' k else zs k)
 inj : ∀ k j, k < m -> j < m -> L.getD (n + k) true = true -> L.getD (n + j) true = true -> γ k = γ j -> k = j
 ord : ∀ k, k < m -> L.getD (n + m + k) true = true -> L.getD (n + k) true = true
theorem qi_false {n m j : Nat} : qi n m j = false ↔ n <= j /\ j < n + 2 * m := by unfold qi; simp
theorem any_mk {Q' : Exit -> Act -> World -> Prop} (hB : mkB l n m ds = true) (hdA : ∀ d ∈ ds, d < A.tmps.size)
  (hop : ∀ j o, qi n m j = true -> l[j]? = some o -> ∀ w, Still W w -> ∀ t, o.dst = some t -> o.quietAt P A (fun u => Still w u) w (A.tmps.getD t undef) /\ t < A.tmps.size)
  (hnew : ∀ k o, k < m -> l[n + k]? = some o -> ∀ w, Still W w -> ∀ a : Act, (execOp a.eval o).run P w = .ok (.value (.pointer (some ⟨w.heap.size, 0, none⟩))) (w.alloc (zs k)))
  (hz : ∀ (k : Nat) (w : World), k < m -> (w.alloc (zs k)).heap[w.heap.size]? = some (zs k))
  (hst : ∀ k o, k < m -> l[n + m + k]? = some o -> ∀ u g, u.heap[g]? = some (zs k) -> ∃ u', (execOp (A.put (some (ds.getD k 0)) (.pointer (some ⟨g, 0, none⟩))).eval o).run P u = .ok .skip u' /\ u'.heap[g]? = some (zs' k) /\ Fr (fun i => i = g) u u')
  (hdone : ∀ (L : Array Bool) a w γ, (∀ i, i < l.length -> L.getD i true = true) -> MidK l n m ds A W zs zs' L a w γ -> Q' .normal a w) :
  ∀ (f : Nat) (L : Array Bool) (a : Act) (w : World) (γ : Nat -> Nat), L.size = l.length -> cnt L l.length = f -> MidK l n m ds A W zs zs' L a w γ -> wpAny P .any l.toArray Q' f L a w
 | 0, L, a, w, γ, hLs, hcnt, hm => by
  refine ⟨?_, hdone L a w γ (cnt_zero hcnt) hm⟩
  rw [List.eq_nil_iff_forall_not_mem]
  intro j hj
  obtain ⟨hju, o, ho, _⟩ := mem_ready.1 hj
  have hjl : j < l.length := by have := (Array.getElem?_eq_some_iff.1 ho).1; simpa using this
  rw [cnt_zero hcnt j hjl] at hju
  cases hju
 | f + 1, L, a, w, γ, hLs, hcnt, hm => by
  have hB0 := hB
  unfold mkB at hB
  simp only [Bool.and_eq_true, decide_eq_true_eq] at hB
  obtain ⟨⟨⟨⟨⟨⟨hsel, hlow⟩, hnl⟩, hnd⟩, hdl⟩, _⟩, hall⟩ := hB
  obtain ⟨i, hi, hun, hmin⟩ := cnt_pos (L := L) (n := l.length) (by omega)
  refine ⟨fun h0 => ?_, fun j hj => ?_⟩
  ·exfalso
   obtain ⟨o, ho⟩ : ∃ o, l.toArray[i]? = some o := ⟨_, Array.getElem?_eq_getElem (by simpa using hi)⟩
   have : i ∈ Region.ready .any l.toArray L := mem_ready.2 ⟨hun, o, ho, fun e he hb => by
    have hlt := lowK_spec hlow hi ho e he hb
    have hin : e.on < L.size := by omega
    have := hmin e.on hlt
    simp [hin] at this ⊢
    exact this⟩
   rw [h0] at this
   cases this
  ·obtain ⟨hju, o, ho, hwait⟩ := mem_ready.1 hj
   have hjl : j < l.length := by have := (Array.getElem?_eq_some_iff.1 ho).1; simpa using this
   have ho' : l[j]? = some o := by simpa using ho
   have hJ := List.all_eq_true.1 hall j (List.mem_range.2 hjl)
   simp only [ho, Bool.and_eq_true] at hJ
   obtain ⟨hg0, hJ⟩ := hJ
   have hg : o.guard = none := by simpa using hg0
   have next : ∀ (a' : Act) (w' : World) (γ' : Nat -> Nat), MidK l n m ds A W zs zs' (L.setIfInBounds j true) a' w' γ' -> wpAny P .any l.toArray Q' f (L.setIfInBounds j true) a' w' := fun a' w' γ' hm' =>
    any_mk hB0 hdA hop hnew hz hst hdone f _ a' w' γ' (by simp [hLs]) (by have := cnt_set hju hjl; omega) hm'
   have hset : ∀ k, k ≠ j -> (L.setIfInBounds j true).getD k true = L.getD k true := fun k hk => getD_set_ne true (Ne.symm hk)
   have hself : (L.setIfInBounds j true).getD j true = true := by simp [show j < L.size by omega]
   have hd0 : ∀ k, k < m -> ds.getD k 0 ∈ ds := fun k hk => by
    rw [List.getD_eq_getElem?_getD, List.getElem?_eq_getElem (by omega)]
    exact List.getElem_mem _
   unfold wpOp
   simp only [ho]
   rw [if_pos (by unfold Region.wanted; rw [hg])]
   refine .inl ?_
   by_cases hq : qi n m j = true
   ·rw [if_pos hq] at hJ
    simp only [Bool.and_eq_true] at hJ
    obtain ⟨⟨h2, h3⟩, h4⟩ := hJ
    obtain ⟨t, ht⟩ : ∃ t, o.dst = some t := by
     cases e : o.dst with
     | none => rw [e] at h2; cases h2
     | some t => exact ⟨t, rfl⟩
    rw [ht] at h2
    have htd : t ∉ ds := by simpa using h2
    have hcong : execOp a.eval o = execOp A.eval o := execOp_congr o (fun cs b => Region.noSelect_spec hsel j o cs b ho) fun x hx => by
     cases x with
     | tmp s =>
      have h5 := List.all_eq_true.1 h4 (.tmp s) (by simpa using hx)
      simp only [Bool.and_eq_true] at h5
      have hsd : s ∉ ds := by simpa using h5.1
      refine tmps_eval ?_
      by_cases hex : ∃ k p, qi n m k = true /\ l[k]? = some p /\ p.dst = some s
      ·obtain ⟨k, p, hk, hp, hps⟩ := hex
       have hkl : k < l.length := (List.getElem?_eq_some_iff.1 hp).1
       have h6 := List.all_eq_true.1 h5.2 k (List.mem_range.2 hkl)
       have hp' : l.toArray[k]? = some p := by simpa using hp
       simp only [hp', hk, Bool.not_true, Bool.false_or, Bool.or_eq_true] at h6
       rcases h6 with h6 | h6
       ·rw [hps] at h6; simp at h6
       ·obtain ⟨e, he, hb⟩ := Array.any_eq_true'.1 h6
        simp only [Bool.and_eq_true, beq_iff_eq] at hb
        have := hwait e he hb.2
        rw [hb.1] at this
        exact hm.done k p s hk hp hps (getD_true_false (by omega) this) hkl
      ·exact hm.rest s (fun k p hk hp hps => hex ⟨k, p, hk, hp, hps⟩) hsd
     | const v => rfl
     | global g => rfl
     | func f => rfl
    obtain ⟨hqa, hta⟩ := hop j o hq ho' w hm.still t ht
    have hq' : o.quietAt P a (fun u => Still w u) w (A.tmps.getD t undef) := by
     unfold Oper.quietAt at hqa ⊢
     rw [hcong]
     exact hqa
    have hnj : ∀ k, k < 2 * m -> n + k ≠ j := fun k hk e => by
     have := (qi_false (n := n) (m := m) (j := j)).2 ⟨by omega, by omega⟩
     rw [hq] at this; cases this
    refine wp_of_at hq' fun w' hw' => next _ _ γ ⟨hm.still.trans hw', by simp [Act.put, ht, hm.size], by simp [Act.put, ht, hm.defers], fun s h1 h2 => ?_, fun k p s hk hp hps hl hkl => ?_, fun k hk hl => ?_, fun k k' hk hk' hl hl' => ?_, fun k hk hl => ?_⟩
    ·have hne : t ≠ s := fun e => h1 j o hq ho' (by rw [ht, e])
     simp only [Act.put, ht, Array.getElem?_setIfInBounds_ne hne]
     exact hm.rest s h1 h2
    ·by_cases hkj : k = j
     ·subst hkj
      obtain rfl : o = p := Option.some.inj (ho'.symm.trans hp)
      obtain rfl : t = s := Option.some.inj (ht.symm.trans hps)
      simp only [Act.put, ht]
      rw [getE_set_self (by rw [hm.size]; exact hta)]
      simp [hta]
     ·have h5 := List.all_eq_true.1 h3 k (List.mem_range.2 hkl)
      have hp' : l.toArray[k]? = some p := by simpa using hp
      have hkj' : (k == j) = false := by simpa using hkj
      simp only [hp', hk, hkj', Bool.not_true, Bool.or_false, Bool.false_or, bne_iff_ne] at h5
      have hne : t ≠ s := fun e => h5 (by rw [hps, ht, e])
      rw [hset k hkj] at hl
      simp only [Act.put, ht, Array.getElem?_setIfInBounds_ne hne]
      exact hm.done k p s hk hp hps hl hkl
    ·rw [hset _ (hnj k (by omega))] at hl
     rw [hset _ (by have := hnj (m + k) (by omega); omega)]
     obtain ⟨n1, n2, n3⟩ := hm.new k hk hl
     have hne : t ≠ ds.getD k 0 := fun e => htd (by rw [e]; exact hd0 k hk)
     refine ⟨?_, n2, hw'.kept_still n3⟩
     simp only [Act.put, ht, Array.getElem?_setIfInBounds_ne hne]
     exact n1
    ·rw [hset _ (hnj k (by omega))] at hl
     rw [hset _ (hnj k' (by omega))] at hl'
     exact hm.inj k k' hk hk' hl hl'
    ·rw [hset _ (by have := hnj (m + k) (by omega); omega)] at hl
     rw [hset _ (hnj k (by omega))]
     exact hm.ord k hk hl
   ·have hqf : qi n m j = false := by simpa using hq
    obtain ⟨hj1, hj2⟩ := qi_false.1 hqf
    rw [if_neg hq] at hJ
    have hqd : ∀ i p t, qi n m i = true -> l[i]? = some p -> p.dst = some t -> t ∉ ds := fun i p t hi hp hpt => by
     have hil : i < l.length := (List.getElem?_eq_some_iff.1 hp).1
     have h1 := List.all_eq_true.1 hall i (List.mem_range.2 hil)
     have hp' : l.toArray[i]? = some p := by simpa using hp
     simp only [hp', Bool.and_eq_true] at h1
     have h2 := h1.2
     rw [if_pos hi] at h2
     simp only [Bool.and_eq_true, hpt] at h2
     simpa using h2.1.1
    have hdne : ∀ k k', k < m -> k' < m -> k ≠ k' -> ds.getD k 0 ≠ ds.getD k' 0 := fun k k' hk hk' hne e => by
     rw [List.getD_eq_getElem?_getD, List.getD_eq_getElem?_getD, List.getElem?_eq_getElem (by omega), List.getElem?_eq_getElem (by omega)] at e
     simp only [Option.getD_some] at e
     rcases Nat.lt_or_gt_of_ne hne with h | h
     ·exact List.pairwise_iff_getElem.1 hnd k k' (by omega) (by omega) h e
     ·exact List.pairwise_iff_getElem.1 hnd k' k (by omega) (by omega) h e.symm
    have hqj : ∀ i, qi n m i = true -> i ≠ j := fun i hi e => by rw [e, hqf] at hi; cases hi
    by_cases hjm : j < n + m
    · -- a variable is laid
     rw [if_pos hjm] at hJ
     obtain ⟨k, rfl⟩ : ∃ k, j = n + k := ⟨j - n, by omega⟩
     rw [show n + k - n = k by omega] at hJ
     have hdk : o.dst = some (ds.getD k 0) := by simpa using hJ
     have hk : k < m := by omega
     have hdA' : ds.getD k 0 < A.tmps.size := hdA _ (hd0 k hk)
     unfold Oper.wp
     rw [hnew k o hk ho' w hm.still a, Oper.upon_value]
     have hnot : L.getD (n + m + k) true = false := by
      cases e : L.getD (n + m + k) true with
      | false => rfl
      | true => rw [hm.ord k hk e] at hju; cases hju
     refine next _ _ (fun i => if i = k then w.heap.size else γ i) ⟨hm.still.trans (Still.alloc w (zs k)), by simp [Act.put, hdk, hm.size], by simp [Act.put, hdk, hm.defers], fun s h1 h2 => ?_, fun i p s hi hp hps hl hil => ?_, fun k' hk' hl => ?_, fun k1 k2 h1 h2 l1 l2 e => ?_, fun k' hk' hl => ?_⟩
     ·have hne : ds.getD k 0 ≠ s := fun e => h2 (by rw [<- e]; exact hd0 k hk)
      simp only [Act.put, hdk, Array.getElem?_setIfInBounds_ne hne]
      exact hm.rest s h1 h2
     ·have hne : ds.getD k 0 ≠ s := fun e => hqd i p s hi hp hps (by rw [<- e]; exact hd0 k hk)
      rw [hset i (hqj i hi)] at hl
      simp only [Act.put, hdk, Array.getElem?_setIfInBounds_ne hne]
      exact hm.done i p s hi hp hps hl hil
     ·by_cases hkk : k' = k
      ·subst hkk
       rw [hset _ (by omega), hnot]
       refine ⟨?_, ?_, ?_⟩
       ·simp only [Act.put, hdk, if_true]
        exact getE_set_self (by rw [hm.size]; exact hdA') _
       ·simp only [if_true]; exact hm.still.size
       ·simp only [if_true]; exact hz k' w hk
      ·rw [hset _ (by omega)] at hl
       rw [hset _ (by omega)]
       obtain ⟨n1, n2, n3⟩ := hm.new k' hk' hl
       simp only [if_neg hkk]
       refine ⟨?_, n2, (Still.alloc w (zs k)).kept_still n3⟩
       simp only [Act.put, hdk, Array.getElem?_setIfInBounds_ne (hdne k k' hk hk' (Ne.symm hkk))]
       exact n1
     ·have hb : ∀ i, i < m -> i ≠ k -> (L.setIfInBounds (n + k) true).getD (n + i) true = true -> γ i ≠ w.heap.size := fun i hi hik hl => by
       rw [hset _ (by omega)] at hl
       have := (Array.getElem?_eq_some_iff.1 (hm.new i hi hl).2.2).1
       omega
      by_cases e1 : k1 = k
      ·by_cases e2 : k2 = k
       ·rw [e1, e2]
       ·simp only [e1, if_true, if_neg e2] at e
        exact absurd e.symm (hb k2 h2 e2 l2)
      ·by_cases e2 : k2 = k
       ·simp only [e2, if_true, if_neg e1] at e
        exact absurd e (hb k1 h1 e1 l1)
       ·simp only [if_neg e1, if_neg e2] at e
        rw [hset _ (by omega)] at l1 l2
        exact hm.inj k1 k2 h1 h2 l1 l2 e
     ·rw [hset _ (by omega)] at hl
      by_cases hkk : k' = k
      ·subst hkk; exact hself
      ·rw [hset _ (by omega)]; exact hm.ord k' hk' hl
    · -- a variable is filled
     rw [if_neg hjm] at hJ
     obtain ⟨k, rfl⟩ : ∃ k, j = n + m + k := ⟨j - (n + m), by omega⟩
     rw [show n + m + k - m = n + k by omega, show n + m + k - n - m = k by omega] at hJ
     simp only [Bool.and_eq_true] at hJ
     obtain ⟨⟨h1, h2⟩, h3⟩ := hJ
     have hdo : o.dst = none := by simpa using h1
     have hk : k < m := by omega
     have hdA' : ds.getD k 0 < A.tmps.size := hdA _ (hd0 k hk)
     have hlk : L.getD (n + k) true = true := by
      obtain ⟨e, he, hb⟩ := Array.any_eq_true'.1 h2
      simp only [Bool.and_eq_true, beq_iff_eq] at hb
      have := hwait e he hb.2
      rw [hb.1] at this
      exact getD_true_false (by omega) this
     obtain ⟨n1, n2, n3⟩ := hm.new k hk hlk
     rw [hju] at n3
     obtain ⟨u', hrun, hu1, hu2⟩ := hst k o hk ho' w (γ k) (by simpa using n3)
     have hcong : execOp a.eval o = execOp (A.put (some (ds.getD k 0)) (.pointer (some ⟨γ k, 0, none⟩))).eval o := execOp_congr o (fun cs b => Region.noSelect_spec hsel _ o cs b ho) fun x hx => by
      cases x with
      | tmp s =>
       refine tmps_eval ?_
       by_cases hsd : s = ds.getD k 0
       ·subst hsd
        rw [n1]
        simp only [Act.put]
        rw [getE_set_self hdA']
       ·simp only [Act.put, Array.getElem?_setIfInBounds_ne (Ne.symm hsd)]
        have h5 := List.all_eq_true.1 h3 (.tmp s) (by simpa using hx)
        have hsd' : (s == ds.getD k 0) = false := by simpa using hsd
        simp only [hsd', Bool.false_or, Bool.and_eq_true] at h5
        have hsn : s ∉ ds := by simpa using h5.1
        by_cases hex : ∃ i p, qi n m i = true /\ l[i]? = some p /\ p.dst = some s
        ·obtain ⟨i, p, hi, hp, hps⟩ := hex
         have hil : i < l.length := (List.getElem?_eq_some_iff.1 hp).1
         have h6 := List.all_eq_true.1 h5.2 i (List.mem_range.2 hil)
         have hp' : l.toArray[i]? = some p := by simpa using hp
         simp only [hp', hi, Bool.not_true, Bool.false_or, Bool.or_eq_true] at h6
         rcases h6 with h6 | h6
         ·rw [hps] at h6; simp at h6
         ·obtain ⟨e, he, hb⟩ := Array.any_eq_true'.1 h6
          simp only [Bool.and_eq_true, beq_iff_eq] at hb
          have := hwait e he hb.2
          rw [hb.1] at this
          exact hm.done i p s hi hp hps (getD_true_false (by omega) this) hil
        ·exact hm.rest s (fun i p hi hp hps => hex ⟨i, p, hi, hp, hps⟩) hsn
      | const v => rfl
      | global g => rfl
      | func f => rfl
     unfold Oper.wp
     rw [hcong, hrun, Oper.upon_skip, hdo]
     refine next _ _ γ ⟨Fr.trans hm.still hu2 (fun i hi e => by omega), hm.size, hm.defers, hm.rest, fun i p s hi hp hps hl hil => ?_, fun k' hk' hl => ?_, fun k1 k2 h1 h2 l1 l2 e => ?_, fun k' hk' hl => ?_⟩
     ·rw [hset i (hqj i hi)] at hl
      exact hm.done i p s hi hp hps hl hil
     ·rw [hset _ (by omega)] at hl
      obtain ⟨m1, m2, m3⟩ := hm.new k' hk' hl
      by_cases hkk : k' = k
      ·subst hkk
       exact ⟨m1, m2, by rw [hself]; exact hu1⟩
      ·rw [hset _ (by omega)]
       exact ⟨m1, m2, hu2.kept m3 (fun e => hkk (hm.inj k' k hk' hk hl hlk e))⟩
     ·rw [hset _ (by omega)] at l1 l2
      exact hm.inj k1 k2 h1 h2 l1 l2 e
     ·rw [hset _ (by omega)]
      by_cases hkk : k' = k
      ·subst hkk; exact hlk
      ·rw [hset _ (by omega)] at hl
       exact hm.ord k' hk' hl
theorem region_mk {id : Nat} {Q : Exit -> Act -> World -> Prop} {a : Act} {w : World} (n m : Nat) (ds : List Nat) (zs zs' : Nat -> Obj) (hm : P.follows .mixedOrders = true) (hB : mkB l n m ds = true) (hdB : dstB (qlist l n m) a.tmps.size = true) (hdd : (ds.all fun d => decide (d < a.tmps.size)) = true)
    (hnew : ∀ k o, k < m -> l[n + k]? = some o -> ∀ w, ∀ a : Act, (execOp a.eval o).run P w = .ok (.value (.pointer (some ⟨w.heap.size, 0, none⟩))) (w.alloc (zs k)))
    (hz : ∀ (k : Nat) (w : World), k < m -> (w.alloc (zs k)).heap[w.heap.size]? = some (zs k))
    (h : ∃ A, (∀ u, Still w u -> wpQuiet P l.toArray (fun w' => ∃ z : Aft u, w' = z.u) (fun a' => a' = A) (qlist l n m) a) /\
      (∀ k o, k < m -> l[n + m + k]? = some o -> ∀ u g, u.heap[g]? = some (zs k) -> ∃ u', (execOp (A.put (some (ds.getD k 0)) (.pointer (some ⟨g, 0, none⟩))).eval o).run P u = .ok .skip u' /\ u'.heap[g]? = some (zs' k) /\ Fr (fun i => i = g) u u') /\
      ∀ (u : World) (γ : Nat -> Nat), Still w u -> (∀ k, k < m -> w.heap.size <= γ k /\ u.heap[γ k]? = some (zs' k)) -> (∀ k j, k < m -> j < m -> γ k = γ j -> k = j) -> Q .normal ((List.range m).foldl (fun a k => a.put (some (ds.getD k 0)) (.pointer (some ⟨γ k, 0, none⟩))) A) u) :
    (Code.region id l.toArray true).wp P Q a w := by
  obtain ⟨A, hwalk, hst, hpost⟩ := h
  have hB0 := hB
  unfold mkB at hB
  simp only [Bool.and_eq_true, decide_eq_true_eq] at hB
  obtain ⟨⟨⟨⟨⟨⟨hsel, hlow⟩, hnl⟩, hnd⟩, hdl⟩, hgood⟩, hall⟩ := hB
  have hin : ∀ o ∈ qlist l n m, o ∈ l.toArray := fun o ho => by
    unfold qlist at ho
    rcases List.mem_append.1 ho with ho | ho
    · simpa using List.mem_of_mem_take ho
    · simpa using List.mem_of_mem_drop ho
  have hsel' : ∀ o ∈ l.toArray, ∀ cs b, o.op ≠ .select cs b := fun o ho cs b => by
    obtain ⟨i, hi, e⟩ := Array.mem_iff_getElem.1 ho
    exact Region.noSelect_spec hsel i o cs b (by rw [Array.getElem?_eq_getElem hi, e])
  have hmem : ∀ j o, qi n m j = true -> l[j]? = some o -> o ∈ qlist l n m := fun j o hj ho => by
    unfold qlist
    unfold qi at hj
    simp only [Bool.or_eq_true, decide_eq_true_eq] at hj
    obtain ⟨hjl, e⟩ := List.getElem?_eq_some_iff.1 ho
    rcases hj with hj | hj
    · exact List.mem_append_left _ (List.mem_iff_getElem?.2 ⟨j, by rw [List.getElem?_take_of_lt hj]; exact ho⟩)
    · refine List.mem_append_right _ (List.mem_iff_getElem?.2 ⟨j - (n + 2 * m), ?_⟩)
      rw [List.getElem?_drop, show n + 2 * m + (j - (n + 2 * m)) = j by omega]
      exact ho
  obtain ⟨⟨e1, e2, e3⟩, _⟩ := walk_each hsel' (qlist l n m) a hin hgood hdB (hwalk w (Fr.refl _ _))
  have hdA : ∀ d ∈ ds, d < A.tmps.size := fun d hd => by rw [e1]; simpa using List.all_eq_true.1 hdd d hd
  refine wp_region_any hm ?_
  have hst0 : Still w { w with drawn := w.drawn + 1 } := (Fr.refl _ w).drew
  have key := any_mk (P := P) (W := w) (A := A) (zs := zs) (zs' := zs') (Q' := Q) hB0 hdA
    (fun j o hj ho u hu t ht => (walk_each hsel' (qlist l n m) a hin hgood hdB (hwalk u hu)).2 o (hmem j o hj ho) t ht) (fun k o hk ho u _ b => hnew k o hk ho u b) hz hst ?_ l.length (Array.replicate l.length false) a { w with drawn := w.drawn + 1 } (fun _ => 0) (by simp) (cnt_new (Nat.le_refl _))
    ⟨hst0, e1.symm, e2.symm, fun t h1 _ => ((e3 t fun o ho => ?_)).symm, fun j o t _ _ _ hl hjl => (by simp [hjl] at hl), fun k hk hl => (by simp [show n + k < l.length by omega] at hl), fun k j hk _ hl => (by simp [show n + k < l.length by omega] at hl), fun k hk hl => (by simp [show n + m + k < l.length by omega] at hl)⟩
  · simpa using key
  · intro L a' w' γ hL hm'
    have hnews := fun k (hk : k < m) => hm'.new k hk (hL _ (by omega))
    have hall2 : ∀ k, k < m -> L.getD (n + m + k) true = true := fun k hk => hL _ (by omega)
    have ea : a' = (List.range m).foldl (fun a k => a.put (some (ds.getD k 0)) (.pointer (some ⟨γ k, 0, none⟩))) A := by
      have fold : ∀ (r : Nat), r <= m -> ((List.range r).foldl (fun a k => a.put (some (ds.getD k 0)) (.pointer (some ⟨γ k, 0, none⟩))) A).tmps.size = A.tmps.size /\ ((List.range r).foldl (fun a k => a.put (some (ds.getD k 0)) (.pointer (some ⟨γ k, 0, none⟩))) A).defers = A.defers /\
          (∀ t, (∀ k, k < r -> t ≠ ds.getD k 0) -> ((List.range r).foldl (fun a k => a.put (some (ds.getD k 0)) (.pointer (some ⟨γ k, 0, none⟩))) A).tmps[t]? = A.tmps[t]?) /\
          (∀ k, k < r -> ((List.range r).foldl (fun a k => a.put (some (ds.getD k 0)) (.pointer (some ⟨γ k, 0, none⟩))) A).tmps[ds.getD k 0]? = some (.pointer (some ⟨γ k, 0, none⟩))) := by
        intro r
        induction r with
        | zero => intro _; exact ⟨rfl, rfl, fun _ _ => rfl, fun k hk => by omega⟩
        | succ r ih =>
          intro hr
          obtain ⟨f1, f2, f3, f4⟩ := ih (by omega)
          have hdr : ds.getD r 0 ∈ ds := by
            rw [List.getD_eq_getElem?_getD, List.getElem?_eq_getElem (by omega)]
            exact List.getElem_mem _
          rw [List.range_succ, List.foldl_append]
          obtain ⟨B, eB⟩ : ∃ B, (List.range r).foldl (fun a k => a.put (some (ds.getD k 0)) (.pointer (some ⟨γ k, 0, none⟩))) A = B := ⟨_, rfl⟩
          rw [eB] at f1 f2 f3 f4 ⊢
          simp only [List.foldl_cons, List.foldl_nil]
          refine ⟨by simp [Act.put, f1], by simp [Act.put, f2], fun t ht => ?_, fun k hk => ?_⟩
          · simp only [Act.put, Array.getElem?_setIfInBounds_ne (Ne.symm (ht r (by omega)))]
            exact f3 t fun k hk => ht k (by omega)
          · by_cases hkr : k = r
            · subst hkr
              simp only [Act.put]
              exact getE_set_self (by rw [f1]; exact hdA _ hdr) _
            · have hne : ds.getD r 0 ≠ ds.getD k 0 := fun e => by
                rw [List.getD_eq_getElem?_getD, List.getD_eq_getElem?_getD, List.getElem?_eq_getElem (by omega), List.getElem?_eq_getElem (by omega)] at e
                simp only [Option.getD_some] at e
                exact List.pairwise_iff_getElem.1 hnd k r (by omega) (by omega) (by omega) e.symm
              simp only [Act.put, Array.getElem?_setIfInBounds_ne hne]
              exact f4 k (by omega)
      obtain ⟨f1, f2, f3, f4⟩ := fold m (Nat.le_refl _)
      obtain ⟨B, eB⟩ : ∃ B, (List.range m).foldl (fun a k => a.put (some (ds.getD k 0)) (.pointer (some ⟨γ k, 0, none⟩))) A = B := ⟨_, rfl⟩
      rw [eB] at f1 f2 f3 f4 ⊢
      obtain ⟨ts, df⟩ := a'
      obtain ⟨Ts, Df⟩ := B
      have g1 : df = Df := hm'.defers.trans f2.symm
      have g2 : ts = Ts := by
        apply Array.ext_getElem?
        intro t
        by_cases htd : t ∈ ds
        · obtain ⟨k, hk, e⟩ := List.mem_iff_getElem.1 htd
          have e' : ds.getD k 0 = t := by rw [List.getD_eq_getElem?_getD, List.getElem?_eq_getElem hk]; exact e
          have := (hnews k (by omega)).1
          rw [e'] at this
          have h4 := f4 k (by omega)
          rw [e'] at h4
          rw [this, h4]
        · rw [f3 t fun k hk e => htd (by
            rw [e, List.getD_eq_getElem?_getD, List.getElem?_eq_getElem (by omega)]
            exact List.getElem_mem _)]
          by_cases hex : ∃ i p, qi n m i = true /\ l[i]? = some p /\ p.dst = some t
          · obtain ⟨i, p, hi, hp, hpt⟩ := hex
            have hil : i < l.length := (List.getElem?_eq_some_iff.1 hp).1
            exact hm'.done i p t hi hp hpt (hL i hil) hil
          · exact hm'.rest t (fun i p hi hp hpt => hex ⟨i, p, hi, hp, hpt⟩) htd
      rw [g1, g2]
    rw [ea]
    exact hpost w' γ hm'.still (fun k hk => ⟨(hnews k hk).2.1, by have := (hnews k hk).2.2; rwa [hall2 k hk, if_pos rfl] at this⟩) (fun k j hk hj e => hm'.inj k j hk hj (hL _ (by omega)) (hL _ (by omega)) e)
  · intro e
    have : ∃ i, qi n m i = true /\ l[i]? = some o := by
      unfold qlist at ho
      rcases List.mem_append.1 ho with ho | ho
      · obtain ⟨i, hi, e⟩ := List.mem_iff_getElem.1 ho
        have hin' : i < n := by simp at hi; omega
        exact ⟨i, by unfold qi; simp; omega, by rw [<- List.getElem?_take_of_lt hin', List.getElem?_eq_getElem hi, e]⟩
      · obtain ⟨i, hi, e⟩ := List.mem_iff_getElem.1 ho
        exact ⟨n + 2 * m + i, by unfold qi; simp, by rw [<- List.getElem?_drop, List.getElem?_eq_getElem hi, e]⟩
    obtain ⟨i, hi, hoi⟩ := this
    exact h1 i o hi hoi e
theorem region_mk1 {id : Nat} {Q : Exit -> Act -> World -> Prop} {a : Act} {w : World} {on os : Oper} (n d : Nat) (z z' : Obj) (hm : P.follows .mixedOrders = true) (hB : mkB l n 1 [d] = true) (hdB : dstB (qlist l n 1) a.tmps.size = true) (hdd : decide (d < a.tmps.size) = true)
  (hon : l[n]? = some on) (hos : l[n + 1]? = some os) (hnew : ∀ (w : World) (a : Act), (execOp a.eval on).run P w = .ok (.value (.pointer (some ⟨w.heap.size, 0, none⟩))) (w.alloc z)) (hz : ∀ w : World, (w.alloc z).heap[w.heap.size]? = some z)
  (h : ∃ A, (∀ u, Still w u -> wpQuiet P l.toArray (fun w' => ∃ z : Aft u, w' = z.u) (fun a' => a' = A) (qlist l n 1) a) /\
   (∀ u g, u.heap[g]? = some z -> ∃ u', (execOp (A.put (some d) (.pointer (some ⟨g, 0, none⟩))).eval os).run P u = .ok .skip u' /\ u'.heap[g]? = some z' /\ Fr (fun i => i = g) u u') /\
   ∀ (u : World) (g : Nat), Still w u -> w.heap.size <= g -> u.heap[g]? = some z' -> Q .normal (A.put (some d) (.pointer (some ⟨g, 0, none⟩))) u) :
  (Code.region id l.toArray true).wp P Q a w := by
 obtain ⟨A, h1, h2, h3⟩ := h
 refine region_mk n 1 [d] (fun _ => z) (fun _ => z') hm hB hdB (by simpa using hdd) (fun k o hk ho => ?_) (fun _ w _ => hz w) ⟨A, h1, fun k o hk ho => ?_, fun u γ hs hk _ => ?_⟩
 ·obtain rfl : k = 0 := by omega
  obtain rfl : on = o := Option.some.inj (hon.symm.trans ho)
  exact hnew
 ·obtain rfl : k = 0 := by omega
  obtain rfl : os = o := Option.some.inj (hos.symm.trans ho)
  exact h2
 ·exact h3 u (γ 0) hs (hk 0 (by omega)).1 (hk 0 (by omega)).2
end
end Go.Proofs.YtmkcoigblnppgaaGreatDoor
set_option maxRecDepth 100000
namespace Go.Proofs.YtmkcoigblnppgaaGreatDoor
open Go
def pureB : Op -> Bool
 | .move _ => true
 | .extract _ _ => true
 | _ => false
theorem pure_run {P : Program} {o : Oper} (h : pureB o.op = true) (ρ : Operand -> Value) {w : World} {C : World -> Prop} {v : Value} (hq : Oper.quietUpon P C w v ((execOp ρ o).run P w)) (u : World) : (execOp ρ o).run P u = .ok (.value v) u := by
 cases e : o.op <;> rw [e] at h <;> try (cases h)
 ·simp only [execOp, e, Sem.run_pure, Oper.quietUpon] at hq ⊢
  rw [hq.2]
 ·rename_i t ix
  simp only [execOp, e, Instr.extract] at hq ⊢
  cases e2 : ρ t <;> simp only [e2] at hq ⊢ <;> try (exact hq.elim)
  rename_i vs
  cases e3 : vs[ix]? <;> simp [e3, Oper.quietUpon] at hq ⊢
  exact hq
def plainB : Op -> Bool
 | .load _ _ => true
 | .nilCheck _ => true
 | .fieldAddr _ _ _ => true
 | .indexAddr _ _ _ => true
 | _ => false
theorem plain_run {P : Program} {o : Oper} (h : plainB o.op = true) (ρ : Operand -> Value) {w : World} {C : World -> Prop} {v : Value} (hq : Oper.quietUpon P C w v ((execOp ρ o).run P w)) : (execOp ρ o).run P w = .ok (.value v) w := by
 have key : ∀ f args w', (execOp ρ o).run P w ≠ .ok (.enter f args) w' /\ (execOp ρ o).run P w ≠ .ok .skip w' := fun f args w' => by
  cases e : o.op <;> rw [e] at h <;> try (cases h)
  ·rename_i t a
   simp only [execOp, e, Sem.run_bind, Sem.run_pure]
   cases (Instr.loadAt t (ρ a)).run P w <;> simp [Result.andThen]
  ·rename_i a
   have hb : ∀ {α : Type} (s : Sem α) (k : α -> Sem Next) (w0 : World), (∀ x w1, (k x).run P w1 ≠ .ok (.enter f args) w' /\ (k x).run P w1 ≠ .ok .skip w') -> (s >>= k).run P w0 ≠ .ok (.enter f args) w' /\ (s >>= k).run P w0 ≠ .ok .skip w' := fun s k w0 hk => by
    rw [Sem.run_bind]
    cases s.run P w0 with
    | ok x w1 => exact hk x w1
    | halt x w1 => simp [Result.andThen]
   have hv : ∀ (x : Value) w1, (pure (Next.value x) : Sem Next).run P w1 ≠ .ok (.enter f args) w' /\ (pure (Next.value x) : Sem Next).run P w1 ≠ .ok .skip w' := fun x w1 => by simp [Sem.run_pure]
   have hp : ∀ w1, (runtimePanic RuntimeError.nilDeref : Sem Next).run P w1 ≠ .ok (.enter f args) w' /\ (runtimePanic RuntimeError.nilDeref : Sem Next).run P w1 ≠ .ok .skip w' := fun w1 => by
    simp [runtimePanic]
   cases e2 : ρ a with
   | pointer p =>
    cases p with
    | none => simp only [execOp, e, e2]; exact hp w
    | some p => simp only [execOp, e, e2]; exact hv _ w
   | func fn first captured =>
    cases fn with
    | method name =>
     simp only [execOp, e, e2]
     split
     ·exact hp w
     ·refine hb _ _ _ fun x w1 => hb _ _ _ fun y w2 => ?_
      split
      ·exact hb _ _ _ fun z w3 => hv _ w3
      ·exact hv _ w2
     ·exact hv _ w
    | _ => simp only [execOp, e, e2]; exact hv _ w
   | nilIface => simp only [execOp, e, e2]; exact hp w
   | nilFunc => simp only [execOp, e, e2]; exact hp w
   | _ => simp only [execOp, e, e2]; exact hv _ w
  ·rename_i t a k
   simp only [execOp, e, Sem.run_bind, Sem.run_pure]
   cases (Instr.fieldAt t (ρ a) k).run P w <;> simp [Result.andThen]
  ·rename_i t a k
   simp only [execOp, e, Sem.run_bind, Sem.run_pure]
   cases (Instr.indexAt t (ρ a) (ρ k)).run P w <;> simp [Result.andThen]
 generalize hr : (execOp ρ o).run P w = r at hq key ⊢
 cases r with
 | ok x w' =>
  cases x with
  | value u => obtain ⟨rfl, rfl⟩ := hq; rfl
  | skip => exact absurd rfl (key 0 #[] w').2
  | enter f args => exact absurd rfl (key f args w').1
  | _ => exact hq.elim
 | halt x w' => exact hq.elim
def edgeB (l : List Oper) (i j : Nat) : Bool := match l.toArray[i]? with | some p => p.after.any fun e => e.on == j && Region.binds .any e | none => false
def reachB (l : List Oper) (n : Nat) : Nat -> Nat -> Bool
 | 0, _ => false
 | f + 1, j => edgeB l n j || (List.range n).any fun i => edgeB l i j && reachB l n f i
theorem reach_done {l : List Oper} {n : Nat} {L : Array Bool} (h1 : ∀ j, edgeB l n j = true -> L.getD j true = true) (h2 : ∀ i j, edgeB l i j = true -> L.getD i true = true -> L.getD j true = true) : ∀ f j, reachB l n f j = true -> L.getD j true = true
 | 0, _, h => by cases h
 | f + 1, j, h => by
  unfold reachB at h
  rw [Bool.or_eq_true, List.any_eq_true] at h
  rcases h with h | ⟨i, _, h⟩
  ·exact h1 j h
  ·rw [Bool.and_eq_true] at h
   exact h2 i j h.1 (reach_done h1 h2 f i h.2)
def lateB (l : List Oper) (n q : Nat) : Bool :=
  Region.noSelect l.toArray && lowK l && decide (n + q < l.length /\ q <= 1) && goodB (l.take n) &&
  (List.range l.length).all fun j => match l.toArray[j]? with
    | some o => o.guard.isNone && (if j < n then
          o.dst.isSome && ((List.range n).all fun i => (i == j) || (match l.toArray[i]? with | some p => p.dst != o.dst | none => false)) &&
          (o.op.operands.toList.all fun x => match x with
            | .tmp t => ((List.range l.length).all fun i => decide (i < n) || (match l.toArray[i]? with | some p => p.dst != some t | none => false)) &&
                (List.range n).all fun i => match l.toArray[i]? with | some p => (p.dst != some t) || o.after.any fun e => e.on == i && Region.binds .any e | none => false
            | _ => true) &&
          (pureB o.op || (plainB o.op && reachB l (n + q) 6 j) || reachB l n 6 j)
        else
          (j == n || o.after.any fun e => e.on == j - 1 && Region.binds .any e) &&
          (match o.dst with | some t => (List.range n).all fun i => (match l.toArray[i]? with | some p => p.dst != some t | none => false) | none => true) &&
          (o.op.operands.toList.all fun x => match x with
            | .tmp t => (List.range n).all fun i => match l.toArray[i]? with | some p => (p.dst != some t) || o.after.any fun e => e.on == i && Region.binds .any e | none => false
            | _ => true))
    | none => false
section
variable {P : Program} {W : World} {l : List Oper} {n q : Nat} {A : Act}
abbrev Nrm (Q : Exit -> Act -> World -> Prop) : Exit -> Act -> World -> Prop := fun e a w => e = .normal /\ Q .normal a w
structure MidL (P : Program) (l : List Oper) (n q : Nat) (A : Act) (W : World) (Q : Exit -> Act -> World -> Prop) (L : Array Bool) (a : Act) (w : World) (k : Nat) (B : Act) : Prop where
 size : a.tmps.size = B.tmps.size
 defers : a.defers = B.defers
 agree : ∀ t, (∀ j o, j < n -> l[j]? = some o -> o.dst = some t -> L.getD j true = true) -> a.tmps[t]? = B.tmps[t]?
 keep : ∀ t, (∀ i o, n <= i -> l[i]? = some o -> o.dst ≠ some t) -> B.tmps[t]? = A.tmps[t]?
 le : n + k <= l.length
 tail : ∀ i, n <= i -> i < l.length -> L.getD i true = decide (i < n + k)
 first : 0 < k -> ∀ j o, j < n -> l[j]? = some o -> pureB o.op = false -> plainB o.op = false -> L.getD j true = true
 second : q < k -> ∀ j o, j < n -> l[j]? = some o -> pureB o.op = false -> L.getD j true = true
 zero : k = 0 -> B = A
 still : k <= q -> Still W w
 wp : 0 < k -> wpList P l.toArray (Nrm Q) (l.drop (n + k)) B w
 bsize : B.tmps.size = A.tmps.size
 closed : ∀ i j, i < l.length -> j < l.length -> edgeB l i j = true -> L.getD i true = true -> L.getD j true = true
theorem upon_sim {o : Oper} {a B : Act} {K K' : Act -> World -> Prop} {Q : Exit -> Act -> World -> Prop} {r : Result Next} (hK : ∀ v w, K (B.put o.dst v) w -> K' (a.put o.dst v) w) (hD : ∀ d w, K ({ B with defers := d :: B.defers }.put o.dst undef) w -> K' ({ a with defers := d :: a.defers }.put o.dst undef) w)
  (h : o.upon P B K (Nrm Q) r) : o.upon P a K' Q r := by
 cases r with
 | ok x w =>
  cases x with
  | value v => exact hK v w h
  | skip => exact hK undef w h
  | defer d => exact hD d w h
  | enter f args =>
   refine Calls.mono (show Calls P f args w _ from h) ?_
   intro e w2 he
   cases e with
   | returned v => exact hK v w2 he
   | panicked c => exact absurd he.1 (by simp)
   | outgrown => obtain ⟨a0, w0, h0, _⟩ := he; cases h0
  | row row args => exact Rows.mono (show Rows P row args w _ from h) fun v w2 he => hK v w2 he
  | _ => exact h.elim
 | halt x w =>
  cases x <;> first | exact h.elim | exact absurd h.1 (by simp)
theorem drop_at {j : Nat} {o : Oper} (h : l[j]? = some o) : l.drop j = o :: l.drop (j + 1) := by
 obtain ⟨hj, e⟩ := List.getElem?_eq_some_iff.1 h
 rw [<- e]
 exact List.drop_eq_getElem_cons hj
theorem any_late {Q : Exit -> Act -> World -> Prop} (hB : lateB l n q = true)
  (hS : q = 1 -> ∀ o, l[n]? = some o -> ∀ u, Still W u -> ∃ v u', (execOp A.eval o).run P u = .ok (.value v) u' /\ Still u u')
  (hop : ∀ j o, j < n -> l[j]? = some o -> ∀ w, Still W w -> ∀ t, o.dst = some t -> o.quietAt P A (fun u => Still w u) w (A.tmps.getD t undef) /\ t < A.tmps.size)
  (hT : ∀ u, Still W u -> wpList P l.toArray (Nrm Q) (l.drop n) A u) :
  ∀ (f : Nat) (L : Array Bool) (a : Act) (w : World) (k : Nat) (B : Act), L.size = l.length -> cnt L l.length = f -> MidL P l n q A W Q L a w k B -> wpAny P .any l.toArray Q f L a w
 | 0, L, a, w, k, B, hLs, hcnt, hm => by
  have hall := cnt_zero hcnt
  have hB' := hB
  unfold lateB at hB'
  simp only [Bool.and_eq_true, decide_eq_true_eq] at hB'
  obtain ⟨⟨⟨_, ⟨hnl, _⟩⟩, _⟩, _⟩ := hB'
  refine ⟨?_, ?_⟩
  ·rw [List.eq_nil_iff_forall_not_mem]
   intro j hj
   obtain ⟨hju, o, ho, _⟩ := mem_ready.1 hj
   have hjl : j < l.length := by have := (Array.getElem?_eq_some_iff.1 ho).1; simpa using this
   rw [hall j hjl] at hju
   cases hju
  ·have hk : l.length <= n + k := by
    have := hm.tail (l.length - 1) (by omega) (by omega)
    rw [hall _ (by omega)] at this
    have := of_decide_eq_true this.symm
    omega
   have hw := hm.wp (by omega)
   rw [List.drop_eq_nil_of_le hk] at hw
   have e : a = B := by
    obtain ⟨ts, df⟩ := a
    obtain ⟨Ts, Df⟩ := B
    have g1 : df = Df := hm.defers
    have g2 : ts = Ts := by
     apply Array.ext_getElem?
     intro t
     exact hm.agree t fun j o hj ho _ => hall j (by omega)
    rw [g1, g2]
   rw [e]
   exact hw.2
 | f + 1, L, a, w, k, B, hLs, hcnt, hm => by
  have hB0 := hB
  unfold lateB at hB
  simp only [Bool.and_eq_true, decide_eq_true_eq] at hB
  obtain ⟨⟨⟨⟨hsel, hlow⟩, ⟨hnl, hq1⟩⟩, _⟩, hall⟩ := hB
  obtain ⟨i, hi, hun, hmin⟩ := cnt_pos (L := L) (n := l.length) (by omega)
  refine ⟨fun h0 => ?_, fun j hj => ?_⟩
  ·exfalso
   obtain ⟨o, ho⟩ : ∃ o, l.toArray[i]? = some o := ⟨_, Array.getElem?_eq_getElem (by simpa using hi)⟩
   have : i ∈ Region.ready .any l.toArray L := mem_ready.2 ⟨hun, o, ho, fun e he hb => by
    have hlt := lowK_spec hlow hi ho e he hb
    have hin : e.on < L.size := by omega
    have := hmin e.on hlt
    simp [hin] at this ⊢
    exact this⟩
   rw [h0] at this
   cases this
  ·obtain ⟨hju, o, ho, hwait⟩ := mem_ready.1 hj
   have hjl : j < l.length := by have := (Array.getElem?_eq_some_iff.1 ho).1; simpa using this
   have ho' : l[j]? = some o := by simpa using ho
   have hJ := List.all_eq_true.1 hall j (List.mem_range.2 hjl)
   simp only [ho, Bool.and_eq_true] at hJ
   obtain ⟨hg0, hJ⟩ := hJ
   have hg : o.guard = none := by simpa using hg0
   have next : ∀ (a' : Act) (w' : World) (k' : Nat) (B' : Act), MidL P l n q A W Q (L.setIfInBounds j true) a' w' k' B' -> wpAny P .any l.toArray Q f (L.setIfInBounds j true) a' w' := fun a' w' k' B' hm' =>
    any_late hB0 hS hop hT f _ a' w' k' B' (by simp [hLs]) (by have := cnt_set hju hjl; omega) hm'
   have hset : ∀ k, k ≠ j -> (L.setIfInBounds j true).getD k true = L.getD k true := fun k hk => getD_set_ne true (Ne.symm hk)
   have hself : (L.setIfInBounds j true).getD j true = true := by simp [show j < L.size by omega]
   have hcl : ∀ i j', i < l.length -> j' < l.length -> edgeB l i j' = true -> (L.setIfInBounds j true).getD i true = true -> (L.setIfInBounds j true).getD j' true = true := fun i j' hi hj' he hl => by
    by_cases e2 : j' = j
    ·rw [e2]; simp [show j < L.size by omega]
    ·rw [hset j' e2]
     by_cases e1 : i = j
     ·subst e1
      unfold edgeB at he
      simp only [ho] at he
      obtain ⟨e, he1, hb⟩ := Array.any_eq_true'.1 he
      simp only [Bool.and_eq_true, beq_iff_eq] at hb
      have := hwait e he1 hb.2
      rw [hb.1] at this
      exact getD_true_false (by omega) this
     ·rw [hset i e1] at hl
      exact hm.closed i j' hi hj' he hl
   have hmore : ∀ k, L.getD k true = true -> (L.setIfInBounds j true).getD k true = true := fun k hk => by
    by_cases e : k = j
    ·rw [e]; exact hself
    ·rw [hset k e]; exact hk
   -- what an operation waits for is done
   have hdone : ∀ i, i < l.length -> (o.after.any fun e => e.on == i && Region.binds .any e) = true -> L.getD i true = true := fun i hi h => by
    obtain ⟨e, he, hb⟩ := Array.any_eq_true'.1 h
    simp only [Bool.and_eq_true, beq_iff_eq] at hb
    have := hwait e he hb.2
    rw [hb.1] at this
    exact getD_true_false (by omega) this
   have hprod : ∀ s, ((List.range n).all fun i => match l.toArray[i]? with | some p => (p.dst != some s) || o.after.any fun e => e.on == i && Region.binds .any e | none => false) = true -> ∀ i p, i < n -> l[i]? = some p -> p.dst = some s -> L.getD i true = true := fun s h i p hi hp hps => by
    have h6 := List.all_eq_true.1 h i (List.mem_range.2 hi)
    have hp' : l.toArray[i]? = some p := by simpa using hp
    simp only [hp', Bool.or_eq_true] at h6
    rcases h6 with h6 | h6
    ·rw [hps] at h6; simp at h6
    ·exact hdone i (by omega) h6
   unfold wpOp
   simp only [ho]
   rw [if_pos (by unfold Region.wanted; rw [hg])]
   refine .inl ?_
   by_cases hjn : j < n
   ·rw [if_pos hjn] at hJ
    simp only [Bool.and_eq_true] at hJ
    obtain ⟨⟨⟨h1, h2⟩, h3⟩, h4⟩ := hJ
    obtain ⟨t, ht⟩ : ∃ t, o.dst = some t := Option.isSome_iff_exists.1 h1
    have hcong : execOp a.eval o = execOp A.eval o := execOp_congr o (fun cs b => Region.noSelect_spec hsel j o cs b ho) fun x hx => by
     cases x with
     | tmp s =>
      have h5 := List.all_eq_true.1 h3 (.tmp s) (by simpa using hx)
      simp only [Bool.and_eq_true] at h5
      refine tmps_eval ?_
      rw [hm.agree s fun i p hi hp hps => hprod s h5.2 i p hi hp hps]
      refine hm.keep s fun i p hi hp hps => ?_
      have hil : i < l.length := (List.getElem?_eq_some_iff.1 hp).1
      have h6 := List.all_eq_true.1 h5.1 i (List.mem_range.2 hil)
      have hp' : l.toArray[i]? = some p := by simpa using hp
      simp only [hp', show ¬ i < n by omega, decide_false, Bool.false_or] at h6
      rw [hps] at h6
      simp at h6
     | const v => rfl
     | global g => rfl
     | func f => rfl
    have hta := (hop j o hjn ho' W (Fr.refl _ _) t ht).2
    have hAt : A.tmps[t]? = some (A.tmps.getD t undef) := by simp [hta]
    have htail : ∀ i p, n <= i -> l[i]? = some p -> p.dst ≠ some t := fun i p hi hp hps => by
     have hil : i < l.length := (List.getElem?_eq_some_iff.1 hp).1
     have h5 := List.all_eq_true.1 hall i (List.mem_range.2 hil)
     have hp' : l.toArray[i]? = some p := by simpa using hp
     simp only [hp', Bool.and_eq_true] at h5
     have h6 := h5.2
     rw [if_neg (by omega)] at h6
     simp only [Bool.and_eq_true, hps] at h6
     have h7 := List.all_eq_true.1 h6.1.2 j (List.mem_range.2 hjn)
     simp only [ho, ht] at h7
     simp at h7
    have hagree : ∀ s, (∀ i p, i < n -> l[i]? = some p -> p.dst = some s -> (L.setIfInBounds j true).getD i true = true) -> (a.put o.dst (A.tmps.getD t undef)).tmps[s]? = B.tmps[s]? := fun s hs => by
     by_cases e : t = s
     ·subst e
      simp only [Act.put, ht]
      rw [getE_set_self (by rw [hm.size, hm.bsize]; exact hta), hm.keep t htail, hAt]
     ·simp only [Act.put, ht, Array.getElem?_setIfInBounds_ne e]
      refine hm.agree s fun i p hi hp hps => ?_
      have hij : i ≠ j := fun e2 => by
       subst e2
       rw [ho'] at hp
       obtain rfl : o = p := Option.some.inj hp
       exact e (Option.some.inj (ht.symm.trans hps))
      rw [<- hset i hij]
      exact hs i p hi hp hps
    have htl : ∀ i, n <= i -> i < l.length -> (L.setIfInBounds j true).getD i true = decide (i < n + k) := fun i hi hil => by
     rw [hset i (by omega)]
     exact hm.tail i hi hil
    by_cases hk : k = 0
    ·have hst := hm.still (by omega)
     have hBA := hm.zero hk
     have hqa := (hop j o hjn ho' w hst t ht).1
     have hq' : o.quietAt P a (fun u => Still w u) w (A.tmps.getD t undef) := by
      unfold Oper.quietAt at hqa ⊢
      rw [hcong]
      exact hqa
     refine wp_of_at hq' fun w' hw' => next _ w' k B ⟨by simp [Act.put, ht, hm.size], by simp [Act.put, ht, hm.defers], hagree, hm.keep, hm.le, htl, fun h => by omega, fun h => by omega, fun _ => hBA, fun _ => hst.trans hw', fun h => by omega, hm.bsize, hcl⟩
    ·have hrun : (execOp A.eval o).run P w = .ok (.value (A.tmps.getD t undef)) w := by
      cases e : pureB o.op with
      | true => exact pure_run e A.eval (hop j o hjn ho' W (Fr.refl _ _) t ht).1 w
      | false =>
       by_cases hkq : k <= q
       ·cases e2 : plainB o.op with
        | true => exact plain_run e2 A.eval (hop j o hjn ho' w (hm.still hkq) t ht).1
        | false => rw [hm.first (by omega) j o hjn ho' e e2] at hju; cases hju
       ·rw [hm.second (by omega) j o hjn ho' e] at hju; cases hju
     unfold Oper.wp
     rw [hcong, hrun, Oper.upon_value]
     exact next _ w k B ⟨by simp [Act.put, ht, hm.size], by simp [Act.put, ht, hm.defers], hagree, hm.keep, hm.le, htl, fun h i p hi hp h1 h2 => hmore i (hm.first h i p hi hp h1 h2), fun h i p hi hp h1 => hmore i (hm.second h i p hi hp h1), fun h => absurd h hk, hm.still, hm.wp, hm.bsize, hcl⟩
   ·rw [if_neg hjn] at hJ
    simp only [Bool.and_eq_true] at hJ
    obtain ⟨⟨h1, h2⟩, h3⟩ := hJ
    have hjk : j = n + k := by
     have h5 := hm.tail j (by omega) hjl
     rw [hju] at h5
     have h6 : ¬ j < n + k := by simpa using h5.symm
     by_cases e : j = n
     ·omega
     ·have e' : (j == n) = false := by simpa using e
      rw [e', Bool.false_or] at h1
      have h7 := hdone (j - 1) (by omega) h1
      rw [hm.tail (j - 1) (by omega) (by omega)] at h7
      have := of_decide_eq_true h7
      omega
    have hcong : execOp a.eval o = execOp B.eval o := execOp_congr o (fun cs b => Region.noSelect_spec hsel j o cs b ho) fun x hx => by
     cases x with
     | tmp s => exact tmps_eval (hm.agree s fun i p hi hp hps => hprod s (List.all_eq_true.1 h3 (.tmp s) (by simpa using hx)) i p hi hp hps)
     | const v => rfl
     | global g => rfl
     | func f => rfl
    have hw : wpList P l.toArray (Nrm Q) (o :: l.drop (n + (k + 1))) B w := by
     have e : l.drop (n + k) = o :: l.drop (n + (k + 1)) := by rw [<- hjk, drop_at ho', hjk]; rfl
     rw [<- e]
     by_cases hk : k = 0
     ·have hst := hm.still (by omega)
      have hBA := hm.zero hk
      subst hk
      rw [hBA]
      exact hT w hst
     ·exact hm.wp (by omega)
    unfold wpList at hw
    rw [if_pos (by unfold Region.wanted; rw [hg])] at hw
    have hw2 : o.upon P B (wpList P l.toArray (Nrm Q) (l.drop (n + (k + 1)))) (Nrm Q) ((execOp B.eval o).run P w) := by
     rcases hw with hw | ⟨_, a0, w0, h0, _⟩
     ·exact hw
     ·cases h0
    have hsm : ∀ i j', edgeB l i j' = true -> i < l.length /\ j' < l.length := fun i j' he => by
     unfold edgeB at he
     cases eo : l.toArray[i]? with
     | none => rw [eo] at he; cases he
     | some q =>
      have hil : i < l.length := by have := (Array.getElem?_eq_some_iff.1 eo).1; simpa using this
      simp only [eo] at he
      obtain ⟨e, he1, hb⟩ := Array.any_eq_true'.1 he
      simp only [Bool.and_eq_true, beq_iff_eq] at hb
      have := lowK_spec hlow hil eo e he1 hb.2
      exact ⟨hil, by omega⟩
    have hkind : ∀ i p, i < n -> l[i]? = some p -> (pureB p.op || (plainB p.op && reachB l (n + q) 6 i) || reachB l n 6 i) = true := fun i p hi hp => by
     have h5 := List.all_eq_true.1 hall i (List.mem_range.2 (by omega))
     have hp' : l.toArray[i]? = some p := by simpa using hp
     simp only [hp', Bool.and_eq_true] at h5
     have h6 := h5.2
     rw [if_pos hi] at h6
     simp only [Bool.and_eq_true] at h6
     exact h6.2
    have hedge : ∀ j', edgeB l j j' = true -> L.getD j' true = true := fun j' he => by
     have hj' := (hsm j j' he).2
     unfold edgeB at he
     simp only [ho] at he
     exact hdone j' hj' he
    have hreachj : ∀ i, reachB l j 6 i = true -> L.getD i true = true := fun i h7 => reach_done (n := j) hedge (fun i1 j1 he hl1 => hm.closed i1 j1 (hsm i1 j1 he).1 (hsm i1 j1 he).2 he hl1) 6 i h7
    have hreach0 : k = 0 -> ∀ i, reachB l n 6 i = true -> L.getD i true = true := fun hk i h7 => hreachj i (by rw [hjk, hk]; exact h7)
    have hreachq : k = q -> ∀ i, reachB l (n + q) 6 i = true -> L.getD i true = true := fun hk i h7 => hreachj i (by rw [hjk, hk]; exact h7)
    have step : ∀ (a1 B1 : Act) (w1 : World), a1.tmps.size = B1.tmps.size -> B1.tmps.size = A.tmps.size -> a1.defers = B1.defers -> (∀ s, (∀ i p, i < n -> l[i]? = some p -> p.dst = some s -> L.getD i true = true) -> a1.tmps[s]? = B1.tmps[s]?) -> (∀ s, (∀ i p, n <= i -> l[i]? = some p -> p.dst ≠ some s) -> B1.tmps[s]? = A.tmps[s]?) -> wpList P l.toArray (Nrm Q) (l.drop (n + (k + 1))) B1 w1 -> (k + 1 <= q -> Still W w1) -> wpAny P .any l.toArray Q f (L.setIfInBounds j true) a1 w1 := fun a1 B1 w1 g1 g2 g3 g4 g5 g6 g7 =>
     next a1 w1 (k + 1) B1 ⟨g1, g3, fun s hs => g4 s fun i p hi hp hps => by rw [<- hset i (by omega)]; exact hs i p hi hp hps, g5, by omega, fun i hi hil => by
      by_cases e : i = j
      ·rw [e, hself]; symm; simp; omega
      ·rw [hset i e, hm.tail i hi hil]
       have : (i < n + k) ↔ (i < n + (k + 1)) := by omega
       simp [this],
      fun _ i p hi hp hpp hpl => by
       rw [hset i (by omega)]
       by_cases hk : k = 0
       ·have h6 := hkind i p hi hp
        rw [hpp, hpl] at h6
        exact hreach0 hk i (by simpa using h6)
       ·exact hm.first (by omega) i p hi hp hpp hpl,
      fun hq2 i p hi hp hpp => by
       rw [hset i (by omega)]
       by_cases hk : k = q
       ·have h6 := hkind i p hi hp
        rw [hpp, Bool.false_or, Bool.or_eq_true, Bool.and_eq_true] at h6
        rcases h6 with h6 | h6
        ·exact hreachq hk i h6.2
        ·by_cases hk0 : k = 0
         ·exact hreach0 hk0 i h6
         ·refine reach_done (n := n) (fun j' he => hm.closed n j' (by omega) (hsm n j' he).2 he ?_) (fun i1 j1 he hl1 => hm.closed i1 j1 (hsm i1 j1 he).1 (hsm i1 j1 he).2 he hl1) 6 i h6
          rw [hm.tail n (by omega) (by omega)]
          simp; omega
       ·exact hm.second (by omega) i p hi hp hpp,
      fun h => by omega, g7, fun _ => g6, g2, hcl⟩
    have hd : ∀ t, o.dst = some t -> ∀ i p, i < n -> l[i]? = some p -> p.dst ≠ some t := fun t ht i p hi hp hps => by
     rw [ht] at h2
     have h5 := List.all_eq_true.1 h2 i (List.mem_range.2 hi)
     have hp' : l.toArray[i]? = some p := by simpa using hp
     simp only [hp', hps] at h5
     simp at h5
    have put : ∀ (a1 B1 : Act) (v : Value) (w1 : World), a1.tmps = a.tmps -> B1.tmps = B.tmps -> a1.defers = B1.defers -> wpList P l.toArray (Nrm Q) (l.drop (n + (k + 1))) (B1.put o.dst v) w1 -> (k + 1 <= q -> Still W w1) -> wpAny P .any l.toArray Q f (L.setIfInBounds j true) (a1.put o.dst v) w1 := fun a1 B1 v w1 e1 e2 e3 hw1 hs1 => by
     cases ht : o.dst with
     | none =>
      rw [ht] at hw1
      exact step a1 B1 w1 (by rw [e1, e2]; exact hm.size) (by rw [e2]; exact hm.bsize) e3 (fun s hs => by rw [e1, e2]; exact hm.agree s hs) (fun s hs => by rw [e2]; exact hm.keep s hs) hw1 hs1
     | some t =>
      rw [ht] at hw1
      refine step _ _ w1 (by simp [Act.put, e1, e2, hm.size]) (by simp [Act.put, e2, hm.bsize]) (by simp [Act.put, e3]) (fun s hs => ?_) (fun s hs => ?_) hw1 hs1
      ·by_cases e : t = s
       ·subst e
        simp only [Act.put, e1, e2]
        by_cases hlt : t < a.tmps.size
        ·rw [getE_set_self hlt, getE_set_self (by rw [<- hm.size]; exact hlt)]
        ·rw [Array.getElem?_eq_none (show (a.tmps.setIfInBounds t v).size <= t by rw [Array.size_setIfInBounds]; exact Nat.le_of_not_lt hlt), Array.getElem?_eq_none (show (B.tmps.setIfInBounds t v).size <= t by rw [Array.size_setIfInBounds, <- hm.size]; exact Nat.le_of_not_lt hlt)]
       ·simp only [Act.put, Array.getElem?_setIfInBounds_ne e, e1, e2]
        exact hm.agree s hs
      ·have hne : t ≠ s := fun e => hs j o (by omega) ho' (by rw [ht, e])
       simp only [Act.put, Array.getElem?_setIfInBounds_ne hne, e2]
       exact hm.keep s hs
    unfold Oper.wp
    rw [hcong]
    by_cases hk : k = 0 /\ q = 1
    ·obtain ⟨hk, hq⟩ := hk
     have hst := hm.still (by omega)
     have hBA := hm.zero hk
     obtain ⟨v, u', hrun, hsu⟩ := hS hq o (by rw [<- ho']; congr 1; omega) w hst
     rw [hBA, hrun, Oper.upon_value] at hw2
     rw [hBA, hrun, Oper.upon_value]
     exact put a A v u' rfl (by rw [hBA]) (by rw [hm.defers, hBA]) hw2 (fun _ => hst.trans hsu)
    ·exact upon_sim (fun v w1 hw1 => put a B v w1 rfl rfl hm.defers hw1 (fun h => absurd ⟨by omega, by omega⟩ hk)) (fun d w1 hw1 => put { a with defers := d :: a.defers } { B with defers := d :: B.defers } undef w1 rfl rfl (by simp [hm.defers]) hw1 (fun h => absurd ⟨by omega, by omega⟩ hk)) hw2
theorem region_laid {id : Nat} {Q : Exit -> Act -> World -> Prop} {a : Act} {w : World} (n q : Nat) (hm : P.follows .mixedOrders = true) (hB : lateB l n q = true) (hdB : dstB (l.take n) a.tmps.size = true)
  (h : ∃ A, (∀ u, Still w u -> wpQuiet P l.toArray (fun w' => ∃ z : Aft u, w' = z.u) (fun a' => a' = A) (l.take n) a) /\ (q = 1 -> ∀ o, l[n]? = some o -> ∀ u, Still w u -> ∃ v u', (execOp A.eval o).run P u = .ok (.value v) u' /\ Still u u') /\ ∀ u, Still w u -> wpList P l.toArray (Nrm Q) (l.drop n) A u) :
  (Code.region id l.toArray true).wp P Q a w := by
 obtain ⟨A, hwalk, hS, hT⟩ := h
 have hB0 := hB
 unfold lateB at hB
 simp only [Bool.and_eq_true, decide_eq_true_eq] at hB
 obtain ⟨⟨⟨⟨hsel, hlow⟩, ⟨hnl, _⟩⟩, hgood⟩, hall⟩ := hB
 have hin : ∀ o ∈ l.take n, o ∈ l.toArray := fun o ho => by simpa using List.mem_of_mem_take ho
 have hsel' : ∀ o ∈ l.toArray, ∀ cs b, o.op ≠ .select cs b := fun o ho cs b => by
  obtain ⟨i, hi, e⟩ := Array.mem_iff_getElem.1 ho
  exact Region.noSelect_spec hsel i o cs b (by rw [Array.getElem?_eq_getElem hi, e])
 have hmem : ∀ j o, j < n -> l[j]? = some o -> o ∈ l.take n := fun j o hj ho => List.mem_iff_getElem?.2 ⟨j, by rw [List.getElem?_take_of_lt hj]; exact ho⟩
 obtain ⟨⟨e1, e2, e3⟩, _⟩ := walk_each hsel' (l.take n) a hin hgood hdB (hwalk w (Fr.refl _ _))
 refine wp_region_any hm ?_
 have hst0 : Still w { w with drawn := w.drawn + 1 } := (Fr.refl _ w).drew
 have key := any_late (P := P) (W := w) (A := A) (Q := Q) hB0 hS (fun j o hj ho u hu t ht => (walk_each hsel' (l.take n) a hin hgood hdB (hwalk u hu)).2 o (hmem j o hj ho) t ht) hT l.length (Array.replicate l.length false) a { w with drawn := w.drawn + 1 } 0 A (by simp) (cnt_new (Nat.le_refl _))
  ⟨e1.symm, e2.symm, fun t ht => (e3 t fun o ho e => ?_).symm, fun _ _ => rfl, by omega, fun i hi hil => by simp [hil]; omega, fun h => by omega, fun h => by omega, fun _ => rfl, fun _ => hst0, fun h => by omega, rfl, fun i j hi _ _ hl => by simp [hi] at hl⟩
 ·simpa using key
 ·obtain ⟨j, hj, e4⟩ := List.mem_iff_getElem.1 ho
  have hjn : j < n := by simp at hj; omega
  have := ht j o hjn (by rw [<- List.getElem?_take_of_lt hjn, List.getElem?_eq_getElem hj, e4]) e
  simp [show j < l.length by omega] at this
theorem region_late {id : Nat} {Q : Exit -> Act -> World -> Prop} {a : Act} {w : World} (n : Nat) (hm : P.follows .mixedOrders = true) (hB : lateB l n 0 = true) (hdB : dstB (l.take n) a.tmps.size = true)
  (h : ∃ A, (∀ u, Still w u -> wpQuiet P l.toArray (fun w' => ∃ z : Aft u, w' = z.u) (fun a' => a' = A) (l.take n) a) /\ ∀ u, Still w u -> wpList P l.toArray (Nrm Q) (l.drop n) A u) :
  (Code.region id l.toArray true).wp P Q a w := by
 obtain ⟨A, h1, h2⟩ := h
 exact region_laid n 0 hm hB hdB ⟨A, h1, fun h => by omega, h2⟩
end
end Go.Proofs.YtmkcoigblnppgaaGreatDoor
set_option maxRecDepth 100000
namespace Go.Proofs.YtmkcoigblnppgaaGreatDoor
open Go
def lateX (l : List Oper) (n r : Nat) (xs : List Nat) : Bool :=
  Region.noSelect l.toArray && lowK l && decide (n + r < l.length) && goodB (l.take n) &&
  (List.range l.length).all fun j => match l.toArray[j]? with
    | some o => o.guard.isNone && (if j < n then
          o.dst.isSome && ((List.range n).all fun i => (i == j) || (match l.toArray[i]? with | some p => p.dst != o.dst | none => false)) &&
          (o.op.operands.toList.all fun x => match x with
            | .tmp t => ((List.range l.length).all fun i => decide (i < n) || (match l.toArray[i]? with | some p => p.dst != some t | none => false)) &&
                (List.range n).all fun i => match l.toArray[i]? with | some p => (p.dst != some t) || o.after.any fun e => e.on == i && Region.binds .any e | none => false
            | _ => true) &&
          (pureB o.op || (xs.contains j && reachB l (n + r) 6 j) || reachB l n 6 j)
        else
          (j == n || o.after.any fun e => e.on == j - 1 && Region.binds .any e) &&
          (match o.dst with | some t => (List.range n).all fun i => (match l.toArray[i]? with | some p => p.dst != some t | none => false) | none => true) &&
          (o.op.operands.toList.all fun x => match x with
            | .tmp t => (List.range n).all fun i => match l.toArray[i]? with | some p => (p.dst != some t) || o.after.any fun e => e.on == i && Region.binds .any e | none => false
            | _ => true))
    | none => false
inductive Reach (P : Program) (l : List Oper) (n : Nat) (A : Act) (W : World) : Nat -> Act -> World -> Prop
 | zero {u : World} : Still W u -> Reach P l n A W 0 A u
 | value {k : Nat} {B : Act} {u u' : World} {o : Oper} {v : Value} : Reach P l n A W k B u -> l[n + k]? = some o -> (execOp B.eval o).run P u = .ok (.value v) u' -> Reach P l n A W (k + 1) (B.put o.dst v) u'
 | skip {k : Nat} {B : Act} {u u' : World} {o : Oper} : Reach P l n A W k B u -> l[n + k]? = some o -> (execOp B.eval o).run P u = .ok .skip u' -> Reach P l n A W (k + 1) (B.put o.dst undef) u'
section
variable {P : Program} {W : World} {l : List Oper} {n r : Nat} {xs : List Nat} {A : Act}
structure MidX (P : Program) (l : List Oper) (n r : Nat) (xs : List Nat) (A : Act) (W : World) (Q : Exit -> Act -> World -> Prop) (L : Array Bool) (a : Act) (w : World) (k : Nat) (B : Act) : Prop where
 size : a.tmps.size = B.tmps.size
 defers : a.defers = B.defers
 agree : ∀ t, (∀ j o, j < n -> l[j]? = some o -> o.dst = some t -> L.getD j true = true) -> a.tmps[t]? = B.tmps[t]?
 keep : ∀ t, (∀ i o, n <= i -> l[i]? = some o -> o.dst ≠ some t) -> B.tmps[t]? = A.tmps[t]?
 le : n + k <= l.length
 tail : ∀ i, n <= i -> i < l.length -> L.getD i true = decide (i < n + k)
 first : 0 < k -> ∀ j o, j < n -> l[j]? = some o -> pureB o.op = false -> xs.contains j = false -> L.getD j true = true
 second : r < k -> ∀ j o, j < n -> l[j]? = some o -> pureB o.op = false -> L.getD j true = true
 zero : k = 0 -> Still W w /\ B = A
 reach : 0 < k -> k <= r -> Reach P l n A W k B w
 wp : 0 < k -> wpList P l.toArray (Nrm Q) (l.drop (n + k)) B w
 bsize : B.tmps.size = A.tmps.size
 closed : ∀ i j, i < l.length -> j < l.length -> edgeB l i j = true -> L.getD i true = true -> L.getD j true = true
theorem any_x {Q : Exit -> Act -> World -> Prop} (hB : lateX l n r xs = true)
  (hN : ∀ k o B u, k < r -> l[n + k]? = some o -> Reach P l n A W k B u -> (∃ v u', (execOp B.eval o).run P u = .ok (.value v) u') \/ ∃ u', (execOp B.eval o).run P u = .ok .skip u')
  (hX : ∀ j o t, j < n -> xs.contains j = true -> l[j]? = some o -> o.dst = some t -> ∀ k B u, 0 < k -> k <= r -> Reach P l n A W k B u -> (execOp A.eval o).run P u = .ok (.value (A.tmps.getD t undef)) u)
  (hop : ∀ j o, j < n -> l[j]? = some o -> ∀ w, Still W w -> ∀ t, o.dst = some t -> o.quietAt P A (fun u => Still w u) w (A.tmps.getD t undef) /\ t < A.tmps.size)
  (hT : ∀ u, Still W u -> wpList P l.toArray (Nrm Q) (l.drop n) A u) :
  ∀ (f : Nat) (L : Array Bool) (a : Act) (w : World) (k : Nat) (B : Act), L.size = l.length -> cnt L l.length = f -> MidX P l n r xs A W Q L a w k B -> wpAny P .any l.toArray Q f L a w
 | 0, L, a, w, k, B, hLs, hcnt, hm => by
  have hall := cnt_zero hcnt
  have hB' := hB
  unfold lateX at hB'
  simp only [Bool.and_eq_true, decide_eq_true_eq] at hB'
  obtain ⟨⟨⟨_, hnl⟩, _⟩, _⟩ := hB'
  refine ⟨?_, ?_⟩
  ·rw [List.eq_nil_iff_forall_not_mem]
   intro j hj
   obtain ⟨hju, o, ho, _⟩ := mem_ready.1 hj
   have hjl : j < l.length := by have := (Array.getElem?_eq_some_iff.1 ho).1; simpa using this
   rw [hall j hjl] at hju
   cases hju
  ·have hk : l.length <= n + k := by
    have := hm.tail (l.length - 1) (by omega) (by omega)
    rw [hall _ (by omega)] at this
    have := of_decide_eq_true this.symm
    omega
   have hw := hm.wp (by omega)
   rw [List.drop_eq_nil_of_le hk] at hw
   have e : a = B := by
    obtain ⟨ts, df⟩ := a
    obtain ⟨Ts, Df⟩ := B
    have g1 : df = Df := hm.defers
    have g2 : ts = Ts := by
     apply Array.ext_getElem?
     intro t
     exact hm.agree t fun j o hj ho _ => hall j (by omega)
    rw [g1, g2]
   rw [e]
   exact hw.2
 | f + 1, L, a, w, k, B, hLs, hcnt, hm => by
  have hB0 := hB
  unfold lateX at hB
  simp only [Bool.and_eq_true, decide_eq_true_eq] at hB
  obtain ⟨⟨⟨⟨hsel, hlow⟩, hnl⟩, _⟩, hall⟩ := hB
  obtain ⟨i, hi, hun, hmin⟩ := cnt_pos (L := L) (n := l.length) (by omega)
  refine ⟨fun h0 => ?_, fun j hj => ?_⟩
  ·exfalso
   obtain ⟨o, ho⟩ : ∃ o, l.toArray[i]? = some o := ⟨_, Array.getElem?_eq_getElem (by simpa using hi)⟩
   have : i ∈ Region.ready .any l.toArray L := mem_ready.2 ⟨hun, o, ho, fun e he hb => by
    have hlt := lowK_spec hlow hi ho e he hb
    have hin : e.on < L.size := by omega
    have := hmin e.on hlt
    simp [hin] at this ⊢
    exact this⟩
   rw [h0] at this
   cases this
  ·obtain ⟨hju, o, ho, hwait⟩ := mem_ready.1 hj
   have hjl : j < l.length := by have := (Array.getElem?_eq_some_iff.1 ho).1; simpa using this
   have ho' : l[j]? = some o := by simpa using ho
   have hJ := List.all_eq_true.1 hall j (List.mem_range.2 hjl)
   simp only [ho, Bool.and_eq_true] at hJ
   obtain ⟨hg0, hJ⟩ := hJ
   have hg : o.guard = none := by simpa using hg0
   have next : ∀ (a' : Act) (w' : World) (k' : Nat) (B' : Act), MidX P l n r xs A W Q (L.setIfInBounds j true) a' w' k' B' -> wpAny P .any l.toArray Q f (L.setIfInBounds j true) a' w' := fun a' w' k' B' hm' =>
    any_x hB0 hN hX hop hT f _ a' w' k' B' (by simp [hLs]) (by have := cnt_set hju hjl; omega) hm'
   have hset : ∀ k, k ≠ j -> (L.setIfInBounds j true).getD k true = L.getD k true := fun k hk => getD_set_ne true (Ne.symm hk)
   have hself : (L.setIfInBounds j true).getD j true = true := by simp [show j < L.size by omega]
   have hcl : ∀ i j', i < l.length -> j' < l.length -> edgeB l i j' = true -> (L.setIfInBounds j true).getD i true = true -> (L.setIfInBounds j true).getD j' true = true := fun i j' hi hj' he hl => by
    by_cases e2 : j' = j
    ·rw [e2]; simp [show j < L.size by omega]
    ·rw [hset j' e2]
     by_cases e1 : i = j
     ·subst e1
      unfold edgeB at he
      simp only [ho] at he
      obtain ⟨e, he1, hb⟩ := Array.any_eq_true'.1 he
      simp only [Bool.and_eq_true, beq_iff_eq] at hb
      have := hwait e he1 hb.2
      rw [hb.1] at this
      exact getD_true_false (by omega) this
     ·rw [hset i e1] at hl
      exact hm.closed i j' hi hj' he hl
   have hmore : ∀ k, L.getD k true = true -> (L.setIfInBounds j true).getD k true = true := fun k hk => by
    by_cases e : k = j
    ·rw [e]; exact hself
    ·rw [hset k e]; exact hk
   -- what an operation waits for is done
   have hdone : ∀ i, i < l.length -> (o.after.any fun e => e.on == i && Region.binds .any e) = true -> L.getD i true = true := fun i hi h => by
    obtain ⟨e, he, hb⟩ := Array.any_eq_true'.1 h
    simp only [Bool.and_eq_true, beq_iff_eq] at hb
    have := hwait e he hb.2
    rw [hb.1] at this
    exact getD_true_false (by omega) this
   have hprod : ∀ s, ((List.range n).all fun i => match l.toArray[i]? with | some p => (p.dst != some s) || o.after.any fun e => e.on == i && Region.binds .any e | none => false) = true -> ∀ i p, i < n -> l[i]? = some p -> p.dst = some s -> L.getD i true = true := fun s h i p hi hp hps => by
    have h6 := List.all_eq_true.1 h i (List.mem_range.2 hi)
    have hp' : l.toArray[i]? = some p := by simpa using hp
    simp only [hp', Bool.or_eq_true] at h6
    rcases h6 with h6 | h6
    ·rw [hps] at h6; simp at h6
    ·exact hdone i (by omega) h6
   unfold wpOp
   simp only [ho]
   rw [if_pos (by unfold Region.wanted; rw [hg])]
   refine .inl ?_
   by_cases hjn : j < n
   ·rw [if_pos hjn] at hJ
    simp only [Bool.and_eq_true] at hJ
    obtain ⟨⟨⟨h1, h2⟩, h3⟩, h4⟩ := hJ
    obtain ⟨t, ht⟩ : ∃ t, o.dst = some t := Option.isSome_iff_exists.1 h1
    have hcong : execOp a.eval o = execOp A.eval o := execOp_congr o (fun cs b => Region.noSelect_spec hsel j o cs b ho) fun x hx => by
     cases x with
     | tmp s =>
      have h5 := List.all_eq_true.1 h3 (.tmp s) (by simpa using hx)
      simp only [Bool.and_eq_true] at h5
      refine tmps_eval ?_
      rw [hm.agree s fun i p hi hp hps => hprod s h5.2 i p hi hp hps]
      refine hm.keep s fun i p hi hp hps => ?_
      have hil : i < l.length := (List.getElem?_eq_some_iff.1 hp).1
      have h6 := List.all_eq_true.1 h5.1 i (List.mem_range.2 hil)
      have hp' : l.toArray[i]? = some p := by simpa using hp
      simp only [hp', show ¬ i < n by omega, decide_false, Bool.false_or] at h6
      rw [hps] at h6
      simp at h6
     | const v => rfl
     | global g => rfl
     | func f => rfl
    have hta := (hop j o hjn ho' W (Fr.refl _ _) t ht).2
    have hAt : A.tmps[t]? = some (A.tmps.getD t undef) := by simp [hta]
    have htail : ∀ i p, n <= i -> l[i]? = some p -> p.dst ≠ some t := fun i p hi hp hps => by
     have hil : i < l.length := (List.getElem?_eq_some_iff.1 hp).1
     have h5 := List.all_eq_true.1 hall i (List.mem_range.2 hil)
     have hp' : l.toArray[i]? = some p := by simpa using hp
     simp only [hp', Bool.and_eq_true] at h5
     have h6 := h5.2
     rw [if_neg (by omega)] at h6
     simp only [Bool.and_eq_true, hps] at h6
     have h7 := List.all_eq_true.1 h6.1.2 j (List.mem_range.2 hjn)
     simp only [ho, ht] at h7
     simp at h7
    have hagree : ∀ s, (∀ i p, i < n -> l[i]? = some p -> p.dst = some s -> (L.setIfInBounds j true).getD i true = true) -> (a.put o.dst (A.tmps.getD t undef)).tmps[s]? = B.tmps[s]? := fun s hs => by
     by_cases e : t = s
     ·subst e
      simp only [Act.put, ht]
      rw [getE_set_self (by rw [hm.size, hm.bsize]; exact hta), hm.keep t htail, hAt]
     ·simp only [Act.put, ht, Array.getElem?_setIfInBounds_ne e]
      refine hm.agree s fun i p hi hp hps => ?_
      have hij : i ≠ j := fun e2 => by
       subst e2
       rw [ho'] at hp
       obtain rfl : o = p := Option.some.inj hp
       exact e (Option.some.inj (ht.symm.trans hps))
      rw [<- hset i hij]
      exact hs i p hi hp hps
    have htl : ∀ i, n <= i -> i < l.length -> (L.setIfInBounds j true).getD i true = decide (i < n + k) := fun i hi hil => by
     rw [hset i (by omega)]
     exact hm.tail i hi hil
    by_cases hk : k = 0
    ·obtain ⟨hst, hBA⟩ := hm.zero hk
     have hqa := (hop j o hjn ho' w hst t ht).1
     have hq' : o.quietAt P a (fun u => Still w u) w (A.tmps.getD t undef) := by
      unfold Oper.quietAt at hqa ⊢
      rw [hcong]
      exact hqa
     refine wp_of_at hq' fun w' hw' => next _ w' k B ⟨by simp [Act.put, ht, hm.size], by simp [Act.put, ht, hm.defers], hagree, hm.keep, hm.le, htl, fun h => by omega, fun h => by omega, fun _ => ⟨hst.trans hw', hBA⟩, fun h => by omega, fun h => by omega, hm.bsize, hcl⟩
    ·have hrun : (execOp A.eval o).run P w = .ok (.value (A.tmps.getD t undef)) w := by
      cases e : pureB o.op with
      | true => exact pure_run e A.eval (hop j o hjn ho' W (Fr.refl _ _) t ht).1 w
      | false =>
       by_cases hkq : k <= r
       ·cases e2 : xs.contains j with
        | true => exact hX j o t hjn e2 ho' ht k B w (by omega) hkq (hm.reach (by omega) hkq)
        | false => rw [hm.first (by omega) j o hjn ho' e e2] at hju; cases hju
       ·rw [hm.second (by omega) j o hjn ho' e] at hju; cases hju
     unfold Oper.wp
     rw [hcong, hrun, Oper.upon_value]
     exact next _ w k B ⟨by simp [Act.put, ht, hm.size], by simp [Act.put, ht, hm.defers], hagree, hm.keep, hm.le, htl, fun h i p hi hp h1 h2 => hmore i (hm.first h i p hi hp h1 h2), fun h i p hi hp h1 => hmore i (hm.second h i p hi hp h1), fun h => absurd h hk, hm.reach, hm.wp, hm.bsize, hcl⟩
   ·rw [if_neg hjn] at hJ
    simp only [Bool.and_eq_true] at hJ
    obtain ⟨⟨h1, h2⟩, h3⟩ := hJ
    have hjk : j = n + k := by
     have h5 := hm.tail j (by omega) hjl
     rw [hju] at h5
     have h6 : ¬ j < n + k := by simpa using h5.symm
     by_cases e : j = n
     ·omega
     ·have e' : (j == n) = false := by simpa using e
      rw [e', Bool.false_or] at h1
      have h7 := hdone (j - 1) (by omega) h1
      rw [hm.tail (j - 1) (by omega) (by omega)] at h7
      have := of_decide_eq_true h7
      omega
    have hcong : execOp a.eval o = execOp B.eval o := execOp_congr o (fun cs b => Region.noSelect_spec hsel j o cs b ho) fun x hx => by
     cases x with
     | tmp s => exact tmps_eval (hm.agree s fun i p hi hp hps => hprod s (List.all_eq_true.1 h3 (.tmp s) (by simpa using hx)) i p hi hp hps)
     | const v => rfl
     | global g => rfl
     | func f => rfl
    have hw : wpList P l.toArray (Nrm Q) (o :: l.drop (n + (k + 1))) B w := by
     have e : l.drop (n + k) = o :: l.drop (n + (k + 1)) := by rw [<- hjk, drop_at ho', hjk]; rfl
     rw [<- e]
     by_cases hk : k = 0
     ·obtain ⟨hst, hBA⟩ := hm.zero hk
      subst hk
      rw [hBA]
      exact hT w hst
     ·exact hm.wp (by omega)
    unfold wpList at hw
    rw [if_pos (by unfold Region.wanted; rw [hg])] at hw
    have hw2 : o.upon P B (wpList P l.toArray (Nrm Q) (l.drop (n + (k + 1)))) (Nrm Q) ((execOp B.eval o).run P w) := by
     rcases hw with hw | ⟨_, a0, w0, h0, _⟩
     ·exact hw
     ·cases h0
    have hsm : ∀ i j', edgeB l i j' = true -> i < l.length /\ j' < l.length := fun i j' he => by
     unfold edgeB at he
     cases eo : l.toArray[i]? with
     | none => rw [eo] at he; cases he
     | some q0 =>
      have hil : i < l.length := by have := (Array.getElem?_eq_some_iff.1 eo).1; simpa using this
      simp only [eo] at he
      obtain ⟨e, he1, hb⟩ := Array.any_eq_true'.1 he
      simp only [Bool.and_eq_true, beq_iff_eq] at hb
      have := lowK_spec hlow hil eo e he1 hb.2
      exact ⟨hil, by omega⟩
    have hkind : ∀ i p, i < n -> l[i]? = some p -> (pureB p.op || (xs.contains i && reachB l (n + r) 6 i) || reachB l n 6 i) = true := fun i p hi hp => by
     have h5 := List.all_eq_true.1 hall i (List.mem_range.2 (by omega))
     have hp' : l.toArray[i]? = some p := by simpa using hp
     simp only [hp', Bool.and_eq_true] at h5
     have h6 := h5.2
     rw [if_pos hi] at h6
     simp only [Bool.and_eq_true] at h6
     exact h6.2
    have hedge : ∀ j', edgeB l j j' = true -> L.getD j' true = true := fun j' he => by
     have hj' := (hsm j j' he).2
     unfold edgeB at he
     simp only [ho] at he
     exact hdone j' hj' he
    have hreachj : ∀ i, reachB l j 6 i = true -> L.getD i true = true := fun i h7 => reach_done (n := j) hedge (fun i1 j1 he hl1 => hm.closed i1 j1 (hsm i1 j1 he).1 (hsm i1 j1 he).2 he hl1) 6 i h7
    have hreach0 : k = 0 -> ∀ i, reachB l n 6 i = true -> L.getD i true = true := fun hk i h7 => hreachj i (by rw [hjk, hk]; exact h7)
    have hreachq : k = r -> ∀ i, reachB l (n + r) 6 i = true -> L.getD i true = true := fun hk i h7 => hreachj i (by rw [hjk, hk]; exact h7)
    have step : ∀ (a1 B1 : Act) (w1 : World), a1.tmps.size = B1.tmps.size -> B1.tmps.size = A.tmps.size -> a1.defers = B1.defers -> (∀ s, (∀ i p, i < n -> l[i]? = some p -> p.dst = some s -> L.getD i true = true) -> a1.tmps[s]? = B1.tmps[s]?) -> (∀ s, (∀ i p, n <= i -> l[i]? = some p -> p.dst ≠ some s) -> B1.tmps[s]? = A.tmps[s]?) -> wpList P l.toArray (Nrm Q) (l.drop (n + (k + 1))) B1 w1 -> (k + 1 <= r -> Reach P l n A W (k + 1) B1 w1) -> wpAny P .any l.toArray Q f (L.setIfInBounds j true) a1 w1 := fun a1 B1 w1 g1 g2 g3 g4 g5 g6 g7 =>
     next a1 w1 (k + 1) B1 ⟨g1, g3, fun s hs => g4 s fun i p hi hp hps => by rw [<- hset i (by omega)]; exact hs i p hi hp hps, g5, by omega, fun i hi hil => by
      by_cases e : i = j
      ·rw [e, hself]; symm; simp; omega
      ·rw [hset i e, hm.tail i hi hil]
       have : (i < n + k) ↔ (i < n + (k + 1)) := by omega
       simp [this],
      fun _ i p hi hp hpp hpl => by
       rw [hset i (by omega)]
       by_cases hk : k = 0
       ·have h6 := hkind i p hi hp
        rw [hpp, hpl] at h6
        exact hreach0 hk i (by simpa using h6)
       ·exact hm.first (by omega) i p hi hp hpp hpl,
      fun hq2 i p hi hp hpp => by
       rw [hset i (by omega)]
       by_cases hk : k = r
       ·have h6 := hkind i p hi hp
        rw [hpp, Bool.false_or, Bool.or_eq_true, Bool.and_eq_true] at h6
        rcases h6 with h6 | h6
        ·exact hreachq hk i h6.2
        ·by_cases hk0 : k = 0
         ·exact hreach0 hk0 i h6
         ·refine reach_done (n := n) (fun j' he => hm.closed n j' (by omega) (hsm n j' he).2 he ?_) (fun i1 j1 he hl1 => hm.closed i1 j1 (hsm i1 j1 he).1 (hsm i1 j1 he).2 he hl1) 6 i h6
          rw [hm.tail n (by omega) (by omega)]
          simp; omega
       ·exact hm.second (by omega) i p hi hp hpp,
      fun h => by omega, fun _ => g7, fun _ => g6, g2, hcl⟩
    have hd : ∀ t, o.dst = some t -> ∀ i p, i < n -> l[i]? = some p -> p.dst ≠ some t := fun t ht i p hi hp hps => by
     rw [ht] at h2
     have h5 := List.all_eq_true.1 h2 i (List.mem_range.2 hi)
     have hp' : l.toArray[i]? = some p := by simpa using hp
     simp only [hp', hps] at h5
     simp at h5
    have put : ∀ (a1 B1 : Act) (v : Value) (w1 : World), a1.tmps = a.tmps -> B1.tmps = B.tmps -> a1.defers = B1.defers -> wpList P l.toArray (Nrm Q) (l.drop (n + (k + 1))) (B1.put o.dst v) w1 -> (k + 1 <= r -> Reach P l n A W (k + 1) (B1.put o.dst v) w1) -> wpAny P .any l.toArray Q f (L.setIfInBounds j true) (a1.put o.dst v) w1 := fun a1 B1 v w1 e1 e2 e3 hw1 hs1 => by
     cases ht : o.dst with
     | none =>
      rw [ht] at hw1 hs1
      exact step a1 B1 w1 (by rw [e1, e2]; exact hm.size) (by rw [e2]; exact hm.bsize) e3 (fun s hs => by rw [e1, e2]; exact hm.agree s hs) (fun s hs => by rw [e2]; exact hm.keep s hs) hw1 hs1
     | some t =>
      rw [ht] at hw1 hs1
      refine step _ _ w1 (by simp [Act.put, e1, e2, hm.size]) (by simp [Act.put, e2, hm.bsize]) (by simp [Act.put, e3]) (fun s hs => ?_) (fun s hs => ?_) hw1 hs1
      ·by_cases e : t = s
       ·subst e
        simp only [Act.put, e1, e2]
        by_cases hlt : t < a.tmps.size
        ·rw [getE_set_self hlt, getE_set_self (by rw [<- hm.size]; exact hlt)]
        ·rw [Array.getElem?_eq_none (show (a.tmps.setIfInBounds t v).size <= t by rw [Array.size_setIfInBounds]; exact Nat.le_of_not_lt hlt), Array.getElem?_eq_none (show (B.tmps.setIfInBounds t v).size <= t by rw [Array.size_setIfInBounds, <- hm.size]; exact Nat.le_of_not_lt hlt)]
       ·simp only [Act.put, Array.getElem?_setIfInBounds_ne e, e1, e2]
        exact hm.agree s hs
      ·have hne : t ≠ s := fun e => hs j o (by omega) ho' (by rw [ht, e])
       simp only [Act.put, Array.getElem?_setIfInBounds_ne hne, e2]
       exact hm.keep s hs
    unfold Oper.wp
    rw [hcong]
    by_cases hk : k < r
    ·have hR : Reach P l n A W k B w := by
      by_cases hk0 : k = 0
      ·obtain ⟨hst, hBA⟩ := hm.zero hk0
       subst hk0
       rw [hBA]
       exact .zero hst
      ·exact hm.reach (by omega) (by omega)
     have hok : l[n + k]? = some o := by rw [<- ho', hjk]
     rcases hN k o B w hk hok hR with ⟨v, u', hrun⟩ | ⟨u', hrun⟩
     ·rw [hrun, Oper.upon_value] at hw2
      rw [hrun, Oper.upon_value]
      exact put a B v u' rfl rfl hm.defers hw2 (fun _ => .value hR hok hrun)
     ·rw [hrun, Oper.upon_skip] at hw2
      rw [hrun, Oper.upon_skip]
      exact put a B undef u' rfl rfl hm.defers hw2 (fun _ => .skip hR hok hrun)
    ·exact upon_sim (fun v w1 hw1 => put a B v w1 rfl rfl hm.defers hw1 (fun h => by omega)) (fun d w1 hw1 => put { a with defers := d :: a.defers } { B with defers := d :: B.defers } undef w1 rfl rfl (by simp [hm.defers]) hw1 (fun h => by omega)) hw2
theorem region_x {id : Nat} {Q : Exit -> Act -> World -> Prop} {a : Act} {w : World} (n r : Nat) (xs : List Nat) (hm : P.follows .mixedOrders = true) (hB : lateX l n r xs = true) (hdB : dstB (l.take n) a.tmps.size = true)
  (h : ∃ A, (∀ u, Still w u -> wpQuiet P l.toArray (fun w' => ∃ z : Aft u, w' = z.u) (fun a' => a' = A) (l.take n) a) /\ (∀ k o B u, k < r -> l[n + k]? = some o -> Reach P l n A w k B u -> (∃ v u', (execOp B.eval o).run P u = .ok (.value v) u') \/ ∃ u', (execOp B.eval o).run P u = .ok .skip u') /\
   (∀ j o t, j < n -> xs.contains j = true -> l[j]? = some o -> o.dst = some t -> ∀ k B u, 0 < k -> k <= r -> Reach P l n A w k B u -> (execOp A.eval o).run P u = .ok (.value (A.tmps.getD t undef)) u) /\ ∀ u, Still w u -> wpList P l.toArray (Nrm Q) (l.drop n) A u) :
  (Code.region id l.toArray true).wp P Q a w := by
 obtain ⟨A, hwalk, hN, hX, hT⟩ := h
 have hB0 := hB
 unfold lateX at hB
 simp only [Bool.and_eq_true, decide_eq_true_eq] at hB
 obtain ⟨⟨⟨⟨hsel, hlow⟩, hnl⟩, hgood⟩, hall⟩ := hB
 have hin : ∀ o ∈ l.take n, o ∈ l.toArray := fun o ho => by simpa using List.mem_of_mem_take ho
 have hsel' : ∀ o ∈ l.toArray, ∀ cs b, o.op ≠ .select cs b := fun o ho cs b => by
  obtain ⟨i, hi, e⟩ := Array.mem_iff_getElem.1 ho
  exact Region.noSelect_spec hsel i o cs b (by rw [Array.getElem?_eq_getElem hi, e])
 have hmem : ∀ j o, j < n -> l[j]? = some o -> o ∈ l.take n := fun j o hj ho => List.mem_iff_getElem?.2 ⟨j, by rw [List.getElem?_take_of_lt hj]; exact ho⟩
 obtain ⟨⟨e1, e2, e3⟩, _⟩ := walk_each hsel' (l.take n) a hin hgood hdB (hwalk w (Fr.refl _ _))
 refine wp_region_any hm ?_
 have hst0 : Still w { w with drawn := w.drawn + 1 } := (Fr.refl _ w).drew
 have key := any_x (P := P) (W := w) (A := A) (Q := Q) hB0 hN hX (fun j o hj ho u hu t ht => (walk_each hsel' (l.take n) a hin hgood hdB (hwalk u hu)).2 o (hmem j o hj ho) t ht) hT l.length (Array.replicate l.length false) a { w with drawn := w.drawn + 1 } 0 A (by simp) (cnt_new (Nat.le_refl _))
  ⟨e1.symm, e2.symm, fun t ht => (e3 t fun o ho e => ?_).symm, fun _ _ => rfl, by omega, fun i hi hil => by simp [hil]; omega, fun h => by omega, fun h => by omega, fun _ => ⟨hst0, rfl⟩, fun h => by omega, fun h => by omega, rfl, fun i j hi _ _ hl => by simp [hi] at hl⟩
 ·simpa using key
 ·obtain ⟨j, hj, e4⟩ := List.mem_iff_getElem.1 ho
  have hjn : j < n := by simp at hj; omega
  have := ht j o hjn (by rw [<- List.getElem?_take_of_lt hjn, List.getElem?_eq_getElem hj, e4]) e
  simp [show j < l.length by omega] at this
end
end Go.Proofs.YtmkcoigblnppgaaGreatDoor
set_option maxRecDepth 100000
namespace Go.Proofs.YtmkcoigblnppgaaGreatDoor
open Go.RowKit
open Pu Gp Ap
set_option maxHeartbeats 1000000 in
theorem cellAt_any (x y : Int) (x0 : -2147483647 <= x) (x1 : x <= 2147483647) (y0 : -2147483647 <= y) (y1 : y <= 2147483647) (w : World) :
  Calls Tryz.prog 259 #[pt x y] w fun e w' => e = .returned (.tuple #[.int .i64 (dn x), .int .i64 (dn y)]) /\ Still w w' := by
 have p := newP_pb w x y
 have e1 := dn_tdiv x
 have e2 := dn_tdiv y
 have b1 := dn_bd x0 x1
 have b2 := dn_bd y0 y1
 obtain ⟨b10, b11⟩ := b1
 obtain ⟨b20, b21⟩ := b2
 have m1 : 0 <= x % 4096 := by omega
 have m2 : x % 4096 < 4096 := by omega
 have m3 : 0 <= y % 4096 := by omega
 have m4 : y % 4096 < 4096 := by omega
 have c0 := Cl.cell p.cells.1
 have c1 := Cl.cell p.cells.2.1
 have hne := Aft.here (newP w x y)
 go_enter Tryz.func259, Tryz.ntmps259
 go_wp2_with fail
 refine region_all (by kernel_rfl) (by kernel_rfl) ?_
 repeat (go_big_quiet_step ((go_at_call 270; exact Calls.cl_same (incell_any _ _))))
 refine wpQuiet_nil ?_
 intro w3 h3
 go_wp2_with fail
 go_ret2
 exact ⟨rfl, (Still.alloc w _).trans h3⟩
set_option maxHeartbeats 2000000 in
theorem tou_in (C R a b c d : Int) (s : ByteArray) (hz : s.size <= 281474976710656) (h : okb a b c d = true) (w : World) :
    Calls Tryz.prog 267 #[ar C R s, bx a b c d] w fun e w' => e = .returned (.bool (tch (solB C R s) a b c d)) /\ Still w w' := by
  have k := okb_t h
  unfold okB at k
  obtain ⟨k0, k1, k2, k3, k4, k5, k6, k7, k8, k9⟩ := k
  have p := (newA_ab w C R s).still (Still.alloc (newA w C R s) (.cells #[.int .i64 a, .int .i64 b, .int .i64 c, .int .i64 d] 222))
  have q := newB_bb (newA w C R s) a b c d
  simp only [size_alloc] at q
  have HS0 := hid ((Still.alloc w (.cells #[.int .i64 C, .int .i64 R, .string s] 24)).trans (Still.alloc (newA w C R s) (.cells #[.int .i64 a, .int .i64 b, .int .i64 c, .int .i64 d] 222)))
  have H := hid h
  have lr := dn_mono k8
  have tb := dn_mono k9
  have bc := (dn_bd k4 k5).2
  have bd := (dn_bd k6 k7).2
  have bl := (dn_bd k0 k1).1
  have bt := (dn_bd k2 k3).1
  obtain ⟨T, eT⟩ : ∃ T, T = tch (solB C R s) a b c d := ⟨_, rfl⟩
  have HT := hid (show T = anyC (solB C R s) (dn a) (dn b) (dn c) (dn d) from eT)
  rw [<- eT]
  clear h eT
  go_enter Tryz.func267, Tryz.ntmps267
  go_wp2_with fail
  go_step3
  go_wp2_with fail
  refine (check_yes a b c d H.out _).mono ?_
  rintro e w1 ⟨rfl, h1⟩
  have p1 := p.still h1
  have q1 := q.still h1
  have HS1 := hid (HS0.out.trans h1)
  clear p q HS0 h1 H
  obtain ⟨d0, d1, d2, d3, df⟩ := q1.cells
  go_wp2_with fail
  refine (cellAt_any a b (by omega) (by omega) (by omega) (by omega) _).mono ?_
  rintro e w2 ⟨rfl, h2⟩
  have p2 := p1.still h2
  have q2 := q1.still h2
  have HS2 := hid (HS1.out.trans h2)
  clear p1 q1 HS1 h2 d0 d1 d2 d3 df
  obtain ⟨d0, d1, d2, d3, df⟩ := q2.cells
  go_wp2_with fail
  refine (cellAt_any c d (by omega) (by omega) (by omega) (by omega) _).mono ?_
  rintro e w3 ⟨rfl, h3⟩
  have p3 := p2.still h3
  have HS3 := hid (HS2.out.trans h3)
  clear p2 q2 HS2 h3 d0 d1 d2 d3 df
  clear k0 k1 k2 k3 k4 k5 k6 k7 k8 k9
  obtain ⟨l, el⟩ : ∃ l, dn a = l := ⟨_, rfl⟩
  obtain ⟨t, et⟩ : ∃ t, dn b = t := ⟨_, rfl⟩
  obtain ⟨r, er⟩ : ∃ r, dn c = r := ⟨_, rfl⟩
  obtain ⟨u, eu⟩ : ∃ u, dn d = u := ⟨_, rfl⟩
  rw [el] at lr bl HT ⊢
  rw [et] at tb bt HT ⊢
  rw [er] at lr bc HT ⊢
  rw [eu] at tb bd HT ⊢
  clear el et er eu
  go_wp2_with fail
  go_step3
  go_wp2_with fail
  go_loopw [9, 10] (fun v9 vj wr => ∃ j : Int, v9 = .bool false /\ t <= j /\ j <= u + 1 /\ vj = .int .i64 j /\ (∀ i' j', l <= i' -> i' <= r -> t <= j' -> j' < j -> solB C R s i' j' = false) /\ Still w3 wr) (fun _ vj _ => (u + 1 - intOf vj).toNat)
  case atStart => exact ⟨t, rfl, by omega, by omega, rfl, fun i' j' _ _ h1 h2 => by omega, Fr.refl _ _⟩
  case round =>
    obtain ⟨j, rfl, hj1, hj2, rfl, hfree, hs⟩ := hrel
    have HF := hid hfree
    have HS := hid hs
    have p2 := p3.still hs
    clear hfree hs
    by_cases hlt : j <= u
    · obtain ⟨c0, c1, c2, cf⟩ := p2.cells
      go_wp2_with fail
      go_loopw [9, 11] (fun v9 vi wt => ∃ i : Int, v9 = .bool false /\ l <= i /\ i <= r + 1 /\ vi = .int .i64 i /\ (∀ i', l <= i' -> i' < i -> solB C R s i' j = false) /\ Still wr wt) (fun _ vi _ => (r + 1 - intOf vi).toNat)
      case atStart => exact ⟨l, rfl, by omega, by omega, rfl, fun i' h1 h2 => by omega, Fr.refl _ _⟩
      case round =>
        obtain ⟨i, rfl, hi1, hi2, rfl, hfr, hs2⟩ := hrel
        have HF2 := hid hfr
        have HS2 := hid hs2
        obtain ⟨g0, g1, g2, gf⟩ := (p2.still hs2).cells
        clear hfr hs2 c0 c1 c2 cf
        by_cases hil : i <= r
        · go_wp2_with fail
          cases hsol : solB C R s i j with
          | true =>
            refine (solid_is C R i j s hz hsol _).mono ?_
            rintro e w4 ⟨rfl, h4⟩
            have HE := hid (show true = T by rw [HT.out]; exact (anyC_iff.2 ⟨i, j, hi1, hil, hj1, hlt, hsol⟩).symm)
            have HS4 := hid (((HS3.out.trans HS.out).trans HS2.out).trans h4)
            clear hsol h4 g0 g1 g2 gf
            go_wp2_with fail
            rw [Exit.noGoto_ret]
            go_ret
            exact ⟨ret_bool HE.out, HS4.out⟩
          | false =>
            refine (solid_is C R i j s hz hsol _).mono ?_
            rintro e w4 ⟨rfl, h4⟩
            have HS4 := hid (HS2.out.trans h4)
            have HN := hid hsol
            clear hsol h4 g0 g1 g2 gf
            go_wp2_with fail
            go_roundw
            case rel => exact ⟨i + 1, rfl, by omega, by omega, by go_num, fun i' h1 h2 => by
                by_cases e : i' = i
                · subst e; exact HN.out
                · exact HF2.out i' h1 (by omega), HS4.out⟩
            case measure => simp [intOf]; omega
        · have hi : i = r + 1 := by omega
          clear g0 g1 g2 gf
          go_wp2_with fail
          go_roundw
          case rel => exact ⟨j + 1, rfl, by omega, by omega, by go_num, fun i' j' h1 h2 h3 h4 => by
              by_cases e : j' = j
              · subst e; exact HF2.out i' h1 (by omega)
              · exact HF.out i' j' h1 h2 h3 (by omega), HS.out.trans HS2.out⟩
          case measure => simp [intOf]; omega
    · have HE := hid (show false = T by rw [HT.out]; exact (anyC_false fun i' j' h1 h2 h3 h4 => HF.out i' j' h1 h2 h3 (by omega)).symm)
      clear p2
      go_wp2_with fail
      first | rw [Exit.noGoto_ret] | skip
      go_ret
      exact ⟨ret_bool HE.out, HS3.out.trans HS.out⟩
theorem touched (C R x y r : Int) (s : ByteArray) (hz : s.size <= 281474976710656) (hok : okb (subf x r) (subf y r) (addf x r) (addf y r) = true) {t : Bool} (h : bdy (solB C R s) r x y = t) (w : World) :
  Calls Tryz.prog 267 #[ar C R s, bx (subf x r) (subf y r) (addf x r) (addf y r)] w fun e w' => e = .returned (.bool t) /\ Still w w' := by
 have k := tou_in C R (subf x r) (subf y r) (addf x r) (addf y r) s hz hok w
 rw [<- h]
 exact k
end Go.Proofs.YtmkcoigblnppgaaGreatDoor
namespace Go.Proofs.YtmkcoigblnppgaaGreatDoor
open Pu Gp Ap
def clp (n l m : Int) : Int := if n < l then l else if m < n then m else n
theorem clp_stp (n : Int) : clp n (-2048) 2048 = stp n := by
 have e1 : bnd (-2048) = -2048 := by decide
 have e2 : bnd 2048 = 2048 := by decide
 unfold clp stp clampf
 rw [e1, e2]
 unfold bnd
 repeat' split
 all_goals omega
theorem clp_r (n : Int) : clp n 0 4096 = clampf n 0 4096 := by
 have e1 : bnd 0 = 0 := by decide
 have e2 : bnd 4096 = 4096 := by decide
 unfold clp clampf
 rw [e1, e2]
 unfold bnd
 repeat' split
 all_goals omega
theorem bnd_lip {u d : Int} (h : 0 <= d) : bnd (u + d) <= bnd u + d := by
 unfold bnd
 repeat' split
 all_goals omega
theorem addf_step {x r : Int} {a d : Int} (hx : inB2 x) (a0 : -8192 <= a) (a1 : a <= 8192) (d0 : 0 <= d) (d1 : d <= 8192) (r0 : 0 <= r) (r1 : r <= 4096) :
  addf (addf x (a + d)) r <= addf (addf x a) r + d /\ addf (addf x a) r <= addf (addf x (a + d)) r /\ subf (addf x (a + d)) r <= subf (addf x a) r + d /\ subf (addf x a) r <= subf (addf x (a + d)) r := by
 have e1 := addf_small (v := a) hx (by omega) (by omega)
 have e2 := addf_small (v := a + d) hx (by omega) (by omega)
 have m1 : bnd (x + a) <= bnd (x + (a + d)) := bnd_mono (by omega)
 have m2 : bnd (x + (a + d)) <= bnd (x + a) + d := by
  have := bnd_lip (u := x + a) d0
  rw [show x + (a + d) = x + a + d by omega]
  exact this
 have er := bnd_id (n := r) (by omega) (by omega)
 unfold addf subf at *
 rw [e1, e2, er]
 obtain ⟨u, eu⟩ : ∃ u, bnd (x + a) = u := ⟨_, rfl⟩
 obtain ⟨v, ev⟩ : ∃ v, bnd (x + (a + d)) = v := ⟨_, rfl⟩
 have bu := And.intro (bnd_lo (x + a)) (bnd_hi (x + a))
 have bv := And.intro (bnd_lo (x + (a + d))) (bnd_hi (x + (a + d)))
 rw [eu] at bu m1 m2 ⊢
 rw [ev] at bv m1 m2 ⊢
 clear eu ev e1 e2
 rw [bnd_id bu.1 bu.2, bnd_id bv.1 bv.2]
 have l1 := bnd_lip (u := u + r) d0
 have l2 := bnd_lip (u := u - r) d0
 have k1 : bnd (v + r) <= bnd (u + r + d) := bnd_mono (by omega)
 have k2 : bnd (u + r) <= bnd (v + r) := bnd_mono (by omega)
 have k3 : bnd (v - r) <= bnd (u - r + d) := bnd_mono (by omega)
 have k4 : bnd (u - r) <= bnd (v - r) := bnd_mono (by omega)
 omega
theorem bdy_on {sol : Int -> Int -> Bool} {r x y x' y' : Int} (h : bdy sol r x y = false) (h1 : dn (subf x r) <= dn (subf x' r)) (h2 : dn (subf y r) <= dn (subf y' r)) (h3 : dn (addf x' r) <= dn (addf x r)) (h4 : dn (addf y' r) <= dn (addf y r)) : bdy sol r x' y' = false :=
 anyC_false fun _ _ k1 k2 k3 k4 => anyC_not h (Int.le_trans h1 k1) (Int.le_trans k2 h3) (Int.le_trans h2 k3) (Int.le_trans k4 h4)
theorem axis_right {x r : Int} {g d : Nat} (hx : inB2 x) (hg : g <= 2048) (r0 : 0 <= r) (r1 : r <= 4096) (hd : (d : Int) <= 4095 - addf (atS x 1 g) r % 4096) :
  dn (subf (atS x 1 g) r) <= dn (subf (atS x 1 (g + d)) r) /\ dn (addf (atS x 1 (g + d)) r) <= dn (addf (atS x 1 g) r) := by
 simp only [atS_one] at hd ⊢
 have h := addf_step (x := x) (r := r) (a := (g : Int)) (d := (d : Int)) hx (by omega) (by omega) (by omega) (by omega) r0 r1
 rw [show ((g + d : Nat) : Int) = (g : Int) + (d : Int) by omega]
 obtain ⟨h1, h2, h3, h4⟩ := h
 unfold dn
 omega
theorem atS_neg {x : Int} (j : Nat) : atS x (-1) j = addf x (-(j : Int)) := by unfold atS; rw [show (-1 : Int) * (j : Int) = -(j : Int) by omega]
theorem axis_left {x r : Int} {g d : Nat} (hx : inB2 x) (hg : g <= 2048) (r0 : 0 <= r) (r1 : r <= 4096) (hd : (d : Int) <= subf (atS x (-1) g) r % 4096) :
  dn (subf (atS x (-1) g) r) <= dn (subf (atS x (-1) (g + d)) r) /\ dn (addf (atS x (-1) (g + d)) r) <= dn (addf (atS x (-1) g) r) := by
 simp only [atS_neg] at hd ⊢
 have h := addf_step (x := x) (r := r) (a := -((g : Int) + (d : Int))) (d := (d : Int)) hx (by omega) (by omega) (by omega) (by omega) r0 r1
 rw [show -((g : Int) + (d : Int)) + (d : Int) = -(g : Int) by omega] at h
 rw [show -((g + d : Nat) : Int) = -((g : Int) + (d : Int)) by omega]
 obtain ⟨h1, h2, h3, h4⟩ := h
 unfold dn
 omega
theorem atS_zero {x : Int} (hx : inB2 x) (j : Nat) : atS x 0 j = x := by unfold atS; rw [Int.zero_mul, addf_zero hx]
def spv (a b c d p q : Int) : Int := if 0 < p then 4095 - c % 4096 else if p < 0 then a % 4096 else if 0 < q then 4095 - d % 4096 else b % 4096
theorem spv_in (a b c d p q : Int) : 0 <= spv a b c d p q /\ spv a b c d p q <= 4095 := by
 unfold spv
 repeat' split
 all_goals omega
def slT (sol : Int -> Int -> Bool) (r x y p q : Int) (j : Nat) : Bool := bdy sol r (atS x (sgn p) j) (atS y (sgn q) j)
theorem spare_ok {sol : Int -> Int -> Bool} {r x y p q : Int} {g d : Nat} (hx : inB2 x) (hy : inB2 y) (r0 : 0 <= r) (r1 : r <= 4096) (hg : g <= 2048) (hpq : p = 0 \/ q = 0) (hn : p ≠ 0 \/ q ≠ 0) (h : slT sol r x y p q g = false)
  (hd : (d : Int) <= spv (subf (atS x (sgn p) g) r) (subf (atS y (sgn q) g) r) (addf (atS x (sgn p) g) r) (addf (atS y (sgn q) g) r) p q) : slT sol r x y p q (g + d) = false := by
 unfold slT at *
 unfold spv at hd
 by_cases p1 : 0 < p
 ·rw [if_pos p1] at hd
  have ep : sgn p = 1 := by unfold sgn; rw [if_pos p1]
  have eq : sgn q = 0 := by unfold sgn; rw [if_neg (by omega), if_neg (by omega)]
  simp only [ep, eq, atS_zero hy] at h hd ⊢
  have k := axis_right hx hg r0 r1 hd
  exact bdy_on h k.1 (Int.le_refl _) k.2 (Int.le_refl _)
 rw [if_neg p1] at hd
 by_cases p2 : p < 0
 ·rw [if_pos p2] at hd
  have ep : sgn p = -1 := by unfold sgn; rw [if_neg p1, if_pos p2]
  have eq : sgn q = 0 := by unfold sgn; rw [if_neg (by omega), if_neg (by omega)]
  simp only [ep, eq, atS_zero hy] at h hd ⊢
  have k := axis_left hx hg r0 r1 hd
  exact bdy_on h k.1 (Int.le_refl _) k.2 (Int.le_refl _)
 rw [if_neg p2] at hd
 have ep : sgn p = 0 := by unfold sgn; rw [if_neg p1, if_neg p2]
 by_cases q1 : 0 < q
 ·rw [if_pos q1] at hd
  have eq : sgn q = 1 := by unfold sgn; rw [if_pos q1]
  simp only [ep, eq, atS_zero hx] at h hd ⊢
  have k := axis_right hy hg r0 r1 hd
  exact bdy_on h (Int.le_refl _) k.1 (Int.le_refl _) k.2
 rw [if_neg q1] at hd
 have eq : sgn q = -1 := by unfold sgn; rw [if_neg q1, if_pos (by omega)]
 simp only [ep, eq, atS_zero hx] at h hd ⊢
 have k := axis_left hy hg r0 r1 hd
 exact bdy_on h (Int.le_refl _) k.1 (Int.le_refl _) k.2
theorem part_sgn {p : Int} {n j : Nat} (hn : p = 0 \/ n = p.natAbs) (hn1 : 1 <= n) : (p * (j : Int)).tdiv (n : Int) = sgn p * (j : Int) := by
  rcases hn with rfl | rfl
  · simp [sgn]
  · have e : p = sgn p * (p.natAbs : Int) := by unfold sgn; repeat' split
                                                all_goals omega
    have e2 : p * (j : Int) = sgn p * (j : Int) * (p.natAbs : Int) := by
      rw [Int.mul_assoc, Int.mul_comm (j : Int), <- Int.mul_assoc, <- e]
    rw [e2, Int.mul_tdiv_cancel _ (by omega)]
end Go.Proofs.YtmkcoigblnppgaaGreatDoor
namespace Go.Proofs.YtmkcoigblnppgaaGreatDoor
open Go.RowKit
open Pu Gp Ap
theorem aclamp_any (n l m : Int) (h : l <= m) (w : World) : Calls Tryz.prog 251 #[.int .i64 n, .int .i64 l, .int .i64 m] w fun e w' => e = .returned (.int .i64 (clp n l m)) /\ w' = w := by
 have e : clp n l m = min (max n l) m := by
  unfold clp
  repeat' split
  all_goals omega
 rw [e]; clear e
 go_enter Tryz.func251, Tryz.ntmps251
 go_wp2
 go_ret
 exact ⟨rfl, rfl⟩
theorem astp (n : Int) (w : World) : Calls Tryz.prog 251 #[.int .i64 n, .int .i64 (-2048), .int .i64 2048] w fun e w' => e = .returned (.int .i64 (stp n)) /\ w' = w := by
 have := aclamp_any n (-2048) 2048 (by omega) w
 rw [clp_stp] at this
 exact this
theorem aclr (n : Int) (w : World) : Calls Tryz.prog 251 #[.int .i64 n, .int .i64 0, .int .i64 4096] w fun e w' => e = .returned (.int .i64 (clampf n 0 4096)) /\ w' = w := by
 have := aclamp_any n 0 4096 (by omega) w
 rw [clp_r] at this
 exact this
theorem step_any (x y : Int) (w : World) : Calls Tryz.prog 250 #[pt x y] w fun e w' => e = .returned (pt (stp x) (stp y)) /\ Still w w' := by
 obtain ⟨W, eW⟩ : ∃ W, W = (newP (newP w x y) 0 0) := ⟨_, rfl⟩
 have p0 : Pb W (w.heap.size) x y := by rw [eW]; have h := newP_pb w x y; exact (h.still (Still.alloc _ _))
 have c00 := Cl.cell p0.cells.1
 have c01 := Cl.cell p0.cells.2.1
 clear p0
 have r : Pb W (w.heap.size + 1) 0 0 := by rw [eW]; have h := newP_pb (newP w x y) 0 0; simp only [size_alloc] at h; exact h
 have HF := hid (show Still w W by rw [eW]; exact ((Still.alloc w _).trans (Still.alloc _ _)))
 have HW := hid eW
 have hne := Aft.here W
 clear eW
 have HB := hid (show w.heap.size <= w.heap.size + 1 by omega)
 go_enter Tryz.func250, Tryz.ntmps250
 go_wp2_with fail
 have e := HW.out
 simp only [newP] at e
 rw [<- e]
 clear e HW
 refine region_rest 6 (by kernel_rfl) (by kernel_rfl) ?_
 simp only [List.take_succ_cons, List.take_zero, List.drop_succ_cons, List.drop_zero]
 repeat (go_big_quiet_step ((go_at_call 251; exact Calls.cl_same (astp _ _))))
 refine wpQuiet_nil ?_
 intro w1 hs
 clear hne c00 c01
 have q := r.still hs
 obtain ⟨d0, d1, df⟩ := q.cells
 go_wp2_with fail
 (try simp only [Exit.inBlock, Exit.then])
 exact bodyPost_ret ((q.set _ _).res rfl _ rfl) rfl ⟨rfl, setP_fr (HF.out.trans hs) _ _ _ (.inr HB.out)⟩
theorem run_max4 (ts : Array TypeId) (t : TypeId) (p q : Int) (w : World) : (Builtin.max_ ts t #[.int .i64 p, .int .i64 (-p), .int .i64 q, .int .i64 (-q)]).run Tryz.prog w = .ok (.int .i64 ((max p.natAbs q.natAbs : Nat) : Int)) w := by
 have e : (Builtin.max_ ts t #[.int .i64 p, .int .i64 (-p), .int .i64 q, .int .i64 (-q)]).run Tryz.prog w = .ok (.int .i64 (if -q > (if q > (if -p > p then -p else p) then q else (if -p > p then -p else p)) then -q else (if q > (if -p > p then -p else p) then q else (if -p > p then -p else p)))) w := by
  simp [Builtin.max_, Builtin.max2]
 rw [e]
 congr 2
 repeat' split
 all_goals omega
theorem asize_any (p q : Int) (p0 : -2048 <= p) (p1 : p <= 2048) (q0 : -2048 <= q) (q1 : q <= 2048) (w : World) : Calls Tryz.prog 257 #[pt p q] w fun e w' => e = .returned (.int .i64 ((max p.natAbs q.natAbs : Nat) : Int)) /\ Still w w' := by
 have b := newP_pb w p q
 obtain ⟨c0, c1, cf⟩ := b.cells
 simp only [newP] at c0 c1 cf
 have hm := run_max4 #[3, 3, 3, 3] 3 p q
 obtain ⟨V, eV⟩ : ∃ V, ((max p.natAbs q.natAbs : Nat) : Int) = V := ⟨_, rfl⟩
 rw [eV] at hm ⊢
 clear eV
 go_enter Tryz.func257, Tryz.ntmps257
 go_wp2_with fail
 go_ret
 exact ⟨rfl, Still.alloc w _⟩
theorem wrap_q {v : Int} (h0 : -16777216 <= v) (h1 : v <= 16777216) : IntKind.i64.wrap v = v := by rw [IntKind.wrap_i64]; omega
theorem tdiv_q {v : Int} {n : Nat} (h0 : -16777216 <= v) (h1 : v <= 16777216) : -16777216 <= v.tdiv (n : Int) /\ v.tdiv (n : Int) <= 16777216 := by
 rcases Int.le_total 0 v with h | h
 ·rw [Int.tdiv_eq_ediv_of_nonneg h]
  have a : 0 <= v / (n : Int) := Int.ediv_nonneg h (by omega)
  have b : v / (n : Int) <= v := Int.ediv_le_self _ h
  omega
 ·have e : v.tdiv (n : Int) = -((-v) / (n : Int)) := by
   rw [<- Int.tdiv_eq_ediv_of_nonneg (show 0 <= -v by omega), Int.neg_tdiv]; omega
  have a : 0 <= (-v) / (n : Int) := Int.ediv_nonneg (by omega) (by omega)
  have b : (-v) / (n : Int) <= -v := Int.ediv_le_self _ (by omega)
  omega
theorem mul_q {p : Int} {k : Nat} (h0 : -2048 <= p) (h1 : p <= 2048) (hk : k <= 8192) : -16777216 <= p * (k : Int) /\ p * (k : Int) <= 16777216 := by
 have : (p * (k : Int)).natAbs <= 2048 * 8192 := by rw [Int.natAbs_mul]; exact Nat.mul_le_mul (by omega) (by omega)
 omega
set_option maxHeartbeats 1000000 in
theorem apart_any (x y p q : Int) (j n : Nat) (p0 : -2048 <= p) (p1 : p <= 2048) (q0 : -2048 <= q) (q1 : q <= 2048) (hj : j <= 8192) (hn : 1 <= n) (hn2 : n <= 2048) (w : World) :
  Calls Tryz.prog 258 #[pt x y, pt p q, .int .i64 (j : Int), .int .i64 (n : Int)] w fun e w' => e = .returned (pt (addf x ((p * (j : Int)).tdiv (n : Int))) (addf y ((q * (j : Int)).tdiv (n : Int)))) /\ Still w w' := by
 obtain ⟨W, eW⟩ : ∃ W, W = (newP (newP (newP w x y) p q) 0 0) := ⟨_, rfl⟩
 have b0 : Pb W w.heap.size x y := by rw [eW]; exact ((newP_pb w x y).still (Still.alloc _ _)).still (Still.alloc _ _)
 have b1 : Pb W (w.heap.size + 1) p q := by rw [eW]; have h := (newP_pb (newP w x y) p q).still (Still.alloc _ (.cells #[.int .i64 0, .int .i64 0] 54)); simp only [size_alloc] at h; exact h
 have r : Pb W (w.heap.size + 1 + 1) 0 0 := by rw [eW]; have h := newP_pb (newP (newP w x y) p q) 0 0; simp only [size_alloc] at h; exact h
 have HF := hid (show Still w W by rw [eW]; exact ((Still.alloc w _).trans (Still.alloc _ _)).trans (Still.alloc _ _))
 have c0 := Cl.cell b0.cells.1
 have c1 := Cl.cell b0.cells.2.1
 have c2 := Cl.cell b1.cells.1
 have c3 := Cl.cell b1.cells.2.1
 have HW := hid eW
 have hne := Aft.here W
 clear eW b0 b1
 have HB := hid (show w.heap.size <= w.heap.size + 1 + 1 by omega)
 obtain ⟨m0, m1⟩ := mul_q p0 p1 hj
 obtain ⟨m2, m3⟩ := mul_q q0 q1 hj
 obtain ⟨d0, d1⟩ := tdiv_q (n := n) m0 m1
 obtain ⟨d2, d3⟩ := tdiv_q (n := n) m2 m3
 have W1 := wrap_q d0 d1
 have W2 := wrap_q d2 d3
 have W3 := wrap_q m0 m1
 have W4 := wrap_q m2 m3
 have nz : ¬ n = 0 := by omega
 clear m0 m1 m2 m3 d0 d1 d2 d3
 go_enter Tryz.func258, Tryz.ntmps258
 go_wp2_with fail
 have e := HW.out
 simp only [newP] at e
 rw [<- e]
 clear e HW
 refine region_rest 15 (by kernel_rfl) (by kernel_rfl) ?_
 simp only [List.take_succ_cons, List.take_zero, List.drop_succ_cons, List.drop_zero]
 repeat (go_big_quiet_step ((go_at_call 220; exact Calls.cl (gadd_any _ _ _ _ _))))
 refine wpQuiet_nil ?_
 intro w1 hs
 clear hne c0 c1 c2 c3
 have q := r.still hs
 obtain ⟨d0, d1, df⟩ := q.cells
 go_wp2_with fail
 (try simp only [Exit.inBlock, Exit.then])
 exact bodyPost_ret ((q.set _ _).res rfl _ rfl) rfl ⟨rfl, setP_fr (HF.out.trans hs) _ _ _ (.inr HB.out)⟩
set_option maxHeartbeats 1000000 in
theorem aspare_any (a b c d p q : Int) (w : World) : Calls Tryz.prog 268 #[bx a b c d, pt p q] w fun e w' => e = .returned (.int .i64 (spv a b c d p q)) /\ Still w w' := by
 have A0 := Still.alloc w (.cells #[.int .i64 a, .int .i64 b, .int .i64 c, .int .i64 d] 222)
 have A1 := Still.alloc (newB w a b c d) (.cells #[.int .i64 p, .int .i64 q] 54)
 have b0 := (newB_bb w a b c d).still A1
 have b1 := newP_pb (newB w a b c d) p q
 simp only [size_alloc] at b1
 have HS0 := hid (A0.trans A1)
 clear A0 A1
 obtain ⟨c0, c1, c2, c3, cf⟩ := b0.cells
 obtain ⟨g0, g1, gf⟩ := b1.cells
 have m1 : 0 <= c % 4096 := by omega
 have m2 : c % 4096 < 4096 := by omega
 have m3 : 0 <= d % 4096 := by omega
 have m4 : d % 4096 < 4096 := by omega
 unfold spv
 by_cases h1 : 0 < p
 ·rw [if_pos h1]
  go_enter Tryz.func268, Tryz.ntmps268
  go_wp2_with (go_at_call 270; refine (incell_any _ _).mono ?_; rintro e w' ⟨he, hw⟩; rw [he, hw]; clear he hw w')
  go_ret
  exact ⟨rfl, HS0.out⟩
 rw [if_neg h1]
 by_cases h2 : p < 0
 ·rw [if_pos h2]
  go_enter Tryz.func268, Tryz.ntmps268
  go_wp2_with (go_at_call 270; refine (incell_any _ _).mono ?_; rintro e w' ⟨he, hw⟩; rw [he, hw]; clear he hw w')
  go_ret
  exact ⟨rfl, HS0.out⟩
 rw [if_neg h2]
 by_cases h3 : 0 < q
 ·rw [if_pos h3]
  go_enter Tryz.func268, Tryz.ntmps268
  go_wp2_with (go_at_call 270; refine (incell_any _ _).mono ?_; rintro e w' ⟨he, hw⟩; rw [he, hw]; clear he hw w')
  go_ret
  exact ⟨rfl, HS0.out⟩
 rw [if_neg h3]
 go_enter Tryz.func268, Tryz.ntmps268
 go_wp2_with (go_at_call 270; refine (incell_any _ _).mono ?_; rintro e w' ⟨he, hw⟩; rw [he, hw]; clear he hw w')
 go_ret
 exact ⟨rfl, HS0.out⟩
end Go.Proofs.YtmkcoigblnppgaaGreatDoor
namespace Go.Proofs.YtmkcoigblnppgaaGreatDoor
open Go.RowKit
open Pu Gp Ap
theorem around_r (x y r : Int) (h0 : 0 <= r) (h1 : r <= 4096) (w : World) : Calls Tryz.prog 191 #[pt x y, .int .i64 r] w fun e w' => e = .returned (bx (subf x r) (subf y r) (addf x r) (addf y r)) /\ Still w w' := by
 have h := around_any x y r w
 have e : clampf r 0 2147483647 = r := by
  unfold clampf
  rw [bnd_id (n := r) (by omega) (by omega), show bnd 0 = 0 by decide, show bnd 2147483647 = 2147483647 by decide]
  repeat' split
  all_goals omega
 rw [e] at h
 exact h
set_option maxHeartbeats 4000000 in
set_option maxRecDepth 100000 in
theorem slideOn_any (C R x y p q r : Int) (s : ByteArray) (hz : s.size <= 281474976710656) (hx : inB2 x) (hy : inB2 y) (r0 : 0 <= r) (r1 : r <= 4096) (p0 : -2048 <= p) (p1 : p <= 2048) (q0 : -2048 <= q) (q1 : q <= 2048) (hpq : p = 0 \/ q = 0) (n k : Nat)
    (en : max p.natAbs q.natAbs = n) (ek : go (slT (solB C R s) r x y p q) n = k) (w : World) :
    Calls Tryz.prog 252 #[ar C R s, pt x y, pt p q, .int .i64 r] w fun e w' => e = .returned (.tuple #[pt (atS x (sgn p) k) (atS y (sgn q) k), .bool (decide (k = n))]) /\ Still w w' := by
  have A0 := Still.alloc w (.cells #[.int .i64 C, .int .i64 R, .string s] 24)
  have A1 := Still.alloc (newA w C R s) (.cells #[.int .i64 x, .int .i64 y] 54)
  have A2 := Still.alloc (newP (newA w C R s) x y) (.cells #[.int .i64 p, .int .i64 q] 54)
  have A3 := Still.alloc (newP (newP (newA w C R s) x y) p q) (.cells #[.int .i64 0, .int .i64 0] 54)
  have a0 := (((newA_ab w C R s).still A1).still A2).still A3
  have b0 := ((newP_pb (newA w C R s) x y).still A2).still A3
  have c0 := (newP_pb (newP (newA w C R s) x y) p q).still A3
  have d0 := newP_pb (newP (newP (newA w C R s) x y) p q) 0 0
  simp only [size_alloc] at b0 c0 d0
  have HS0 := hid (((A0.trans A1).trans A2).trans A3)
  clear A0 A1 A2 A3
  have HB := hid (show w.heap.size <= w.heap.size + 1 /\ w.heap.size <= w.heap.size + 1 + 1 /\ w.heap.size <= w.heap.size + 1 + 1 + 1 by omega)
  have n1 : n <= 2048 := by omega
  have HE := hid (And.intro en ek)
  have HN : Hid (∀ u : World, Calls Tryz.prog 257 #[pt p q] u fun e w' => e = .returned (.int .i64 (n : Int)) /\ Still u w') := hid (fun u => by
    have h := asize_any p q p0 p1 q0 q1 u
    rw [en] at h
    exact h)
  clear en ek
  go_enter Tryz.func252, Tryz.ntmps252
  obtain ⟨g0, g1, gf⟩ := c0.cells
  go_wp2_with fail
  refine (HN.out _).mono ?_
  rintro e w1 ⟨rfl, h1⟩
  have a1 := a0.still h1
  have b1 := b0.still h1
  have c1 := c0.still h1
  have d1 := d0.still h1
  have HS1 := hid (HS0.out.trans h1)
  clear a0 b0 c0 d0 HS0 h1 g0 g1 gf HN
  have nz : n = 0 \/ 1 <= n := by omega
  have HP : Hid (∀ (g : Nat), g <= 8191 -> 1 <= n -> ∀ u : World, Calls Tryz.prog 258 #[pt x y, pt p q, .int .i64 (g : Int), .int .i64 (n : Int)] u fun e w' => e = .returned (pt (atS x (sgn p) g) (atS y (sgn q) g)) /\ Still u w') := hid (fun g hg h1 u => by
    have h := apart_any x y p q g n p0 p1 q0 q1 (by omega) h1 n1 u
    have en := HE.out.1
    rw [part_sgn (p := p) (n := n) (j := g) (by omega) h1, part_sgn (p := q) (n := n) (j := g) (by omega) h1] at h
    exact h)
  have HQ := hid (show 1 <= n -> (p ≠ 0 \/ q ≠ 0) from fun h => by have en := HE.out.1; omega)
  go_wp2_with fail
  go_loopw [11] (fun vg wr => ∃ g : Nat, g <= n + 4096 /\ vg = .int .i64 (g : Int) /\ (∀ i, 1 <= i -> i <= g -> slT (solB C R s) r x y p q i = false) /\ Ab wr w.heap.size C R s /\ Pb wr (w.heap.size + 1) x y /\ Pb wr (w.heap.size + 1 + 1) p q /\ Pb wr (w.heap.size + 1 + 1 + 1) 0 0 /\ Still w wr) (fun vg _ => n - (intOf vg).toNat)
  case atStart => exact ⟨0, by omega, rfl, fun i h1 h2 => by omega, a1, b1, c1, d1, HS1.out⟩
  case round =>
    obtain ⟨g, hg, rfl, hfree, a2, b2, c2, d2, hs⟩ := hrel
    have HF := hid hfree
    have HS2 := hid hs
    clear hfree hs a1 b1 c1 d1 HS1
    by_cases hlt : g < n
    · obtain ⟨X1, eX1⟩ : ∃ X1, atS x (sgn p) (g + 1) = X1 := ⟨_, rfl⟩
      obtain ⟨Y1, eY1⟩ : ∃ Y1, atS y (sgn q) (g + 1) = Y1 := ⟨_, rfl⟩
      have HC : Hid (∀ u : World, Calls Tryz.prog 258 #[pt x y, pt p q, .int .i64 ((g : Int) + 1), .int .i64 (n : Int)] u fun e w' => e = .returned (pt X1 Y1) /\ Still u w') := hid (fun u => by
        have h := HP.out (g + 1) (by omega) (by omega) u
        rw [eX1, eY1, show ((g + 1 : Nat) : Int) = (g : Int) + 1 by omega] at h
        exact h)
      have HT := hid (show slT (solB C R s) r x y p q (g + 1) = bdy (solB C R s) r X1 Y1 by unfold slT; rw [eX1, eY1])
      have HV := hid (show ∀ d : Nat, (d : Int) <= spv (subf X1 r) (subf Y1 r) (addf X1 r) (addf Y1 r) p q -> slT (solB C R s) r x y p q (g + 1) = false -> slT (solB C R s) r x y p q (g + 1 + d) = false from fun d hd h =>
        spare_ok hx hy r0 r1 (by omega) hpq (HQ.out (by omega)) h (by rw [eX1, eY1]; exact hd))
      have HO := hid (around_ok X1 Y1 r r0 r1)
      clear eX1 eY1
      obtain ⟨m0, m1, mf⟩ := b2.cells
      obtain ⟨g0, g1, gf⟩ := c2.cells
      go_wp2_with fail
      refine (HC.out _).mono ?_
      rintro e w3 ⟨rfl, h3⟩
      have a3 := a2.still h3
      have b3 := b2.still h3
      have c3 := c2.still h3
      have d3 := d2.still h3
      have HS3 := hid (HS2.out.trans h3)
      clear a2 b2 c2 d2 HS2 h3 m0 m1 mf g0 g1 gf HC
      go_wp2_with fail
      refine (around_r X1 Y1 r r0 r1 _).mono ?_
      rintro e w4 ⟨rfl, h4⟩
      obtain ⟨x1, e1⟩ : ∃ v, subf X1 r = v := ⟨_, rfl⟩
      obtain ⟨y1, e2⟩ : ∃ v, subf Y1 r = v := ⟨_, rfl⟩
      obtain ⟨x2, e3⟩ : ∃ v, addf X1 r = v := ⟨_, rfl⟩
      obtain ⟨y2, e4⟩ : ∃ v, addf Y1 r = v := ⟨_, rfl⟩
      have HU : Hid (∀ t, bdy (solB C R s) r X1 Y1 = t -> ∀ u : World, Calls Tryz.prog 267 #[ar C R s, bx x1 y1 x2 y2] u fun e w' => e = .returned (.bool t) /\ Still u w') := hid (fun t ht u => by
        have h := touched C R X1 Y1 r s hz HO.out ht u
        rw [e1, e2, e3, e4] at h
        exact h)
      rw [e1, e2, e3, e4] at HV ⊢
      clear e1 e2 e3 e4 HO
      have A4 := Still.alloc w4 (.cells #[.int .i64 x1, .int .i64 y1, .int .i64 x2, .int .i64 y2] 222)
      have a4 := (a3.still h4).still A4
      have b4 := (b3.still h4).still A4
      have c4 := (c3.still h4).still A4
      have d4 := (d3.still h4).still A4
      have v4 := newB_bb w4 x1 y1 x2 y2
      have HS4 := hid ((HS3.out.trans h4).trans A4)
      clear a3 b3 c3 d3 HS3 h4 A4
      obtain ⟨i0, i1, i2, jf⟩ := a4.cells
      obtain ⟨o0, o1, o2, o3, of⟩ := v4.cells
      go_wp2_with fail
      cases hb : bdy (solB C R s) r X1 Y1 with
      | true =>
        have HK := hid (show g = k by
          rw [<- HE.out.2]
          exact (go_one (by omega) (fun i h1 h2 => HF.out i h1 h2) (fun _ => HT.out.trans hb)).symm)
        refine (HU.out true hb _).mono ?_
        rintro e w5 ⟨rfl, h5⟩
        have b5 := b4.still h5
        have c5 := c4.still h5
        have d5 := d4.still h5
        have HS5 := hid (HS4.out.trans h5)
        clear hb a4 b4 c4 d4 v4 HS4 h5 i0 i1 i2 jf o0 o1 o2 o3 of HU HV HT HF
        obtain ⟨m0, m1, mf⟩ := b5.cells
        obtain ⟨g0, g1, gf⟩ := c5.cells
        go_wp2_with fail
        refine (HP.out g (by omega) (by omega) _).mono ?_
        rintro e w6 ⟨rfl, h6⟩
        have d6 := d5.still h6
        have HS6 := hid (HS5.out.trans h6)
        clear b5 c5 d5 HS5 h6 m0 m1 mf g0 g1 gf
        obtain ⟨o0, o1, of⟩ := d6.cells
        go_wp2_with fail
        (try simp only [Exit.inBlock, Exit.then])
        exact bodyPost_ret ((d6.set _ _).rest rfl _ _ rfl rfl) rfl ⟨by rw [HK.out, decide_eq_false (show ¬ k = n by have := HK.out; omega)]; rfl, setP_fr HS6.out _ _ _ (.inr HB.out.2.2)⟩
      | false =>
        refine (HU.out false hb _).mono ?_
        rintro e w5 ⟨rfl, h5⟩
        have HT1 := hid (HT.out.trans hb)
        have a5 := a4.still h5
        have b5 := b4.still h5
        have c5 := c4.still h5
        have d5 := d4.still h5
        have v5 := v4.still h5
        have HS5 := hid (HS4.out.trans h5)
        clear hb a4 b4 c4 d4 v4 HS4 h5 i0 i1 i2 jf o0 o1 o2 o3 of HU HT
        obtain ⟨g0, g1, gf⟩ := c5.cells
        obtain ⟨o0, o1, o2, o3, of⟩ := v5.cells
        go_wp2_with fail
        refine (aspare_any x1 y1 x2 y2 p q _).mono ?_
        rintro e w6 ⟨rfl, h6⟩
        have sb := spv_in x1 y1 x2 y2 p q
        obtain ⟨d, ed⟩ : ∃ d : Nat, spv x1 y1 x2 y2 p q = (d : Int) := ⟨(spv x1 y1 x2 y2 p q).toNat, by omega⟩
        rw [ed] at sb HV ⊢
        have dl : d <= 4095 := by omega
        have a6 := a5.still h6
        have b6 := b5.still h6
        have c6 := c5.still h6
        have d6 := d5.still h6
        have HS6 := hid (HS5.out.trans h6)
        clear a5 b5 c5 d5 v5 HS5 h6 g0 g1 gf o0 o1 o2 o3 of ed sb
        go_wp2_with fail
        go_roundw
        case rel => exact ⟨g + (1 + d), by omega, by go_num, fun i h1 h2 => by
            by_cases e : i <= g
            · exact HF.out i h1 e
            · have h := HV.out (i - (g + 1)) (by omega) HT1.out
              rw [show g + 1 + (i - (g + 1)) = i by omega] at h
              exact h, a6, b6, c6, d6, HS6.out⟩
        case measure => simp [intOf]; omega
    · have HK := hid (show n = k by
        rw [<- HE.out.2]
        exact (go_one (Nat.le_refl _) (fun i h1 h2 => HF.out i h1 (by omega)) (fun h => by omega)).symm)
      obtain ⟨m0, m1, mf⟩ := b2.cells
      obtain ⟨g0, g1, gf⟩ := c2.cells
      go_wp2_with fail
      refine (gadd_any x y p q _).mono ?_
      rintro e w3 ⟨rfl, h3⟩
      have d3 := d2.still h3
      have HS3 := hid (HS2.out.trans h3)
      clear b2 c2 d2 HS2 h3 m0 m1 mf g0 g1 gf a2
      have HX := hid (show addf x p = atS x (sgn p) k /\ addf y q = atS y (sgn q) k by
        have en := HE.out.1
        have ek := HK.out
        unfold atS
        have f1 : sgn p * (k : Int) = p := by
          unfold sgn
          repeat' split
          all_goals omega
        have f2 : sgn q * (k : Int) = q := by
          unfold sgn
          repeat' split
          all_goals omega
        rw [f1, f2]
        exact ⟨rfl, rfl⟩)
      obtain ⟨o0, o1, of⟩ := d3.cells
      go_wp2_with fail
      (try simp only [Exit.inBlock, Exit.then])
      exact bodyPost_ret ((d3.set _ _).rest rfl _ _ rfl rfl) rfl ⟨by rw [<- HX.out.1, <- HX.out.2, decide_eq_true HK.out.symm]; rfl, setP_fr HS3.out _ _ _ (.inr HB.out.2.2)⟩
end Go.Proofs.YtmkcoigblnppgaaGreatDoor
namespace Go.Proofs.YtmkcoigblnppgaaGreatDoor
open Go.RowKit
open Pu Gp Ap
set_option maxHeartbeats 4000000 in
set_option maxRecDepth 100000 in
theorem slide_any (C R x y p q n : Int) (s : ByteArray) (hz : s.size <= 281474976710656) (X Y P Q r X1 Y1 X2 Y2 : Int) (k l : Nat)
  (eX : bnd x = X) (eY : bnd y = Y) (eP : stp p = P) (eQ : stp q = Q) (er : clampf n 0 4096 = r) (ek : kX (solB C R s) r X Y P = k) (eX1 : addf X (sgn P * (k : Int)) = X1) (eY1 : addf Y 0 = Y1)
  (el : kY (solB C R s) r X1 Y1 Q = l) (eX2 : addf X1 0 = X2) (eY2 : addf Y1 (sgn Q * (l : Int)) = Y2) (w : World) :
  Calls Tryz.prog 223 #[ar C R s, pt x y, pt p q, .int .i64 n] w fun e w' => e = .returned (.tuple #[pt X2 Y2, .int .i64 (side k P.natAbs l Q.natAbs)]) /\ Still w w' := by
 obtain ⟨W, eW⟩ : ∃ W, W = newP (newP (newP (newA w C R s) x y) p q) 0 0 := ⟨_, rfl⟩
 have A1 := Still.alloc (newA w C R s) (.cells #[.int .i64 x, .int .i64 y] 54)
 have A2 := Still.alloc (newP (newA w C R s) x y) (.cells #[.int .i64 p, .int .i64 q] 54)
 have A3 := Still.alloc (newP (newP (newA w C R s) x y) p q) (.cells #[.int .i64 0, .int .i64 0] 54)
 have a0 := (((newA_ab w C R s).still A1).still A2).still A3
 have b0 := ((newP_pb (newA w C R s) x y).still A2).still A3
 have c0 := (newP_pb (newP (newA w C R s) x y) p q).still A3
 have d0 := newP_pb (newP (newP (newA w C R s) x y) p q) 0 0
 have HS0 := hid ((((Still.alloc w (.cells #[.int .i64 C, .int .i64 R, .string s] 24)).trans A1).trans A2).trans A3)
 simp only [size_alloc] at b0 c0 d0
 simp only [newP, newA] at eW a0 b0 c0 d0 HS0
 rw [<- eW] at a0 b0 c0 d0 HS0
 clear A1 A2 A3
 have HN := hid (show w.heap.size ≠ w.heap.size + 1 /\ w.heap.size ≠ w.heap.size + 1 + 1 /\ w.heap.size + 1 ≠ w.heap.size + 1 + 1 /\ w.heap.size + 1 + 1 ≠ w.heap.size + 1 /\ w.heap.size + 1 + 1 + 1 ≠ w.heap.size + 1 /\ w.heap.size + 1 + 1 + 1 ≠ w.heap.size + 1 + 1 by omega)
 have HB := hid (show w.heap.size <= w.heap.size + 1 /\ w.heap.size <= w.heap.size + 1 + 1 /\ w.heap.size <= w.heap.size + 1 + 1 + 1 by omega)
 have pb := stp_in p
 have qb := stp_in q
 rw [eP] at pb
 rw [eQ] at qb
 obtain ⟨p0, p1⟩ := pb
 obtain ⟨q0, q1⟩ := qb
 have rb := clamp_r n
 rw [er] at rb
 obtain ⟨r0, r1⟩ := rb
 have hX : inB2 X := by rw [<- eX]; exact ⟨bnd_lo _, bnd_hi _⟩
 have hY : inB2 Y := by rw [<- eY]; exact ⟨bnd_lo _, bnd_hi _⟩
 have hX1 : inB2 X1 := by rw [<- eX1]; exact addf_in _ _
 have hY1 : inB2 Y1 := by rw [<- eY1]; exact addf_in _ _
 have kl : k <= P.natAbs := by rw [<- ek]; exact kX_le ..
 have ll : l <= Q.natAbs := by rw [<- el]; exact kY_le ..
 have HK : Hid (∀ u : World, Calls Tryz.prog 252 #[ar C R s, pt X Y, pt P 0, .int .i64 r] u fun e w' => e = .returned (.tuple #[pt X1 Y1, .bool (decide (k = P.natAbs))]) /\ Still u w') := hid (fun u => by
  have h := slideOn_any C R X Y P 0 r s hz hX hY r0 r1 p0 p1 (by omega) (by omega) (.inr rfl) P.natAbs k (by simp) (by rw [<- ek]; rfl) u
  rw [show atS X (sgn P) k = X1 from eX1, show atS Y (sgn 0) k = Y1 by rw [<- eY1]; unfold atS; rw [show sgn 0 = 0 by decide, Int.zero_mul]] at h
  exact h)
 have HL : Hid (∀ u : World, Calls Tryz.prog 252 #[ar C R s, pt X1 Y1, pt 0 Q, .int .i64 r] u fun e w' => e = .returned (.tuple #[pt X2 Y2, .bool (decide (l = Q.natAbs))]) /\ Still u w') := hid (fun u => by
  have h := slideOn_any C R X1 Y1 0 Q r s hz hX1 hY1 r0 r1 (by omega) (by omega) q0 q1 (.inl rfl) Q.natAbs l (by simp) (by rw [<- el]; rfl) u
  rw [show atS Y1 (sgn Q) l = Y2 from eY2, show atS X1 (sgn 0) l = X2 by rw [<- eX2]; unfold atS; rw [show sgn 0 = 0 by decide, Int.zero_mul]] at h
  exact h)
 have HC1 : Hid (∀ u : World, Calls Tryz.prog 74 #[pt x y] u fun e w' => e = .returned (pt X Y) /\ Still u w') := hid (fun u => by
  have h := gbound_any x y u
  rw [eX, eY] at h
  exact h)
 have HC2 : Hid (∀ u : World, Calls Tryz.prog 250 #[pt p q] u fun e w' => e = .returned (pt P Q) /\ Still u w') := hid (fun u => by
  have h := step_any p q u
  rw [eP, eQ] at h
  exact h)
 have HC3 : Hid (∀ u : World, Calls Tryz.prog 251 #[.int .i64 n, .int .i64 0, .int .i64 4096] u fun e w' => e = .returned (.int .i64 r) /\ w' = u) := hid (fun u => by
  have h := aclr n u
  rw [er] at h
  exact h)
 clear eX eY eP eQ er ek eX1 eY1 el eX2 eY2 hX hY hX1 hY1
 have f0 := Cl.cell b0.cells.1
 have f1 := Cl.cell b0.cells.2.1
 have f2 := Cl.cell c0.cells.1
 have f3 := Cl.cell c0.cells.2.1
 have hne := Aft.here W
 have HW := hid eW
 clear eW
 go_enter Tryz.func223, Tryz.ntmps223
 go_wp2_with fail
 have e := HW.out
 rw [<- e]
 clear e HW
 refine region_rest 6 (by kernel_rfl) (by kernel_rfl) ?_
 simp only [List.take_succ_cons, List.take_zero, List.drop_succ_cons, List.drop_zero]
 repeat (go_big_quiet_step ((first | (go_at_call 74; exact Calls.cl (HC1.out _)) | (go_at_call 250; exact Calls.cl (HC2.out _)) | (go_at_call 251; exact Calls.cl_same (HC3.out _)))))
 refine wpQuiet_nil ?_
 intro w1 h1
 clear hne f0 f1 f2 f3 HC1 HC2 HC3
 have b1 := (b0.still h1).set X Y
 have c1 := setP_pb (c0.still h1) HN.out.2.2.2.1 X Y
 have a1 := setP_ab (a0.still h1) HN.out.1 X Y
 have d1 := setP_pb (d0.still h1) HN.out.2.2.2.2.1 X Y
 have HS1 := hid (setP_fr (HS0.out.trans h1) (w.heap.size + 1) X Y (.inr HB.out.1))
 have b2 := setP_pb b1 HN.out.2.2.1 P Q
 have a2 := setP_ab a1 HN.out.2.1 P Q
 have c2 := c1.set P Q
 have d2 := setP_pb d1 HN.out.2.2.2.2.2 P Q
 have HS2 := hid (setP_fr HS1.out (w.heap.size + 1 + 1) P Q (.inr HB.out.2.1))
 obtain ⟨f0, f1, ff⟩ := (b0.still h1).cells
 obtain ⟨m0, m1, mf⟩ := c1.cells
 clear a0 b0 c0 d0 HS0 h1 a1 b1 c1 d1 HS1
 obtain ⟨g0, g1, gf⟩ := c2.cells
 obtain ⟨i0, i1, i2, jf⟩ := a2.cells
 obtain ⟨o0, o1, of⟩ := b2.cells
 have hk : (decide (k = P.natAbs) = true /\ (if k < P.natAbs then (1 : Int) else 0) = 0) \/ (decide (k = P.natAbs) = false /\ (if k < P.natAbs then (1 : Int) else 0) = 1) := by
  by_cases h : k = P.natAbs
  ·exact .inl ⟨decide_eq_true h, if_neg (by omega)⟩
  ·exact .inr ⟨decide_eq_false h, if_pos (by omega)⟩
 have hl : (decide (l = Q.natAbs) = true /\ (if l < Q.natAbs then (2 : Int) else 0) = 0) \/ (decide (l = Q.natAbs) = false /\ (if l < Q.natAbs then (2 : Int) else 0) = 2) := by
  by_cases h : l = Q.natAbs
  ·exact .inl ⟨decide_eq_true h, if_neg (by omega)⟩
  ·exact .inr ⟨decide_eq_false h, if_pos (by omega)⟩
 rcases hk with ⟨hk, sk⟩ | ⟨hk, sk⟩ <;> rcases hl with ⟨hl, sl⟩ | ⟨hl, sl⟩
 all_goals
  have HD := hid (And.intro sk sl)
  clear sk sl kl ll
  rw [hk] at HK
  rw [hl] at HL
  clear hk hl
  go_wp2_with fail
  refine (HK.out _).mono ?_
  rintro e w3 ⟨rfl, h3⟩
  have b3 := (b2.still h3).set X1 Y1
  have c3 := setP_pb (c2.still h3) HN.out.2.2.2.1 X1 Y1
  have a3 := setP_ab (a2.still h3) HN.out.1 X1 Y1
  have d3 := setP_pb (d2.still h3) HN.out.2.2.2.2.1 X1 Y1
  have HS3 := hid (setP_fr (Still.trans HS2.out h3) (w.heap.size + 1) X1 Y1 (.inr HB.out.1))
  clear f0 f1 ff m0 m1 mf g0 g1 gf i0 i1 i2 jf o0 o1 of
  obtain ⟨f0, f1, ff⟩ := (b2.still h3).cells
  clear a2 b2 c2 d2 HS2 h3
  obtain ⟨g0, g1, gf⟩ := c3.cells
  obtain ⟨i0, i1, i2, jf⟩ := a3.cells
  obtain ⟨o0, o1, of⟩ := b3.cells
  go_wp2_with fail
  refine (HL.out _).mono ?_
  rintro e w4 ⟨rfl, h4⟩
  have b4 := (b3.still h4).set X2 Y2
  have d4 := setP_pb (d3.still h4) HN.out.2.2.2.2.1 X2 Y2
  have HS4 := hid (setP_fr (Still.trans HS3.out h4) (w.heap.size + 1) X2 Y2 (.inr HB.out.1))
  clear f0 f1 ff g0 g1 gf i0 i1 i2 jf o0 o1 of
  obtain ⟨f0, f1, ff⟩ := (b3.still h4).cells
  clear a3 b3 c3 d3 HS3 h4
  obtain ⟨o0, o1, of⟩ := b4.cells
  obtain ⟨i0, i1, jf⟩ := d4.cells
  go_wp2_with fail
  (try simp only [Exit.inBlock, Exit.then])
  exact bodyPost_ret ((d4.set _ _).rest rfl _ _ rfl rfl) rfl ⟨by unfold side; rw [HD.out.1, HD.out.2]; rfl, setP_fr HS4.out _ _ _ (.inr HB.out.2.2)⟩
end Go.Proofs.YtmkcoigblnppgaaGreatDoor
namespace Go.Proofs.YtmkcoigblnppgaaGreatDoor
open Go.RowKit
open Pu Gp Ap
set_option maxHeartbeats 4000000 in
set_option maxRecDepth 100000 in
theorem ray_any (C R x y p q : Int) (s : ByteArray) (hz : s.size <= 281474976710656) (X Y P Q : Int) (n k : Nat)
    (eX : bnd x = X) (eY : bnd y = Y) (eP : stp p = P) (eQ : stp q = Q) (en : rayN P Q = n) (ek : go (rayT (solB C R s) X Y P Q n) n = k) (w : World) :
    Calls Tryz.prog 228 #[ar C R s, pt x y, pt p q] w fun e w' => e = .returned (.tuple #[pt (rp X P n k) (rp Y Q n k), .bool (decide (k < n))]) /\ Still w w' := by
  obtain ⟨W, eW⟩ : ∃ W, W = newP (newP (newP (newA w C R s) x y) p q) 0 0 := ⟨_, rfl⟩
  have A1 := Still.alloc (newA w C R s) (.cells #[.int .i64 x, .int .i64 y] 54)
  have A2 := Still.alloc (newP (newA w C R s) x y) (.cells #[.int .i64 p, .int .i64 q] 54)
  have A3 := Still.alloc (newP (newP (newA w C R s) x y) p q) (.cells #[.int .i64 0, .int .i64 0] 54)
  have a0 := (((newA_ab w C R s).still A1).still A2).still A3
  have b0 := ((newP_pb (newA w C R s) x y).still A2).still A3
  have c0 := (newP_pb (newP (newA w C R s) x y) p q).still A3
  have d0 := newP_pb (newP (newP (newA w C R s) x y) p q) 0 0
  have HS0 := hid ((((Still.alloc w (.cells #[.int .i64 C, .int .i64 R, .string s] 24)).trans A1).trans A2).trans A3)
  simp only [size_alloc] at b0 c0 d0
  simp only [newP, newA] at eW a0 b0 c0 d0 HS0
  rw [<- eW] at a0 b0 c0 d0 HS0
  clear A1 A2 A3
  have HN := hid (show w.heap.size ≠ w.heap.size + 1 /\ w.heap.size ≠ w.heap.size + 1 + 1 /\ w.heap.size + 1 ≠ w.heap.size + 1 + 1 /\ w.heap.size + 1 + 1 ≠ w.heap.size + 1 /\ w.heap.size + 1 + 1 + 1 ≠ w.heap.size + 1 /\ w.heap.size + 1 + 1 + 1 ≠ w.heap.size + 1 + 1 by omega)
  have HB := hid (show w.heap.size <= w.heap.size + 1 /\ w.heap.size <= w.heap.size + 1 + 1 /\ w.heap.size <= w.heap.size + 1 + 1 + 1 by omega)
  have pb := stp_in p
  have qb := stp_in q
  rw [eP] at pb
  rw [eQ] at qb
  obtain ⟨p0, p1⟩ := pb
  obtain ⟨q0, q1⟩ := qb
  have n1 : n <= 32 := by rw [<- en]; unfold rayN; omega
  have HC1 : Hid (∀ u : World, Calls Tryz.prog 74 #[pt x y] u fun e w' => e = .returned (pt X Y) /\ Still u w') := hid (fun u => by
    have h := gbound_any x y u
    rw [eX, eY] at h
    exact h)
  have HC2 : Hid (∀ u : World, Calls Tryz.prog 250 #[pt p q] u fun e w' => e = .returned (pt P Q) /\ Still u w') := hid (fun u => by
    have h := step_any p q u
    rw [eP, eQ] at h
    exact h)
  have HE := hid (And.intro en ek)
  have hd : (((max P.natAbs Q.natAbs : Nat) : Int) + 64 - 1) / 64 = (n : Int) := by unfold rayN at en; omega
  obtain ⟨M, eM⟩ : ∃ M : Nat, max P.natAbs Q.natAbs = M := ⟨_, rfl⟩
  have hM : M <= 2048 := by omega
  have HC3 : Hid (∀ u : World, Calls Tryz.prog 257 #[pt P Q] u fun e w' => e = .returned (.int .i64 (M : Int)) /\ Still u w') := hid (fun u => by
    have h := asize_any P Q p0 p1 q0 q1 u
    rw [eM] at h
    exact h)
  rw [eM] at hd
  clear eX eY eP eQ ek eM en
  have f0 := Cl.cell b0.cells.1
  have f1 := Cl.cell b0.cells.2.1
  have f2 := Cl.cell c0.cells.1
  have f3 := Cl.cell c0.cells.2.1
  have hne := Aft.here W
  have HW := hid eW
  clear eW
  go_enter Tryz.func228, Tryz.ntmps228
  go_wp2_with fail
  have e := HW.out
  rw [<- e]
  clear e HW
  refine region_rest 4 (by kernel_rfl) (by kernel_rfl) ?_
  simp only [List.take_succ_cons, List.take_zero, List.drop_succ_cons, List.drop_zero]
  repeat (go_big_quiet_step ((first | (go_at_call 74; exact Calls.cl (HC1.out _)) | (go_at_call 250; exact Calls.cl (HC2.out _)))))
  refine wpQuiet_nil ?_
  intro w1 h1
  clear hne f0 f1 f2 f3 HC1 HC2
  have b1 := (b0.still h1).set X Y
  have c1 := setP_pb (c0.still h1) HN.out.2.2.2.1 X Y
  have a1 := setP_ab (a0.still h1) HN.out.1 X Y
  have d1 := setP_pb (d0.still h1) HN.out.2.2.2.2.1 X Y
  have HS1 := hid (setP_fr (HS0.out.trans h1) (w.heap.size + 1) X Y (.inr HB.out.1))
  have b2 := setP_pb b1 HN.out.2.2.1 P Q
  have a2 := setP_ab a1 HN.out.2.1 P Q
  have c2 := c1.set P Q
  have d2 := setP_pb d1 HN.out.2.2.2.2.2 P Q
  have HS2 := hid (setP_fr HS1.out (w.heap.size + 1 + 1) P Q (.inr HB.out.2.1))
  obtain ⟨f0, f1, ff⟩ := (b0.still h1).cells
  obtain ⟨m0, m1, mf⟩ := c1.cells
  clear a0 b0 c0 d0 HS0 h1 a1 b1 c1 d1 HS1
  obtain ⟨g0, g1, gf⟩ := c2.cells
  go_wp2_with fail
  refine (HC3.out _).mono ?_
  rintro e w3 ⟨rfl, h3⟩
  have A3 := Still.alloc w3 (.cells #[.int .i64 X, .int .i64 Y] 54)
  have a3 := (a2.still h3).still A3
  have b3 := (b2.still h3).still A3
  have c3 := (c2.still h3).still A3
  have d3 := (d2.still h3).still A3
  have v3 := newP_pb w3 X Y
  have HS3 := hid ((Still.trans HS2.out h3).trans A3)
  have NL := hid (show w.heap.size + 1 + 1 + 1 < w3.heap.size from block_lt (d2.still h3))
  clear f0 f1 ff m0 m1 mf g0 g1 gf HC3
  obtain ⟨o0, o1, of⟩ := (b2.still h3).cells
  clear a2 b2 c2 d2 HS2 h3 A3
  have HP : Hid (∀ (g : Nat), g <= 33 -> 1 <= n -> ∀ u : World, Calls Tryz.prog 258 #[pt X Y, pt P Q, .int .i64 (g : Int), .int .i64 (n : Int)] u fun e w' => e = .returned (pt (addf X ((P * (g : Int)).tdiv (n : Int))) (addf Y ((Q * (g : Int)).tdiv (n : Int)))) /\ Still u w') := hid (fun g hg h1 u =>
    apart_any X Y P Q g n p0 p1 q0 q1 (by omega) h1 (by omega) u)
  go_wp2_with fail
  rw [hd]
  clear hd o0 o1 of
  go_loopw [10] (fun vj wr => ∃ j : Nat, 1 <= j /\ j <= n + 1 /\ vj = .int .i64 (j : Int) /\ (∀ i, 1 <= i -> i < j -> rayT (solB C R s) X Y P Q n i = false) /\ Ab wr w.heap.size C R s /\ Pb wr (w.heap.size + 1) X Y /\ Pb wr (w.heap.size + 1 + 1) P Q /\ Pb wr (w.heap.size + 1 + 1 + 1) 0 0 /\
      Pb wr w3.heap.size (rp X P n (j - 1)) (rp Y Q n (j - 1)) /\ Still w wr) (fun vj _ => n + 1 - (intOf vj).toNat)
  case atStart => exact ⟨1, by omega, by omega, rfl, fun i h1 h2 => by omega, a3, b3, c3, d3, v3, HS3.out⟩
  case round =>
    obtain ⟨j, j1, j2, rfl, hfree, a4, b4, c4, d4, v4, hs⟩ := hrel
    have HF := hid hfree
    have HS4 := hid hs
    clear hfree hs a3 b3 c3 d3 v3 HS3
    by_cases hlt : j <= n
    · obtain ⟨NX, eNX⟩ : ∃ NX, addf X ((P * (j : Int)).tdiv (n : Int)) = NX := ⟨_, rfl⟩
      obtain ⟨NY, eNY⟩ : ∃ NY, addf Y ((Q * (j : Int)).tdiv (n : Int)) = NY := ⟨_, rfl⟩
      have bX : -2147483647 <= NX /\ NX <= 2147483647 := by rw [<- eNX]; exact ⟨bnd_lo _, bnd_hi _⟩
      have bY : -2147483647 <= NY /\ NY <= 2147483647 := by rw [<- eNY]; exact ⟨bnd_lo _, bnd_hi _⟩
      have HR := hid (show rp X P n j = NX /\ rp Y Q n j = NY by
        unfold rp; rw [if_neg (by omega), if_neg (by omega)]; exact ⟨eNX, eNY⟩)
      have HA : Hid (∀ u : World, Calls Tryz.prog 258 #[pt X Y, pt P Q, .int .i64 (j : Int), .int .i64 (n : Int)] u fun e w' => e = .returned (pt NX NY) /\ Still u w') := hid (fun u => by
        have h := HP.out j (by omega) (by omega) u
        rw [eNX, eNY] at h
        exact h)
      clear eNX eNY
      obtain ⟨m0, m1, mf⟩ := b4.cells
      obtain ⟨g0, g1, gf⟩ := c4.cells
      go_wp2_with fail
      refine (HA.out _).mono ?_
      rintro e w5 ⟨rfl, h5⟩
      have A5 := Still.alloc w5 (.cells #[.int .i64 NX, .int .i64 NY] 54)
      have a5 := (a4.still h5).still A5
      have b5 := (b4.still h5).still A5
      have c5 := (c4.still h5).still A5
      have d5 := (d4.still h5).still A5
      have v5 := (v4.still h5).still A5
      have y5 := newP_pb w5 NX NY
      have HS5 := hid ((HS4.out.trans h5).trans A5)
      clear a4 b4 c4 d4 v4 HS4 h5 A5 HA m0 m1 mf g0 g1 gf
      obtain ⟨o0, o1, of⟩ := y5.cells
      go_wp2_with fail
      refine (cellAt_any NX NY bX.1 bX.2 bY.1 bY.2 _).mono ?_
      rintro e w6 ⟨rfl, h6⟩
      have a6 := a5.still h6
      have b6 := b5.still h6
      have c6 := c5.still h6
      have d6 := d5.still h6
      have v6 := v5.still h6
      have y6 := y5.still h6
      have HS6 := hid (HS5.out.trans h6)
      clear a5 b5 c5 d5 v5 y5 HS5 h6 o0 o1 of bX bY
      obtain ⟨i0, i1, i2, jf⟩ := a6.cells
      go_wp2_with fail
      cases hsol : solB C R s (dn NX) (dn NY) with
      | true =>
        have HK := hid (show j - 1 = k by
          rw [<- HE.out.2]
          refine (go_one (by omega) (fun i h1 h2 => HF.out i h1 (by omega)) (fun _ => ?_)).symm
          rw [show j - 1 + 1 = j by omega]
          unfold rayT
          rw [HR.out.1, HR.out.2]
          exact hsol)
        refine (solid_is C R (dn NX) (dn NY) s hz hsol _).mono ?_
        rintro e w7 ⟨rfl, h7⟩
        have v7 := v6.still h7
        have d7 := d6.still h7
        have HS7 := hid (HS6.out.trans h7)
        clear hsol a6 b6 c6 d6 v6 y6 HS6 h7 i0 i1 i2 jf
        obtain ⟨i0, i1, jf⟩ := v7.cells
        obtain ⟨o0, o1, of⟩ := d7.cells
        go_wp2_with fail
        (try simp only [Exit.inBlock, Exit.then])
        exact bodyPost_ret ((d7.set _ _).rest rfl _ _ rfl rfl) rfl ⟨by rw [HK.out, decide_eq_true (show k < n by have := HK.out; omega)]; rfl, setP_fr HS7.out _ _ _ (.inr HB.out.2.2)⟩
      | false =>
        have HV := hid (show rayT (solB C R s) X Y P Q n j = false by
          unfold rayT
          rw [HR.out.1, HR.out.2]
          exact hsol)
        refine (solid_is C R (dn NX) (dn NY) s hz hsol _).mono ?_
        rintro e w7 ⟨rfl, h7⟩
        have l1 : w.heap.size ≠ w3.heap.size := by have := NL.out; omega
        have l2 : w.heap.size + 1 ≠ w3.heap.size := by have := NL.out; omega
        have l3 : w.heap.size + 1 + 1 ≠ w3.heap.size := by have := NL.out; omega
        have l4 : w.heap.size + 1 + 1 + 1 ≠ w3.heap.size := by have := NL.out; omega
        have a7 := setP_ab (a6.still h7) l1 NX NY
        have b7 := setP_pb (b6.still h7) l2 NX NY
        have c7 := setP_pb (c6.still h7) l3 NX NY
        have d7 := setP_pb (d6.still h7) l4 NX NY
        have v7 := (v6.still h7).set NX NY
        have HS7 := hid (setP_fr (Still.trans HS6.out h7) w3.heap.size NX NY (.inr (by have := NL.out; omega)))
        obtain ⟨q2, q3, qf⟩ := (v6.still h7).cells
        obtain ⟨s2, s3, sf⟩ := (y6.still h7).cells
        clear hsol a6 b6 c6 d6 v6 y6 HS6 h7 i0 i1 i2 jf l1 l2 l3 l4
        go_wp2_with fail
        go_roundw
        case rel => exact ⟨j + 1, by omega, by omega, by go_num, fun i h1 h2 => by
            by_cases e : i = j
            · subst e; exact HV.out
            · exact HF.out i h1 (by omega), a7, b7, c7, d7, by
              rw [Nat.add_sub_cancel, HR.out.1, HR.out.2]; exact v7, HS7.out⟩
        case measure => simp [intOf]; omega
    · have HK := hid (show j - 1 = k by
        rw [<- HE.out.2]
        exact (go_one (by omega) (fun i h1 h2 => HF.out i h1 (by omega)) (fun h => by omega)).symm)
      obtain ⟨i0, i1, jf⟩ := v4.cells
      obtain ⟨o0, o1, of⟩ := d4.cells
      go_wp2_with fail
      (try simp only [Exit.inBlock, Exit.then])
      exact bodyPost_ret ((d4.set _ _).rest rfl _ _ rfl rfl) rfl ⟨by rw [HK.out, decide_eq_false (show ¬ k < n by have := HK.out; omega)]; rfl, setP_fr HS4.out _ _ _ (.inr HB.out.2.2)⟩
end Go.Proofs.YtmkcoigblnppgaaGreatDoor
set_option maxRecDepth 100000
namespace Go.Proofs.YtmkcoigblnppgaaGreatDoor
open Go.RowKit
open Pu Gp Ap
def fndF (s : ByteArray) (c : Int) : Nat -> Nat -> Int
 | 0, _ => -1
 | f + 1, i => if byt s i = c then (i : Int) else fndF s c f (i + 1)
def fnd (s : ByteArray) (c : Int) (i : Nat) : Int := fndF s c (s.size - i) i
theorem fndF_spec (s : ByteArray) (c : Int) : ∀ (f i : Nat), i + f = s.size -> (fndF s c f i = -1 /\ ∀ j, i <= j -> j < s.size -> byt s j ≠ c) \/ ∃ k : Nat, fndF s c f i = (k : Int) /\ i <= k /\ k < s.size /\ byt s k = c /\ ∀ j, i <= j -> j < k -> byt s j ≠ c
 | 0, i, h => .inl ⟨rfl, fun j h1 h2 => by omega⟩
 | f + 1, i, h => by
  rw [fndF]
  by_cases hc : byt s i = c
  ·rw [if_pos hc]
   exact .inr ⟨i, rfl, Nat.le_refl _, by omega, hc, fun j h1 h2 => by omega⟩
  ·rw [if_neg hc]
   rcases fndF_spec s c f (i + 1) (by omega) with ⟨e, h1⟩ | ⟨k, e, h1, h2, h3, h4⟩
   ·refine .inl ⟨e, fun j j1 j2 => ?_⟩
    by_cases ej : j = i
    ·subst ej; exact hc
    ·exact h1 j (by omega) j2
   ·refine .inr ⟨k, e, by omega, h2, h3, fun j j1 j2 => ?_⟩
    by_cases ej : j = i
    ·subst ej; exact hc
    ·exact h4 j (by omega) j2
theorem fnd_spec (s : ByteArray) (c : Int) (i : Nat) (h : i <= s.size) : (fnd s c i = -1 /\ ∀ j, i <= j -> j < s.size -> byt s j ≠ c) \/ ∃ k : Nat, fnd s c i = (k : Int) /\ i <= k /\ k < s.size /\ byt s k = c /\ ∀ j, i <= j -> j < k -> byt s j ≠ c :=
 fndF_spec s c (s.size - i) i (by omega)
def okC (c : Int) : Bool := c == 35 || c == 46 || c == 42 || (decide (49 <= c) && decide (c <= 54))
def sgnsB (s : ByteArray) : Nat -> Bool
 | 0 => true
 | n + 1 => sgnsB s n && okC (byt s n)
theorem sgns_more {s : ByteArray} : ∀ {n m : Nat}, n <= m -> sgnsB s n = false -> sgnsB s m = false
  | n, 0, h, k => by obtain rfl : n = 0 := by omega
                     exact k
  | n, m + 1, h, k => by
    by_cases e : n = m + 1
    · subst e; exact k
    · rw [sgnsB, sgns_more (n := n) (m := m) (by omega) k]; rfl
theorem sgns_iff {s : ByteArray} : ∀ {n : Nat}, sgnsB s n = true ↔ ∀ i, i < n -> okC (byt s i) = true
 | 0 => ⟨fun _ i h => by omega, fun _ => rfl⟩
 | n + 1 => by
  rw [sgnsB, Bool.and_eq_true, sgns_iff]
  constructor
  ·rintro ⟨h1, h2⟩ i hi
   by_cases e : i = n
   ·subst e; exact h2
   ·exact h1 i (by omega)
  ·intro h
   exact ⟨fun i hi => h i (by omega), h n (by omega)⟩
end Go.Proofs.YtmkcoigblnppgaaGreatDoor
set_option maxRecDepth 100000
namespace Go.Proofs.YtmkcoigblnppgaaGreatDoor
open Go.RowKit
open Pu Gp Ap
def mnyF (s : ByteArray) : Nat -> Nat -> Nat
 | 0, n => n
 | f + 1, n => if 0 <= fnd s (49 + (n : Int)) 0 then mnyF s f (n + 1) else n
def mny (s : ByteArray) : Nat := mnyF s 6 0
end Go.Proofs.YtmkcoigblnppgaaGreatDoor
set_option maxRecDepth 100000
namespace Go.Proofs.YtmkcoigblnppgaaGreatDoor
open Go.RowKit
open Pu Gp Ap
def edgB (C R : Int) (i : Nat) : Bool := decide ((i : Int) % C = 0) || decide ((i : Int) / C = 0) || decide ((i : Int) % C = C - 1) || decide ((i : Int) / C = R - 1)
def goodC (C R : Int) (s : ByteArray) (i : Nat) : Bool := byt s i == 35 || (!edgB C R i && okC (byt s i))
def goodN (C R : Int) (s : ByteArray) : Nat -> Bool
 | 0 => true
 | n + 1 => goodN C R s n && goodC C R s n
def spoN (s : ByteArray) : Nat -> Nat
 | 0 => 0
 | n + 1 => spoN s n + if byt s n = 42 then 1 else 0
def shaB (C R : Int) (s : ByteArray) : Bool := decide (3 <= C /\ C <= 32 /\ 3 <= R /\ R <= 24 /\ (s.size : Int) = C * R)
def forB (C R : Int) (s : ByteArray) : Bool := shaB C R s && (goodN C R s s.size && decide (spoN s s.size <= 16))
theorem spo_le (s : ByteArray) : ∀ n, spoN s n <= n
 | 0 => Nat.le_refl _
 | n + 1 => by
  have := spo_le s n
  rw [spoN]
  split <;> omega
end Go.Proofs.YtmkcoigblnppgaaGreatDoor
set_option maxRecDepth 100000
namespace Go.Proofs.YtmkcoigblnppgaaGreatDoor
open Go.RowKit
open Pu Gp Ap
def rowB (I : Nat -> Bool) (n : Nat) : Array Value := ((List.range n).map fun i => Value.bool (I i)).toArray
theorem rowB_at (I : Nat -> Bool) {n i : Nat} (h : i < n) : (rowB I n)[i]? = some (.bool (I i)) := by simp [rowB, h]
theorem rowB_size (I : Nat -> Bool) (n : Nat) : (rowB I n).size = n := by simp [rowB]
def upd (I : Nat -> Bool) (k : Nat) : Nat -> Bool := fun j => if j = k then true else I j
theorem rowB_set (I : Nat -> Bool) {n k : Nat} (_h : k < n) : (rowB I n).setIfInBounds k (.bool true) = rowB (upd I k) n := by
 apply Array.ext_getElem?
 intro i
 by_cases hi : i < n
 ·rw [rowB_at _ hi]
  by_cases e : k = i
  ·subst e
   rw [Array.getElem?_setIfInBounds_self, rowB_size, if_pos hi]
   simp [upd]
  ·rw [Array.getElem?_setIfInBounds_ne e, rowB_at _ hi]
   simp [upd, show ¬ i = k from fun h => e h.symm]
 ·rw [Array.getElem?_eq_none (by rw [Array.size_setIfInBounds, rowB_size]; omega), Array.getElem?_eq_none (by rw [rowB_size]; omega)]
def Rb (w : World) (g n : Nat) (I : Nat -> Bool) : Prop := w.heap[g]? = some (.cells (rowB I n) 4 (0, 0))
theorem Rb.still {w w' : World} {g n : Nat} {I : Nat -> Bool} (h : Rb w g n I) (hs : Still w w') : Rb w' g n I := hs.kept_still h
theorem Rb.cell {w : World} {g n i : Nat} {I : Nat -> Bool} (h : Rb w g n I) (hi : i < n) : w.cell? ⟨g, i, none⟩ = some (.bool (I i)) := by
 rw [cell_of_row _ _ _ _ _ _ h, rowB_at _ hi]
theorem Rb.frozen {w : World} {g n : Nat} {I : Nat -> Bool} (h : Rb w g n I) (o : Nat) : w.frozen? ⟨g, o, none⟩ = false := frozen_of_row w g o _ _ h
theorem Rb.set {w : World} {g n k : Nat} {I : Nat -> Bool} (h : Rb w g n I) (hk : k < n) : Rb (w.setCell ⟨g, k, none⟩ (.bool true)) g n (upd I k) := by
 unfold Rb
 rw [heap_setCell_same w g k _ _ (.bool true) h, rowB_set I hk]
def cntB (I : Nat -> Bool) : Nat -> Nat
 | 0 => 0
 | n + 1 => cntB I n + if I n then 0 else 1
theorem cntB_congr {I J : Nat -> Bool} : ∀ {n : Nat}, (∀ i, i < n -> I i = J i) -> cntB I n = cntB J n
 | 0, _ => rfl
 | n + 1, h => by rw [cntB, cntB, cntB_congr (n := n) (fun i hi => h i (by omega)), h n (by omega)]
theorem cntB_upd {I : Nat -> Bool} {k : Nat} (hk : I k = false) : ∀ {n : Nat}, k < n -> cntB (upd I k) n + 1 = cntB I n
 | 0, h => by omega
 | n + 1, h => by
  rw [cntB, cntB]
  by_cases e : k = n
  ·subst e
   rw [cntB_congr (n := k) (J := I) (fun i hi => by simp [upd, show ¬ i = k by omega]), hk]
   simp [upd]
  ·have := cntB_upd hk (n := n) (by omega)
   simp only [upd, show ¬ n = k from fun h => e h.symm, if_false]
   omega
def cntW (w : World) (g : Nat) : Nat -> Nat
 | 0 => 0
 | n + 1 => cntW w g n + match w.cell? ⟨g, n, none⟩ with
  | some (.bool true) => 0
  | _ => 1
theorem cntW_eq {w : World} {g n : Nat} {I : Nat -> Bool} (h : Rb w g n I) : ∀ {m : Nat}, m <= n -> cntW w g m = cntB I m
 | 0, _ => rfl
 | m + 1, hm => by
  rw [cntW, cntB, cntW_eq h (by omega), h.cell (by omega)]
  cases I m <;> rfl
def nbB (C : Nat) (I : Nat -> Bool) (i : Nat) : Bool := I (i - 1) || (I (i + 1) || (I (i - C) || I (i + C)))
def Shut (C N : Nat) (s : ByteArray) (I : Nat -> Bool) : Prop := ∀ i, C <= i -> i + C < N -> byt s i ≠ 35 -> nbB C I i = true -> I i = true
def Rch (C N : Nat) (s : ByteArray) (f i : Nat) : Prop := ∀ I : Nat -> Bool, I f = true -> Shut C N s I -> I i = true
theorem rch_from (C N : Nat) (s : ByteArray) (f : Nat) : Rch C N s f f := fun _ h _ => h
theorem rch_step {C N : Nat} {s : ByteArray} {f i : Nat} {I : Nat -> Bool} (hI : ∀ j, I j = true -> Rch C N s f j) (h1 : C <= i) (h2 : i + C < N) (h3 : byt s i ≠ 35) (h4 : nbB C I i = true) : Rch C N s f i := by
 intro J hf hJ
 refine hJ i h1 h2 h3 ?_
 unfold nbB at h4 ⊢
 simp only [Bool.or_eq_true] at h4 ⊢
 rcases h4 with h | h | h | h
 ·exact .inl (hI _ h J hf hJ)
 ·exact .inr (.inl (hI _ h J hf hJ))
 ·exact .inr (.inr (.inl (hI _ h J hf hJ)))
 ·exact .inr (.inr (.inr (hI _ h J hf hJ)))
def IsR (C N : Nat) (s : ByteArray) (f : Nat) (I : Nat -> Bool) : Prop := I f = true /\ Shut C N s I /\ ∀ i, I i = true -> Rch C N s f i
theorem isR_one {C N : Nat} {s : ByteArray} {f : Nat} {I J : Nat -> Bool} (h : IsR C N s f I) (k : IsR C N s f J) (i : Nat) : I i = J i := by
 cases e : I i with
 | true => exact (h.2.2 i e J k.1 k.2.1).symm
 | false =>
  cases e2 : J i with
  | false => rfl
  | true =>
   rw [k.2.2 i e2 I h.1 h.2.1] at e
   cases e
end Go.Proofs.YtmkcoigblnppgaaGreatDoor
set_option maxRecDepth 100000
namespace Go.Proofs.YtmkcoigblnppgaaGreatDoor
open Go.RowKit
open Pu Gp Ap
theorem made_row (n : Nat) : madeCells #[Value.bool false] (n * 1) = rowB (fun _ => false) n := by
 apply Array.ext_getElem?
 intro i
 by_cases h : i < n
 ·rw [rowB_at _ h]; simp [madeCells, h, Nat.mod_one]
 ·rw [Array.getElem?_eq_none (by rw [size_madeCells]; omega), Array.getElem?_eq_none (by rw [rowB_size]; omega)]
theorem make_row (w : World) (n : Nat) (h : n <= 281474976710656) : (Instr.makeSlice 103 (.int .i64 (n : Int)) (.int .i64 (n : Int))).run Tryz.prog w = .ok (.slice (some ⟨w.heap.size, 0, none⟩) n n) (w.alloc (.cells (rowB (fun _ => false) n) 4)) := by
 obtain ⟨i, hi, hz, h1, h2⟩ : ∃ i, Tryz.prog.info? 4 = some i /\ i.zero = some (.bool false) /\ i.size = 1 /\ i.bytes = 1 := ⟨_, rfl, rfl, rfl, rfl⟩
 have hr := run_make (P := Tryz.prog) w 103 4 i (.bool false) Tryz.underlying103 hi hz .i64 .i64 (n : Int) (n : Int) (by omega) (by omega) (by rw [h2]; omega) (by omega)
 rw [h1] at hr
 simp only [Int.toNat_natCast] at hr
 rw [hr, <- made_row]
 rfl
end Go.Proofs.YtmkcoigblnppgaaGreatDoor
set_option maxRecDepth 100000
namespace Go.Proofs.YtmkcoigblnppgaaGreatDoor
open Go.RowKit
open Pu Gp Ap
def okS (n : Nat) (I : Nat -> Bool) (s : ByteArray) (i : Nat) : Bool := byt s i == 35 || (byt s i == 46 || (I i && (byt s i == 42 || (decide (byt s i - 48 <= (n : Int)) && decide (fnd s (byt s i) (i + 1) < 0)))))
def allS (n : Nat) (I : Nat -> Bool) (s : ByteArray) : Nat -> Bool
 | 0 => true
 | k + 1 => allS n I s k && okS n I s k
theorem allS_congr {n : Nat} {I J : Nat -> Bool} {s : ByteArray} (h : ∀ i, I i = J i) : ∀ k, allS n I s k = allS n J s k
 | 0 => rfl
 | k + 1 => by rw [allS, allS, allS_congr h k]; unfold okS; rw [h k]
def ChkV (C R : Int) (s : ByteArray) (v : Int) : Prop :=
 (forB C R s = false /\ v = 61) \/ (forB C R s = true /\ mny s < 2 /\ v = 62) \/
 (forB C R s = true /\ 2 <= mny s /\ ∃ (f : Nat) (I : Nat -> Bool), fnd s 49 0 = (f : Int) /\ IsR C.toNat s.size s f I /\ v = if allS (mny s) I s s.size then 0 else 62)
theorem chkV_one {C R : Int} {s : ByteArray} {v u : Int} (h : ChkV C R s v) (k : ChkV C R s u) : v = u := by
 rcases h with ⟨h1, rfl⟩ | ⟨h1, h2, rfl⟩ | ⟨h1, h2, f, I, h3, h4, rfl⟩ <;> rcases k with ⟨k1, rfl⟩ | ⟨k1, k2, rfl⟩ | ⟨k1, k2, g, J, k3, k4, rfl⟩
 ·rfl
 ·rw [h1] at k1; cases k1
 ·rw [h1] at k1; cases k1
 ·rw [h1] at k1; cases k1
 ·rfl
 ·omega
 ·rw [h1] at k1; cases k1
 ·omega
 ·have e : f = g := by omega
  subst e
  rw [allS_congr (isR_one h4 k4)]
theorem mny_le (s : ByteArray) : ∀ f n, mnyF s f n <= n + f
 | 0, n => by simp [mnyF]
 | f + 1, n => by
  rw [mnyF]
  split
  ·have := mny_le s f (n + 1); omega
  ·omega
theorem mny_one {s : ByteArray} (h : 1 <= mny s) : ∃ f : Nat, fnd s 49 0 = (f : Int) /\ f < s.size := by
 unfold mny at h
 rw [mnyF] at h
 by_cases k : 0 <= fnd s (49 + ((0 : Nat) : Int)) 0
 ·rcases fnd_spec s 49 0 (by omega) with ⟨e, _⟩ | ⟨f, e, _, h2, _⟩
  ·rw [show (49 : Int) + ((0 : Nat) : Int) = 49 by omega, e] at k
   omega
  ·exact ⟨f, e, h2⟩
 ·rw [if_neg k] at h
  omega
theorem goodN_iff {C R : Int} {s : ByteArray} : ∀ {n : Nat}, goodN C R s n = true -> ∀ i, i < n -> goodC C R s i = true
 | 0, _, i, hi => by omega
 | n + 1, h, i, hi => by
  rw [goodN, Bool.and_eq_true] at h
  by_cases e : i = n
  ·subst e; exact h.2
  ·exact goodN_iff h.1 i (by omega)
theorem form_sign {C R : Int} {s : ByteArray} (h : forB C R s = true) {i : Nat} (hi : i < s.size) : byt s i = 35 \/ byt s i = 46 \/ byt s i = 42 \/ (49 <= byt s i /\ byt s i <= 54) := by
 unfold forB at h
 simp only [Bool.and_eq_true] at h
 have := goodN_iff h.2.1 i hi
 unfold goodC okC at this
 simp only [Bool.or_eq_true, Bool.and_eq_true, beq_iff_eq, decide_eq_true_eq] at this
 omega
theorem form_shape {C R : Int} {s : ByteArray} (h : forB C R s = true) : 3 <= C /\ C <= 32 /\ 3 <= R /\ R <= 24 /\ (s.size : Int) = C * R /\ s.size <= 768 := by
 unfold forB shaB at h
 simp only [Bool.and_eq_true] at h
 obtain ⟨h1, h2, h3, h4, h5⟩ := of_decide_eq_true h.1
 have : C * R <= 32 * 24 := Int.mul_le_mul h2 h4 (by omega) (by omega)
 exact ⟨h1, h2, h3, h4, h5, by omega⟩
end Go.Proofs.YtmkcoigblnppgaaGreatDoor
set_option maxRecDepth 100000
namespace Go.Proofs.YtmkcoigblnppgaaGreatDoor
open Go.RowKit
open Pu Gp Ap
theorem load_ar (w : World) (g : Nat) (C R : Int) (s : ByteArray) (c0 : w.cell? ⟨g, 0, none⟩ = some (.int .i64 C)) (c1 : w.cell? ⟨g, 1, none⟩ = some (.int .i64 R)) (c2 : w.cell? ⟨g, 2, none⟩ = some (.string s)) :
  (loadVar 24 ⟨g, 0, none⟩).run Tryz.prog w = .ok (ar C R s) w := by
 go_simp
theorem Ab.rest {fn : Func} {p q : Tmp} {w : World} {g : Nat} {C R : Int} {s : ByteArray} (hb : Ab w g C R s) (h : fn.results = #[.cell p 24, .tmp q]) (tmps : Array Value) (t : Value) (hp : tmps.getD p undef = .pointer (some ⟨g, 0, none⟩)) (hq : tmps.getD q undef = t) :
  (results fn tmps).run Tryz.prog w = .ok (.tuple #[ar C R s, t]) w := by
 rw [results_cell_tmp h, hp, hq]
 simp [asAddr, Result.andThen, load_ar w g C R s hb.cells.1 hb.cells.2.1 hb.cells.2.2.1]
def std3 : ByteArray := ⟨#[35, 35, 35, 35, 35, 35, 35, 35, 35, 49, 46, 46, 46, 46, 50, 35, 35, 46, 46, 42, 42, 46, 46, 35, 35, 46, 46, 46, 46, 46, 46, 35, 35, 51, 46, 46, 46, 46, 52, 35, 35, 35, 35, 35, 35, 35, 35, 35]⟩
theorem rstd_3 (w : World) : Calls Tryz.prog 37 #[.int .i64 3] w fun e w' => e = .returned (.tuple #[ar 8 6 std3, .int .i64 0]) /\ Still w w' := by
 have p := newA_ab w 8 6 std3
 go_enter Tryz.func37, Tryz.ntmps37
 go_wp2_with fail
 exact bodyPost_ret (p.rest rfl _ _ rfl rfl) rfl ⟨rfl, Still.alloc w _⟩
end Go.Proofs.YtmkcoigblnppgaaGreatDoor
set_option maxRecDepth 100000
namespace Go.Proofs.YtmkcoigblnppgaaGreatDoor
open Go.RowKit
open Pu Gp Ap
theorem chkV_ok {C R : Int} {s : ByteArray} (h : ChkV C R s 0) : forB C R s = true := by
 rcases h with ⟨_, e⟩ | ⟨_, _, e⟩ | ⟨h, _⟩
 ·cases e
 ·cases e
 ·exact h
end Go.Proofs.YtmkcoigblnppgaaGreatDoor
set_option maxRecDepth 100000
namespace Go.Proofs.YtmkcoigblnppgaaGreatDoor
open Go.RowKit
open Pu Gp
set_option maxHeartbeats 1000000 in
theorem meet3 (a b c d a' b' c' d' : Int) (h1 : okb a b c d = true) (h2 : okb a' b' c' d' = true) (h3 : okb (max a a') (max b b') (min c c') (min d d') = false) (w : World) : Calls Tryz.prog 227 #[bx a b c d, bx a' b' c' d'] w fun e w' => e = .returned (.tuple #[bx 0 0 0 0, .bool false]) /\ Still w w' := by
 have p := ((newB_bb w a b c d).still (Still.alloc (newB w a b c d) (.cells #[.int .i64 a', .int .i64 b', .int .i64 c', .int .i64 d'] 222))).still (Still.alloc (newB (newB w a b c d) a' b' c' d') (.cells #[.int .i64 0, .int .i64 0, .int .i64 0, .int .i64 0] 222))
 have q := (newB_bb (newB w a b c d) a' b' c' d').still (Still.alloc (newB (newB w a b c d) a' b' c' d') (.cells #[.int .i64 0, .int .i64 0, .int .i64 0, .int .i64 0] 222))
 have r := newB_bb (newB (newB w a b c d) a' b' c' d') 0 0 0 0
 simp only [size_alloc] at q r
 have HS0 := hid (((Still.alloc w (.cells #[.int .i64 a, .int .i64 b, .int .i64 c, .int .i64 d] 222)).trans (Still.alloc (newB w a b c d) (.cells #[.int .i64 a', .int .i64 b', .int .i64 c', .int .i64 d'] 222))).trans (Still.alloc (newB (newB w a b c d) a' b' c' d') (.cells #[.int .i64 0, .int .i64 0, .int .i64 0, .int .i64 0] 222)))
 have HB := hid (show w.heap.size <= w.heap.size + 1 + 1 by omega)
 go_enter Tryz.func227, Tryz.ntmps227
 go_wp2_with fail
 refine (check_yes a b c d h1 _).mono ?_
 rintro e w1 ⟨rfl, hs1⟩
 have p1 := p.still hs1
 have q1 := q.still hs1
 have r1 := r.still hs1
 have HF1 := hid (HS0.out.trans hs1)
 clear p q r HS0 hs1
 obtain ⟨c0, c1, c2, c3, cf⟩ := p1.cells
 obtain ⟨g0, g1, g2, g3, gf⟩ := q1.cells
 obtain ⟨d0, d1, d2, d3, df⟩ := r1.cells
 go_wp2_with fail
 refine (check_yes a' b' c' d' h2 _).mono ?_
 rintro e w2 ⟨rfl, hs2⟩
 have p2 := p1.still hs2
 have q2 := q1.still hs2
 have r2 := r1.still hs2
 have HF2 := hid (HF1.out.trans hs2)
 clear p1 q1 r1 HF1 hs2 c0 c1 c2 c3 cf g0 g1 g2 g3 gf d0 d1 d2 d3 df
 go_wp2_with fail
 refine region_var (on := _) 11 6 (.cells #[.int .i64 0, .int .i64 0, .int .i64 0, .int .i64 0] 222)
  [.pointer (some ⟨w.heap.size, 0, none⟩), pt a b, .pointer (some ⟨w.heap.size + 1, 0, none⟩), pt a' b', pt (max a a') (max b b'), .pointer (some ⟨w.heap.size, 2, none⟩), pt c d, .pointer (some ⟨w.heap.size + 1, 2, none⟩), pt c' d', pt (min c c') (min d d'), bx (max a a') (max b b') (min c c') (min d d')]
  ⟨#[bx a b c d, bx a' b' c' d', .pointer (some ⟨w.heap.size, 0, none⟩), .pointer (some ⟨w.heap.size + 1, 0, none⟩), .pointer (some ⟨w.heap.size + 1 + 1, 0, none⟩), .bool false, undef, bx a b c d, .int .i64 0, .bool false, .bool false, bx a' b' c' d', .int .i64 0, .bool false, .bool false, undef,
   .pointer (some ⟨w.heap.size, 0, none⟩), pt a b, .pointer (some ⟨w.heap.size + 1, 0, none⟩), pt a' b', pt (max a a') (max b b'), .pointer (some ⟨w.heap.size, 2, none⟩), pt c d, .pointer (some ⟨w.heap.size + 1, 2, none⟩), pt c' d', pt (min c c') (min d d'), bx (max a a') (max b b') (min c c') (min d d'), undef, undef, undef, undef, undef], []⟩
  (by kernel_rfl) (by kernel_rfl) rfl rfl rfl (by kernel_rfl) (by kernel_rfl) (show 6 < 32 by omega) ?_ ?_ ?_
 ·simp only [List.take_succ_cons, List.take_zero, wpEach, and_true]
  refine ⟨?_, ?_, ?_, ?_, ?_, ?_, ?_, ?_, ?_, ?_, ?_⟩
  all_goals
   intro u hu
   obtain ⟨c0, c1, c2, c3, cf⟩ := (p2.still hu).cells
   obtain ⟨g0, g1, g2, g3, gf⟩ := (q2.still hu).cells
   go_simp
  ·exact greater_any _ _ _ _ _
  ·exact lesser_any _ _ _ _ _
 ·intro u _ y
  go_simp
 simp only [List.drop_succ_cons, List.drop_zero]
 intro w3 g hs3 hge hz
 have hne : w.heap.size + 1 + 1 ≠ g := by have := block_lt r2; omega
 have HG := hid (show w.heap.size <= g by have := block_lt r2; omega)
 have r3 := r2.still hs3
 have HF3 := hid (HF2.out.trans hs3)
 have k3 : Bb w3 g 0 0 0 0 := hz
 obtain ⟨k0, k1, k2, k4, kf⟩ := k3.cells
 have k5 := k3.set (max a a') (max b b') (min c c') (min d d')
 have r5 : Bb (setB w3 g (max a a') (max b b') (min c c') (min d d')) (w.heap.size + 1 + 1) 0 0 0 0 := by
  unfold Bb
  rw [heap_setCell_other _ _ _ _ hne, heap_setCell_other _ _ _ _ hne, heap_setCell_other _ _ _ _ hne, heap_setCell_other _ _ _ _ hne]
  exact r3
 have HF5 := hid (setB_fr HF3.out g (max a a') (max b b') (min c c') (min d d') (.inr HG.out))
 clear p2 q2 r2 HF2 hs3 hz hge hne HG r3 HF3 k3
 simp only [Act.put, List.setIfInBounds_toArray, List.set_cons_succ, List.set_cons_zero]
 go_wp2_with fail
 refine (check_no _ _ _ _ h3 _).mono ?_
 rintro e w4 ⟨rfl, hs4⟩
 have r4 := r5.still hs4
 have k4 := k5.still hs4
 have HF4 := hid (Still.trans HF5.out hs4)
 clear r5 k5 HF5 hs4
 obtain ⟨d0, d1, d2, d3, df⟩ := r4.cells
 obtain ⟨k0, k1, k2, k3, kf⟩ := k4.cells
 go_wp2_with fail
 (try simp only [Exit.inBlock, Exit.then])
 exact bodyPost_ret ((r4.set _ _ _ _).resb rfl _ _ rfl rfl) rfl ⟨rfl, setB_fr HF4.out _ _ _ _ _ (.inr HB.out)⟩
set_option maxHeartbeats 1000000 in
theorem meet4 (a b c d a' b' c' d' : Int) (h1 : okb a b c d = true) (h2 : okb a' b' c' d' = true) (h3 : okb (max a a') (max b b') (min c c') (min d d') = true) (w : World) : Calls Tryz.prog 227 #[bx a b c d, bx a' b' c' d'] w fun e w' => e = .returned (.tuple #[bx (max a a') (max b b') (min c c') (min d d'), .bool true]) /\ Still w w' := by
 have p := ((newB_bb w a b c d).still (Still.alloc (newB w a b c d) (.cells #[.int .i64 a', .int .i64 b', .int .i64 c', .int .i64 d'] 222))).still (Still.alloc (newB (newB w a b c d) a' b' c' d') (.cells #[.int .i64 0, .int .i64 0, .int .i64 0, .int .i64 0] 222))
 have q := (newB_bb (newB w a b c d) a' b' c' d').still (Still.alloc (newB (newB w a b c d) a' b' c' d') (.cells #[.int .i64 0, .int .i64 0, .int .i64 0, .int .i64 0] 222))
 have r := newB_bb (newB (newB w a b c d) a' b' c' d') 0 0 0 0
 simp only [size_alloc] at q r
 have HS0 := hid (((Still.alloc w (.cells #[.int .i64 a, .int .i64 b, .int .i64 c, .int .i64 d] 222)).trans (Still.alloc (newB w a b c d) (.cells #[.int .i64 a', .int .i64 b', .int .i64 c', .int .i64 d'] 222))).trans (Still.alloc (newB (newB w a b c d) a' b' c' d') (.cells #[.int .i64 0, .int .i64 0, .int .i64 0, .int .i64 0] 222)))
 have HB := hid (show w.heap.size <= w.heap.size + 1 + 1 by omega)
 go_enter Tryz.func227, Tryz.ntmps227
 go_wp2_with fail
 refine (check_yes a b c d h1 _).mono ?_
 rintro e w1 ⟨rfl, hs1⟩
 have p1 := p.still hs1
 have q1 := q.still hs1
 have r1 := r.still hs1
 have HF1 := hid (HS0.out.trans hs1)
 clear p q r HS0 hs1
 obtain ⟨c0, c1, c2, c3, cf⟩ := p1.cells
 obtain ⟨g0, g1, g2, g3, gf⟩ := q1.cells
 obtain ⟨d0, d1, d2, d3, df⟩ := r1.cells
 go_wp2_with fail
 refine (check_yes a' b' c' d' h2 _).mono ?_
 rintro e w2 ⟨rfl, hs2⟩
 have p2 := p1.still hs2
 have q2 := q1.still hs2
 have r2 := r1.still hs2
 have HF2 := hid (HF1.out.trans hs2)
 clear p1 q1 r1 HF1 hs2 c0 c1 c2 c3 cf g0 g1 g2 g3 gf d0 d1 d2 d3 df
 go_wp2_with fail
 refine region_var (on := _) 11 6 (.cells #[.int .i64 0, .int .i64 0, .int .i64 0, .int .i64 0] 222)
  [.pointer (some ⟨w.heap.size, 0, none⟩), pt a b, .pointer (some ⟨w.heap.size + 1, 0, none⟩), pt a' b', pt (max a a') (max b b'), .pointer (some ⟨w.heap.size, 2, none⟩), pt c d, .pointer (some ⟨w.heap.size + 1, 2, none⟩), pt c' d', pt (min c c') (min d d'), bx (max a a') (max b b') (min c c') (min d d')]
  ⟨#[bx a b c d, bx a' b' c' d', .pointer (some ⟨w.heap.size, 0, none⟩), .pointer (some ⟨w.heap.size + 1, 0, none⟩), .pointer (some ⟨w.heap.size + 1 + 1, 0, none⟩), .bool false, undef, bx a b c d, .int .i64 0, .bool false, .bool false, bx a' b' c' d', .int .i64 0, .bool false, .bool false, undef,
   .pointer (some ⟨w.heap.size, 0, none⟩), pt a b, .pointer (some ⟨w.heap.size + 1, 0, none⟩), pt a' b', pt (max a a') (max b b'), .pointer (some ⟨w.heap.size, 2, none⟩), pt c d, .pointer (some ⟨w.heap.size + 1, 2, none⟩), pt c' d', pt (min c c') (min d d'), bx (max a a') (max b b') (min c c') (min d d'), undef, undef, undef, undef, undef], []⟩
  (by kernel_rfl) (by kernel_rfl) rfl rfl rfl (by kernel_rfl) (by kernel_rfl) (show 6 < 32 by omega) ?_ ?_ ?_
 ·simp only [List.take_succ_cons, List.take_zero, wpEach, and_true]
  refine ⟨?_, ?_, ?_, ?_, ?_, ?_, ?_, ?_, ?_, ?_, ?_⟩
  all_goals
   intro u hu
   obtain ⟨c0, c1, c2, c3, cf⟩ := (p2.still hu).cells
   obtain ⟨g0, g1, g2, g3, gf⟩ := (q2.still hu).cells
   go_simp
  ·exact greater_any _ _ _ _ _
  ·exact lesser_any _ _ _ _ _
 ·intro u _ y
  go_simp
 simp only [List.drop_succ_cons, List.drop_zero]
 intro w3 g hs3 hge hz
 have hne : w.heap.size + 1 + 1 ≠ g := by have := block_lt r2; omega
 have HG := hid (show w.heap.size <= g by have := block_lt r2; omega)
 have r3 := r2.still hs3
 have HF3 := hid (HF2.out.trans hs3)
 have k3 : Bb w3 g 0 0 0 0 := hz
 obtain ⟨k0, k1, k2, k4, kf⟩ := k3.cells
 have k5 := k3.set (max a a') (max b b') (min c c') (min d d')
 have r5 : Bb (setB w3 g (max a a') (max b b') (min c c') (min d d')) (w.heap.size + 1 + 1) 0 0 0 0 := by
  unfold Bb
  rw [heap_setCell_other _ _ _ _ hne, heap_setCell_other _ _ _ _ hne, heap_setCell_other _ _ _ _ hne, heap_setCell_other _ _ _ _ hne]
  exact r3
 have HF5 := hid (setB_fr HF3.out g (max a a') (max b b') (min c c') (min d d') (.inr HG.out))
 clear p2 q2 r2 HF2 hs3 hz hge hne HG r3 HF3 k3
 simp only [Act.put, List.setIfInBounds_toArray, List.set_cons_succ, List.set_cons_zero]
 go_wp2_with fail
 refine (check_yes _ _ _ _ h3 _).mono ?_
 rintro e w4 ⟨rfl, hs4⟩
 have r4 := r5.still hs4
 have k4 := k5.still hs4
 have HF4 := hid (Still.trans HF5.out hs4)
 clear r5 k5 HF5 hs4
 obtain ⟨d0, d1, d2, d3, df⟩ := r4.cells
 obtain ⟨k0, k1, k2, k3, kf⟩ := k4.cells
 go_wp2_with fail
 (try simp only [Exit.inBlock, Exit.then])
 exact bodyPost_ret ((r4.set _ _ _ _).resb rfl _ _ rfl rfl) rfl ⟨rfl, setB_fr HF4.out _ _ _ _ _ (.inr HB.out)⟩
theorem meet_any (a b c d a' b' c' d' : Int) (w : World) : Calls Tryz.prog 227 #[bx a b c d, bx a' b' c' d'] w fun e w' => e = .returned (.tuple #[mb a b c d a' b' c' d', .bool (mt a b c d a' b' c' d')]) /\ Still w w' := by
 unfold mb mt
 cases h1 : okb a b c d with
 | false => exact meet1 a b c d a' b' c' d' h1 w
 | true =>
  cases h2 : okb a' b' c' d' with
  | false => exact meet2 a b c d a' b' c' d' h1 h2 w
  | true =>
   cases h3 : okb (max a a') (max b b') (min c c') (min d d') with
   | false => exact meet3 a b c d a' b' c' d' h1 h2 h3 w
   | true => exact meet4 a b c d a' b' c' d' h1 h2 h3 w
theorem overlap_any (a b c d a' b' c' d' : Int) (w : World) : Calls Tryz.prog 175 #[bx a b c d, bx a' b' c' d'] w fun e w' => e = .returned (.bool (mt a b c d a' b' c' d')) /\ Still w w' := by
 go_enter Tryz.func175, Tryz.ntmps175
 go_wp2_with fail
 refine (meet_any a b c d a' b' c' d' _).mono ?_
 rintro e w1 ⟨rfl, hs1⟩
 go_wp2_with fail
 go_ret
 exact ⟨rfl, (((Still.alloc w _).trans (Still.alloc _ _)).trans hs1).trans (Still.alloc _ _)⟩
theorem inside_any (a b c d x y : Int) (w : World) : Calls Tryz.prog 184 #[bx a b c d, pt x y] w fun e w' => e = .returned (.bool (mt a b c d x y x y)) /\ Still w w' := by
 go_enter Tryz.func184, Tryz.ntmps184
 go_wp2_with fail
 refine (overlap_any a b c d x y x y _).mono ?_
 rintro e w1 ⟨rfl, hs1⟩
 go_wp2_with fail
 go_ret
 exact ⟨rfl, ((Still.alloc w _).trans (Still.alloc _ _)).trans hs1⟩
end Go.Proofs.YtmkcoigblnppgaaGreatDoor
set_option maxRecDepth 100000
namespace Go.Proofs.YtmkcoigblnppgaaGreatDoor
open Go.RowKit
open Pu Gp Ap
def linB (t : ByteArray) : ByteArray := if fnd t 10 0 < 0 then t else t.extract 0 (fnd t 10 0).toNat
def linOk (C R : Nat) (t : ByteArray) : Bool :=
 decide (0 <= fnd t 10 0) && (sgnsB (linB t) (linB t).size && ((if R = 0 then decide (3 <= (linB t).size) && decide ((linB t).size <= 32) else decide ((linB t).size = C)) && decide (R ≠ 24)))
def prs : Nat -> Nat -> Nat -> ByteArray -> ByteArray -> Sum Nat (Nat × Nat × ByteArray)
 | 0, _, R, _, _ => .inl (R + 1)
 | f + 1, C, R, S, t =>
  if R ≠ 0 /\ t.size = 0 then .inr (C, R, S)
  else if linOk C R t then prs f (linB t).size (R + 1) (S ++ linB t) (t.extract ((linB t).size + 1) t.size)
  else .inl (R + 1)
end Go.Proofs.YtmkcoigblnppgaaGreatDoor
