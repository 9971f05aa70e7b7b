/- Parts of the proof, laid end to end. -/
import Derived.WalkKit
import Derived.Lib.SlBytesRow
import Derived.StillTail
import Derived.Deep.QuietTactic
import Derived.BigQuiet
import Derived.Test.YthcjckgmdokmdaaGreatDoorXS00
import Derived.Deep.RegionWith
import Derived.BigRegion
import Derived.Laws.ResultCell
import Derived.KernelRfl
import Derived.Laws.StructEq
import Derived.Lib.Strings
import Derived.WalkMore
import Derived.Laws.MakeOwn
set_option maxRecDepth 100000
namespace Go.Proofs.YthcjckgmdokmdaaGreatDoor
open Go.RowKit
theorem hid {p : Prop} (h : p) : Hid p := h
structure Fr (F : Nat -> Prop) (w w' : World) : Prop where
 os : w'.os = w.os
 tape : w'.tape = w.tape
 output : w'.output = w.output
 size : w.heap.size <= w'.heap.size
 block : ∀ k, k < w.heap.size -> ¬ F k -> w'.heap[k]? = w.heap[k]?
theorem Fr.refl (F : Nat -> Prop) (w : World) : Fr F w w := ⟨rfl, rfl, rfl, Nat.le_refl _, fun _ _ _ => rfl⟩
theorem Fr.trans {F G : Nat -> Prop} {a b c : World} (h : Fr F a b) (k : Fr G b c) (hG : ∀ k, k < a.heap.size -> G k -> F k) : Fr F a c :=
 ⟨k.os.trans h.os, k.tape.trans h.tape, k.output.trans h.output, Nat.le_trans h.size k.size,
  fun i hi hn => (k.block i (Nat.lt_of_lt_of_le hi h.size) fun hg => hn (hG i hi hg)).trans (h.block i hi hn)⟩
theorem Fr.drew {F : Nat -> Prop} {a w : World} (h : Fr F a w) : Fr F a w.drew := ⟨h.os, h.tape, h.output, h.size, h.block⟩
theorem Fr.alloc {F : Nat -> Prop} {a w : World} (h : Fr F a w) (o : Obj) : Fr F a (w.alloc o) :=
 ⟨h.os, h.tape, h.output, by have := h.size; simp; omega, fun k hk hn => (Below.heap_alloc _ _ _ (Nat.lt_of_lt_of_le hk h.size)).trans (h.block k hk hn)⟩
theorem Fr.setCell {F : Nat -> Prop} {a w : World} (h : Fr F a w) (p : Addr) (u : Value) (hp : F p.block \/ a.heap.size <= p.block) : Fr F a (w.setCell p u) :=
 ⟨h.os, h.tape, h.output, by have := h.size; simpa [World.setCell] using this, fun k hk hn => by
  rw [Below.heap_setCell _ _ _ _ (fun e => by subst e; rcases hp with hp | hp; exact hn hp; omega)]
  exact h.block k hk hn⟩
theorem Fr.setRow {F : Nat -> Prop} {a w : World} (h : Fr F a w) (g : Nat) (cs : Array Value) (hp : F g \/ a.heap.size <= g) : Fr F a (w.setRow g cs) :=
 ⟨h.os, h.tape, h.output, by have := h.size; simpa using this, fun k hk hn => by
  rw [setRow_other w g k cs (fun e => by subst e; rcases hp with hp | hp; exact hn hp; omega)]
  exact h.block k hk hn⟩
theorem Fr.below {F : Nat -> Prop} {B : Nat} {W w' : World} (h : Fr F W w') (hF : ∀ k, F k -> B <= k) (hB : B <= W.heap.size) : Below B W w' :=
 ⟨h.os, h.tape, h.output, h.size, fun k hk => h.block k (by omega) fun hf => by have := hF k hf; omega⟩
theorem Fr.cell {F : Nat -> Prop} {w w' : World} (h : Fr F w w') {p : Addr} (hp : p.block < w.heap.size) (hn : ¬ F p.block) : w'.cell? p = w.cell? p :=
 World.cell?_of_block (w := w) (h.block p.block hp hn)
theorem Fr.kept {F : Nat -> Prop} {w w' : World} (h : Fr F w w') {k : Nat} {o : Obj} (hk : w.heap[k]? = some o) (hn : ¬ F k) : w'.heap[k]? = some o :=
 (h.block k (Array.getElem?_eq_some_iff.1 hk).1 hn).trans hk
abbrev Still (w w' : World) : Prop := Fr (fun _ => False) w w'
theorem Fr.kept_still {w w' : World} (h : Still w w') {k : Nat} {o : Obj} (hk : w.heap[k]? = some o) : w'.heap[k]? = some o := h.kept hk (fun e => e)
theorem block_lt {w : World} {k : Nat} {o : Obj} (hk : w.heap[k]? = some o) : k < w.heap.size := (Array.getElem?_eq_some_iff.1 hk).1
theorem Still.below {w w' : World} (h : Still w w') : Below w.heap.size w w' := Fr.below h (fun _ e => e.elim) (Nat.le_refl _)
theorem Still.undrew {w w' : World} (h : Still w.drew w') : Still w w' := ⟨h.os, h.tape, h.output, h.size, h.block⟩
theorem Still.trans {a b c : World} (h : Still a b) (k : Still b c) : Still a c := Fr.trans h k fun _ _ e => e
theorem Still.alloc (w : World) (o : Obj) : Still w (w.alloc o) := (Fr.refl _ w).alloc o
def cutAt (ao : Option Addr) (cap i : Nat) : Option Addr := if cap = i then ao else ao.map (·.add (i * 1))
theorem add_plain (b o j : Nat) : (⟨b, o, none⟩ : Addr).add j = ⟨b, o + j, none⟩ := by unfold Addr.add; split <;> simp_all
theorem cutAt_zero (ao : Option Addr) (cap : Nat) : cutAt ao cap 0 = ao := by
 unfold cutAt
 split
 ·rfl
 ·cases ao with
  | none => rfl
  | some a => simp [Addr.add]
section
variable {P : Program}
end
section
variable {P : Program}
end
end Go.Proofs.YthcjckgmdokmdaaGreatDoor
namespace Go.Proofs.YthcjckgmdokmdaaGreatDoor
open Go
def cnt (L : Array Bool) : Nat -> Nat
 | 0 => 0
 | k + 1 => cnt L k + (if L.getD k true then 0 else 1)
theorem cnt_set_ge {L : Array Bool} {j : Nat} : ∀ {n : Nat}, n <= j -> cnt (L.setIfInBounds j true) n = cnt L n
 | 0, _ => rfl
 | n + 1, h => by
  unfold cnt
  rw [cnt_set_ge (by omega), getD_set_ne true (by omega)]
theorem cnt_set {L : Array Bool} {j : Nat} (hu : L.getD j true = false) : ∀ {n : Nat}, j < n -> cnt (L.setIfInBounds j true) n + 1 = cnt L n
 | 0, h => by omega
 | n + 1, h => by
  unfold cnt
  by_cases hj : j = n
  ·subst hj
   have hlt : j < L.size := by
    rcases Nat.lt_or_ge j L.size with h' | h'
    ·exact h'
    ·simp [Array.getElem?_eq_none h'] at hu
   rw [cnt_set_ge (Nat.le_refl _), hu]
   simp [hlt]
  ·rw [getD_set_ne true hj]
   have := cnt_set hu (n := n) (by omega)
   omega
theorem cnt_zero {L : Array Bool} : ∀ {n : Nat}, cnt L n = 0 -> ∀ i, i < n -> L.getD i true = true
 | 0, _, i, h => by omega
 | n + 1, hc, i, h => by
  unfold cnt at hc
  by_cases hi : i = n
  ·subst hi
   cases hb : L.getD i true with
   | true => rfl
   | false => rw [hb] at hc; simp at hc
  ·exact cnt_zero (n := n) (by omega) i (by omega)
theorem cnt_pos {L : Array Bool} : ∀ {n : Nat}, cnt L n ≠ 0 -> ∃ i, i < n /\ L.getD i true = false /\ ∀ k, k < i -> L.getD k true = true
 | 0, h => by simp [cnt] at h
 | n + 1, hc => by
  by_cases h0 : cnt L n = 0
  ·refine ⟨n, by omega, ?_, cnt_zero h0⟩
   unfold cnt at hc
   cases hb : L.getD n true with
   | true => rw [hb, h0] at hc; simp at hc
   | false => rfl
  ·obtain ⟨i, hi, h1, h2⟩ := cnt_pos h0
   exact ⟨i, by omega, h1, h2⟩
theorem cnt_new {N : Nat} : ∀ {n : Nat}, n <= N -> cnt (Array.replicate N false) n = n
 | 0, _ => rfl
 | n + 1, h => by
  unfold cnt
  rw [cnt_new (by omega)]
  simp [show n < N by omega]
def lowB (ops : Array Oper) (n : Nat) : Bool :=
 (List.range n).all fun i => match ops[i]? with
  | some o => (o.after.all fun e => decide (e.on < i)) && (match o.guard with | none => true | some (j, _) => decide (j < n))
  | none => false
theorem lowB_spec {ops : Array Oper} {n i : Nat} {o : Oper} (h : lowB ops n = true) (hi : i < n) (ho : ops[i]? = some o) :
  (∀ e ∈ o.after, e.on < i) /\ ∀ j b, o.guard = some (j, b) -> j < n := by
 have h1 := List.all_eq_true.1 h i (List.mem_range.2 hi)
 simp only [ho, Bool.and_eq_true] at h1
 refine ⟨fun e he => by simpa using (Array.all_eq_true'.1 h1.1) e he, fun j b hg => ?_⟩
 have h2 := h1.2
 rw [hg] at h2
 simpa using h2
section
variable {P : Program} {C : World -> Prop}
theorem head_at {l : List Oper} {n j : Nat} (hj : j < n) : (l.take n).toArray[j]? = l.toArray[j]? := by simp [hj]
theorem wanted_head {l : List Oper} {n : Nat} {o : Oper} {t : Array Value} (hg : ∀ j b, o.guard = some (j, b) -> j < n) :
  Region.wanted o (yielded (l.take n).toArray t) = Region.wanted o (yielded l.toArray t) := by
 unfold Region.wanted
 cases h : o.guard with
 | none => rfl
 | some x =>
  obtain ⟨j, b⟩ := x
  have : yielded (l.take n).toArray t j = yielded l.toArray t j := by unfold yielded; rw [head_at (hg j b h)]
  simp only [this]
theorem qOp_head {l : List Oper} {n j : Nat} (hlow : lowB l.toArray n = true) (hj : j < n) {K : Act -> Prop} {a : Act} (h : qOp P (l.take n).toArray C j K a) : qOp P l.toArray C j K a := by
 unfold qOp at h ⊢
 rw [head_at hj] at h
 cases ho : l.toArray[j]? with
 | none => simpa only [ho] using h
 | some o =>
  simp only [ho] at h ⊢
  rw [wanted_head (lowB_spec hlow hj ho).2] at h
  exact h
theorem any_of_head {l : List Oper} {n g : Nat} {Lq : Act -> Prop} {Q' : Exit -> Act -> World -> Prop} (hlow : lowB l.toArray n = true) (hs : Region.sinkB .any l.toArray n = true) (hc : Region.chainB .any l.toArray n = true) (hn : n < l.length)
  (hdone : ∀ (L : Array Bool) a w, L.size = l.length -> (∀ i, i < n -> L.getD i true = true) -> (∀ t, n <= t -> t < l.length -> L.getD t true = false) -> C w -> Lq a -> wpAny P .any l.toArray Q' g L a w) :
  ∀ (f : Nat) (lh L : Array Bool) (a : Act) (w : World), C w -> (∀ i b, i < n -> L.getD i b = lh.getD i b) -> HeadInv .any l.toArray n L -> cnt L n = f ->
   wpAnyQ P .any (l.take n).toArray C Lq f lh a -> wpAny P .any l.toArray Q' (f + g) L a w
 | 0, lh, L, a, w, hw, hag, inv, hcnt, h => by
  rw [Nat.zero_add]
  exact hdone L a w (by simpa using inv.size) (cnt_zero hcnt) (fun t h1 h2 => inv.tail t h1 (by simpa using h2)) hw h.2
 | f + 1, lh, L, a, w, hw, hag, inv, hcnt, h => by
  rw [show f + 1 + g = (f + g) + 1 by omega]
  obtain ⟨i, hi, hun, hmin⟩ := cnt_pos (L := L) (n := n) (by omega)
  have hsz : l.toArray.size = l.length := by simp
  refine ⟨fun h0 => ?_, fun j hj => ?_⟩
  ·exfalso
   have hio : ∃ o, l.toArray[i]? = some o := ⟨_, Array.getElem?_eq_getElem (by simp; omega)⟩
   obtain ⟨o, ho⟩ := hio
   have : i ∈ Region.ready .any l.toArray L := mem_ready.2 ⟨hun, o, ho, fun e he _ => by
    have hlt := (lowB_spec hlow hi ho).1 e he
    have hin : e.on < L.size := by rw [inv.size]; simp; omega
    have := hmin e.on hlt
    simp [hin] at this ⊢
    exact this⟩
   rw [h0] at this
   cases this
  ·have hjn : j < n := by
    rcases Nat.lt_or_ge j n with h' | h'
    ·exact h'
    ·exact absurd hj (tail_waits hs hc (by rw [hsz]; exact hn) inv _ i rfl hi hun j h')
   obtain ⟨hju, o, ho, hall⟩ := mem_ready.1 hj
   have hjh : j ∈ Region.ready .any (l.take n).toArray lh := mem_ready.2 ⟨by rw [<- hag j true hjn]; exact hju, o, by rw [head_at hjn]; exact ho, fun e he hb => by
    have hlt := (lowB_spec hlow hjn ho).1 e he
    rw [<- hag e.on false (by omega)]
    exact hall e he hb⟩
   have hq := qOp_head hlow hjn (h.2 j hjh)
   refine wpOp_of_qOp hw (fun a' w' hw' h' => any_of_head hlow hs hc hn hdone f (lh.setIfInBounds j true) (L.setIfInBounds j true) a' w' hw' ?_ (inv.set hj hjn) ?_ h') hq
   ·intro k b hk
    by_cases hjk : j = k
    ·subst hjk
     have h1 : j < L.size := by rw [inv.size, hsz]; omega
     have h2 : j < lh.size := by
      rcases Nat.lt_or_ge j lh.size with h' | h'
      ·exact h'
      ·have := (mem_ready.1 hjh).1
       simp [Array.getElem?_eq_none h'] at this
     simp [h1, h2]
    ·rw [getD_set_ne b hjk, getD_set_ne b hjk]
     exact hag k b hk
   ·have := cnt_set hju hjn
    omega
def tailB (l : List Oper) (n : Nat) : Bool :=
 lowB l.toArray n && Region.sinkB .any l.toArray n && Region.chainB .any l.toArray n && decide (n < l.length) && Region.lexB .any (l.take n).toArray &&
  Region.seqB .any l.toArray (l.length - n) n (List.replicate n true ++ List.replicate (l.length - n) false).toArray
theorem full_eq {N n : Nat} {L : Array Bool} (hn : n <= N) (hsz : L.size = N) (h1 : ∀ i, i < n -> L.getD i true = true) (h2 : ∀ t, n <= t -> t < N -> L.getD t true = false) :
  L = (List.replicate n true ++ List.replicate (N - n) false).toArray := by
 apply Array.ext
 ·simp; omega
 ·intro i hi1 hi2
  by_cases hi : i < n
  ·have := h1 i hi
   simp [hi1] at this
   simp [hi, this]
  ·have := h2 i (by omega) (by omega)
   simp [hi1] at this
   simp [List.getElem_append, hi, this]
theorem region_tail {id : Nat} {Q : Exit -> Act -> World -> Prop} {a : Act} {w : World} {l : List Oper} (n : Nat) (hm : P.follows .mixedOrders = true) (hB : tailB l n = true) (hC : C { w with drawn := w.drawn + 1 })
  (h : wpQuiet P (l.take n).toArray C (fun a' => ∀ w', C w' -> wpList P l.toArray Q (l.drop n) a' w') (l.take n) a) : (Code.region id l.toArray true).wp P Q a w := by
 simp only [tailB, Bool.and_eq_true, decide_eq_true_eq] at hB
 obtain ⟨⟨⟨⟨⟨hlow, hs⟩, hc⟩, hn⟩, hlex⟩, hseq⟩ := hB
 simp only [Region.lexB, Bool.and_eq_true] at hlex
 have hlen : (l.take n).length = n := by simp; omega
 have H := wpAnyQ_lex (P := P) (C := C) (md := .any) hlex.1 (l.take n) 0 (Array.replicate (l.take n).toArray.size false) a (by simp) (by simpa using hlex.2) h
 have inv0 : HeadInv .any l.toArray n (Array.replicate l.length false) :=
  ⟨by simp, fun j oj _ hl => (by rw [getD_replicate_false] at hl; cases hl), fun t _ ht => getD_in (by simpa using ht) (getD_replicate_false _ _)⟩
 refine wp_region_any hm ?_
 have key := any_of_head (P := P) (C := C) (Q' := Q) (g := l.length - n) hlow hs hc hn (Lq := fun a' => ∀ w', C w' -> wpList P l.toArray Q (l.drop n) a' w') (fun L a' w' hsz h1 h2 hw' hq => by
  have e := full_eq (by omega) hsz h1 h2
  subst e
  have := wpAny_of_seq (P := P) (md := .any) (ops := l.toArray) (Q' := Q) (l.drop n) n _ a' w' (fun j => by simp [List.getElem?_drop]) (by simpa using hseq) (hq w' hw')
  simpa using this) n (Array.replicate n false) (Array.replicate l.length false) a _ hC (fun i b hi => by
   simp [show i < l.length by omega, hi]) inv0 (cnt_new (by omega)) (by simp only [List.size_toArray, hlen] at H; exact H)
 have e : n + (l.length - n) = l.toArray.size := by simp; omega
 rw [e] at key
 simpa using key
end
structure Aft (w : World) : Type where
 u : World
 s : Still w u
theorem Aft.here (w : World) : Nonempty (Aft w) := ⟨⟨w, Fr.refl _ w⟩⟩
abbrev Cl (w : World) : World -> Prop := fun w' => ∃ z : Aft w, w' = z.u
theorem Cl.here (w : World) : Cl w { w with drawn := w.drawn + 1 } := ⟨⟨w.drew, (Fr.refl _ w).drew⟩, rfl⟩
theorem Calls.cl {P : Program} {f : FuncId} {args : Array Value} {w : World} {z : Aft w} {v : Value}
  (h : Calls P f args z.u fun e w' => e = .returned v /\ Still z.u w') : Calls P f args z.u fun e w'' => e = .returned v /\ ∃ y : Aft w, w'' = y.u :=
 h.mono fun _ w' ⟨he, hs⟩ => ⟨he, ⟨w', z.s.trans hs⟩, rfl⟩
theorem Calls.cl_same {P : Program} {f : FuncId} {args : Array Value} {w : World} {z : Aft w} {v : Value}
  (h : Calls P f args z.u fun e w' => e = .returned v /\ w' = z.u) : Calls P f args z.u fun e w'' => e = .returned v /\ ∃ y : Aft w, w'' = y.u :=
 h.mono fun _ _ ⟨he, hs⟩ => ⟨he, z, hs⟩
theorem region_all {P : Program} {id : Nat} {Q : Exit -> Act -> World -> Prop} {a : Act} {w : World} {l : List Oper} (hm : P.follows .mixedOrders = true) (hB : Region.lexB .any l.toArray = true)
  (h : wpQuiet P l.toArray (fun w' => ∃ z : Aft w, w' = z.u) (fun a' => ∀ w', Still w w' -> Q .normal a' w') l a) : (Code.region id l.toArray true).wp P Q a w :=
 wp_region_quiet (C := Cl w) hm hB (Cl.here w) (by
  have e : (fun a' => ∀ w', Still w w' -> Q .normal a' w') = fun a' => ∀ w', Cl w w' -> Q .normal a' w' := funext fun a' => propext ⟨fun h w' ⟨z, e⟩ => e ▸ h z.u z.s, fun h w' hs => h w' ⟨⟨w', hs⟩, rfl⟩⟩
  rw [e] at h
  simpa using h)
theorem region_rest {P : Program} {id : Nat} {Q : Exit -> Act -> World -> Prop} {a : Act} {w : World} {l : List Oper} (n : Nat) (hm : P.follows .mixedOrders = true) (hB : tailB l n = true)
  (h : wpQuiet P (l.take n).toArray (fun w' => ∃ z : Aft w, w' = z.u) (fun a' => ∀ w', Still w w' -> wpList P l.toArray Q (l.drop n) a' w') (l.take n) a) : (Code.region id l.toArray true).wp P Q a w := by
 have e : (fun a' => ∀ w', Still w w' -> wpList P l.toArray Q (l.drop n) a' w') = fun a' => ∀ w', Cl w w' -> wpList P l.toArray Q (l.drop n) a' w' := funext fun a' => propext ⟨fun h w' ⟨z, e⟩ => e ▸ h z.u z.s, fun h w' hs => h w' ⟨⟨w', hs⟩, rfl⟩⟩
 rw [e] at h
 exact region_tail (C := Cl w) n hm hB (Cl.here w) h
theorem Cl.cell {w : World} {p : Addr} {v : Value} (h : w.cell? p = some v) : ∀ z : Aft w, z.u.cell? p = some v :=
 fun z => (z.s.cell (World.block_lt_of_cell? w _ h) (fun e => e)).trans h
end Go.Proofs.YthcjckgmdokmdaaGreatDoor
namespace Go.Proofs.YthcjckgmdokmdaaGreatDoor
open Go.RowKit
open Pu Gp
abbrev pt (x y : Int) : Value := .agg #[.int .i64 x, .int .i64 y]
abbrev bx (a b c d : Int) : Value := .agg #[.int .i64 a, .int .i64 b, .int .i64 c, .int .i64 d]
theorem load_pt (w : World) (g : Nat) (x y : Int) (c0 : w.cell? ⟨g, 0, none⟩ = some (.int .i64 x)) (c1 : w.cell? ⟨g, 1, none⟩ = some (.int .i64 y)) :
  (loadVar 54 ⟨g, 0, none⟩).run Tryz.prog w = .ok (pt x y) w := by
 go_simp
theorem res_pt {fn : Func} {p : Tmp} (h : fn.results = #[.cell p 54]) (tmps : Array Value) (w : World) (g : Nat) (x y : Int) (hp : tmps.getD p undef = .pointer (some ⟨g, 0, none⟩))
  (c0 : w.cell? ⟨g, 0, none⟩ = some (.int .i64 x)) (c1 : w.cell? ⟨g, 1, none⟩ = some (.int .i64 y)) : (results fn tmps).run Tryz.prog w = .ok (pt x y) w := by
 have hp' : tmps[p]?.getD undef = .pointer (some ⟨g, 0, none⟩) := by simpa using hp
 simp [results, h, hp', asAddr, load_pt w g x y c0 c1]
def Pb (w : World) (b : Nat) (x y : Int) : Prop := w.heap[b]? = some (.cells #[.int .i64 x, .int .i64 y] 54 (0, 0))
theorem Pb.still {w w' : World} {b : Nat} {x y : Int} (h : Pb w b x y) (hs : Still w w') : Pb w' b x y := hs.kept_still h
theorem Pb.cells {w : World} {b : Nat} {x y : Int} (h : Pb w b x y) :
  w.cell? ⟨b, 0, none⟩ = some (.int .i64 x) /\ w.cell? ⟨b, 1, none⟩ = some (.int .i64 y) /\ ∀ o, w.frozen? ⟨b, o, none⟩ = false := by
 refine ⟨?_, ?_, fun o => frozen_of_row w b o _ _ h⟩ <;> (rw [cell_of_row _ _ _ _ _ _ h]; rfl)
abbrev setP (w : World) (b : Nat) (x y : Int) : World := (w.setCell ⟨b, 0, none⟩ (.int .i64 x)).setCell ⟨b, 1, none⟩ (.int .i64 y)
theorem Pb.set {w : World} {b : Nat} {x y : Int} (h : Pb w b x y) (x' y' : Int) : Pb (setP w b x' y') b x' y' := by
 unfold Pb
 have h1 := heap_setCell_same w b 0 _ _ (.int .i64 x') h
 have h2 := heap_setCell_same _ b 1 _ _ (.int .i64 y') h1
 rw [h2]; rfl
theorem setP_fr {F : Nat -> Prop} {a w : World} (h : Fr F a w) (b : Nat) (x y : Int) (hb : F b \/ a.heap.size <= b) : Fr F a (setP w b x y) := (h.setCell _ _ hb).setCell _ _ hb
theorem Pb.res {fn : Func} {p : Tmp} {w : World} {g : Nat} {x y : Int} (hb : Pb w g x y) (h : fn.results = #[.cell p 54]) (tmps : Array Value) (hp : tmps.getD p undef = .pointer (some ⟨g, 0, none⟩)) :
  (results fn tmps).run Tryz.prog w = .ok (pt x y) w := res_pt h tmps w g x y hp hb.cells.1 hb.cells.2.1
abbrev newP (w : World) (x y : Int) : World := w.alloc (.cells #[.int .i64 x, .int .i64 y] 54)
abbrev newB (w : World) (x y z u : Int) : World := w.alloc (.cells #[.int .i64 x, .int .i64 y, .int .i64 z, .int .i64 u] 194)
theorem newP_pb (w : World) (x y : Int) : Pb (newP w x y) w.heap.size x y := heap_alloc_new w _
theorem size_alloc (w : World) (o : Obj) : (w.alloc o).heap.size = w.heap.size + 1 := by simp
theorem gbound_any (x y : Int) (w : World) : Calls Tryz.prog 189 #[pt x y] w fun e w' => e = .returned (pt (bnd x) (bnd y)) /\ Still w w' := by
 obtain ⟨W, eW⟩ : ∃ W, W = (newP (newP w x y) 0 0) := ⟨_, rfl⟩
 have p0 : Pb W (w.heap.size) x y := by rw [eW]; have h := newP_pb w x y; exact (h.still (Still.alloc _ _))
 have c00 := Cl.cell p0.cells.1
 have c01 := Cl.cell p0.cells.2.1
 clear p0
 have r : Pb W (w.heap.size + 1) 0 0 := by rw [eW]; have h := newP_pb (newP w x y) 0 0; simp only [size_alloc] at h; exact h
 have HF := hid (show Still w W by rw [eW]; exact ((Still.alloc w _).trans (Still.alloc _ _)))
 have HW := hid eW
 have hne := Aft.here W
 clear eW
 have HB := hid (show w.heap.size <= w.heap.size + 1 by omega)
 go_enter Tryz.func189, Tryz.ntmps189
 go_wp2_with fail
 have e := HW.out
 simp only [newP] at e
 rw [<- e]
 clear e HW
 refine region_rest 6 (by kernel_rfl) (by kernel_rfl) ?_
 simp only [List.take_succ_cons, List.take_zero, List.drop_succ_cons, List.drop_zero]
 repeat (go_big_quiet_step ((go_at_call 206; exact Calls.cl_same (bound_any _ _))))
 refine wpQuiet_nil ?_
 intro w1 hs
 clear hne c00 c01
 have q := r.still hs
 obtain ⟨d0, d1, df⟩ := q.cells
 go_wp2_with fail
 (try simp only [Exit.inBlock, Exit.then])
 exact bodyPost_ret ((q.set _ _).res rfl _ rfl) rfl ⟨rfl, setP_fr (HF.out.trans hs) _ _ _ (.inr HB.out)⟩
theorem rgbound_any (x y : Int) (w : World) : Calls Tryz.prog 58 #[pt x y] w fun e w' => e = .returned (pt (bnd x) (bnd y)) /\ Still w w' := by
 obtain ⟨W, eW⟩ : ∃ W, W = (newP (newP w x y) 0 0) := ⟨_, rfl⟩
 have p0 : Pb W (w.heap.size) x y := by rw [eW]; have h := newP_pb w x y; exact (h.still (Still.alloc _ _))
 have c00 := Cl.cell p0.cells.1
 have c01 := Cl.cell p0.cells.2.1
 clear p0
 have r : Pb W (w.heap.size + 1) 0 0 := by rw [eW]; have h := newP_pb (newP w x y) 0 0; simp only [size_alloc] at h; exact h
 have HF := hid (show Still w W by rw [eW]; exact ((Still.alloc w _).trans (Still.alloc _ _)))
 have HW := hid eW
 have hne := Aft.here W
 clear eW
 have HB := hid (show w.heap.size <= w.heap.size + 1 by omega)
 go_enter Tryz.func58, Tryz.ntmps58
 go_wp2_with fail
 have e := HW.out
 simp only [newP] at e
 rw [<- e]
 clear e HW
 refine region_rest 6 (by kernel_rfl) (by kernel_rfl) ?_
 simp only [List.take_succ_cons, List.take_zero, List.drop_succ_cons, List.drop_zero]
 repeat (go_big_quiet_step ((go_at_call 109; exact Calls.cl_same (rbound_any _ _))))
 refine wpQuiet_nil ?_
 intro w1 hs
 clear hne c00 c01
 have q := r.still hs
 obtain ⟨d0, d1, df⟩ := q.cells
 go_wp2_with fail
 (try simp only [Exit.inBlock, Exit.then])
 exact bodyPost_ret ((q.set _ _).res rfl _ rfl) rfl ⟨rfl, setP_fr (HF.out.trans hs) _ _ _ (.inr HB.out)⟩
end Go.Proofs.YthcjckgmdokmdaaGreatDoor
namespace Go.Proofs.YthcjckgmdokmdaaGreatDoor
open Go.RowKit
open Pu Gp
theorem equal_pt (d : Nat) (x y z u : Int) (w : World) : (Op.equalIn (d + 2) 54 (pt x y) (pt z u)).run Tryz.prog w = .ok (x == z && y == u) w := by
 rw [run_equalIn_struct w (d + 1) _ _ _ (by kernel_rfl) (by kernel_rfl)]
 have e : (Tryz.prog.fieldsOf 54) = #[⟨ "X", 3, 0, false, "", "", 0⟩, ⟨ "Y", 3, 1, false, "", "", 8⟩] := by kernel_rfl
 rw [e]
 by_cases h1 : x = z
 ·by_cases h2 : y = u
  ·subst h1 h2
   go_simp
  ·have h3 : (y == u) = false := by simpa using h2
   subst h1
   go_simp
 ·have h3 : (x == z) = false := by simpa using h1
  go_simp
theorem eql_pt (x y z u : Int) (w : World) : (binOp .eql 54 (pt x y) (pt z u)).run Tryz.prog w = .ok (.bool (x == z && y == u)) w := by
 rw [run_eql_struct, equal_pt 9998]; rfl
theorem neq_pt (x y z u : Int) (w : World) : (binOp .neq 54 (pt x y) (pt z u)).run Tryz.prog w = .ok (.bool (!(x == z && y == u))) w := by
 rw [run_neq_struct, equal_pt 9998]; rfl
theorem guard_pt (op : BinOp) (a b : Operand) (xs ys : Array Value) (w : World) : (eqGuard op 54 a b (.agg xs) (.agg ys)).run Tryz.prog w = .ok () w := run_eqGuard_agg w op _ a b xs ys (by kernel_rfl)
theorem neq_pt_f {x y z u : Int} (h : x = z /\ y = u) (w : World) : (binOp .neq 54 (pt x y) (pt z u)).run Tryz.prog w = .ok (.bool false) w := by
 obtain ⟨h1, h2⟩ := h
 rw [neq_pt, h1, h2]; simp
theorem neq_pt_t {x y z u : Int} (h : ¬ (x = z /\ y = u)) (w : World) : (binOp .neq 54 (pt x y) (pt z u)).run Tryz.prog w = .ok (.bool true) w := by
 rw [neq_pt]
 have : (x == z && y == u) = false := by
  cases hb : (x == z && y == u) with
  | false => rfl
  | true => simp at hb; exact absurd hb h
 rw [this]; rfl
end Go.Proofs.YthcjckgmdokmdaaGreatDoor
namespace Go.Proofs.YthcjckgmdokmdaaGreatDoor
open Go.RowKit
open Pu Gp
end Go.Proofs.YthcjckgmdokmdaaGreatDoor
namespace Go.Proofs.YthcjckgmdokmdaaGreatDoor
open Go.RowKit
open Pu Gp
def okb (a b c d : Int) : Bool := decide (-2147483647 <= a /\ a <= 2147483647 /\ -2147483647 <= b /\ b <= 2147483647 /\ -2147483647 <= c /\ c <= 2147483647 /\ -2147483647 <= d /\ d <= 2147483647 /\ a <= c /\ b <= d)
def chk (a b c d : Int) : Int := if okb a b c d then 0 else 50
end Go.Proofs.YthcjckgmdokmdaaGreatDoor
namespace Go.Proofs.YthcjckgmdokmdaaGreatDoor
open Go.RowKit
open Pu Gp
end Go.Proofs.YthcjckgmdokmdaaGreatDoor
namespace Go.Proofs.YthcjckgmdokmdaaGreatDoor
open Go
theorem wp_of_at {P : Program} {o : Oper} {a : Act} {w : World} {v : Value} {K : Act -> World -> Prop} {Q : Exit -> Act -> World -> Prop} (h : o.quietAt P a (fun u => Still w u) w v)
  (hK : ∀ w', Still w w' -> K (a.put o.dst v) w') : o.wp P a w K Q := by
 unfold Oper.quietAt at h
 unfold Oper.wp
 generalize (execOp a.eval o).run P w = r at h ⊢
 cases r with
 | halt x w' => simp only [Oper.quietUpon] at h
 | ok n w' =>
  cases n <;> simp only [Oper.quietUpon] at h
  case value u =>
   obtain ⟨rfl, rfl⟩ := h
   rw [Oper.upon_value]
   exact hK _ (Fr.refl _ _)
  case skip =>
   obtain ⟨rfl, rfl⟩ := h
   rw [Oper.upon_skip]
   exact hK _ (Fr.refl _ _)
  case enter f args =>
   obtain ⟨rfl, hc⟩ := h
   simp only [Oper.upon]
   exact hc.mono fun e w'' ⟨he, hs⟩ => by subst he; exact hK _ hs
def eachB (ops : Array Oper) (n d : Nat) : Bool :=
  (List.range n).all fun j => match ops[j]? with
    | some o => o.guard.isNone && (o.dst != some d) && (o.dst.isSome) &&
        ((List.range n).all fun i => (i == j) || (match ops[i]? with | some p => p.dst != o.dst | none => false)) &&
        o.op.operands.toList.all fun x => match x with
          | .tmp t => (t != d) && (List.range n).all fun i => match ops[i]? with
              | some p => (p.dst != some t) || o.after.any fun e => e.on == i && Region.binds .any e
              | none => false
          | _ => true
    | none => false
section
variable {P : Program} {W : World} {l : List Oper} {n d : Nat} {A : Act} {z : Obj}
structure Mid (l : List Oper) (n d : Nat) (A : Act) (W : World) (z : Obj) (L : Array Bool) (a : Act) (w : World) : Prop where
 still : Still W w
 size : a.tmps.size = A.tmps.size
 defers : a.defers = A.defers
 rest : ∀ t, (∀ j o, j < n -> l[j]? = some o -> o.dst ≠ some t) -> t ≠ d -> a.tmps[t]? = A.tmps[t]?
 done : ∀ j o t, j < n -> l[j]? = some o -> o.dst = some t -> L.getD j true = true -> a.tmps[t]? = A.tmps[t]?
 new : L.getD n true = true -> ∃ g, a.tmps[d]? = some (.pointer (some ⟨g, 0, none⟩)) /\ w.heap[g]? = some z /\ W.heap.size <= g
theorem each_spec (h : eachB l.toArray n d = true) {j : Nat} {o : Oper} (hj : j < n) (ho : l[j]? = some o) :
  o.guard = none /\ o.dst ≠ some d /\ (∃ t, o.dst = some t) /\ (∀ i p, i < n -> l[i]? = some p -> i ≠ j -> p.dst ≠ o.dst) /\
  ∀ t, .tmp t ∈ o.op.operands -> t ≠ d /\ ∀ i p, i < n -> l[i]? = some p -> p.dst = some t -> ∃ e ∈ o.after, e.on = i /\ Region.binds .any e = true := by
 have h1 := List.all_eq_true.1 h j (List.mem_range.2 hj)
 have ho' : l.toArray[j]? = some o := by simpa using ho
 simp only [ho', Bool.and_eq_true] at h1
 obtain ⟨⟨⟨⟨h2, h3⟩, h4⟩, h5⟩, h6⟩ := h1
 refine ⟨by simpa using h2, by simpa using h3, Option.isSome_iff_exists.1 h4, fun i p hi hp hij => ?_, fun t ht => ?_⟩
 ·have := List.all_eq_true.1 h5 i (List.mem_range.2 hi)
  have hp' : l.toArray[i]? = some p := by simpa using hp
  simp only [hp', Bool.or_eq_true, beq_iff_eq] at this
  rcases this with e | e
  ·exact absurd e hij
  ·simpa using e
 ·have := List.all_eq_true.1 h6 (.tmp t) (by simpa using ht)
  simp only [Bool.and_eq_true] at this
  refine ⟨by simpa using this.1, fun i p hi hp hd => ?_⟩
  have h7 := List.all_eq_true.1 this.2 i (List.mem_range.2 hi)
  have hp' : l.toArray[i]? = some p := by simpa using hp
  simp only [hp', Bool.or_eq_true] at h7
  rcases h7 with e | e
  ·simp [hd] at e
  ·obtain ⟨e, he, hb⟩ := Array.any_eq_true'.1 e
   simp only [Bool.and_eq_true, beq_iff_eq] at hb
   exact ⟨e, he, hb.1, hb.2⟩
theorem tmps_eval {a b : Act} {t : Nat} (h : a.tmps[t]? = b.tmps[t]?) : a.eval (.tmp t) = b.eval (.tmp t) := by
 simp only [Act.eval, Array.getD_eq_getD_getElem?, h]
theorem getD_true_false {L : Array Bool} {i : Nat} (hi : i < L.size) (h : L.getD i false = true) : L.getD i true = true := by
 simp [hi] at h ⊢; exact h
theorem any_new {dn : Nat} {on : Oper} {g' : Nat} {Q' : Exit -> Act -> World -> Prop} (hE : eachB l.toArray n dn = true) (hsel : Region.noSelect l.toArray = true) (hlow : lowB l.toArray (n + 1) = true)
  (hs : Region.sinkB .any l.toArray (n + 1) = true) (hc : Region.chainB .any l.toArray (n + 1) = true) (hn : n + 1 < l.length) (hon : l[n]? = some on) (hdn : on.dst = some dn) (hgn : on.guard = none) (hdA : dn < A.tmps.size)
  (hop : ∀ j o, j < n -> l[j]? = some o -> ∀ w, Still W w -> ∀ t, o.dst = some t -> o.quietAt P A (fun u => Still w u) w (A.tmps.getD t undef) /\ t < A.tmps.size)
  (hnew : ∀ w, Still W w -> ∀ a : Act, (execOp a.eval on).run P w = .ok (.value (.pointer (some ⟨w.heap.size, 0, none⟩))) (w.alloc z))
  (hdone : ∀ (L : Array Bool) a w, L.size = l.length -> (∀ i, i < n + 1 -> L.getD i true = true) -> (∀ t, n + 1 <= t -> t < l.length -> L.getD t true = false) -> Mid l n dn A W z L a w -> wpAny P .any l.toArray Q' g' L a w) :
  ∀ (f : Nat) (L : Array Bool) (a : Act) (w : World), HeadInv .any l.toArray (n + 1) L -> cnt L (n + 1) = f -> Mid l n dn A W z L a w -> wpAny P .any l.toArray Q' (f + g') L a w
 | 0, L, a, w, inv, hcnt, hm => by
  rw [Nat.zero_add]
  exact hdone L a w (by simpa using inv.size) (cnt_zero hcnt) (fun t h1 h2 => inv.tail t h1 (by simpa using h2)) hm
 | f + 1, L, a, w, inv, hcnt, hm => by
  rw [show f + 1 + g' = (f + g') + 1 by omega]
  obtain ⟨i, hi, hun, hmin⟩ := cnt_pos (L := L) (n := n + 1) (by omega)
  have hsz : l.toArray.size = l.length := by simp
  have hLs : L.size = l.length := by rw [inv.size, hsz]
  refine ⟨fun h0 => ?_, fun j hj => ?_⟩
  ·exfalso
   obtain ⟨o, ho⟩ : ∃ o, l.toArray[i]? = some o := ⟨_, Array.getElem?_eq_getElem (by simp; omega)⟩
   have : i ∈ Region.ready .any l.toArray L := mem_ready.2 ⟨hun, o, ho, fun e he _ => by
    have hlt := (lowB_spec hlow hi ho).1 e he
    have hin : e.on < L.size := by omega
    have := hmin e.on hlt
    simp [hin] at this ⊢
    exact this⟩
   rw [h0] at this
   cases this
  ·have hjn : j < n + 1 := by
    rcases Nat.lt_or_ge j (n + 1) with h' | h'
    ·exact h'
    ·exact absurd hj (tail_waits hs hc (by rw [hsz]; exact hn) inv _ i rfl hi hun j h')
   obtain ⟨hju, o, ho, hall⟩ := mem_ready.1 hj
   have ho' : l[j]? = some o := by simpa using ho
   have next : ∀ (a' : Act) (w' : World), Mid l n dn A W z (L.setIfInBounds j true) a' w' -> wpAny P .any l.toArray Q' (f + g') (L.setIfInBounds j true) a' w' := fun a' w' hm' =>
    any_new hE hsel hlow hs hc hn hon hdn hgn hdA hop hnew hdone f _ a' w' (inv.set hj hjn) (by have := cnt_set hju hjn; omega) hm'
   unfold wpOp
   simp only [ho]
   by_cases hjN : j = n
   ·subst hjN
    obtain rfl : on = o := Option.some.inj (hon.symm.trans ho')
    rw [if_pos (by unfold Region.wanted; rw [hgn])]
    refine .inl ?_
    unfold Oper.wp
    rw [hnew w hm.still a, Oper.upon_value]
    refine next _ _ ⟨hm.still.trans (Still.alloc w z), ?_, ?_, fun t h1 h2 => ?_, fun k p t hk hp ht hl => ?_, fun _ => ⟨w.heap.size, ?_, ?_, hm.still.size⟩⟩
    ·simp [Act.put, hdn, hm.size]
    ·simp [Act.put, hdn, hm.defers]
    ·simp only [Act.put, hdn, Array.getElem?_setIfInBounds_ne (Ne.symm h2)]
     exact hm.rest t h1 h2
    ·have hne : t ≠ dn := fun e => (each_spec hE hk hp).2.1 (by rw [ht, e])
     rw [getD_set_ne true (by omega)] at hl
     simp only [Act.put, hdn, Array.getElem?_setIfInBounds_ne (Ne.symm hne)]
     exact hm.done k p t hk hp ht hl
    ·simp only [Act.put, hdn]
     rw [Array.getElem?_setIfInBounds_self]
     simp [hm.size, hdA]
    ·exact heap_alloc_new w z
   ·have hj' : j < n := by omega
    obtain ⟨hg, hd1, ⟨t, ht⟩, hd2, hopn⟩ := each_spec hE hj' ho'
    rw [if_pos (by unfold Region.wanted; rw [hg])]
    refine .inl ?_
    have hcong : execOp a.eval o = execOp A.eval o := execOp_congr o (fun cs b => Region.noSelect_spec hsel j o cs b ho) fun x hx => by
     cases x with
     | tmp s =>
      obtain ⟨hs1, hs2⟩ := hopn s hx
      refine tmps_eval ?_
      by_cases hex : ∃ k p, k < n /\ l[k]? = some p /\ p.dst = some s
      ·obtain ⟨k, p, hk, hp, hps⟩ := hex
       obtain ⟨e, he, heo, hb⟩ := hs2 k p hk hp hps
       have := hall e he hb
       rw [heo] at this
       exact hm.done k p s hk hp hps (getD_true_false (by omega) this)
      ·exact hm.rest s (fun k p hk hp hps => hex ⟨k, p, hk, hp, hps⟩) hs1
     | const v => rfl
     | global g => rfl
     | func f => rfl
    obtain ⟨hq, hta⟩ := hop j o hj' ho' w hm.still t ht
    have hq' : o.quietAt P a (fun u => Still w u) w (A.tmps.getD t undef) := by
     unfold Oper.quietAt at hq ⊢
     rw [hcong]
     exact hq
    refine wp_of_at hq' fun w' hw' => next _ _ ⟨hm.still.trans hw', ?_, ?_, fun s h1 h2 => ?_, fun k p s hk hp hps hl => ?_, fun hl => ?_⟩
    ·simp [Act.put, ht, hm.size]
    ·simp [Act.put, ht, hm.defers]
    ·have hne : t ≠ s := fun e => h1 j o hj' ho' (by rw [ht, e])
     simp only [Act.put, ht, Array.getElem?_setIfInBounds_ne hne]
     exact hm.rest s h1 h2
    ·by_cases hkj : k = j
     ·subst hkj
      obtain rfl : o = p := Option.some.inj (ho'.symm.trans hp)
      obtain rfl : t = s := Option.some.inj (ht.symm.trans hps)
      simp only [Act.put, ht]
      rw [Array.getElem?_setIfInBounds_self]
      simp [hm.size, hta]
     ·have hne : t ≠ s := fun e => hd2 k p hk hp hkj (by rw [ht, hps, e])
      rw [getD_set_ne true (by omega)] at hl
      simp only [Act.put, ht, Array.getElem?_setIfInBounds_ne hne]
      exact hm.done k p s hk hp hps hl
    ·rw [getD_set_ne true hjN] at hl
     obtain ⟨g, hg1, hg2, hg3⟩ := hm.new hl
     have hne : t ≠ dn := fun e => hd1 (by rw [ht, e])
     refine ⟨g, ?_, hw'.kept_still hg2, hg3⟩
     simp only [Act.put, ht, Array.getElem?_setIfInBounds_ne hne]
     exact hg1
def newB? (l : List Oper) (n d : Nat) : Bool :=
 eachB l.toArray n d && Region.noSelect l.toArray && lowB l.toArray (n + 1) && Region.sinkB .any l.toArray (n + 1) && Region.chainB .any l.toArray (n + 1) && decide (n + 1 < l.length) &&
  Region.seqB .any l.toArray (l.length - (n + 1)) (n + 1) (List.replicate (n + 1) true ++ List.replicate (l.length - (n + 1)) false).toArray
theorem region_new {id : Nat} {Q : Exit -> Act -> World -> Prop} {a : Act} {w : World} {on : Oper} (n d : Nat) (A : Act) (z : Obj) (hm : P.follows .mixedOrders = true) (hB : newB? l n d = true) (hon : l[n]? = some on) (hdn : on.dst = some d) (hgn : on.guard = none) (hdA : d < A.tmps.size)
  (hsize : a.tmps.size = A.tmps.size) (hdef : a.defers = A.defers) (hrest : ∀ t, (∀ j o, j < n -> l[j]? = some o -> o.dst ≠ some t) -> t ≠ d -> a.tmps[t]? = A.tmps[t]?)
  (hop : ∀ j o, j < n -> l[j]? = some o -> ∀ u, Still w u -> ∀ t, o.dst = some t -> o.quietAt P A (fun v => Still u v) u (A.tmps.getD t undef) /\ t < A.tmps.size)
  (hnew : ∀ u, Still w u -> ∀ b : Act, (execOp b.eval on).run P u = .ok (.value (.pointer (some ⟨u.heap.size, 0, none⟩))) (u.alloc z))
  (h : ∀ u g, Still w u -> w.heap.size <= g -> u.heap[g]? = some z -> wpList P l.toArray Q (l.drop (n + 1)) (A.put (some d) (.pointer (some ⟨g, 0, none⟩))) u) : (Code.region id l.toArray true).wp P Q a w := by
 simp only [newB?, Bool.and_eq_true, decide_eq_true_eq] at hB
 obtain ⟨⟨⟨⟨⟨⟨hE, hsel⟩, hlow⟩, hs⟩, hc⟩, hn⟩, hseq⟩ := hB
 have inv0 : HeadInv .any l.toArray (n + 1) (Array.replicate l.length false) :=
  ⟨by simp, fun j oj _ hl => (by rw [getD_replicate_false] at hl; cases hl), fun t _ ht => getD_in (by simpa using ht) (getD_replicate_false _ _)⟩
 refine wp_region_any hm ?_
 have hst : Still w { w with drawn := w.drawn + 1 } := (Fr.refl _ w).drew
 have key := any_new (P := P) (W := w) (A := A) (z := z) (Q' := Q) (g' := l.length - (n + 1)) hE hsel hlow hs hc hn hon hdn hgn hdA hop hnew (fun L a' w' hsz h1 h2 hm' => by
  have e := full_eq (by omega) hsz h1 h2
  obtain ⟨g, hg1, hg2, hg3⟩ := hm'.new (h1 n (by omega))
  have ea : a' = A.put (some d) (.pointer (some ⟨g, 0, none⟩)) := by
   obtain ⟨ts, df⟩ := a'
   obtain ⟨Ts, Df⟩ := A
   have e2 : df = Df := hm'.defers
   subst e2
   have e1 : ts = Ts.setIfInBounds d (.pointer (some ⟨g, 0, none⟩)) := by
    apply Array.ext_getElem?
    intro t
    by_cases htd : t = d
    ·subst htd
     rw [hg1, Array.getElem?_setIfInBounds_self]
     simp only [show t < Ts.size from hdA, if_true]
    ·rw [Array.getElem?_setIfInBounds_ne (Ne.symm htd)]
     by_cases hex : ∃ k p, k < n /\ l[k]? = some p /\ p.dst = some t
     ·obtain ⟨k, p, hk, hp, hps⟩ := hex
      exact hm'.done k p t hk hp hps (h1 k (by omega))
     ·exact hm'.rest t (fun k p hk hp hps => hex ⟨k, p, hk, hp, hps⟩) htd
   rw [e1]; rfl
  rw [ea]
  subst e
  have := wpAny_of_seq (P := P) (md := .any) (ops := l.toArray) (Q' := Q) (l.drop (n + 1)) (n + 1) _ _ w' (fun j => by simp [List.getElem?_drop]) (by simpa using hseq) (h w' g hm'.still hg3 hg2)
  simpa using this) (n + 1) (Array.replicate l.length false) a { w with drawn := w.drawn + 1 } inv0 (cnt_new (by omega))
  ⟨hst, hsize, hdef, hrest, fun j o t hj ho ht hl => (by simp [show j < l.length by omega] at hl), fun hl => (by simp [show n < l.length by omega] at hl)⟩
 have e : n + 1 + (l.length - (n + 1)) = l.toArray.size := by simp; omega
 rw [e] at key
 simpa using key
def puts (a : Act) : List Oper -> List Value -> Act
 | o :: r, v :: vs => puts (a.put o.dst v) r vs
 | _, _ => a
theorem puts_same : ∀ (ops : List Oper) (vs : List Value) (a : Act), (puts a ops vs).tmps.size = a.tmps.size /\ (puts a ops vs).defers = a.defers /\ ∀ t, (∀ o ∈ ops, o.dst ≠ some t) -> (puts a ops vs).tmps[t]? = a.tmps[t]?
 | [], vs, a => by cases vs <;> exact ⟨rfl, rfl, fun _ _ => rfl⟩
 | o :: r, [], a => ⟨rfl, rfl, fun _ _ => rfl⟩
 | o :: r, v :: vs, a => by
  obtain ⟨h1, h2, h3⟩ := puts_same r vs (a.put o.dst v)
  have e : puts a (o :: r) (v :: vs) = puts (a.put o.dst v) r vs := rfl
  rw [e, h1, h2]
  refine ⟨?_, ?_, fun t ht => ?_⟩
  ·cases hd : o.dst <;> simp [Act.put]
  ·cases hd : o.dst <;> simp [Act.put]
  ·rw [h3 t fun p hp => ht p (List.mem_cons_of_mem _ hp)]
   have := ht o (List.mem_cons_self ..)
   cases hd : o.dst with
   | none => rfl
   | some d =>
    rw [hd] at this
    have hne : d ≠ t := fun e => this (by rw [e])
    simp only [Act.put, Array.getElem?_setIfInBounds_ne hne]
def wpEach (P : Program) (W : World) (A : Act) : List Oper -> Prop
 | [] => True
 | o :: r => (∀ u, Still W u -> o.quietAt P A (fun v => Still u v) u (A.tmps.getD (o.dst.getD 0) undef)) /\ wpEach P W A r
theorem wpEach_at : ∀ {ops : List Oper}, wpEach P W A ops -> ∀ (j : Nat) (o : Oper), ops[j]? = some o -> ∀ u, Still W u -> o.quietAt P A (fun v => Still u v) u (A.tmps.getD (o.dst.getD 0) undef)
 | [], _, j, o, h => by simp at h
 | p :: r, hw, 0, o, h => by
  simp at h
  subst h
  exact hw.1
 | p :: r, hw, j + 1, o, h => wpEach_at hw.2 j o (by simpa using h)
def inB (l : List Oper) (n m : Nat) : Bool := (l.take n).all fun o => match o.dst with | some t => decide (t < m) | none => true
theorem region_var {id : Nat} {Q : Exit -> Act -> World -> Prop} {a : Act} {w : World} {on : Oper} (n d : Nat) (z : Obj) (vs : List Value) (A : Act) (hm : P.follows .mixedOrders = true) (hB : newB? l n d = true) (hon : l[n]? = some on) (hdn : on.dst = some d) (hgn : on.guard = none)
  (hA : puts a (l.take n) vs = A) (hI : inB l n A.tmps.size = true) (hdA : d < A.tmps.size)
  (hop : wpEach P w A (l.take n))
  (hnew : ∀ u, Still w u -> ∀ b : Act, (execOp b.eval on).run P u = .ok (.value (.pointer (some ⟨u.heap.size, 0, none⟩))) (u.alloc z))
  (h : ∀ u g, Still w u -> w.heap.size <= g -> u.heap[g]? = some z -> wpList P l.toArray Q (l.drop (n + 1)) (A.put (some d) (.pointer (some ⟨g, 0, none⟩))) u) : (Code.region id l.toArray true).wp P Q a w := by
 obtain ⟨e1, e2, e3⟩ := puts_same (l.take n) vs a
 rw [hA] at e1 e2 e3
 refine region_new n d A z hm hB hon hdn hgn hdA e1.symm e2.symm (fun t h1 _ => (e3 t fun o ho => ?_).symm) (fun j o hj ho u hu t ht => ?_) hnew h
 ·obtain ⟨j, hj, e⟩ := List.mem_iff_getElem.1 ho
  have hjn : j < n := by simp at hj; omega
  exact h1 j o hjn (by rw [<- e]; simp)
 ·have := wpEach_at hop j o (by rw [List.getElem?_take_of_lt hj]; exact ho) u hu
  rw [ht] at this
  refine ⟨this, ?_⟩
  have h2 := List.all_eq_true.1 hI o (List.mem_iff_getElem?.2 ⟨j, by rw [List.getElem?_take_of_lt hj]; exact ho⟩)
  rw [ht] at h2
  simpa using h2
end
end Go.Proofs.YthcjckgmdokmdaaGreatDoor
namespace Go.Proofs.YthcjckgmdokmdaaGreatDoor
open Go.RowKit
open Pu Gp
def mt (a b c d a' b' c' d' : Int) : Bool := (okb a b c d && okb a' b' c' d') && okb (max a a') (max b b') (min c c') (min d d')
end Go.Proofs.YthcjckgmdokmdaaGreatDoor
namespace Go.Proofs.YthcjckgmdokmdaaGreatDoor
open Go.RowKit
open Pu Gp
def hdF (g : Nat -> Int) : Nat -> Nat
 | 0 => 0
 | k + 1 => if g (hdF g k) < g k then k else hdF g k
def hd (x y : Int) : Nat := hdF (dot x y) 16
end Go.Proofs.YthcjckgmdokmdaaGreatDoor
set_option maxRecDepth 100000
namespace Go.Proofs.YthcjckgmdokmdaaGreatDoor.Ap
open Pu Gp
/-! ### Cells -/
def dn (n : Int) : Int := n / 4096
theorem dn_eq (n : Int) : (if n < n.tdiv 4096 * 4096 then n.tdiv 4096 - 1 else n.tdiv 4096) = dn n := by
 unfold dn
 rcases Int.le_total 0 n with h | h
 ·rw [Int.tdiv_eq_ediv_of_nonneg h]
  split <;> omega
 ·have e : n.tdiv 4096 = -((-n) / 4096) := by
   rw [<- Int.tdiv_eq_ediv_of_nonneg (show 0 <= -n by omega), Int.neg_tdiv]; omega
  rw [e]
  split <;> omega
def anyC (sol : Int -> Int -> Bool) (l t r b : Int) : Bool := (List.range (b - t + 1).toNat).any fun j => (List.range (r - l + 1).toNat).any fun i => sol (l + (i : Int)) (t + (j : Int))
def tch (sol : Int -> Int -> Bool) (a b c d : Int) : Bool := anyC sol (dn a) (dn b) (dn c) (dn d)
/-! ### A way that is gone step by step -/
def go (t : Nat -> Bool) : Nat -> Nat
 | 0 => 0
 | n + 1 => if go t n = n /\ t (n + 1) = false then n + 1 else go t n
/-! ### Steps -/
def stp (n : Int) : Int := clampf n (-2048) 2048
def sgn (n : Int) : Int := if 0 < n then 1 else if n < 0 then -1 else 0
def bdy (sol : Int -> Int -> Bool) (r x y : Int) : Bool := tch sol (subf x r) (subf y r) (addf x r) (addf y r)
end Go.Proofs.YthcjckgmdokmdaaGreatDoor.Ap
namespace Go.Proofs.YthcjckgmdokmdaaGreatDoor
open Go.RowKit
open Pu Gp Ap
abbrev ar (C R : Int) (s : ByteArray) : Value := .agg #[.int .i64 C, .int .i64 R, .string s]
def Ab (w : World) (b : Nat) (C R : Int) (s : ByteArray) : Prop := w.heap[b]? = some (.cells #[.int .i64 C, .int .i64 R, .string s] 24 (0, 0))
theorem Ab.still {w w' : World} {b : Nat} {C R : Int} {s : ByteArray} (h : Ab w b C R s) (hs : Still w w') : Ab w' b C R s := hs.kept_still h
theorem Ab.cells {w : World} {b : Nat} {C R : Int} {s : ByteArray} (h : Ab w b C R s) :
  w.cell? ⟨b, 0, none⟩ = some (.int .i64 C) /\ w.cell? ⟨b, 1, none⟩ = some (.int .i64 R) /\ w.cell? ⟨b, 2, none⟩ = some (.string s) /\ ∀ o, w.frozen? ⟨b, o, none⟩ = false := by
 refine ⟨?_, ?_, ?_, fun o => frozen_of_row w b o _ _ h⟩ <;> (rw [cell_of_row _ _ _ _ _ _ h]; rfl)
abbrev newA (w : World) (C R : Int) (s : ByteArray) : World := w.alloc (.cells #[.int .i64 C, .int .i64 R, .string s] 24)
theorem newA_ab (w : World) (C R : Int) (s : ByteArray) : Ab (newA w C R s) w.heap.size C R s := heap_alloc_new w _
theorem rdown_any (n : Int) (h0 : -9223372036854775808 <= n) (h1 : n <= 9223372036854775807) (w : World) : Calls Tryz.prog 157 #[.int .i64 n] w fun e w' => e = .returned (.int .i64 (dn n)) /\ w' = w := by
 have e := dn_eq n
 have b : -2251799813685248 <= n.tdiv 4096 /\ n.tdiv 4096 <= 2251799813685247 := by
  rcases Int.le_total 0 n with h | h
  ·rw [Int.tdiv_eq_ediv_of_nonneg h]; omega
  ·have e : n.tdiv 4096 = -((-n) / 4096) := by
    rw [<- Int.tdiv_eq_ediv_of_nonneg (show 0 <= -n by omega), Int.neg_tdiv]; omega
   omega
 obtain ⟨b0, b1⟩ := b
 clear h0 h1
 by_cases h : n < n.tdiv 4096 * 4096
 ·rw [if_pos h] at e
  rw [<- e]
  clear e
  go_enter Tryz.func157, Tryz.ntmps157
  go_wp2
  go_ret
  exact ⟨rfl, rfl⟩
 ·rw [if_neg h] at e
  rw [<- e]
  clear e
  go_enter Tryz.func157, Tryz.ntmps157
  go_wp2
  go_ret
  exact ⟨rfl, rfl⟩
def byt (s : ByteArray) (n : Nat) : Int := ((s.data.toList.getD n 0).toNat : Int)
theorem data_at (s : ByteArray) (n : Nat) (h : n < s.size) : s.data.toList[n]? = some s[n] := by
 rw [Array.getElem?_toList, Array.getElem?_eq_getElem h]; rfl
theorem byt_at (s : ByteArray) (n : Nat) (h : n < s.size) : ((s[n]'h).toNat : Int) = byt s n := by
 unfold byt
 rw [List.getD_eq_getElem?_getD, data_at s n h]
 rfl
theorem rsign_any (C R col row : Int) (s : ByteArray) (k : Nat) (h0 : 0 <= row * C) (hc : 0 <= col) (hk : row * C + col = (k : Int)) (hs : k < s.size) (hz : s.size <= 9223372036854775807) (w : World) :
  Calls Tryz.prog 108 #[ar C R s, .int .i64 col, .int .i64 row] w fun e w' => e = .returned (.int .u8 (byt s k)) /\ Still w w' := by
 have e := byt_at s k hs
 have h1 : row * C <= 9223372036854775807 := by omega
 go_enter Tryz.func108, Tryz.ntmps108
 go_wp2_with fail
 go_ret
 exact ⟨rfl, Still.alloc w _⟩
def solB (C R : Int) (s : ByteArray) (col row : Int) : Bool := if col < 0 \/ C <= col \/ row < 0 \/ R <= row then true else if (s.size : Int) <= row * C + col then true else byt s (row * C + col).toNat == 35
theorem sol_out {C R col row : Int} {s : ByteArray} (h : col < 0 \/ C <= col \/ row < 0 \/ R <= row) : solB C R s col row = true := by unfold solB; rw [if_pos h]
theorem sol_end {C R col row : Int} {s : ByteArray} (h : (s.size : Int) <= row * C + col) : solB C R s col row = true := by
 unfold solB
 by_cases k : col < 0 \/ C <= col \/ row < 0 \/ R <= row
 ·rw [if_pos k]
 ·rw [if_neg k, if_pos h]
theorem sol_at {C R col row : Int} {s : ByteArray} {k : Nat} (h : ¬ (col < 0 \/ C <= col \/ row < 0 \/ R <= row)) (hk : row * C + col = (k : Int)) (hs : k < s.size) : solB C R s col row = (byt s k == 35) := by
 unfold solB
 rw [if_neg h, if_neg (by omega), hk]
 rfl
theorem rsol1 (C R col row : Int) (s : ByteArray) (h1 : col < 0) (w : World) : Calls Tryz.prog 53 #[ar C R s, .int .i64 col, .int .i64 row] w fun e w' => e = .returned (.bool true) /\ Still w w' := by
 go_enter Tryz.func53, Tryz.ntmps53
 go_wp2_with fail
 go_ret
 exact ⟨rfl, Still.alloc w _⟩
theorem rsol2 (C R col row : Int) (s : ByteArray) (h1 : 0 <= col) (h2 : C <= col) (w : World) : Calls Tryz.prog 53 #[ar C R s, .int .i64 col, .int .i64 row] w fun e w' => e = .returned (.bool true) /\ Still w w' := by
 go_enter Tryz.func53, Tryz.ntmps53
 go_wp2_with fail
 go_ret
 exact ⟨rfl, Still.alloc w _⟩
theorem rsol3 (C R col row : Int) (s : ByteArray) (h1 : 0 <= col) (h2 : col < C) (h3 : row < 0) (w : World) : Calls Tryz.prog 53 #[ar C R s, .int .i64 col, .int .i64 row] w fun e w' => e = .returned (.bool true) /\ Still w w' := by
 go_enter Tryz.func53, Tryz.ntmps53
 go_wp2_with fail
 go_ret
 exact ⟨rfl, Still.alloc w _⟩
theorem rsol4 (C R col row : Int) (s : ByteArray) (h1 : 0 <= col) (h2 : col < C) (h3 : 0 <= row) (h4 : R <= row) (w : World) : Calls Tryz.prog 53 #[ar C R s, .int .i64 col, .int .i64 row] w fun e w' => e = .returned (.bool true) /\ Still w w' := by
 go_enter Tryz.func53, Tryz.ntmps53
 go_wp2_with fail
 go_ret
 exact ⟨rfl, Still.alloc w _⟩
theorem rsol5 (C R col row : Int) (s : ByteArray) (h1 : 0 <= col) (h2 : col < C) (h3 : 0 <= row) (h4 : row < R) (h5 : (s.size : Int) < C) (h6 : 0 < row) (w : World) : Calls Tryz.prog 53 #[ar C R s, .int .i64 col, .int .i64 row] w fun e w' => e = .returned (.bool true) /\ Still w w' := by
 go_enter Tryz.func53, Tryz.ntmps53
 go_wp2_with fail
 go_ret
 exact ⟨rfl, Still.alloc w _⟩
set_option maxHeartbeats 2000000 in
theorem rsol6 (C R col row : Int) (s : ByteArray) (h1 : 0 <= col) (h2 : col < C) (h3 : 0 <= row) (h4 : row < R) (h5 : ¬ ((s.size : Int) < C /\ 0 < row)) (hz : s.size <= 281474976710656) (h6 : (s.size : Int) / C < row) (w : World) : Calls Tryz.prog 53 #[ar C R s, .int .i64 col, .int .i64 row] w fun e w' => e = .returned (.bool true) /\ Still w w' := by
 have e : ((s.size : Nat) : Int).tdiv C = (s.size : Int) / C := Int.tdiv_eq_ediv_of_nonneg (by omega)
 have q0 : 0 <= (s.size : Int) / C := Int.ediv_nonneg (by omega) (by omega)
 have q1 : (s.size : Int) / C <= (s.size : Int) := Int.ediv_le_self _ (by omega)
 have hp : (decide ((s.size : Int) < C) = false) \/ (decide ((s.size : Int) < C) = true /\ decide (0 < row) = false) := by
  by_cases k : (s.size : Int) < C
  ·exact .inr ⟨by simpa using k, by simp; omega⟩
  ·exact .inl (by simpa using k)
 clear h5
 rcases hp with hp | ⟨hp, hp2⟩
 all_goals
  go_enter Tryz.func53, Tryz.ntmps53
  go_wp2_with fail
  go_ret
  exact ⟨rfl, Still.alloc w _⟩
set_option maxHeartbeats 2000000 in
theorem rsol7 (C R col row : Int) (s : ByteArray) (h1 : 0 <= col) (h2 : col < C) (h3 : 0 <= row) (h4 : row < R) (h5 : ¬ ((s.size : Int) < C /\ 0 < row)) (hz : s.size <= 281474976710656) (h6 : row <= (s.size : Int) / C) (h7 : (s.size : Int) <= row * C + col) (c0 : C <= 9223372036854775807) (w : World) : Calls Tryz.prog 53 #[ar C R s, .int .i64 col, .int .i64 row] w fun e w' => e = .returned (.bool true) /\ Still w w' := by
 have e : ((s.size : Nat) : Int).tdiv C = (s.size : Int) / C := Int.tdiv_eq_ediv_of_nonneg (by omega)
 have q0 : 0 <= (s.size : Int) / C := Int.ediv_nonneg (by omega) (by omega)
 have q1 : (s.size : Int) / C <= (s.size : Int) := Int.ediv_le_self _ (by omega)
 have hp : (decide ((s.size : Int) < C) = false) \/ (decide ((s.size : Int) < C) = true /\ decide (0 < row) = false) := by
  by_cases k : (s.size : Int) < C
  ·exact .inr ⟨by simpa using k, by simp; omega⟩
  ·exact .inl (by simpa using k)
 have m0 : 0 <= row * C := Int.mul_nonneg h3 (by omega)
 have m1 : row * C <= (s.size : Int) := Int.le_trans (Int.mul_le_mul_of_nonneg_right h6 (by omega)) (Int.ediv_mul_le _ (by omega))
 have m2 : row * C + col <= 9223372036854775807 := by
  by_cases k : (s.size : Int) < C
  ·have : row = 0 := by omega
   subst this
   omega
  ·omega
 clear h5
 rcases hp with hp | ⟨hp, hp2⟩
 all_goals
  go_enter Tryz.func53, Tryz.ntmps53
  go_wp2_with fail
  go_ret
  exact ⟨rfl, Still.alloc w _⟩
set_option maxHeartbeats 2000000 in
theorem rsol8 (C R col row : Int) (s : ByteArray) (h1 : 0 <= col) (h2 : col < C) (h3 : 0 <= row) (h4 : row < R) (h5 : ¬ ((s.size : Int) < C /\ 0 < row)) (hz : s.size <= 281474976710656) (h6 : row <= (s.size : Int) / C) (k : Nat) (hk : row * C + col = (k : Int)) (hs : k < s.size) (w : World) : Calls Tryz.prog 53 #[ar C R s, .int .i64 col, .int .i64 row] w fun e w' => e = .returned (.bool (byt s k == 35)) /\ Still w w' := by
 have e : ((s.size : Nat) : Int).tdiv C = (s.size : Int) / C := Int.tdiv_eq_ediv_of_nonneg (by omega)
 have q0 : 0 <= (s.size : Int) / C := Int.ediv_nonneg (by omega) (by omega)
 have q1 : (s.size : Int) / C <= (s.size : Int) := Int.ediv_le_self _ (by omega)
 have m0 : 0 <= row * C := Int.mul_nonneg h3 (by omega)
 have m1 : row * C <= (s.size : Int) := by omega
 have hks : (k : Int) < (s.size : Int) := by omega
 have hp : (decide ((s.size : Int) < C) = false) \/ (decide ((s.size : Int) < C) = true /\ decide (0 < row) = false) := by
  by_cases k : (s.size : Int) < C
  ·exact .inr ⟨by simpa using k, by simp; omega⟩
  ·exact .inl (by simpa using k)
 have HC := hid (fun u => rsign_any C R col row s k m0 h1 hk hs (by omega) u)
 clear h5
 rcases hp with hp | ⟨hp, hp2⟩
 all_goals
  go_enter Tryz.func53, Tryz.ntmps53
  go_wp2_with fail
  refine (HC.out _).mono ?_
  rintro e w1 ⟨rfl, h⟩
  go_wp2_with fail
  go_ret
  exact ⟨rfl, (Still.alloc w _).trans h⟩
theorem rsolid_any (C R col row : Int) (s : ByteArray) (hz : s.size <= 281474976710656) (hC : C <= 9223372036854775807) (w : World) : Calls Tryz.prog 53 #[ar C R s, .int .i64 col, .int .i64 row] w fun e w' => e = .returned (.bool (solB C R s col row)) /\ Still w w' := by
 by_cases h1 : col < 0
 ·rw [sol_out (by omega)]; exact rsol1 C R col row s h1 w
 by_cases h2 : C <= col
 ·rw [sol_out (by omega)]; exact rsol2 C R col row s (by omega) h2 w
 by_cases h3 : row < 0
 ·rw [sol_out (by omega)]; exact rsol3 C R col row s (by omega) (by omega) h3 w
 by_cases h4 : R <= row
 ·rw [sol_out (by omega)]; exact rsol4 C R col row s (by omega) (by omega) (by omega) h4 w
 have n1 : 0 <= row * C := Int.mul_nonneg (by omega) (by omega)
 by_cases h5 : (s.size : Int) < C /\ 0 < row
 ·have : C * 1 <= C * row := Int.mul_le_mul_of_nonneg_left (by omega) (by omega)
  rw [Int.mul_comm C row] at this
  rw [sol_end (by omega)]
  exact rsol5 C R col row s (by omega) (by omega) (by omega) (by omega) h5.1 h5.2 w
 by_cases h6 : (s.size : Int) / C < row
 ·have : (s.size : Int) < row * C := by
   have := Int.lt_mul_of_ediv_lt (show 0 < C by omega) h6
   exact this
  rw [sol_end (by omega)]
  exact rsol6 C R col row s (by omega) (by omega) (by omega) (by omega) h5 hz h6 w
 by_cases h7 : (s.size : Int) <= row * C + col
 ·rw [sol_end h7]
  exact rsol7 C R col row s (by omega) (by omega) (by omega) (by omega) h5 hz (by omega) h7 hC w
 ·obtain ⟨k, hk⟩ : ∃ k : Nat, row * C + col = (k : Int) := ⟨(row * C + col).toNat, by omega⟩
  rw [sol_at (k := k) (by omega) hk (by omega)]
  exact rsol8 C R col row s (by omega) (by omega) (by omega) (by omega) h5 hz (by omega) k hk (by omega) w
end Go.Proofs.YthcjckgmdokmdaaGreatDoor
namespace Go.Proofs.YthcjckgmdokmdaaGreatDoor
open Go.RowKit
open Pu Gp Ap
theorem ret_bool {a b : Bool} (h : a = b) : Ending.returned (.bool a) = .returned (.bool b) := by rw [h]
theorem rsolid_is (C R col row : Int) (s : ByteArray) (hz : s.size <= 281474976710656) (hC : C <= 9223372036854775807) {t : Bool} (h : solB C R s col row = t) (w : World) : Calls Tryz.prog 53 #[ar C R s, .int .i64 col, .int .i64 row] w fun e w' => e = .returned (.bool t) /\ Still w w' := by
 have := rsolid_any C R col row s hz hC w
 rw [h] at this
 exact this
end Go.Proofs.YthcjckgmdokmdaaGreatDoor
namespace Go.Proofs.YthcjckgmdokmdaaGreatDoor
open Go.RowKit
open Pu Gp Ap
theorem sol1 (C R col row : Int) (s : ByteArray) (h : col < 0 \/ C <= col \/ row < 0 \/ R <= row) (w : World) : Calls Tryz.prog 101 #[ar C R s, .int .i64 col, .int .i64 row] w fun e w' => e = .returned (.bool true) /\ Still w w' := by
 have ho' : (decide (col < 0) = true) \/ (decide (col < 0) = false /\ decide (C <= col) = true) \/ (decide (col < 0) = false /\ decide (C <= col) = false /\ decide (row < 0) = true) \/ (decide (col < 0) = false /\ decide (C <= col) = false /\ decide (row < 0) = false /\ decide (R <= row) = true) := by
  by_cases x1 : col < 0
  ·exact .inl (by simpa using x1)
  by_cases x2 : C <= col
  ·exact .inr (.inl ⟨by simpa using x1, by simpa using x2⟩)
  by_cases x3 : row < 0
  ·exact .inr (.inr (.inl ⟨by simpa using x1, by simpa using x2, by simpa using x3⟩))
  ·exact .inr (.inr (.inr ⟨by simpa using x1, by simpa using x2, by simpa using x3, by simp; omega⟩))
 clear h
 rcases ho' with x1 | ⟨x1, x2⟩ | ⟨x1, x2, x3⟩ | ⟨x1, x2, x3, x4⟩
 all_goals
  go_enter Tryz.func101, Tryz.ntmps101
  go_wp2_with fail
  go_ret
  exact ⟨rfl, Still.alloc w _⟩
theorem sol2 (C R col row : Int) (s : ByteArray) (h1 : 0 <= col) (h2 : col < C) (h3 : 0 <= row) (h4 : row < R) (h5 : (s.size : Int) <= col) (w : World) : Calls Tryz.prog 101 #[ar C R s, .int .i64 col, .int .i64 row] w fun e w' => e = .returned (.bool true) /\ Still w w' := by
 go_enter Tryz.func101, Tryz.ntmps101
 go_wp2_with fail
 go_ret
 exact ⟨rfl, Still.alloc w _⟩
set_option maxHeartbeats 2000000 in
theorem sol3 (C R col row : Int) (s : ByteArray) (h1 : 0 <= col) (h2 : col < C) (h3 : 0 <= row) (h4 : row < R) (h5 : col < (s.size : Int)) (hz : s.size <= 281474976710656) (h6 : ((s.size : Int) - 1 - col) / C < row) (w : World) : Calls Tryz.prog 101 #[ar C R s, .int .i64 col, .int .i64 row] w fun e w' => e = .returned (.bool true) /\ Still w w' := by
 have e : ((s.size : Int) - 1 - col).tdiv C = ((s.size : Int) - 1 - col) / C := Int.tdiv_eq_ediv_of_nonneg (by omega)
 have q0 : 0 <= ((s.size : Int) - 1 - col) / C := Int.ediv_nonneg (by omega) (by omega)
 have q1 : ((s.size : Int) - 1 - col) / C <= (s.size : Int) - 1 - col := Int.ediv_le_self _ (by omega)
 go_enter Tryz.func101, Tryz.ntmps101
 go_wp2_with fail
 go_ret
 exact ⟨rfl, Still.alloc w _⟩
set_option maxHeartbeats 2000000 in
theorem sol4 (C R col row : Int) (s : ByteArray) (h1 : 0 <= col) (h2 : col < C) (h3 : 0 <= row) (h4 : row < R) (h5 : col < (s.size : Int)) (hz : s.size <= 281474976710656) (h6 : row <= ((s.size : Int) - 1 - col) / C) (k : Nat) (hk : row * C + col = (k : Int)) (hs : k < s.size) (w : World) : Calls Tryz.prog 101 #[ar C R s, .int .i64 col, .int .i64 row] w fun e w' => e = .returned (.bool (byt s k == 35)) /\ Still w w' := by
 have e : ((s.size : Int) - 1 - col).tdiv C = ((s.size : Int) - 1 - col) / C := Int.tdiv_eq_ediv_of_nonneg (by omega)
 have q0 : 0 <= ((s.size : Int) - 1 - col) / C := Int.ediv_nonneg (by omega) (by omega)
 have q1 : ((s.size : Int) - 1 - col) / C <= (s.size : Int) - 1 - col := Int.ediv_le_self _ (by omega)
 have m0 : 0 <= row * C := Int.mul_nonneg h3 (by omega)
 have m1 : row * C <= (s.size : Int) := by omega
 have hks : (k : Int) < (s.size : Int) := by omega
 have eb := byt_at s k hs
 go_enter Tryz.func101, Tryz.ntmps101
 go_wp2_with fail
 go_ret
 exact ⟨rfl, Still.alloc w _⟩
theorem solid_any (C R col row : Int) (s : ByteArray) (hz : s.size <= 281474976710656) (w : World) : Calls Tryz.prog 101 #[ar C R s, .int .i64 col, .int .i64 row] w fun e w' => e = .returned (.bool (solB C R s col row)) /\ Still w w' := by
 by_cases h : col < 0 \/ C <= col \/ row < 0 \/ R <= row
 ·rw [sol_out h]; exact sol1 C R col row s h w
 have n1 : 0 <= row * C := Int.mul_nonneg (by omega) (by omega)
 by_cases h5 : (s.size : Int) <= col
 ·rw [sol_end (by omega)]
  exact sol2 C R col row s (by omega) (by omega) (by omega) (by omega) h5 w
 by_cases h6 : ((s.size : Int) - 1 - col) / C < row
 ·have : (s.size : Int) - 1 - col < row * C := Int.lt_mul_of_ediv_lt (show 0 < C by omega) h6
  rw [sol_end (by omega)]
  exact sol3 C R col row s (by omega) (by omega) (by omega) (by omega) (by omega) hz h6 w
 ·have m1 : row * C <= (s.size : Int) - 1 - col := Int.le_trans (Int.mul_le_mul_of_nonneg_right (show row <= ((s.size : Int) - 1 - col) / C by omega) (by omega)) (Int.ediv_mul_le _ (by omega))
  obtain ⟨k, hk⟩ : ∃ k : Nat, row * C + col = (k : Int) := ⟨(row * C + col).toNat, by omega⟩
  rw [sol_at (k := k) h hk (by omega)]
  exact sol4 C R col row s (by omega) (by omega) (by omega) (by omega) (by omega) hz (by omega) k hk (by omega) w
theorem solid_is (C R col row : Int) (s : ByteArray) (hz : s.size <= 281474976710656) {t : Bool} (h : solB C R s col row = t) (w : World) : Calls Tryz.prog 101 #[ar C R s, .int .i64 col, .int .i64 row] w fun e w' => e = .returned (.bool t) /\ Still w w' := by
 have := solid_any C R col row s hz w
 rw [h] at this
 exact this
end Go.Proofs.YthcjckgmdokmdaaGreatDoor
set_option maxRecDepth 100000
namespace Go.Proofs.YthcjckgmdokmdaaGreatDoor
open Go.RowKit
open Pu Gp Ap
def atS (x s : Int) (j : Nat) : Int := addf x (s * (j : Int))
end Go.Proofs.YthcjckgmdokmdaaGreatDoor
namespace Go.Proofs.YthcjckgmdokmdaaGreatDoor
open Go.RowKit
open Pu Gp Ap
theorem setP_size (w : World) (b : Nat) (x y : Int) : (setP w b x y).heap.size = w.heap.size := by simp [setP, World.setCell]
def kX (sol : Int -> Int -> Bool) (r X Y p : Int) : Nat := go (fun j => bdy sol r (atS X (sgn p) j) (atS Y 0 j)) p.natAbs
def kY (sol : Int -> Int -> Bool) (r X Y q : Int) : Nat := go (fun j => bdy sol r (atS X 0 j) (atS Y (sgn q) j)) q.natAbs
def side (k n l m : Nat) : Int := (if k < n then 1 else 0) + (if l < m then 2 else 0)
end Go.Proofs.YthcjckgmdokmdaaGreatDoor
namespace Go.Proofs.YthcjckgmdokmdaaGreatDoor
open Go.RowKit
open Pu Gp Ap
def rp (X p : Int) (n j : Nat) : Int := if j = 0 then X else addf X ((p * (j : Int)).tdiv (n : Int))
def rayN (p q : Int) : Nat := (max p.natAbs q.natAbs + 63) / 64
def rayT (sol : Int -> Int -> Bool) (X Y p q : Int) (n j : Nat) : Bool := sol (dn (rp X p n j)) (dn (rp Y q n j))
end Go.Proofs.YthcjckgmdokmdaaGreatDoor
namespace Go.Proofs.YthcjckgmdokmdaaGreatDoor
open Pu Gp Ap
/-! ### Within the bounds -/
/-! ### Where a body comes -/
section
variable {sol : Int -> Int -> Bool} {r X Y P Q : Int}
end
/-! ### Rays -/
/-! ### Two slides, one behind the other, to the right -/
section
variable {sol : Int -> Int -> Bool} {r X Y : Int}
end
end Go.Proofs.YthcjckgmdokmdaaGreatDoor
set_option maxRecDepth 100000
namespace Go.Proofs.YthcjckgmdokmdaaGreatDoor
open Go
def qi (n m j : Nat) : Bool := decide (j < n) || decide (n + 2 * m <= j)
def qlist (l : List Oper) (n m : Nat) : List Oper := l.take n ++ l.drop (n + 2 * m)
def goodB : List Oper -> Bool
  | [] => true
  | o :: r => o.guard.isNone && (match o.dst with | some t => r.all fun p => p.dst != some t | none => false) &&
      (o.op.operands.toList.all fun x => match x with | .tmp t => (o :: r).all fun p => p.dst != some t | _ => true) && goodB r
def dstB (l : List Oper) (z : Nat) : Bool := l.all fun o => match o.dst with | some t => decide (t < z) | none => true
theorem getE_set_self {ts : Array Value} {t : Nat} (h : t < ts.size) (v : Value) : (ts.setIfInBounds t v)[t]? = some v := by
 rw [Array.getElem?_setIfInBounds_self]; simp [h]
section
variable {P : Program}
theorem walk_each {ops : Array Oper} {u : World} {A : Act} (hsel : ∀ (o : Oper), o ∈ ops -> ∀ cs b, o.op ≠ .select cs b) : ∀ (r : List Oper) (a : Act), (∀ o ∈ r, o ∈ ops) -> goodB r = true -> dstB r a.tmps.size = true -> wpQuiet P ops (Cl u) (fun a' => a' = A) r a ->
  (A.tmps.size = a.tmps.size /\ A.defers = a.defers /\ ∀ t, (∀ o ∈ r, o.dst ≠ some t) -> A.tmps[t]? = a.tmps[t]?) /\
  ∀ o ∈ r, ∀ t, o.dst = some t -> o.quietAt P A (fun v => Still u v) u (A.tmps.getD t undef) /\ t < A.tmps.size
 | [], a, _, _, _, h => by
  obtain rfl : a = A := h
  exact ⟨⟨rfl, rfl, fun _ _ => rfl⟩, fun o ho => by cases ho⟩
 | o :: r, a, hin, hg, hd, h => by
  unfold goodB at hg
  simp only [Bool.and_eq_true] at hg
  obtain ⟨⟨⟨g1, g2⟩, g3⟩, g4⟩ := hg
  have hgn : o.guard = none := by simpa using g1
  unfold wpQuiet at h
  rw [if_pos (by unfold Region.wanted; rw [hgn])] at h
  obtain ⟨v, hq, hr⟩ := h
  obtain ⟨t0, ht0⟩ : ∃ t, o.dst = some t := by
   cases e : o.dst with
   | none => rw [e] at g2; cases g2
   | some t => exact ⟨t, rfl⟩
  rw [ht0] at g2
  have hlt : t0 < a.tmps.size := by
   have := List.all_eq_true.1 hd o (List.mem_cons_self ..)
   rw [ht0] at this
   simpa using this
  have hsz : (a.put o.dst v).tmps.size = a.tmps.size := by simp [Act.put, ht0]
  have hdr : dstB r (a.put o.dst v).tmps.size = true := by
   rw [hsz]
   exact List.all_eq_true.2 fun p hp => List.all_eq_true.1 hd p (List.mem_cons_of_mem _ hp)
  obtain ⟨⟨i1, i2, i3⟩, i4⟩ := walk_each hsel r (a.put o.dst v) (fun p hp => hin p (List.mem_cons_of_mem _ hp)) g4 hdr hr
  have hA : ∀ t, (∀ p ∈ o :: r, p.dst ≠ some t) -> A.tmps[t]? = a.tmps[t]? := fun t ht => by
   rw [i3 t fun p hp => ht p (List.mem_cons_of_mem _ hp)]
   have hne : t0 ≠ t := fun e => ht o (List.mem_cons_self ..) (by rw [ht0, e])
   simp only [Act.put, ht0, Array.getElem?_setIfInBounds_ne hne]
  refine ⟨⟨i1.trans hsz, i2.trans (by simp [Act.put, ht0]), hA⟩, fun p hp t ht => ?_⟩
  rcases List.mem_cons.1 hp with rfl | hp
  ·obtain rfl : t0 = t := Option.some.inj (ht0.symm.trans ht)
   have hv : A.tmps[t0]? = some v := by
    rw [i3 t0 fun q hq' => by simpa using List.all_eq_true.1 g2 q hq']
    simp only [Act.put, ht0]
    exact getE_set_self hlt v
   have hcong : execOp A.eval p = execOp a.eval p := execOp_congr p (fun cs b => hsel p (hin p (List.mem_cons_self ..)) cs b) fun x hx => by
    cases x with
    | tmp s =>
     refine tmps_eval (hA s fun q hq' => ?_)
     have := List.all_eq_true.1 g3 (.tmp s) (by simpa using hx)
     simpa using List.all_eq_true.1 this q hq'
    | const v => rfl
    | global g => rfl
    | func f => rfl
   have h1 := hq u ⟨⟨u, Fr.refl _ _⟩, rfl⟩
   have e : (fun v => Still u v) = Cl u := funext fun w' => propext ⟨fun hs => ⟨⟨w', hs⟩, rfl⟩, fun ⟨z, e⟩ => e ▸ z.s⟩
   refine ⟨?_, by rw [i1, hsz]; exact hlt⟩
   unfold Oper.quietAt at h1 ⊢
   rw [hcong, e, Array.getD_eq_getD_getElem?, hv]
   exact h1
  ·exact i4 p hp t ht
end
def lowK (l : List Oper) : Bool := (List.range l.length).all fun i => match l.toArray[i]? with | some o => o.after.all fun e => !Region.binds .any e || decide (e.on < i) | none => false
theorem lowK_spec {l : List Oper} (h : lowK l = true) {i : Nat} {o : Oper} (hi : i < l.length) (ho : l.toArray[i]? = some o) : ∀ e ∈ o.after, Region.binds .any e = true -> e.on < i := fun e he hb => by
 have h1 := List.all_eq_true.1 h i (List.mem_range.2 hi)
 simp only [ho] at h1
 have := Array.all_eq_true'.1 h1 e he
 simpa [hb] using this
def mkB (l : List Oper) (n m : Nat) (ds : List Nat) : Bool :=
  Region.noSelect l.toArray && lowK l && decide (n + 2 * m <= l.length) && decide ds.Nodup && decide (ds.length = m) && goodB (qlist l n m) &&
  (List.range l.length).all fun j => match l.toArray[j]? with
    | some o => o.guard.isNone && (if qi n m j then
          (match o.dst with | some t => !ds.contains t | none => false) &&
          ((List.range l.length).all fun i => (i == j) || !qi n m i || (match l.toArray[i]? with | some p => p.dst != o.dst | none => false)) &&
          (o.op.operands.toList.all fun x => match x with
            | .tmp t => !ds.contains t && (List.range l.length).all fun i => !qi n m i || (match l.toArray[i]? with | some p => (p.dst != some t) || o.after.any fun e => e.on == i && Region.binds .any e | none => false)
            | _ => true)
        else if j < n + m then o.dst == some (ds.getD (j - n) 0)
        else o.dst == none && (o.after.any fun e => e.on == j - m && Region.binds .any e) &&
          (o.op.operands.toList.all fun x => match x with
            | .tmp t => (t == ds.getD (j - n - m) 0) || (!ds.contains t && (List.range l.length).all fun i => !qi n m i || (match l.toArray[i]? with | some p => (p.dst != some t) || o.after.any fun e => e.on == i && Region.binds .any e | none => false))
            | _ => true))
    | none => false
section
variable {P : Program} {W : World} {l : List Oper} {n m : Nat} {ds : List Nat} {A : Act} {zs zs' : Nat -> Obj}
structure MidK (l : List Oper) (n m : Nat) (ds : List Nat) (A : Act) (W : World) (zs zs' : Nat -> Obj) (L : Array Bool) (a : Act) (w : World) (γ : Nat -> Nat) : Prop where
 still : Still W w
 size : a.tmps.size = A.tmps.size
 defers : a.defers = A.defers
 rest : ∀ t, (∀ j o, qi n m j = true -> l[j]? = some o -> o.dst ≠ some t) -> t ∉ ds -> a.tmps[t]? = A.tmps[t]?
 done : ∀ j o t, qi n m j = true -> l[j]? = some o -> o.dst = some t -> L.getD j true = true -> j < l.length -> a.tmps[t]? = A.tmps[t]?
 new : ∀ k, k < m -> L.getD (n + k) true = true -> a.tmps[ds.getD k 0]? = some (.pointer (some ⟨γ k, 0, none⟩)) /\ W.heap.size <= γ k /\ w.heap[γ k]? = some (if L.getD (n + m + k) true then zs' k else zs k)
 inj : ∀ k j, k < m -> j < m -> L.getD (n + k) true = true -> L.getD (n + j) true = true -> γ k = γ j -> k = j
 ord : ∀ k, k < m -> L.getD (n + m + k) true = true -> L.getD (n + k) true = true
theorem qi_false {n m j : Nat} : qi n m j = false ↔ n <= j /\ j < n + 2 * m := by unfold qi; simp
theorem any_mk {Q' : Exit -> Act -> World -> Prop} (hB : mkB l n m ds = true) (hdA : ∀ d ∈ ds, d < A.tmps.size)
  (hop : ∀ j o, qi n m j = true -> l[j]? = some o -> ∀ w, Still W w -> ∀ t, o.dst = some t -> o.quietAt P A (fun u => Still w u) w (A.tmps.getD t undef) /\ t < A.tmps.size)
  (hnew : ∀ k o, k < m -> l[n + k]? = some o -> ∀ w, Still W w -> ∀ a : Act, (execOp a.eval o).run P w = .ok (.value (.pointer (some ⟨w.heap.size, 0, none⟩))) (w.alloc (zs k)))
  (hz : ∀ (k : Nat) (w : World), k < m -> (w.alloc (zs k)).heap[w.heap.size]? = some (zs k))
  (hst : ∀ k o, k < m -> l[n + m + k]? = some o -> ∀ u g, u.heap[g]? = some (zs k) -> ∃ u', (execOp (A.put (some (ds.getD k 0)) (.pointer (some ⟨g, 0, none⟩))).eval o).run P u = .ok .skip u' /\ u'.heap[g]? = some (zs' k) /\ Fr (fun i => i = g) u u')
  (hdone : ∀ (L : Array Bool) a w γ, (∀ i, i < l.length -> L.getD i true = true) -> MidK l n m ds A W zs zs' L a w γ -> Q' .normal a w) :
  ∀ (f : Nat) (L : Array Bool) (a : Act) (w : World) (γ : Nat -> Nat), L.size = l.length -> cnt L l.length = f -> MidK l n m ds A W zs zs' L a w γ -> wpAny P .any l.toArray Q' f L a w
 | 0, L, a, w, γ, hLs, hcnt, hm => by
  refine ⟨?_, hdone L a w γ (cnt_zero hcnt) hm⟩
  rw [List.eq_nil_iff_forall_not_mem]
  intro j hj
  obtain ⟨hju, o, ho, _⟩ := mem_ready.1 hj
  have hjl : j < l.length := by have := (Array.getElem?_eq_some_iff.1 ho).1; simpa using this
  rw [cnt_zero hcnt j hjl] at hju
  cases hju
 | f + 1, L, a, w, γ, hLs, hcnt, hm => by
  have hB0 := hB
  unfold mkB at hB
  simp only [Bool.and_eq_true, decide_eq_true_eq] at hB
  obtain ⟨⟨⟨⟨⟨⟨hsel, hlow⟩, hnl⟩, hnd⟩, hdl⟩, _⟩, hall⟩ := hB
  obtain ⟨i, hi, hun, hmin⟩ := cnt_pos (L := L) (n := l.length) (by omega)
  refine ⟨fun h0 => ?_, fun j hj => ?_⟩
  ·exfalso
   obtain ⟨o, ho⟩ : ∃ o, l.toArray[i]? = some o := ⟨_, Array.getElem?_eq_getElem (by simpa using hi)⟩
   have : i ∈ Region.ready .any l.toArray L := mem_ready.2 ⟨hun, o, ho, fun e he hb => by
    have hlt := lowK_spec hlow hi ho e he hb
    have hin : e.on < L.size := by omega
    have := hmin e.on hlt
    simp [hin] at this ⊢
    exact this⟩
   rw [h0] at this
   cases this
  ·obtain ⟨hju, o, ho, hwait⟩ := mem_ready.1 hj
   have hjl : j < l.length := by have := (Array.getElem?_eq_some_iff.1 ho).1; simpa using this
   have ho' : l[j]? = some o := by simpa using ho
   have hJ := List.all_eq_true.1 hall j (List.mem_range.2 hjl)
   simp only [ho, Bool.and_eq_true] at hJ
   obtain ⟨hg0, hJ⟩ := hJ
   have hg : o.guard = none := by simpa using hg0
   have next : ∀ (a' : Act) (w' : World) (γ' : Nat -> Nat), MidK l n m ds A W zs zs' (L.setIfInBounds j true) a' w' γ' -> wpAny P .any l.toArray Q' f (L.setIfInBounds j true) a' w' := fun a' w' γ' hm' =>
    any_mk hB0 hdA hop hnew hz hst hdone f _ a' w' γ' (by simp [hLs]) (by have := cnt_set hju hjl; omega) hm'
   have hset : ∀ k, k ≠ j -> (L.setIfInBounds j true).getD k true = L.getD k true := fun k hk => getD_set_ne true (Ne.symm hk)
   have hself : (L.setIfInBounds j true).getD j true = true := by simp [show j < L.size by omega]
   have hd0 : ∀ k, k < m -> ds.getD k 0 ∈ ds := fun k hk => by
    rw [List.getD_eq_getElem?_getD, List.getElem?_eq_getElem (by omega)]
    exact List.getElem_mem _
   unfold wpOp
   simp only [ho]
   rw [if_pos (by unfold Region.wanted; rw [hg])]
   refine .inl ?_
   by_cases hq : qi n m j = true
   ·rw [if_pos hq] at hJ
    simp only [Bool.and_eq_true] at hJ
    obtain ⟨⟨h2, h3⟩, h4⟩ := hJ
    obtain ⟨t, ht⟩ : ∃ t, o.dst = some t := by
     cases e : o.dst with
     | none => rw [e] at h2; cases h2
     | some t => exact ⟨t, rfl⟩
    rw [ht] at h2
    have htd : t ∉ ds := by simpa using h2
    have hcong : execOp a.eval o = execOp A.eval o := execOp_congr o (fun cs b => Region.noSelect_spec hsel j o cs b ho) fun x hx => by
     cases x with
     | tmp s =>
      have h5 := List.all_eq_true.1 h4 (.tmp s) (by simpa using hx)
      simp only [Bool.and_eq_true] at h5
      have hsd : s ∉ ds := by simpa using h5.1
      refine tmps_eval ?_
      by_cases hex : ∃ k p, qi n m k = true /\ l[k]? = some p /\ p.dst = some s
      ·obtain ⟨k, p, hk, hp, hps⟩ := hex
       have hkl : k < l.length := (List.getElem?_eq_some_iff.1 hp).1
       have h6 := List.all_eq_true.1 h5.2 k (List.mem_range.2 hkl)
       have hp' : l.toArray[k]? = some p := by simpa using hp
       simp only [hp', hk, Bool.not_true, Bool.false_or, Bool.or_eq_true] at h6
       rcases h6 with h6 | h6
       ·rw [hps] at h6; simp at h6
       ·obtain ⟨e, he, hb⟩ := Array.any_eq_true'.1 h6
        simp only [Bool.and_eq_true, beq_iff_eq] at hb
        have := hwait e he hb.2
        rw [hb.1] at this
        exact hm.done k p s hk hp hps (getD_true_false (by omega) this) hkl
      ·exact hm.rest s (fun k p hk hp hps => hex ⟨k, p, hk, hp, hps⟩) hsd
     | const v => rfl
     | global g => rfl
     | func f => rfl
    obtain ⟨hqa, hta⟩ := hop j o hq ho' w hm.still t ht
    have hq' : o.quietAt P a (fun u => Still w u) w (A.tmps.getD t undef) := by
     unfold Oper.quietAt at hqa ⊢
     rw [hcong]
     exact hqa
    have hnj : ∀ k, k < 2 * m -> n + k ≠ j := fun k hk e => by
     have := (qi_false (n := n) (m := m) (j := j)).2 ⟨by omega, by omega⟩
     rw [hq] at this; cases this
    refine wp_of_at hq' fun w' hw' => next _ _ γ ⟨hm.still.trans hw', by simp [Act.put, ht, hm.size], by simp [Act.put, ht, hm.defers], fun s h1 h2 => ?_, fun k p s hk hp hps hl hkl => ?_, fun k hk hl => ?_, fun k k' hk hk' hl hl' => ?_, fun k hk hl => ?_⟩
    ·have hne : t ≠ s := fun e => h1 j o hq ho' (by rw [ht, e])
     simp only [Act.put, ht, Array.getElem?_setIfInBounds_ne hne]
     exact hm.rest s h1 h2
    ·by_cases hkj : k = j
     ·subst hkj
      obtain rfl : o = p := Option.some.inj (ho'.symm.trans hp)
      obtain rfl : t = s := Option.some.inj (ht.symm.trans hps)
      simp only [Act.put, ht]
      rw [getE_set_self (by rw [hm.size]; exact hta)]
      simp [hta]
     ·have h5 := List.all_eq_true.1 h3 k (List.mem_range.2 hkl)
      have hp' : l.toArray[k]? = some p := by simpa using hp
      have hkj' : (k == j) = false := by simpa using hkj
      simp only [hp', hk, hkj', Bool.not_true, Bool.or_false, Bool.false_or, bne_iff_ne] at h5
      have hne : t ≠ s := fun e => h5 (by rw [hps, ht, e])
      rw [hset k hkj] at hl
      simp only [Act.put, ht, Array.getElem?_setIfInBounds_ne hne]
      exact hm.done k p s hk hp hps hl hkl
    ·rw [hset _ (hnj k (by omega))] at hl
     rw [hset _ (by have := hnj (m + k) (by omega); omega)]
     obtain ⟨n1, n2, n3⟩ := hm.new k hk hl
     have hne : t ≠ ds.getD k 0 := fun e => htd (by rw [e]; exact hd0 k hk)
     refine ⟨?_, n2, hw'.kept_still n3⟩
     simp only [Act.put, ht, Array.getElem?_setIfInBounds_ne hne]
     exact n1
    ·rw [hset _ (hnj k (by omega))] at hl
     rw [hset _ (hnj k' (by omega))] at hl'
     exact hm.inj k k' hk hk' hl hl'
    ·rw [hset _ (by have := hnj (m + k) (by omega); omega)] at hl
     rw [hset _ (hnj k (by omega))]
     exact hm.ord k hk hl
   ·have hqf : qi n m j = false := by simpa using hq
    obtain ⟨hj1, hj2⟩ := qi_false.1 hqf
    rw [if_neg hq] at hJ
    have hqd : ∀ i p t, qi n m i = true -> l[i]? = some p -> p.dst = some t -> t ∉ ds := fun i p t hi hp hpt => by
     have hil : i < l.length := (List.getElem?_eq_some_iff.1 hp).1
     have h1 := List.all_eq_true.1 hall i (List.mem_range.2 hil)
     have hp' : l.toArray[i]? = some p := by simpa using hp
     simp only [hp', Bool.and_eq_true] at h1
     have h2 := h1.2
     rw [if_pos hi] at h2
     simp only [Bool.and_eq_true, hpt] at h2
     simpa using h2.1.1
    have hdne : ∀ k k', k < m -> k' < m -> k ≠ k' -> ds.getD k 0 ≠ ds.getD k' 0 := fun k k' hk hk' hne e => by
     rw [List.getD_eq_getElem?_getD, List.getD_eq_getElem?_getD, List.getElem?_eq_getElem (by omega), List.getElem?_eq_getElem (by omega)] at e
     simp only [Option.getD_some] at e
     rcases Nat.lt_or_gt_of_ne hne with h | h
     ·exact List.pairwise_iff_getElem.1 hnd k k' (by omega) (by omega) h e
     ·exact List.pairwise_iff_getElem.1 hnd k' k (by omega) (by omega) h e.symm
    have hqj : ∀ i, qi n m i = true -> i ≠ j := fun i hi e => by rw [e, hqf] at hi; cases hi
    by_cases hjm : j < n + m
    · -- a variable is laid
     rw [if_pos hjm] at hJ
     obtain ⟨k, rfl⟩ : ∃ k, j = n + k := ⟨j - n, by omega⟩
     rw [show n + k - n = k by omega] at hJ
     have hdk : o.dst = some (ds.getD k 0) := by simpa using hJ
     have hk : k < m := by omega
     have hdA' : ds.getD k 0 < A.tmps.size := hdA _ (hd0 k hk)
     unfold Oper.wp
     rw [hnew k o hk ho' w hm.still a, Oper.upon_value]
     have hnot : L.getD (n + m + k) true = false := by
      cases e : L.getD (n + m + k) true with
      | false => rfl
      | true => rw [hm.ord k hk e] at hju; cases hju
     refine next _ _ (fun i => if i = k then w.heap.size else γ i) ⟨hm.still.trans (Still.alloc w (zs k)), by simp [Act.put, hdk, hm.size], by simp [Act.put, hdk, hm.defers], fun s h1 h2 => ?_, fun i p s hi hp hps hl hil => ?_, fun k' hk' hl => ?_, fun k1 k2 h1 h2 l1 l2 e => ?_, fun k' hk' hl => ?_⟩
     ·have hne : ds.getD k 0 ≠ s := fun e => h2 (by rw [<- e]; exact hd0 k hk)
      simp only [Act.put, hdk, Array.getElem?_setIfInBounds_ne hne]
      exact hm.rest s h1 h2
     ·have hne : ds.getD k 0 ≠ s := fun e => hqd i p s hi hp hps (by rw [<- e]; exact hd0 k hk)
      rw [hset i (hqj i hi)] at hl
      simp only [Act.put, hdk, Array.getElem?_setIfInBounds_ne hne]
      exact hm.done i p s hi hp hps hl hil
     ·by_cases hkk : k' = k
      ·subst hkk
       rw [hset _ (by omega), hnot]
       refine ⟨?_, ?_, ?_⟩
       ·simp only [Act.put, hdk, if_true]
        exact getE_set_self (by rw [hm.size]; exact hdA') _
       ·simp only [if_true]; exact hm.still.size
       ·simp only [if_true]; exact hz k' w hk
      ·rw [hset _ (by omega)] at hl
       rw [hset _ (by omega)]
       obtain ⟨n1, n2, n3⟩ := hm.new k' hk' hl
       simp only [if_neg hkk]
       refine ⟨?_, n2, (Still.alloc w (zs k)).kept_still n3⟩
       simp only [Act.put, hdk, Array.getElem?_setIfInBounds_ne (hdne k k' hk hk' (Ne.symm hkk))]
       exact n1
     ·have hb : ∀ i, i < m -> i ≠ k -> (L.setIfInBounds (n + k) true).getD (n + i) true = true -> γ i ≠ w.heap.size := fun i hi hik hl => by
       rw [hset _ (by omega)] at hl
       have := (Array.getElem?_eq_some_iff.1 (hm.new i hi hl).2.2).1
       omega
      by_cases e1 : k1 = k
      ·by_cases e2 : k2 = k
       ·rw [e1, e2]
       ·simp only [e1, if_true, if_neg e2] at e
        exact absurd e.symm (hb k2 h2 e2 l2)
      ·by_cases e2 : k2 = k
       ·simp only [e2, if_true, if_neg e1] at e
        exact absurd e (hb k1 h1 e1 l1)
       ·simp only [if_neg e1, if_neg e2] at e
        rw [hset _ (by omega)] at l1 l2
        exact hm.inj k1 k2 h1 h2 l1 l2 e
     ·rw [hset _ (by omega)] at hl
      by_cases hkk : k' = k
      ·subst hkk; exact hself
      ·rw [hset _ (by omega)]; exact hm.ord k' hk' hl
    · -- a variable is filled
     rw [if_neg hjm] at hJ
     obtain ⟨k, rfl⟩ : ∃ k, j = n + m + k := ⟨j - (n + m), by omega⟩
     rw [show n + m + k - m = n + k by omega, show n + m + k - n - m = k by omega] at hJ
     simp only [Bool.and_eq_true] at hJ
     obtain ⟨⟨h1, h2⟩, h3⟩ := hJ
     have hdo : o.dst = none := by simpa using h1
     have hk : k < m := by omega
     have hdA' : ds.getD k 0 < A.tmps.size := hdA _ (hd0 k hk)
     have hlk : L.getD (n + k) true = true := by
      obtain ⟨e, he, hb⟩ := Array.any_eq_true'.1 h2
      simp only [Bool.and_eq_true, beq_iff_eq] at hb
      have := hwait e he hb.2
      rw [hb.1] at this
      exact getD_true_false (by omega) this
     obtain ⟨n1, n2, n3⟩ := hm.new k hk hlk
     rw [hju] at n3
     obtain ⟨u', hrun, hu1, hu2⟩ := hst k o hk ho' w (γ k) (by simpa using n3)
     have hcong : execOp a.eval o = execOp (A.put (some (ds.getD k 0)) (.pointer (some ⟨γ k, 0, none⟩))).eval o := execOp_congr o (fun cs b => Region.noSelect_spec hsel _ o cs b ho) fun x hx => by
      cases x with
      | tmp s =>
       refine tmps_eval ?_
       by_cases hsd : s = ds.getD k 0
       ·subst hsd
        rw [n1]
        simp only [Act.put]
        rw [getE_set_self hdA']
       ·simp only [Act.put, Array.getElem?_setIfInBounds_ne (Ne.symm hsd)]
        have h5 := List.all_eq_true.1 h3 (.tmp s) (by simpa using hx)
        have hsd' : (s == ds.getD k 0) = false := by simpa using hsd
        simp only [hsd', Bool.false_or, Bool.and_eq_true] at h5
        have hsn : s ∉ ds := by simpa using h5.1
        by_cases hex : ∃ i p, qi n m i = true /\ l[i]? = some p /\ p.dst = some s
        ·obtain ⟨i, p, hi, hp, hps⟩ := hex
         have hil : i < l.length := (List.getElem?_eq_some_iff.1 hp).1
         have h6 := List.all_eq_true.1 h5.2 i (List.mem_range.2 hil)
         have hp' : l.toArray[i]? = some p := by simpa using hp
         simp only [hp', hi, Bool.not_true, Bool.false_or, Bool.or_eq_true] at h6
         rcases h6 with h6 | h6
         ·rw [hps] at h6; simp at h6
         ·obtain ⟨e, he, hb⟩ := Array.any_eq_true'.1 h6
          simp only [Bool.and_eq_true, beq_iff_eq] at hb
          have := hwait e he hb.2
          rw [hb.1] at this
          exact hm.done i p s hi hp hps (getD_true_false (by omega) this) hil
        ·exact hm.rest s (fun i p hi hp hps => hex ⟨i, p, hi, hp, hps⟩) hsn
      | const v => rfl
      | global g => rfl
      | func f => rfl
     unfold Oper.wp
     rw [hcong, hrun, Oper.upon_skip, hdo]
     refine next _ _ γ ⟨Fr.trans hm.still hu2 (fun i hi e => by omega), hm.size, hm.defers, hm.rest, fun i p s hi hp hps hl hil => ?_, fun k' hk' hl => ?_, fun k1 k2 h1 h2 l1 l2 e => ?_, fun k' hk' hl => ?_⟩
     ·rw [hset i (hqj i hi)] at hl
      exact hm.done i p s hi hp hps hl hil
     ·rw [hset _ (by omega)] at hl
      obtain ⟨m1, m2, m3⟩ := hm.new k' hk' hl
      by_cases hkk : k' = k
      ·subst hkk
       exact ⟨m1, m2, by rw [hself]; exact hu1⟩
      ·rw [hset _ (by omega)]
       exact ⟨m1, m2, hu2.kept m3 (fun e => hkk (hm.inj k' k hk' hk hl hlk e))⟩
     ·rw [hset _ (by omega)] at l1 l2
      exact hm.inj k1 k2 h1 h2 l1 l2 e
     ·rw [hset _ (by omega)]
      by_cases hkk : k' = k
      ·subst hkk; exact hlk
      ·rw [hset _ (by omega)] at hl
       exact hm.ord k' hk' hl
theorem region_mk {id : Nat} {Q : Exit -> Act -> World -> Prop} {a : Act} {w : World} (n m : Nat) (ds : List Nat) (zs zs' : Nat -> Obj) (hm : P.follows .mixedOrders = true) (hB : mkB l n m ds = true) (hdB : dstB (qlist l n m) a.tmps.size = true) (hdd : (ds.all fun d => decide (d < a.tmps.size)) = true)
    (hnew : ∀ k o, k < m -> l[n + k]? = some o -> ∀ w, ∀ a : Act, (execOp a.eval o).run P w = .ok (.value (.pointer (some ⟨w.heap.size, 0, none⟩))) (w.alloc (zs k)))
    (hz : ∀ (k : Nat) (w : World), k < m -> (w.alloc (zs k)).heap[w.heap.size]? = some (zs k))
    (h : ∃ A, (∀ u, Still w u -> wpQuiet P l.toArray (fun w' => ∃ z : Aft u, w' = z.u) (fun a' => a' = A) (qlist l n m) a) /\
      (∀ k o, k < m -> l[n + m + k]? = some o -> ∀ u g, u.heap[g]? = some (zs k) -> ∃ u', (execOp (A.put (some (ds.getD k 0)) (.pointer (some ⟨g, 0, none⟩))).eval o).run P u = .ok .skip u' /\ u'.heap[g]? = some (zs' k) /\ Fr (fun i => i = g) u u') /\
      ∀ (u : World) (γ : Nat -> Nat), Still w u -> (∀ k, k < m -> w.heap.size <= γ k /\ u.heap[γ k]? = some (zs' k)) -> (∀ k j, k < m -> j < m -> γ k = γ j -> k = j) -> Q .normal ((List.range m).foldl (fun a k => a.put (some (ds.getD k 0)) (.pointer (some ⟨γ k, 0, none⟩))) A) u) :
    (Code.region id l.toArray true).wp P Q a w := by
  obtain ⟨A, hwalk, hst, hpost⟩ := h
  have hB0 := hB
  unfold mkB at hB
  simp only [Bool.and_eq_true, decide_eq_true_eq] at hB
  obtain ⟨⟨⟨⟨⟨⟨hsel, hlow⟩, hnl⟩, hnd⟩, hdl⟩, hgood⟩, hall⟩ := hB
  have hin : ∀ o ∈ qlist l n m, o ∈ l.toArray := fun o ho => by
    unfold qlist at ho
    rcases List.mem_append.1 ho with ho | ho
    · simpa using List.mem_of_mem_take ho
    · simpa using List.mem_of_mem_drop ho
  have hsel' : ∀ o ∈ l.toArray, ∀ cs b, o.op ≠ .select cs b := fun o ho cs b => by
    obtain ⟨i, hi, e⟩ := Array.mem_iff_getElem.1 ho
    exact Region.noSelect_spec hsel i o cs b (by rw [Array.getElem?_eq_getElem hi, e])
  have hmem : ∀ j o, qi n m j = true -> l[j]? = some o -> o ∈ qlist l n m := fun j o hj ho => by
    unfold qlist
    unfold qi at hj
    simp only [Bool.or_eq_true, decide_eq_true_eq] at hj
    obtain ⟨hjl, e⟩ := List.getElem?_eq_some_iff.1 ho
    rcases hj with hj | hj
    · exact List.mem_append_left _ (List.mem_iff_getElem?.2 ⟨j, by rw [List.getElem?_take_of_lt hj]; exact ho⟩)
    · refine List.mem_append_right _ (List.mem_iff_getElem?.2 ⟨j - (n + 2 * m), ?_⟩)
      rw [List.getElem?_drop, show n + 2 * m + (j - (n + 2 * m)) = j by omega]
      exact ho
  obtain ⟨⟨e1, e2, e3⟩, _⟩ := walk_each hsel' (qlist l n m) a hin hgood hdB (hwalk w (Fr.refl _ _))
  have hdA : ∀ d ∈ ds, d < A.tmps.size := fun d hd => by rw [e1]; simpa using List.all_eq_true.1 hdd d hd
  refine wp_region_any hm ?_
  have hst0 : Still w { w with drawn := w.drawn + 1 } := (Fr.refl _ w).drew
  have key := any_mk (P := P) (W := w) (A := A) (zs := zs) (zs' := zs') (Q' := Q) hB0 hdA
    (fun j o hj ho u hu t ht => (walk_each hsel' (qlist l n m) a hin hgood hdB (hwalk u hu)).2 o (hmem j o hj ho) t ht) (fun k o hk ho u _ b => hnew k o hk ho u b) hz hst ?_ l.length (Array.replicate l.length false) a { w with drawn := w.drawn + 1 } (fun _ => 0) (by simp) (cnt_new (Nat.le_refl _))
    ⟨hst0, e1.symm, e2.symm, fun t h1 _ => ((e3 t fun o ho => ?_)).symm, fun j o t _ _ _ hl hjl => (by simp [hjl] at hl), fun k hk hl => (by simp [show n + k < l.length by omega] at hl), fun k j hk _ hl => (by simp [show n + k < l.length by omega] at hl), fun k hk hl => (by simp [show n + m + k < l.length by omega] at hl)⟩
  · simpa using key
  · intro L a' w' γ hL hm'
    have hnews := fun k (hk : k < m) => hm'.new k hk (hL _ (by omega))
    have hall2 : ∀ k, k < m -> L.getD (n + m + k) true = true := fun k hk => hL _ (by omega)
    have ea : a' = (List.range m).foldl (fun a k => a.put (some (ds.getD k 0)) (.pointer (some ⟨γ k, 0, none⟩))) A := by
      have fold : ∀ (r : Nat), r <= m -> ((List.range r).foldl (fun a k => a.put (some (ds.getD k 0)) (.pointer (some ⟨γ k, 0, none⟩))) A).tmps.size = A.tmps.size /\ ((List.range r).foldl (fun a k => a.put (some (ds.getD k 0)) (.pointer (some ⟨γ k, 0, none⟩))) A).defers = A.defers /\
          (∀ t, (∀ k, k < r -> t ≠ ds.getD k 0) -> ((List.range r).foldl (fun a k => a.put (some (ds.getD k 0)) (.pointer (some ⟨γ k, 0, none⟩))) A).tmps[t]? = A.tmps[t]?) /\
          (∀ k, k < r -> ((List.range r).foldl (fun a k => a.put (some (ds.getD k 0)) (.pointer (some ⟨γ k, 0, none⟩))) A).tmps[ds.getD k 0]? = some (.pointer (some ⟨γ k, 0, none⟩))) := by
        intro r
        induction r with
        | zero => intro _; exact ⟨rfl, rfl, fun _ _ => rfl, fun k hk => by omega⟩
        | succ r ih =>
          intro hr
          obtain ⟨f1, f2, f3, f4⟩ := ih (by omega)
          have hdr : ds.getD r 0 ∈ ds := by
            rw [List.getD_eq_getElem?_getD, List.getElem?_eq_getElem (by omega)]
            exact List.getElem_mem _
          rw [List.range_succ, List.foldl_append]
          obtain ⟨B, eB⟩ : ∃ B, (List.range r).foldl (fun a k => a.put (some (ds.getD k 0)) (.pointer (some ⟨γ k, 0, none⟩))) A = B := ⟨_, rfl⟩
          rw [eB] at f1 f2 f3 f4 ⊢
          simp only [List.foldl_cons, List.foldl_nil]
          refine ⟨by simp [Act.put, f1], by simp [Act.put, f2], fun t ht => ?_, fun k hk => ?_⟩
          · simp only [Act.put, Array.getElem?_setIfInBounds_ne (Ne.symm (ht r (by omega)))]
            exact f3 t fun k hk => ht k (by omega)
          · by_cases hkr : k = r
            · subst hkr
              simp only [Act.put]
              exact getE_set_self (by rw [f1]; exact hdA _ hdr) _
            · have hne : ds.getD r 0 ≠ ds.getD k 0 := fun e => by
                rw [List.getD_eq_getElem?_getD, List.getD_eq_getElem?_getD, List.getElem?_eq_getElem (by omega), List.getElem?_eq_getElem (by omega)] at e
                simp only [Option.getD_some] at e
                exact List.pairwise_iff_getElem.1 hnd k r (by omega) (by omega) (by omega) e.symm
              simp only [Act.put, Array.getElem?_setIfInBounds_ne hne]
              exact f4 k (by omega)
      obtain ⟨f1, f2, f3, f4⟩ := fold m (Nat.le_refl _)
      obtain ⟨B, eB⟩ : ∃ B, (List.range m).foldl (fun a k => a.put (some (ds.getD k 0)) (.pointer (some ⟨γ k, 0, none⟩))) A = B := ⟨_, rfl⟩
      rw [eB] at f1 f2 f3 f4 ⊢
      obtain ⟨ts, df⟩ := a'
      obtain ⟨Ts, Df⟩ := B
      have g1 : df = Df := hm'.defers.trans f2.symm
      have g2 : ts = Ts := by
        apply Array.ext_getElem?
        intro t
        by_cases htd : t ∈ ds
        · obtain ⟨k, hk, e⟩ := List.mem_iff_getElem.1 htd
          have e' : ds.getD k 0 = t := by rw [List.getD_eq_getElem?_getD, List.getElem?_eq_getElem hk]; exact e
          have := (hnews k (by omega)).1
          rw [e'] at this
          have h4 := f4 k (by omega)
          rw [e'] at h4
          rw [this, h4]
        · rw [f3 t fun k hk e => htd (by
            rw [e, List.getD_eq_getElem?_getD, List.getElem?_eq_getElem (by omega)]
            exact List.getElem_mem _)]
          by_cases hex : ∃ i p, qi n m i = true /\ l[i]? = some p /\ p.dst = some t
          · obtain ⟨i, p, hi, hp, hpt⟩ := hex
            have hil : i < l.length := (List.getElem?_eq_some_iff.1 hp).1
            exact hm'.done i p t hi hp hpt (hL i hil) hil
          · exact hm'.rest t (fun i p hi hp hpt => hex ⟨i, p, hi, hp, hpt⟩) htd
      rw [g1, g2]
    rw [ea]
    exact hpost w' γ hm'.still (fun k hk => ⟨(hnews k hk).2.1, by have := (hnews k hk).2.2; rwa [hall2 k hk, if_pos rfl] at this⟩) (fun k j hk hj e => hm'.inj k j hk hj (hL _ (by omega)) (hL _ (by omega)) e)
  · intro e
    have : ∃ i, qi n m i = true /\ l[i]? = some o := by
      unfold qlist at ho
      rcases List.mem_append.1 ho with ho | ho
      · obtain ⟨i, hi, e⟩ := List.mem_iff_getElem.1 ho
        have hin' : i < n := by simp at hi; omega
        exact ⟨i, by unfold qi; simp; omega, by rw [<- List.getElem?_take_of_lt hin', List.getElem?_eq_getElem hi, e]⟩
      · obtain ⟨i, hi, e⟩ := List.mem_iff_getElem.1 ho
        exact ⟨n + 2 * m + i, by unfold qi; simp, by rw [<- List.getElem?_drop, List.getElem?_eq_getElem hi, e]⟩
    obtain ⟨i, hi, hoi⟩ := this
    exact h1 i o hi hoi e
theorem region_mk2 {id : Nat} {Q : Exit -> Act -> World -> Prop} {a : Act} {w : World} {on1 on2 os1 os2 : Oper} (n d1 d2 : Nat) (z z1 z2 : Obj) (hm : P.follows .mixedOrders = true) (hB : mkB l n 2 [d1, d2] = true) (hdB : dstB (qlist l n 2) a.tmps.size = true) (hdd : decide (d1 < a.tmps.size /\ d2 < a.tmps.size) = true)
  (hon : l[n]? = some on1 /\ l[n + 1]? = some on2) (hos : l[n + 2]? = some os1 /\ l[n + 3]? = some os2)
  (hnew : ∀ (w : World) (a : Act), (execOp a.eval on1).run P w = .ok (.value (.pointer (some ⟨w.heap.size, 0, none⟩))) (w.alloc z) /\ (execOp a.eval on2).run P w = .ok (.value (.pointer (some ⟨w.heap.size, 0, none⟩))) (w.alloc z)) (hz : ∀ w : World, (w.alloc z).heap[w.heap.size]? = some z)
  (h : ∃ A, (∀ u, Still w u -> wpQuiet P l.toArray (fun w' => ∃ z : Aft u, w' = z.u) (fun a' => a' = A) (qlist l n 2) a) /\
   (∀ u g, u.heap[g]? = some z -> ∃ u', (execOp (A.put (some d1) (.pointer (some ⟨g, 0, none⟩))).eval os1).run P u = .ok .skip u' /\ u'.heap[g]? = some z1 /\ Fr (fun i => i = g) u u') /\
   (∀ u g, u.heap[g]? = some z -> ∃ u', (execOp (A.put (some d2) (.pointer (some ⟨g, 0, none⟩))).eval os2).run P u = .ok .skip u' /\ u'.heap[g]? = some z2 /\ Fr (fun i => i = g) u u') /\
   ∀ (u : World) (g1 g2 : Nat), Still w u -> w.heap.size <= g1 -> w.heap.size <= g2 -> g1 ≠ g2 -> u.heap[g1]? = some z1 -> u.heap[g2]? = some z2 -> Q .normal ((A.put (some d1) (.pointer (some ⟨g1, 0, none⟩))).put (some d2) (.pointer (some ⟨g2, 0, none⟩))) u) :
  (Code.region id l.toArray true).wp P Q a w := by
 obtain ⟨A, h1, h2, h3, h4⟩ := h
 refine region_mk n 2 [d1, d2] (fun _ => z) (fun k => if k = 0 then z1 else z2) hm hB hdB (by simpa using hdd) (fun k o hk ho => ?_) (fun _ w _ => hz w) ⟨A, h1, fun k o hk ho => ?_, fun u γ hs hk hi => ?_⟩
 ·by_cases e : k = 0
  ·subst e
   obtain rfl : on1 = o := Option.some.inj (hon.1.symm.trans ho)
   exact fun w a => (hnew w a).1
  ·obtain rfl : k = 1 := by omega
   obtain rfl : on2 = o := Option.some.inj (hon.2.symm.trans ho)
   exact fun w a => (hnew w a).2
 ·by_cases e : k = 0
  ·subst e
   obtain rfl : os1 = o := Option.some.inj (hos.1.symm.trans ho)
   exact h2
  ·obtain rfl : k = 1 := by omega
   obtain rfl : os2 = o := Option.some.inj (hos.2.symm.trans ho)
   exact h3
 ·have a0 := hk 0 (by omega)
  have a1 := hk 1 (by omega)
  exact h4 u (γ 0) (γ 1) hs a0.1 a1.1 (fun e => by have := hi 0 1 (by omega) (by omega) e; omega) a0.2 a1.2
end
end Go.Proofs.YthcjckgmdokmdaaGreatDoor
set_option maxRecDepth 100000
namespace Go.Proofs.YthcjckgmdokmdaaGreatDoor
open Go
def pureB : Op -> Bool
 | .move _ => true
 | .extract _ _ => true
 | _ => false
theorem pure_run {P : Program} {o : Oper} (h : pureB o.op = true) (ρ : Operand -> Value) {w : World} {C : World -> Prop} {v : Value} (hq : Oper.quietUpon P C w v ((execOp ρ o).run P w)) (u : World) : (execOp ρ o).run P u = .ok (.value v) u := by
 cases e : o.op <;> rw [e] at h <;> try (cases h)
 ·simp only [execOp, e, Sem.run_pure, Oper.quietUpon] at hq ⊢
  rw [hq.2]
 ·rename_i t ix
  simp only [execOp, e, Instr.extract] at hq ⊢
  cases e2 : ρ t <;> simp only [e2] at hq ⊢ <;> try (exact hq.elim)
  rename_i vs
  cases e3 : vs[ix]? <;> simp [e3, Oper.quietUpon] at hq ⊢
  exact hq
def plainB : Op -> Bool
 | .load _ _ => true
 | .nilCheck _ => true
 | .fieldAddr _ _ _ => true
 | .indexAddr _ _ _ => true
 | _ => false
theorem plain_run {P : Program} {o : Oper} (h : plainB o.op = true) (ρ : Operand -> Value) {w : World} {C : World -> Prop} {v : Value} (hq : Oper.quietUpon P C w v ((execOp ρ o).run P w)) : (execOp ρ o).run P w = .ok (.value v) w := by
 have key : ∀ f args w', (execOp ρ o).run P w ≠ .ok (.enter f args) w' /\ (execOp ρ o).run P w ≠ .ok .skip w' := fun f args w' => by
  cases e : o.op <;> rw [e] at h <;> try (cases h)
  ·rename_i t a
   simp only [execOp, e, Sem.run_bind, Sem.run_pure]
   cases (Instr.loadAt t (ρ a)).run P w <;> simp [Result.andThen]
  ·rename_i a
   have hb : ∀ {α : Type} (s : Sem α) (k : α -> Sem Next) (w0 : World), (∀ x w1, (k x).run P w1 ≠ .ok (.enter f args) w' /\ (k x).run P w1 ≠ .ok .skip w') -> (s >>= k).run P w0 ≠ .ok (.enter f args) w' /\ (s >>= k).run P w0 ≠ .ok .skip w' := fun s k w0 hk => by
    rw [Sem.run_bind]
    cases s.run P w0 with
    | ok x w1 => exact hk x w1
    | halt x w1 => simp [Result.andThen]
   have hv : ∀ (x : Value) w1, (pure (Next.value x) : Sem Next).run P w1 ≠ .ok (.enter f args) w' /\ (pure (Next.value x) : Sem Next).run P w1 ≠ .ok .skip w' := fun x w1 => by simp [Sem.run_pure]
   have hp : ∀ w1, (runtimePanic RuntimeError.nilDeref : Sem Next).run P w1 ≠ .ok (.enter f args) w' /\ (runtimePanic RuntimeError.nilDeref : Sem Next).run P w1 ≠ .ok .skip w' := fun w1 => by
    simp [runtimePanic]
   cases e2 : ρ a with
   | pointer p =>
    cases p with
    | none => simp only [execOp, e, e2]; exact hp w
    | some p => simp only [execOp, e, e2]; exact hv _ w
   | func fn first captured =>
    cases fn with
    | method name =>
     simp only [execOp, e, e2]
     split
     ·exact hp w
     ·refine hb _ _ _ fun x w1 => hb _ _ _ fun y w2 => ?_
      split
      ·exact hb _ _ _ fun z w3 => hv _ w3
      ·exact hv _ w2
     ·exact hv _ w
    | _ => simp only [execOp, e, e2]; exact hv _ w
   | nilIface => simp only [execOp, e, e2]; exact hp w
   | nilFunc => simp only [execOp, e, e2]; exact hp w
   | _ => simp only [execOp, e, e2]; exact hv _ w
  ·rename_i t a k
   simp only [execOp, e, Sem.run_bind, Sem.run_pure]
   cases (Instr.fieldAt t (ρ a) k).run P w <;> simp [Result.andThen]
  ·rename_i t a k
   simp only [execOp, e, Sem.run_bind, Sem.run_pure]
   cases (Instr.indexAt t (ρ a) (ρ k)).run P w <;> simp [Result.andThen]
 generalize hr : (execOp ρ o).run P w = r at hq key ⊢
 cases r with
 | ok x w' =>
  cases x with
  | value u => obtain ⟨rfl, rfl⟩ := hq; rfl
  | skip => exact absurd rfl (key 0 #[] w').2
  | enter f args => exact absurd rfl (key f args w').1
  | _ => exact hq.elim
 | halt x w' => exact hq.elim
def edgeB (l : List Oper) (i j : Nat) : Bool := match l.toArray[i]? with | some p => p.after.any fun e => e.on == j && Region.binds .any e | none => false
def reachB (l : List Oper) (n : Nat) : Nat -> Nat -> Bool
 | 0, _ => false
 | f + 1, j => edgeB l n j || (List.range n).any fun i => edgeB l i j && reachB l n f i
theorem reach_done {l : List Oper} {n : Nat} {L : Array Bool} (h1 : ∀ j, edgeB l n j = true -> L.getD j true = true) (h2 : ∀ i j, edgeB l i j = true -> L.getD i true = true -> L.getD j true = true) : ∀ f j, reachB l n f j = true -> L.getD j true = true
 | 0, _, h => by cases h
 | f + 1, j, h => by
  unfold reachB at h
  rw [Bool.or_eq_true, List.any_eq_true] at h
  rcases h with h | ⟨i, _, h⟩
  ·exact h1 j h
  ·rw [Bool.and_eq_true] at h
   exact h2 i j h.1 (reach_done h1 h2 f i h.2)
def lateB (l : List Oper) (n q : Nat) : Bool :=
  Region.noSelect l.toArray && lowK l && decide (n + q < l.length /\ q <= 1) && goodB (l.take n) &&
  (List.range l.length).all fun j => match l.toArray[j]? with
    | some o => o.guard.isNone && (if j < n then
          o.dst.isSome && ((List.range n).all fun i => (i == j) || (match l.toArray[i]? with | some p => p.dst != o.dst | none => false)) &&
          (o.op.operands.toList.all fun x => match x with
            | .tmp t => ((List.range l.length).all fun i => decide (i < n) || (match l.toArray[i]? with | some p => p.dst != some t || p.after.any fun e => e.on == j && Region.binds .any e | none => false)) &&
                (List.range n).all fun i => match l.toArray[i]? with | some p => (p.dst != some t) || o.after.any fun e => e.on == i && Region.binds .any e | none => false
            | _ => true) &&
          (pureB o.op || (plainB o.op && reachB l (n + q) 6 j) || reachB l n 6 j)
        else
          (j == n || o.after.any fun e => e.on == j - 1 && Region.binds .any e) &&
          (match o.dst with | some t => (List.range n).all fun i => (match l.toArray[i]? with | some p => p.dst != some t | none => false) | none => true) &&
          (o.op.operands.toList.all fun x => match x with
            | .tmp t => (List.range n).all fun i => match l.toArray[i]? with | some p => (p.dst != some t) || o.after.any fun e => e.on == i && Region.binds .any e | none => false
            | _ => true))
    | none => false
section
variable {P : Program} {W : World} {l : List Oper} {n q : Nat} {A : Act}
abbrev Nrm (Q : Exit -> Act -> World -> Prop) : Exit -> Act -> World -> Prop := fun e a w => e = .normal /\ Q .normal a w
structure MidL (P : Program) (l : List Oper) (n q : Nat) (A : Act) (W : World) (Q : Exit -> Act -> World -> Prop) (L : Array Bool) (a : Act) (w : World) (k : Nat) (B : Act) : Prop where
 size : a.tmps.size = B.tmps.size
 defers : a.defers = B.defers
 agree : ∀ t, (∀ j o, j < n -> l[j]? = some o -> o.dst = some t -> L.getD j true = true) -> a.tmps[t]? = B.tmps[t]?
 keep : ∀ t, (∀ i o, n <= i -> i < n + k -> l[i]? = some o -> o.dst ≠ some t) -> B.tmps[t]? = A.tmps[t]?
 le : n + k <= l.length
 tail : ∀ i, n <= i -> i < l.length -> L.getD i true = decide (i < n + k)
 first : 0 < k -> ∀ j o, j < n -> l[j]? = some o -> pureB o.op = false -> plainB o.op = false -> L.getD j true = true
 second : q < k -> ∀ j o, j < n -> l[j]? = some o -> pureB o.op = false -> L.getD j true = true
 zero : k = 0 -> B = A
 still : k <= q -> Still W w
 wp : 0 < k -> wpList P l.toArray (Nrm Q) (l.drop (n + k)) B w
 bsize : B.tmps.size = A.tmps.size
 closed : ∀ i j, i < l.length -> j < l.length -> edgeB l i j = true -> L.getD i true = true -> L.getD j true = true
theorem upon_sim {o : Oper} {a B : Act} {K K' : Act -> World -> Prop} {Q : Exit -> Act -> World -> Prop} {r : Result Next} (hK : ∀ v w, K (B.put o.dst v) w -> K' (a.put o.dst v) w) (hD : ∀ d w, K ({ B with defers := d :: B.defers }.put o.dst undef) w -> K' ({ a with defers := d :: a.defers }.put o.dst undef) w)
  (h : o.upon P B K (Nrm Q) r) : o.upon P a K' Q r := by
 cases r with
 | ok x w =>
  cases x with
  | value v => exact hK v w h
  | skip => exact hK undef w h
  | defer d => exact hD d w h
  | enter f args =>
   refine Calls.mono (show Calls P f args w _ from h) ?_
   intro e w2 he
   cases e with
   | returned v => exact hK v w2 he
   | panicked c => exact absurd he.1 (by simp)
   | outgrown => obtain ⟨a0, w0, h0, _⟩ := he; cases h0
  | row row args => exact Rows.mono (show Rows P row args w _ from h) fun v w2 he => hK v w2 he
  | _ => exact h.elim
 | halt x w =>
  cases x <;> first | exact h.elim | exact absurd h.1 (by simp)
theorem drop_at {j : Nat} {o : Oper} (h : l[j]? = some o) : l.drop j = o :: l.drop (j + 1) := by
 obtain ⟨hj, e⟩ := List.getElem?_eq_some_iff.1 h
 rw [<- e]
 exact List.drop_eq_getElem_cons hj
theorem any_late {Q : Exit -> Act -> World -> Prop} (hB : lateB l n q = true)
  (hS : q = 1 -> ∀ o, l[n]? = some o -> ∀ u, Still W u -> ∃ v u', (execOp A.eval o).run P u = .ok (.value v) u' /\ Still u u')
  (hop : ∀ j o, j < n -> l[j]? = some o -> ∀ w, Still W w -> ∀ t, o.dst = some t -> o.quietAt P A (fun u => Still w u) w (A.tmps.getD t undef) /\ t < A.tmps.size)
  (hT : ∀ u, Still W u -> wpList P l.toArray (Nrm Q) (l.drop n) A u) :
  ∀ (f : Nat) (L : Array Bool) (a : Act) (w : World) (k : Nat) (B : Act), L.size = l.length -> cnt L l.length = f -> MidL P l n q A W Q L a w k B -> wpAny P .any l.toArray Q f L a w
 | 0, L, a, w, k, B, hLs, hcnt, hm => by
  have hall := cnt_zero hcnt
  have hB' := hB
  unfold lateB at hB'
  simp only [Bool.and_eq_true, decide_eq_true_eq] at hB'
  obtain ⟨⟨⟨_, ⟨hnl, _⟩⟩, _⟩, _⟩ := hB'
  refine ⟨?_, ?_⟩
  ·rw [List.eq_nil_iff_forall_not_mem]
   intro j hj
   obtain ⟨hju, o, ho, _⟩ := mem_ready.1 hj
   have hjl : j < l.length := by have := (Array.getElem?_eq_some_iff.1 ho).1; simpa using this
   rw [hall j hjl] at hju
   cases hju
  ·have hk : l.length <= n + k := by
    have := hm.tail (l.length - 1) (by omega) (by omega)
    rw [hall _ (by omega)] at this
    have := of_decide_eq_true this.symm
    omega
   have hw := hm.wp (by omega)
   rw [List.drop_eq_nil_of_le hk] at hw
   have e : a = B := by
    obtain ⟨ts, df⟩ := a
    obtain ⟨Ts, Df⟩ := B
    have g1 : df = Df := hm.defers
    have g2 : ts = Ts := by
     apply Array.ext_getElem?
     intro t
     exact hm.agree t fun j o hj ho _ => hall j (by omega)
    rw [g1, g2]
   rw [e]
   exact hw.2
 | f + 1, L, a, w, k, B, hLs, hcnt, hm => by
  have hB0 := hB
  unfold lateB at hB
  simp only [Bool.and_eq_true, decide_eq_true_eq] at hB
  obtain ⟨⟨⟨⟨hsel, hlow⟩, ⟨hnl, hq1⟩⟩, _⟩, hall⟩ := hB
  obtain ⟨i, hi, hun, hmin⟩ := cnt_pos (L := L) (n := l.length) (by omega)
  refine ⟨fun h0 => ?_, fun j hj => ?_⟩
  ·exfalso
   obtain ⟨o, ho⟩ : ∃ o, l.toArray[i]? = some o := ⟨_, Array.getElem?_eq_getElem (by simpa using hi)⟩
   have : i ∈ Region.ready .any l.toArray L := mem_ready.2 ⟨hun, o, ho, fun e he hb => by
    have hlt := lowK_spec hlow hi ho e he hb
    have hin : e.on < L.size := by omega
    have := hmin e.on hlt
    simp [hin] at this ⊢
    exact this⟩
   rw [h0] at this
   cases this
  ·obtain ⟨hju, o, ho, hwait⟩ := mem_ready.1 hj
   have hjl : j < l.length := by have := (Array.getElem?_eq_some_iff.1 ho).1; simpa using this
   have ho' : l[j]? = some o := by simpa using ho
   have hJ := List.all_eq_true.1 hall j (List.mem_range.2 hjl)
   simp only [ho, Bool.and_eq_true] at hJ
   obtain ⟨hg0, hJ⟩ := hJ
   have hg : o.guard = none := by simpa using hg0
   have next : ∀ (a' : Act) (w' : World) (k' : Nat) (B' : Act), MidL P l n q A W Q (L.setIfInBounds j true) a' w' k' B' -> wpAny P .any l.toArray Q f (L.setIfInBounds j true) a' w' := fun a' w' k' B' hm' =>
    any_late hB0 hS hop hT f _ a' w' k' B' (by simp [hLs]) (by have := cnt_set hju hjl; omega) hm'
   have hset : ∀ k, k ≠ j -> (L.setIfInBounds j true).getD k true = L.getD k true := fun k hk => getD_set_ne true (Ne.symm hk)
   have hself : (L.setIfInBounds j true).getD j true = true := by simp [show j < L.size by omega]
   have hcl : ∀ i j', i < l.length -> j' < l.length -> edgeB l i j' = true -> (L.setIfInBounds j true).getD i true = true -> (L.setIfInBounds j true).getD j' true = true := fun i j' hi hj' he hl => by
    by_cases e2 : j' = j
    ·rw [e2]; simp [show j < L.size by omega]
    ·rw [hset j' e2]
     by_cases e1 : i = j
     ·subst e1
      unfold edgeB at he
      simp only [ho] at he
      obtain ⟨e, he1, hb⟩ := Array.any_eq_true'.1 he
      simp only [Bool.and_eq_true, beq_iff_eq] at hb
      have := hwait e he1 hb.2
      rw [hb.1] at this
      exact getD_true_false (by omega) this
     ·rw [hset i e1] at hl
      exact hm.closed i j' hi hj' he hl
   have hmore : ∀ k, L.getD k true = true -> (L.setIfInBounds j true).getD k true = true := fun k hk => by
    by_cases e : k = j
    ·rw [e]; exact hself
    ·rw [hset k e]; exact hk
   -- what an operation waits for is done
   have hdone : ∀ i, i < l.length -> (o.after.any fun e => e.on == i && Region.binds .any e) = true -> L.getD i true = true := fun i hi h => by
    obtain ⟨e, he, hb⟩ := Array.any_eq_true'.1 h
    simp only [Bool.and_eq_true, beq_iff_eq] at hb
    have := hwait e he hb.2
    rw [hb.1] at this
    exact getD_true_false (by omega) this
   have hprod : ∀ s, ((List.range n).all fun i => match l.toArray[i]? with | some p => (p.dst != some s) || o.after.any fun e => e.on == i && Region.binds .any e | none => false) = true -> ∀ i p, i < n -> l[i]? = some p -> p.dst = some s -> L.getD i true = true := fun s h i p hi hp hps => by
    have h6 := List.all_eq_true.1 h i (List.mem_range.2 hi)
    have hp' : l.toArray[i]? = some p := by simpa using hp
    simp only [hp', Bool.or_eq_true] at h6
    rcases h6 with h6 | h6
    ·rw [hps] at h6; simp at h6
    ·exact hdone i (by omega) h6
   unfold wpOp
   simp only [ho]
   rw [if_pos (by unfold Region.wanted; rw [hg])]
   refine .inl ?_
   by_cases hjn : j < n
   ·rw [if_pos hjn] at hJ
    simp only [Bool.and_eq_true] at hJ
    obtain ⟨⟨⟨h1, h2⟩, h3⟩, h4⟩ := hJ
    obtain ⟨t, ht⟩ : ∃ t, o.dst = some t := Option.isSome_iff_exists.1 h1
    have hcong : execOp a.eval o = execOp A.eval o := execOp_congr o (fun cs b => Region.noSelect_spec hsel j o cs b ho) fun x hx => by
     cases x with
     | tmp s =>
      have h5 := List.all_eq_true.1 h3 (.tmp s) (by simpa using hx)
      simp only [Bool.and_eq_true] at h5
      refine tmps_eval ?_
      rw [hm.agree s fun i p hi hp hps => hprod s h5.2 i p hi hp hps]
      refine hm.keep s fun i p hi hik hp hps => ?_
      have hil : i < l.length := (List.getElem?_eq_some_iff.1 hp).1
      have h6 := List.all_eq_true.1 h5.1 i (List.mem_range.2 hil)
      have hp' : l.toArray[i]? = some p := by simpa using hp
      simp only [hp', show ¬ i < n by omega, decide_false, Bool.false_or] at h6
      rw [hps] at h6
      have h7 : edgeB l i j = true := by
       unfold edgeB
       simp only [hp']
       simpa using h6
      rw [hm.closed i j hil hjl h7 (by rw [hm.tail i hi hil]; simpa using hik)] at hju
      cases hju
     | const v => rfl
     | global g => rfl
     | func f => rfl
    have hta := (hop j o hjn ho' W (Fr.refl _ _) t ht).2
    have hAt : A.tmps[t]? = some (A.tmps.getD t undef) := by simp [hta]
    have htail : ∀ i p, n <= i -> l[i]? = some p -> p.dst ≠ some t := fun i p hi hp hps => by
     have hil : i < l.length := (List.getElem?_eq_some_iff.1 hp).1
     have h5 := List.all_eq_true.1 hall i (List.mem_range.2 hil)
     have hp' : l.toArray[i]? = some p := by simpa using hp
     simp only [hp', Bool.and_eq_true] at h5
     have h6 := h5.2
     rw [if_neg (by omega)] at h6
     simp only [Bool.and_eq_true, hps] at h6
     have h7 := List.all_eq_true.1 h6.1.2 j (List.mem_range.2 hjn)
     simp only [ho, ht] at h7
     simp at h7
    have hagree : ∀ s, (∀ i p, i < n -> l[i]? = some p -> p.dst = some s -> (L.setIfInBounds j true).getD i true = true) -> (a.put o.dst (A.tmps.getD t undef)).tmps[s]? = B.tmps[s]? := fun s hs => by
     by_cases e : t = s
     ·subst e
      simp only [Act.put, ht]
      rw [getE_set_self (by rw [hm.size, hm.bsize]; exact hta), hm.keep t (fun i p hi _ hp => htail i p hi hp), hAt]
     ·simp only [Act.put, ht, Array.getElem?_setIfInBounds_ne e]
      refine hm.agree s fun i p hi hp hps => ?_
      have hij : i ≠ j := fun e2 => by
       subst e2
       rw [ho'] at hp
       obtain rfl : o = p := Option.some.inj hp
       exact e (Option.some.inj (ht.symm.trans hps))
      rw [<- hset i hij]
      exact hs i p hi hp hps
    have htl : ∀ i, n <= i -> i < l.length -> (L.setIfInBounds j true).getD i true = decide (i < n + k) := fun i hi hil => by
     rw [hset i (by omega)]
     exact hm.tail i hi hil
    by_cases hk : k = 0
    ·have hst := hm.still (by omega)
     have hBA := hm.zero hk
     have hqa := (hop j o hjn ho' w hst t ht).1
     have hq' : o.quietAt P a (fun u => Still w u) w (A.tmps.getD t undef) := by
      unfold Oper.quietAt at hqa ⊢
      rw [hcong]
      exact hqa
     refine wp_of_at hq' fun w' hw' => next _ w' k B ⟨by simp [Act.put, ht, hm.size], by simp [Act.put, ht, hm.defers], hagree, hm.keep, hm.le, htl, fun h => by omega, fun h => by omega, fun _ => hBA, fun _ => hst.trans hw', fun h => by omega, hm.bsize, hcl⟩
    ·have hrun : (execOp A.eval o).run P w = .ok (.value (A.tmps.getD t undef)) w := by
      cases e : pureB o.op with
      | true => exact pure_run e A.eval (hop j o hjn ho' W (Fr.refl _ _) t ht).1 w
      | false =>
       by_cases hkq : k <= q
       ·cases e2 : plainB o.op with
        | true => exact plain_run e2 A.eval (hop j o hjn ho' w (hm.still hkq) t ht).1
        | false => rw [hm.first (by omega) j o hjn ho' e e2] at hju; cases hju
       ·rw [hm.second (by omega) j o hjn ho' e] at hju; cases hju
     unfold Oper.wp
     rw [hcong, hrun, Oper.upon_value]
     exact next _ w k B ⟨by simp [Act.put, ht, hm.size], by simp [Act.put, ht, hm.defers], hagree, hm.keep, hm.le, htl, fun h i p hi hp h1 h2 => hmore i (hm.first h i p hi hp h1 h2), fun h i p hi hp h1 => hmore i (hm.second h i p hi hp h1), fun h => absurd h hk, hm.still, hm.wp, hm.bsize, hcl⟩
   ·rw [if_neg hjn] at hJ
    simp only [Bool.and_eq_true] at hJ
    obtain ⟨⟨h1, h2⟩, h3⟩ := hJ
    have hjk : j = n + k := by
     have h5 := hm.tail j (by omega) hjl
     rw [hju] at h5
     have h6 : ¬ j < n + k := by simpa using h5.symm
     by_cases e : j = n
     ·omega
     ·have e' : (j == n) = false := by simpa using e
      rw [e', Bool.false_or] at h1
      have h7 := hdone (j - 1) (by omega) h1
      rw [hm.tail (j - 1) (by omega) (by omega)] at h7
      have := of_decide_eq_true h7
      omega
    have hcong : execOp a.eval o = execOp B.eval o := execOp_congr o (fun cs b => Region.noSelect_spec hsel j o cs b ho) fun x hx => by
     cases x with
     | tmp s => exact tmps_eval (hm.agree s fun i p hi hp hps => hprod s (List.all_eq_true.1 h3 (.tmp s) (by simpa using hx)) i p hi hp hps)
     | const v => rfl
     | global g => rfl
     | func f => rfl
    have hw : wpList P l.toArray (Nrm Q) (o :: l.drop (n + (k + 1))) B w := by
     have e : l.drop (n + k) = o :: l.drop (n + (k + 1)) := by rw [<- hjk, drop_at ho', hjk]; rfl
     rw [<- e]
     by_cases hk : k = 0
     ·have hst := hm.still (by omega)
      have hBA := hm.zero hk
      subst hk
      rw [hBA]
      exact hT w hst
     ·exact hm.wp (by omega)
    unfold wpList at hw
    rw [if_pos (by unfold Region.wanted; rw [hg])] at hw
    have hw2 : o.upon P B (wpList P l.toArray (Nrm Q) (l.drop (n + (k + 1)))) (Nrm Q) ((execOp B.eval o).run P w) := by
     rcases hw with hw | ⟨_, a0, w0, h0, _⟩
     ·exact hw
     ·cases h0
    have hsm : ∀ i j', edgeB l i j' = true -> i < l.length /\ j' < l.length := fun i j' he => by
     unfold edgeB at he
     cases eo : l.toArray[i]? with
     | none => rw [eo] at he; cases he
     | some q =>
      have hil : i < l.length := by have := (Array.getElem?_eq_some_iff.1 eo).1; simpa using this
      simp only [eo] at he
      obtain ⟨e, he1, hb⟩ := Array.any_eq_true'.1 he
      simp only [Bool.and_eq_true, beq_iff_eq] at hb
      have := lowK_spec hlow hil eo e he1 hb.2
      exact ⟨hil, by omega⟩
    have hkind : ∀ i p, i < n -> l[i]? = some p -> (pureB p.op || (plainB p.op && reachB l (n + q) 6 i) || reachB l n 6 i) = true := fun i p hi hp => by
     have h5 := List.all_eq_true.1 hall i (List.mem_range.2 (by omega))
     have hp' : l.toArray[i]? = some p := by simpa using hp
     simp only [hp', Bool.and_eq_true] at h5
     have h6 := h5.2
     rw [if_pos hi] at h6
     simp only [Bool.and_eq_true] at h6
     exact h6.2
    have hedge : ∀ j', edgeB l j j' = true -> L.getD j' true = true := fun j' he => by
     have hj' := (hsm j j' he).2
     unfold edgeB at he
     simp only [ho] at he
     exact hdone j' hj' he
    have hreachj : ∀ i, reachB l j 6 i = true -> L.getD i true = true := fun i h7 => reach_done (n := j) hedge (fun i1 j1 he hl1 => hm.closed i1 j1 (hsm i1 j1 he).1 (hsm i1 j1 he).2 he hl1) 6 i h7
    have hreach0 : k = 0 -> ∀ i, reachB l n 6 i = true -> L.getD i true = true := fun hk i h7 => hreachj i (by rw [hjk, hk]; exact h7)
    have hreachq : k = q -> ∀ i, reachB l (n + q) 6 i = true -> L.getD i true = true := fun hk i h7 => hreachj i (by rw [hjk, hk]; exact h7)
    have step : ∀ (a1 B1 : Act) (w1 : World), a1.tmps.size = B1.tmps.size -> B1.tmps.size = A.tmps.size -> a1.defers = B1.defers -> (∀ s, (∀ i p, i < n -> l[i]? = some p -> p.dst = some s -> L.getD i true = true) -> a1.tmps[s]? = B1.tmps[s]?) -> (∀ s, (∀ i p, n <= i -> i < n + (k + 1) -> l[i]? = some p -> p.dst ≠ some s) -> B1.tmps[s]? = A.tmps[s]?) -> wpList P l.toArray (Nrm Q) (l.drop (n + (k + 1))) B1 w1 -> (k + 1 <= q -> Still W w1) -> wpAny P .any l.toArray Q f (L.setIfInBounds j true) a1 w1 := fun a1 B1 w1 g1 g2 g3 g4 g5 g6 g7 =>
     next a1 w1 (k + 1) B1 ⟨g1, g3, fun s hs => g4 s fun i p hi hp hps => by rw [<- hset i (by omega)]; exact hs i p hi hp hps, g5, by omega, fun i hi hil => by
      by_cases e : i = j
      ·rw [e, hself]; symm; simp; omega
      ·rw [hset i e, hm.tail i hi hil]
       have : (i < n + k) ↔ (i < n + (k + 1)) := by omega
       simp [this],
      fun _ i p hi hp hpp hpl => by
       rw [hset i (by omega)]
       by_cases hk : k = 0
       ·have h6 := hkind i p hi hp
        rw [hpp, hpl] at h6
        exact hreach0 hk i (by simpa using h6)
       ·exact hm.first (by omega) i p hi hp hpp hpl,
      fun hq2 i p hi hp hpp => by
       rw [hset i (by omega)]
       by_cases hk : k = q
       ·have h6 := hkind i p hi hp
        rw [hpp, Bool.false_or, Bool.or_eq_true, Bool.and_eq_true] at h6
        rcases h6 with h6 | h6
        ·exact hreachq hk i h6.2
        ·by_cases hk0 : k = 0
         ·exact hreach0 hk0 i h6
         ·refine reach_done (n := n) (fun j' he => hm.closed n j' (by omega) (hsm n j' he).2 he ?_) (fun i1 j1 he hl1 => hm.closed i1 j1 (hsm i1 j1 he).1 (hsm i1 j1 he).2 he hl1) 6 i h6
          rw [hm.tail n (by omega) (by omega)]
          simp; omega
       ·exact hm.second (by omega) i p hi hp hpp,
      fun h => by omega, g7, fun _ => g6, g2, hcl⟩
    have hd : ∀ t, o.dst = some t -> ∀ i p, i < n -> l[i]? = some p -> p.dst ≠ some t := fun t ht i p hi hp hps => by
     rw [ht] at h2
     have h5 := List.all_eq_true.1 h2 i (List.mem_range.2 hi)
     have hp' : l.toArray[i]? = some p := by simpa using hp
     simp only [hp', hps] at h5
     simp at h5
    have put : ∀ (a1 B1 : Act) (v : Value) (w1 : World), a1.tmps = a.tmps -> B1.tmps = B.tmps -> a1.defers = B1.defers -> wpList P l.toArray (Nrm Q) (l.drop (n + (k + 1))) (B1.put o.dst v) w1 -> (k + 1 <= q -> Still W w1) -> wpAny P .any l.toArray Q f (L.setIfInBounds j true) (a1.put o.dst v) w1 := fun a1 B1 v w1 e1 e2 e3 hw1 hs1 => by
     cases ht : o.dst with
     | none =>
      rw [ht] at hw1
      exact step a1 B1 w1 (by rw [e1, e2]; exact hm.size) (by rw [e2]; exact hm.bsize) e3 (fun s hs => by rw [e1, e2]; exact hm.agree s hs) (fun s hs => by rw [e2]; exact hm.keep s (fun i p h1 h2 hp => hs i p h1 (by omega) hp)) hw1 hs1
     | some t =>
      rw [ht] at hw1
      refine step _ _ w1 (by simp [Act.put, e1, e2, hm.size]) (by simp [Act.put, e2, hm.bsize]) (by simp [Act.put, e3]) (fun s hs => ?_) (fun s hs => ?_) hw1 hs1
      ·by_cases e : t = s
       ·subst e
        simp only [Act.put, e1, e2]
        by_cases hlt : t < a.tmps.size
        ·rw [getE_set_self hlt, getE_set_self (by rw [<- hm.size]; exact hlt)]
        ·rw [Array.getElem?_eq_none (show (a.tmps.setIfInBounds t v).size <= t by rw [Array.size_setIfInBounds]; exact Nat.le_of_not_lt hlt), Array.getElem?_eq_none (show (B.tmps.setIfInBounds t v).size <= t by rw [Array.size_setIfInBounds, <- hm.size]; exact Nat.le_of_not_lt hlt)]
       ·simp only [Act.put, Array.getElem?_setIfInBounds_ne e, e1, e2]
        exact hm.agree s hs
      ·have hne : t ≠ s := fun e => hs j o (by omega) (by omega) ho' (by rw [ht, e])
       simp only [Act.put, Array.getElem?_setIfInBounds_ne hne, e2]
       exact hm.keep s (fun i p h1 h2 hp => hs i p h1 (by omega) hp)
    unfold Oper.wp
    rw [hcong]
    by_cases hk : k = 0 /\ q = 1
    ·obtain ⟨hk, hq⟩ := hk
     have hst := hm.still (by omega)
     have hBA := hm.zero hk
     obtain ⟨v, u', hrun, hsu⟩ := hS hq o (by rw [<- ho']; congr 1; omega) w hst
     rw [hBA, hrun, Oper.upon_value] at hw2
     rw [hBA, hrun, Oper.upon_value]
     exact put a A v u' rfl (by rw [hBA]) (by rw [hm.defers, hBA]) hw2 (fun _ => hst.trans hsu)
    ·exact upon_sim (fun v w1 hw1 => put a B v w1 rfl rfl hm.defers hw1 (fun h => absurd ⟨by omega, by omega⟩ hk)) (fun d w1 hw1 => put { a with defers := d :: a.defers } { B with defers := d :: B.defers } undef w1 rfl rfl (by simp [hm.defers]) hw1 (fun h => absurd ⟨by omega, by omega⟩ hk)) hw2
theorem region_laid {id : Nat} {Q : Exit -> Act -> World -> Prop} {a : Act} {w : World} (n q : Nat) (hm : P.follows .mixedOrders = true) (hB : lateB l n q = true) (hdB : dstB (l.take n) a.tmps.size = true)
  (h : ∃ A, (∀ u, Still w u -> wpQuiet P l.toArray (fun w' => ∃ z : Aft u, w' = z.u) (fun a' => a' = A) (l.take n) a) /\ (q = 1 -> ∀ o, l[n]? = some o -> ∀ u, Still w u -> ∃ v u', (execOp A.eval o).run P u = .ok (.value v) u' /\ Still u u') /\ ∀ u, Still w u -> wpList P l.toArray (Nrm Q) (l.drop n) A u) :
  (Code.region id l.toArray true).wp P Q a w := by
 obtain ⟨A, hwalk, hS, hT⟩ := h
 have hB0 := hB
 unfold lateB at hB
 simp only [Bool.and_eq_true, decide_eq_true_eq] at hB
 obtain ⟨⟨⟨⟨hsel, hlow⟩, ⟨hnl, _⟩⟩, hgood⟩, hall⟩ := hB
 have hin : ∀ o ∈ l.take n, o ∈ l.toArray := fun o ho => by simpa using List.mem_of_mem_take ho
 have hsel' : ∀ o ∈ l.toArray, ∀ cs b, o.op ≠ .select cs b := fun o ho cs b => by
  obtain ⟨i, hi, e⟩ := Array.mem_iff_getElem.1 ho
  exact Region.noSelect_spec hsel i o cs b (by rw [Array.getElem?_eq_getElem hi, e])
 have hmem : ∀ j o, j < n -> l[j]? = some o -> o ∈ l.take n := fun j o hj ho => List.mem_iff_getElem?.2 ⟨j, by rw [List.getElem?_take_of_lt hj]; exact ho⟩
 obtain ⟨⟨e1, e2, e3⟩, _⟩ := walk_each hsel' (l.take n) a hin hgood hdB (hwalk w (Fr.refl _ _))
 refine wp_region_any hm ?_
 have hst0 : Still w { w with drawn := w.drawn + 1 } := (Fr.refl _ w).drew
 have key := any_late (P := P) (W := w) (A := A) (Q := Q) hB0 hS (fun j o hj ho u hu t ht => (walk_each hsel' (l.take n) a hin hgood hdB (hwalk u hu)).2 o (hmem j o hj ho) t ht) hT l.length (Array.replicate l.length false) a { w with drawn := w.drawn + 1 } 0 A (by simp) (cnt_new (Nat.le_refl _))
  ⟨e1.symm, e2.symm, fun t ht => (e3 t fun o ho e => ?_).symm, fun _ _ => rfl, by omega, fun i hi hil => by simp [hil]; omega, fun h => by omega, fun h => by omega, fun _ => rfl, fun _ => hst0, fun h => by omega, rfl, fun i j hi _ _ hl => by simp [hi] at hl⟩
 ·simpa using key
 ·obtain ⟨j, hj, e4⟩ := List.mem_iff_getElem.1 ho
  have hjn : j < n := by simp at hj; omega
  have := ht j o hjn (by rw [<- List.getElem?_take_of_lt hjn, List.getElem?_eq_getElem hj, e4]) e
  simp [show j < l.length by omega] at this
theorem region_late {id : Nat} {Q : Exit -> Act -> World -> Prop} {a : Act} {w : World} (n : Nat) (hm : P.follows .mixedOrders = true) (hB : lateB l n 0 = true) (hdB : dstB (l.take n) a.tmps.size = true)
  (h : ∃ A, (∀ u, Still w u -> wpQuiet P l.toArray (fun w' => ∃ z : Aft u, w' = z.u) (fun a' => a' = A) (l.take n) a) /\ ∀ u, Still w u -> wpList P l.toArray (Nrm Q) (l.drop n) A u) :
  (Code.region id l.toArray true).wp P Q a w := by
 obtain ⟨A, h1, h2⟩ := h
 exact region_laid n 0 hm hB hdB ⟨A, h1, fun h => by omega, h2⟩
end
end Go.Proofs.YthcjckgmdokmdaaGreatDoor
set_option maxRecDepth 100000
namespace Go.Proofs.YthcjckgmdokmdaaGreatDoor
open Go
section
variable {P : Program} {W : World} {l : List Oper} {n r : Nat} {xs : List Nat} {A : Act}
end
end Go.Proofs.YthcjckgmdokmdaaGreatDoor
set_option maxRecDepth 100000
namespace Go.Proofs.YthcjckgmdokmdaaGreatDoor
open Go.RowKit
open Pu Gp Ap
end Go.Proofs.YthcjckgmdokmdaaGreatDoor
namespace Go.Proofs.YthcjckgmdokmdaaGreatDoor
open Pu Gp Ap
end Go.Proofs.YthcjckgmdokmdaaGreatDoor
namespace Go.Proofs.YthcjckgmdokmdaaGreatDoor
open Go.RowKit
open Pu Gp Ap
end Go.Proofs.YthcjckgmdokmdaaGreatDoor
namespace Go.Proofs.YthcjckgmdokmdaaGreatDoor
open Go.RowKit
open Pu Gp Ap
end Go.Proofs.YthcjckgmdokmdaaGreatDoor
namespace Go.Proofs.YthcjckgmdokmdaaGreatDoor
open Go.RowKit
open Pu Gp Ap
end Go.Proofs.YthcjckgmdokmdaaGreatDoor
namespace Go.Proofs.YthcjckgmdokmdaaGreatDoor
open Go.RowKit
open Pu Gp Ap
end Go.Proofs.YthcjckgmdokmdaaGreatDoor
set_option maxRecDepth 100000
namespace Go.Proofs.YthcjckgmdokmdaaGreatDoor
open Go.RowKit
open Pu Gp Ap
def fndF (s : ByteArray) (c : Int) : Nat -> Nat -> Int
 | 0, _ => -1
 | f + 1, i => if byt s i = c then (i : Int) else fndF s c f (i + 1)
def fnd (s : ByteArray) (c : Int) (i : Nat) : Int := fndF s c (s.size - i) i
theorem fnd_end {s : ByteArray} {c : Int} {i : Nat} (h : s.size <= i) : fnd s c i = -1 := by
 unfold fnd
 rw [show s.size - i = 0 by omega]
 rfl
theorem fnd_hit {s : ByteArray} {c : Int} {i : Nat} (h : i < s.size) (hc : byt s i = c) : fnd s c i = (i : Int) := by
 unfold fnd
 rw [show s.size - i = (s.size - (i + 1)) + 1 by omega, fndF, if_pos hc]
theorem fnd_miss {s : ByteArray} {c : Int} {i : Nat} (h : i < s.size) (hc : ¬ byt s i = c) : fnd s c i = fnd s c (i + 1) := by
 unfold fnd
 rw [show s.size - i = (s.size - (i + 1)) + 1 by omega, fndF, if_neg hc]
theorem fndF_spec (s : ByteArray) (c : Int) : ∀ (f i : Nat), i + f = s.size -> (fndF s c f i = -1 /\ ∀ j, i <= j -> j < s.size -> byt s j ≠ c) \/ ∃ k : Nat, fndF s c f i = (k : Int) /\ i <= k /\ k < s.size /\ byt s k = c /\ ∀ j, i <= j -> j < k -> byt s j ≠ c
 | 0, i, h => .inl ⟨rfl, fun j h1 h2 => by omega⟩
 | f + 1, i, h => by
  rw [fndF]
  by_cases hc : byt s i = c
  ·rw [if_pos hc]
   exact .inr ⟨i, rfl, Nat.le_refl _, by omega, hc, fun j h1 h2 => by omega⟩
  ·rw [if_neg hc]
   rcases fndF_spec s c f (i + 1) (by omega) with ⟨e, h1⟩ | ⟨k, e, h1, h2, h3, h4⟩
   ·refine .inl ⟨e, fun j j1 j2 => ?_⟩
    by_cases ej : j = i
    ·subst ej; exact hc
    ·exact h1 j (by omega) j2
   ·refine .inr ⟨k, e, by omega, h2, h3, fun j j1 j2 => ?_⟩
    by_cases ej : j = i
    ·subst ej; exact hc
    ·exact h4 j (by omega) j2
theorem fnd_spec (s : ByteArray) (c : Int) (i : Nat) (h : i <= s.size) : (fnd s c i = -1 /\ ∀ j, i <= j -> j < s.size -> byt s j ≠ c) \/ ∃ k : Nat, fnd s c i = (k : Int) /\ i <= k /\ k < s.size /\ byt s k = c /\ ∀ j, i <= j -> j < k -> byt s j ≠ c :=
 fndF_spec s c (s.size - i) i (by omega)
set_option maxHeartbeats 1000000 in
theorem rfind_any (s : ByteArray) (c : Int) (i : Nat) (hz : s.size <= 281474976710656) (hi : i <= s.size) (w : World) :
  Calls Tryz.prog 57 #[.string s, .int .u8 c, .int .i64 (i : Int)] w fun e w' => e = .returned (.int .i64 (fnd s c i)) /\ w' = w := by
 obtain ⟨T, eT⟩ : ∃ T, T = fnd s c i := ⟨_, rfl⟩
 have HT := hid eT
 rw [<- eT]
 clear eT
 go_enter Tryz.func57, Tryz.ntmps57
 go_wp2
 go_loop [7] (fun v => ∃ j : Nat, j <= s.size /\ v = .int .i64 (j : Int) /\ T = fnd s c j) (fun v => s.size - (intOf v).toNat)
 case atStart => exact ⟨i, hi, rfl, HT.out⟩
 case round =>
  obtain ⟨j, hj, rfl, hf⟩ := hrel
  by_cases hlt : j < s.size
  ·have e := byt_at s j hlt
   obtain ⟨b, eb⟩ : ∃ b, byt s j = b := ⟨_, rfl⟩
   rw [eb] at e
   by_cases hc : b = c
   ·have HF := hid (show (j : Int) = T by rw [hf, fnd_hit hlt (eb.trans hc)])
    clear hf eb
    subst hc
    go_wp2
    go_ret
    exact ⟨ret_int HF.out, rfl⟩
   ·have HF := hid (show T = fnd s c (j + 1) by rw [hf, fnd_miss hlt (by rw [eb]; exact hc)])
    have hc' : (b == c) = false := by simpa using hc
    clear hf eb
    go_wp2
    go_round
    case rel => exact ⟨j + 1, by omega, by go_num, HF.out⟩
    case measure => simp [intOf]; omega
  ·have HF := hid (show (-1 : Int) = T by rw [hf, fnd_end (by omega)])
   clear hf
   go_wp2
   go_ret
   exact ⟨ret_int HF.out, rfl⟩
def okC (c : Int) : Bool := c == 35 || c == 46 || c == 42 || (decide (49 <= c) && decide (c <= 54))
def sgnsB (s : ByteArray) : Nat -> Bool
 | 0 => true
 | n + 1 => sgnsB s n && okC (byt s n)
theorem sgns_more {s : ByteArray} : ∀ {n m : Nat}, n <= m -> sgnsB s n = false -> sgnsB s m = false
  | n, 0, h, k => by obtain rfl : n = 0 := by omega
                     exact k
  | n, m + 1, h, k => by
    by_cases e : n = m + 1
    · subst e; exact k
    · rw [sgnsB, sgns_more (n := n) (m := m) (by omega) k]; rfl
theorem sgns_iff {s : ByteArray} : ∀ {n : Nat}, sgnsB s n = true ↔ ∀ i, i < n -> okC (byt s i) = true
 | 0 => ⟨fun _ i h => by omega, fun _ => rfl⟩
 | n + 1 => by
  rw [sgnsB, Bool.and_eq_true, sgns_iff]
  constructor
  ·rintro ⟨h1, h2⟩ i hi
   by_cases e : i = n
   ·subst e; exact h2
   ·exact h1 i (by omega)
  ·intro h
   exact ⟨fun i hi => h i (by omega), h n (by omega)⟩
theorem sign_ways (b : Int) : (okC b = true /\ (b = 35 \/ b = 46 \/ b = 42 \/ ((b != 35) = true /\ (b != 46) = true /\ (b != 42) = true /\ decide (b < 49) = false /\ decide (54 < b) = false))) \/
  (okC b = false /\ (b != 35) = true /\ (b != 46) = true /\ (b != 42) = true /\ (decide (b < 49) = true \/ (decide (b < 49) = false /\ decide (54 < b) = true))) := by
 unfold okC
 by_cases h1 : b = 35
 ·subst h1; exact .inl ⟨by decide, .inl rfl⟩
 by_cases h2 : b = 46
 ·subst h2; exact .inl ⟨by decide, .inr (.inl rfl)⟩
 by_cases h3 : b = 42
 ·subst h3; exact .inl ⟨by decide, .inr (.inr (.inl rfl))⟩
 have n1 : (b != 35) = true := by simpa using h1
 have n2 : (b != 46) = true := by simpa using h2
 have n3 : (b != 42) = true := by simpa using h3
 by_cases h4 : b < 49
 ·exact .inr ⟨by simp [h1, h2, h3]; omega, n1, n2, n3, .inl (by simpa using h4)⟩
 by_cases h5 : 54 < b
 ·exact .inr ⟨by simp [h1, h2, h3]; omega, n1, n2, n3, .inr ⟨by simpa using h4, by simpa using h5⟩⟩
 ·exact .inl ⟨by simp; omega, .inr (.inr (.inr ⟨n1, n2, n3, by simpa using h4, by simpa using h5⟩))⟩
end Go.Proofs.YthcjckgmdokmdaaGreatDoor
set_option maxRecDepth 100000
namespace Go.Proofs.YthcjckgmdokmdaaGreatDoor
open Go.RowKit
open Pu Gp Ap
def mnyF (s : ByteArray) : Nat -> Nat -> Nat
 | 0, n => n
 | f + 1, n => if 0 <= fnd s (49 + (n : Int)) 0 then mnyF s f (n + 1) else n
def mny (s : ByteArray) : Nat := mnyF s 6 0
theorem rmany_any (C R : Int) (s : ByteArray) (hz : s.size <= 281474976710656) (w : World) : Calls Tryz.prog 56 #[ar C R s] w fun e w' => e = .returned (.int .i64 (mny s : Nat)) /\ Still w w' := by
 obtain ⟨T, eT⟩ : ∃ T, T = mny s := ⟨_, rfl⟩
 have HT := hid (show T = mnyF s 6 0 from eT)
 rw [<- eT]
 clear eT
 have p := newA_ab w C R s
 obtain ⟨c0, c1, c2, cf⟩ := p.cells
 simp only [newA] at c0 c1 c2 cf
 go_enter Tryz.func56, Tryz.ntmps56
 go_wp2_with fail
 go_loop [3] (fun v => ∃ n : Nat, n <= 6 /\ v = .int .i64 (n : Int) /\ T = mnyF s (6 - n) n) (fun v => 6 - (intOf v).toNat)
 case atStart => exact ⟨0, by omega, rfl, HT.out⟩
 case round =>
  obtain ⟨n, hn, rfl, hf⟩ := hrel
  by_cases hlt : n < 6
  ·rw [show 6 - n = (6 - (n + 1)) + 1 by omega, mnyF] at hf
   have hd := fnd_spec s (49 + (n : Int)) 0 (by omega)
   obtain ⟨F, eF⟩ : ∃ F, fnd s (49 + (n : Int)) 0 = F := ⟨_, rfl⟩
   have HC : Hid (∀ u : World, Calls Tryz.prog 57 #[.string s, .int .u8 (49 + (n : Int)), .int .i64 0] u fun e w' => e = .returned (.int .i64 F) /\ w' = u) := hid (fun u => by
    have h := rfind_any s (49 + (n : Int)) 0 hz (by omega) u
    rw [eF] at h
    exact h)
   rw [eF] at hf
   have wr8 : IntKind.u8.wrap (49 + (n : Int)) = 49 + (n : Int) := by rw [IntKind.wrap_u8]; omega
   clear hd eF
   by_cases hF : 0 <= F
   ·rw [if_pos hF] at hf
    have HF := hid hf
    clear hf
    go_wp2_with (go_at_call 57; refine (HC.out _).mono ?_; rintro e w' ⟨he, hw⟩; rw [he, hw]; clear he hw w')
    go_round
    case rel => exact ⟨n + 1, by omega, by go_num, HF.out⟩
    case measure => simp [intOf]; omega
   ·rw [if_neg hF] at hf
    have HF := hid (show ((n : Nat) : Int) = (T : Nat) by rw [hf])
    have hF' : decide (0 <= F) = false := decide_eq_false hF
    clear hf
    go_wp2_with (go_at_call 57; refine (HC.out _).mono ?_; rintro e w' ⟨he, hw⟩; rw [he, hw]; clear he hw w')
    go_ret
    exact ⟨ret_int HF.out, Still.alloc w _⟩
  ·obtain rfl : n = 6 := by omega
   have HF := hid (show ((6 : Nat) : Int) = (T : Nat) by rw [hf]; rfl)
   clear hf
   go_wp2_with fail
   go_ret
   exact ⟨ret_int HF.out, Still.alloc w _⟩
end Go.Proofs.YthcjckgmdokmdaaGreatDoor
set_option maxRecDepth 100000
namespace Go.Proofs.YthcjckgmdokmdaaGreatDoor
open Go.RowKit
open Pu Gp Ap
def edgB (C R : Int) (i : Nat) : Bool := decide ((i : Int) % C = 0) || decide ((i : Int) / C = 0) || decide ((i : Int) % C = C - 1) || decide ((i : Int) / C = R - 1)
def goodC (C R : Int) (s : ByteArray) (i : Nat) : Bool := byt s i == 35 || (!edgB C R i && okC (byt s i))
def goodN (C R : Int) (s : ByteArray) : Nat -> Bool
 | 0 => true
 | n + 1 => goodN C R s n && goodC C R s n
def spoN (s : ByteArray) : Nat -> Nat
 | 0 => 0
 | n + 1 => spoN s n + if byt s n = 42 then 1 else 0
def shaB (C R : Int) (s : ByteArray) : Bool := decide (3 <= C /\ C <= 32 /\ 3 <= R /\ R <= 24 /\ (s.size : Int) = C * R)
def forB (C R : Int) (s : ByteArray) : Bool := shaB C R s && (goodN C R s s.size && decide (spoN s s.size <= 16))
theorem good_more {C R : Int} {s : ByteArray} : ∀ {n m : Nat}, n <= m -> goodN C R s n = false -> goodN C R s m = false
  | n, 0, h, k => by obtain rfl : n = 0 := by omega
                     exact k
  | n, m + 1, h, k => by
    by_cases e : n = m + 1
    · subst e; exact k
    · rw [goodN, good_more (n := n) (m := m) (by omega) k]; rfl
theorem spo_le (s : ByteArray) : ∀ n, spoN s n <= n
 | 0 => Nat.le_refl _
 | n + 1 => by
  have := spo_le s n
  rw [spoN]
  split <;> omega
theorem rform_no (C R : Int) (s : ByteArray) (h : shaB C R s = false) (w : World) : Calls Tryz.prog 106 #[ar C R s] w fun e w' => e = .returned (.bool false) /\ Still w w' := by
  unfold shaB at h
  have h' := of_decide_eq_false h
  have hw : (decide (C < 3) = true) \/ (decide (C < 3) = false /\ decide (32 < C) = true) \/ (decide (C < 3) = false /\ decide (32 < C) = false /\ decide (R < 3) = true) \/ (decide (C < 3) = false /\ decide (32 < C) = false /\ decide (R < 3) = false /\ decide (24 < R) = true) \/
      (decide (C < 3) = false /\ decide (32 < C) = false /\ decide (R < 3) = false /\ decide (24 < R) = false /\ ((s.size : Int) != C * R) = true) := by
    by_cases x1 : C < 3
    · exact .inl (by simpa using x1)
    by_cases x2 : 32 < C
    · exact .inr (.inl ⟨by simpa using x1, by simpa using x2⟩)
    by_cases x3 : R < 3
    · exact .inr (.inr (.inl ⟨by simpa using x1, by simpa using x2, by simpa using x3⟩))
    by_cases x4 : 24 < R
    · exact .inr (.inr (.inr (.inl ⟨by simpa using x1, by simpa using x2, by simpa using x3, by simpa using x4⟩)))
    · refine .inr (.inr (.inr (.inr ⟨by simpa using x1, by simpa using x2, by simpa using x3, by simpa using x4, ?_⟩)))
      have : ¬ (s.size : Int) = C * R := fun e => h' ⟨by omega, by omega, by omega, by omega, e⟩
      simpa using this
  have hm : (3 <= C /\ C <= 32 /\ 3 <= R /\ R <= 24) -> 0 <= C * R /\ C * R <= 768 := by
    rintro ⟨a, b, c, d⟩
    have h1 : 0 <= C * R := Int.mul_nonneg (by omega) (by omega)
    have h2 : C * R <= 32 * 24 := Int.mul_le_mul b d (by omega) (by omega)
    omega
  clear h h'
  rcases hw with x1 | ⟨x1, x2⟩ | ⟨x1, x2, x3⟩ | ⟨x1, x2, x3, x4⟩ | ⟨x1, x2, x3, x4, x5⟩
  case inr.inr.inr.inr =>
    obtain ⟨m0, m1⟩ := hm ⟨by simpa using x1, by simpa using x2, by simpa using x3, by simpa using x4⟩
    clear hm
    go_enter Tryz.func106, Tryz.ntmps106
    go_wp2_with fail
    go_ret
    exact ⟨rfl, Still.alloc w _⟩
  all_goals
    clear hm
    go_enter Tryz.func106, Tryz.ntmps106
    go_wp2_with fail
    go_ret
    exact ⟨rfl, Still.alloc w _⟩
theorem edge_ways (C R q m : Int) : ((decide (m = 0) || decide (q = 0) || decide (m = C - 1) || decide (q = R - 1)) = true /\ ((m == 0) = true \/ ((m == 0) = false /\ (q == 0) = true) \/ ((m == 0) = false /\ (q == 0) = false /\ (m == C - 1) = true) \/ ((m == 0) = false /\ (q == 0) = false /\ (m == C - 1) = false /\ (q == R - 1) = true))) \/
  ((decide (m = 0) || decide (q = 0) || decide (m = C - 1) || decide (q = R - 1)) = false /\ (m == 0) = false /\ (q == 0) = false /\ (m == C - 1) = false /\ (q == R - 1) = false) := by
 by_cases h1 : m = 0
 ·exact .inl ⟨by simp [h1], .inl (by simpa using h1)⟩
 by_cases h2 : q = 0
 ·exact .inl ⟨by simp [h2], .inr (.inl ⟨by simpa using h1, by simpa using h2⟩)⟩
 by_cases h3 : m = C - 1
 ·exact .inl ⟨by simp [h3], .inr (.inr (.inl ⟨by simpa using h1, by simpa using h2, by simpa using h3⟩))⟩
 by_cases h4 : q = R - 1
 ·exact .inl ⟨by simp [h4], .inr (.inr (.inr ⟨by simpa using h1, by simpa using h2, by simpa using h3, by simpa using h4⟩))⟩
 ·exact .inr ⟨by simp [h1, h2, h3, h4], by simpa using h1, by simpa using h2, by simpa using h3, by simpa using h4⟩
set_option maxHeartbeats 8000000 in
set_option maxRecDepth 100000 in
theorem rform_in (C R : Int) (s : ByteArray) (h : shaB C R s = true) (w : World) : Calls Tryz.prog 106 #[ar C R s] w fun e w' => e = .returned (.bool (goodN C R s s.size && decide (spoN s s.size <= 16))) /\ Still w w' := by
 unfold shaB at h
 obtain ⟨h1, h2, h3, h4, h5⟩ := of_decide_eq_true h
 have m0 : 0 <= C * R := Int.mul_nonneg (by omega) (by omega)
 have m1 : C * R <= 768 := by
  have : C * R <= 32 * 24 := Int.mul_le_mul h2 h4 (by omega) (by omega)
  omega
 have hz : s.size <= 768 := by omega
 have h5' : ((s.size : Int) != C * R) = false := by simpa using h5
 obtain ⟨T, eT⟩ : ∃ T, T = (goodN C R s s.size && decide (spoN s s.size <= 16)) := ⟨_, rfl⟩
 have HT := hid eT
 have H5 := hid h5
 rw [<- eT]
 clear eT h h5
 have p := newA_ab w C R s
 obtain ⟨c0, c1, c2, cf⟩ := p.cells
 simp only [newA] at c0 c1 c2 cf
 go_enter Tryz.func106, Tryz.ntmps106
 go_wp2_with fail
 go_loop [3, 4] (fun v u => ∃ i : Nat, i <= s.size /\ u = .int .i64 (i : Int) /\ v = .int .i64 (spoN s i : Nat) /\ goodN C R s i = true) (fun _ u => s.size - (intOf u).toNat)
 case atStart => exact ⟨0, by omega, rfl, rfl, rfl⟩
 case round =>
  obtain ⟨i, hi, rfl, rfl, hg⟩ := hrel
  have sl := spo_le s i
  obtain ⟨S, eS⟩ : ∃ S, spoN s i = S := ⟨_, rfl⟩
  rw [eS] at sl ⊢
  have HS := hid eS
  clear eS
  by_cases hlt : i < s.size
  ·have e := byt_at s i hlt
   obtain ⟨b, eb⟩ : ∃ b, byt s i = b := ⟨_, rfl⟩
   rw [eb] at e
   have HB := hid eb
   clear eb
   obtain ⟨m, em⟩ : ∃ m, (i : Int) % C = m := ⟨_, rfl⟩
   obtain ⟨q, eq⟩ : ∃ q, (i : Int) / C = q := ⟨_, rfl⟩
   have b1 : 0 <= m /\ m < C := by rw [<- em]; exact ⟨Int.emod_nonneg _ (by omega), Int.emod_lt_of_pos _ (by omega)⟩
   have b2 : 0 <= q /\ q <= (i : Int) := by rw [<- eq]; exact ⟨Int.ediv_nonneg (by omega) (by omega), Int.ediv_le_self _ (by omega)⟩
   obtain ⟨b10, b11⟩ := b1
   obtain ⟨b20, b21⟩ := b2
   have et : (i : Int).tmod C = m := by rw [Int.tmod_eq_emod_of_nonneg (by omega), em]
   have ed : (i : Int).tdiv C = q := by rw [Int.tdiv_eq_ediv_of_nonneg (by omega), eq]
   have HE := hid (show edgB C R i = (decide (m = 0) || decide (q = 0) || decide (m = C - 1) || decide (q = R - 1)) by unfold edgB; rw [em, eq])
   have HG := hid hg
   clear hg
   rcases edge_ways C R q m with ⟨hE, hw⟩ | ⟨hE, x1, x2, x3, x4⟩
   ·have HE' := hid (HE.out.trans hE)
    clear hE HE
    by_cases h35 : b = 35
    ·have HN := hid (show goodN C R s (i + 1) = true /\ spoN s (i + 1) = S by
      rw [goodN, spoN, HG.out, goodC, HB.out, h35, HS.out]; exact ⟨rfl, rfl⟩)
     subst h35
     clear HB HG HE' HS
     rcases hw with x1 | ⟨x1, x2⟩ | ⟨x1, x2, x3⟩ | ⟨x1, x2, x3, x4⟩
     all_goals
      go_wp2_with fail
      go_round
      case rel => exact ⟨i + 1, by omega, by go_num, by rw [HN.out.2], HN.out.1⟩
      case measure => simp [intOf]; omega
    ·have n35 : (b != 35) = true := by simpa using h35
     have HF := hid (show false = T by
      rw [HT.out, good_more (n := i + 1) (m := s.size) (by omega) (by
       rw [goodN, HG.out, goodC, HB.out, HE'.out, show (b == 35) = false by simpa using h35]; rfl)]
      rfl)
     clear HB HG HE' HS h35
     rcases hw with x1 | ⟨x1, x2⟩ | ⟨x1, x2, x3⟩ | ⟨x1, x2, x3, x4⟩
     all_goals
      go_wp2_with fail
      go_ret
      exact ⟨ret_bool HF.out, Still.alloc w _⟩
   ·have HE' := hid (HE.out.trans hE)
    clear hE HE
    rcases sign_ways b with ⟨hok, hw⟩ | ⟨hok, n1, n2, n3, hw⟩
    ·have HN := hid (show goodN C R s (i + 1) = true by
      rw [goodN, HG.out, goodC, HB.out, HE'.out, hok]; simp)
     have HP := hid (show spoN s (i + 1) = S + if b = 42 then 1 else 0 by rw [spoN, HB.out, HS.out])
     clear HB HG HE' HS hok
     rcases hw with rfl | rfl | rfl | ⟨n1, n2, n3, n4, n5⟩
     case inr.inr.inl =>
      go_wp2_with fail
      go_round
      case rel => exact ⟨i + 1, by omega, by go_num, by rw [HP.out]; simp, HN.out⟩
      case measure => simp [intOf]; omega
     case inr.inr.inr =>
      have n6 : (b == 42) = false := by simpa using n3
      go_wp2_with fail
      go_round
      case rel => exact ⟨i + 1, by omega, by go_num, by rw [HP.out, if_neg (by simpa using n3)]; rfl, HN.out⟩
      case measure => simp [intOf]; omega
     all_goals
      go_wp2_with fail
      go_round
      case rel => exact ⟨i + 1, by omega, by go_num, by rw [HP.out]; rfl, HN.out⟩
      case measure => simp [intOf]; omega
    ·have HF := hid (show false = T by
      rw [HT.out, good_more (n := i + 1) (m := s.size) (by omega) (by
       rw [goodN, HG.out, goodC, HB.out, HE'.out, hok, show (b == 35) = false by simpa using n1]; rfl)]
      rfl)
     clear HB HG HE' HS hok
     rcases hw with n4 | ⟨n4, n5⟩
     all_goals
      go_wp2_with fail
      go_ret
      exact ⟨ret_bool HF.out, Still.alloc w _⟩
  ·have HF := hid (show decide (S <= 16) = T by
    rw [HT.out, show s.size = i by omega, hg, HS.out]; rfl)
   clear hg HS
   go_wp2_with fail
   go_ret
   exact ⟨ret_bool ((show decide ((S : Int) <= 16) = decide (S <= 16) from decide_eq_decide.2 (by omega)).trans HF.out), Still.alloc w _⟩
theorem rformed_any (C R : Int) (s : ByteArray) (w : World) : Calls Tryz.prog 106 #[ar C R s] w fun e w' => e = .returned (.bool (forB C R s)) /\ Still w w' := by
 unfold forB
 cases h : shaB C R s with
 | false => exact rform_no C R s h w
 | true =>
  rw [Bool.true_and]
  exact rform_in C R s h w
end Go.Proofs.YthcjckgmdokmdaaGreatDoor
set_option maxRecDepth 100000
namespace Go.Proofs.YthcjckgmdokmdaaGreatDoor
open Go.RowKit
open Pu Gp Ap
def rowB (I : Nat -> Bool) (n : Nat) : Array Value := ((List.range n).map fun i => Value.bool (I i)).toArray
theorem rowB_at (I : Nat -> Bool) {n i : Nat} (h : i < n) : (rowB I n)[i]? = some (.bool (I i)) := by simp [rowB, h]
theorem rowB_size (I : Nat -> Bool) (n : Nat) : (rowB I n).size = n := by simp [rowB]
def upd (I : Nat -> Bool) (k : Nat) : Nat -> Bool := fun j => if j = k then true else I j
theorem rowB_set (I : Nat -> Bool) {n k : Nat} (_h : k < n) : (rowB I n).setIfInBounds k (.bool true) = rowB (upd I k) n := by
 apply Array.ext_getElem?
 intro i
 by_cases hi : i < n
 ·rw [rowB_at _ hi]
  by_cases e : k = i
  ·subst e
   rw [Array.getElem?_setIfInBounds_self, rowB_size, if_pos hi]
   simp [upd]
  ·rw [Array.getElem?_setIfInBounds_ne e, rowB_at _ hi]
   simp [upd, show ¬ i = k from fun h => e h.symm]
 ·rw [Array.getElem?_eq_none (by rw [Array.size_setIfInBounds, rowB_size]; omega), Array.getElem?_eq_none (by rw [rowB_size]; omega)]
def Rb (w : World) (g n : Nat) (I : Nat -> Bool) : Prop := w.heap[g]? = some (.cells (rowB I n) 4 (0, 0))
theorem Rb.still {w w' : World} {g n : Nat} {I : Nat -> Bool} (h : Rb w g n I) (hs : Still w w') : Rb w' g n I := hs.kept_still h
theorem Rb.cell {w : World} {g n i : Nat} {I : Nat -> Bool} (h : Rb w g n I) (hi : i < n) : w.cell? ⟨g, i, none⟩ = some (.bool (I i)) := by
 rw [cell_of_row _ _ _ _ _ _ h, rowB_at _ hi]
theorem Rb.frozen {w : World} {g n : Nat} {I : Nat -> Bool} (h : Rb w g n I) (o : Nat) : w.frozen? ⟨g, o, none⟩ = false := frozen_of_row w g o _ _ h
theorem Rb.set {w : World} {g n k : Nat} {I : Nat -> Bool} (h : Rb w g n I) (hk : k < n) : Rb (w.setCell ⟨g, k, none⟩ (.bool true)) g n (upd I k) := by
 unfold Rb
 rw [heap_setCell_same w g k _ _ (.bool true) h, rowB_set I hk]
def cntB (I : Nat -> Bool) : Nat -> Nat
 | 0 => 0
 | n + 1 => cntB I n + if I n then 0 else 1
theorem cntB_congr {I J : Nat -> Bool} : ∀ {n : Nat}, (∀ i, i < n -> I i = J i) -> cntB I n = cntB J n
 | 0, _ => rfl
 | n + 1, h => by rw [cntB, cntB, cntB_congr (n := n) (fun i hi => h i (by omega)), h n (by omega)]
theorem cntB_upd {I : Nat -> Bool} {k : Nat} (hk : I k = false) : ∀ {n : Nat}, k < n -> cntB (upd I k) n + 1 = cntB I n
 | 0, h => by omega
 | n + 1, h => by
  rw [cntB, cntB]
  by_cases e : k = n
  ·subst e
   rw [cntB_congr (n := k) (J := I) (fun i hi => by simp [upd, show ¬ i = k by omega]), hk]
   simp [upd]
  ·have := cntB_upd hk (n := n) (by omega)
   simp only [upd, show ¬ n = k from fun h => e h.symm, if_false]
   omega
def cntW (w : World) (g : Nat) : Nat -> Nat
 | 0 => 0
 | n + 1 => cntW w g n + match w.cell? ⟨g, n, none⟩ with
  | some (.bool true) => 0
  | _ => 1
theorem cntW_eq {w : World} {g n : Nat} {I : Nat -> Bool} (h : Rb w g n I) : ∀ {m : Nat}, m <= n -> cntW w g m = cntB I m
 | 0, _ => rfl
 | m + 1, hm => by
  rw [cntW, cntB, cntW_eq h (by omega), h.cell (by omega)]
  cases I m <;> rfl
def nbB (C : Nat) (I : Nat -> Bool) (i : Nat) : Bool := I (i - 1) || (I (i + 1) || (I (i - C) || I (i + C)))
def Shut (C N : Nat) (s : ByteArray) (I : Nat -> Bool) : Prop := ∀ i, C <= i -> i + C < N -> byt s i ≠ 35 -> nbB C I i = true -> I i = true
def Rch (C N : Nat) (s : ByteArray) (f i : Nat) : Prop := ∀ I : Nat -> Bool, I f = true -> Shut C N s I -> I i = true
theorem rch_from (C N : Nat) (s : ByteArray) (f : Nat) : Rch C N s f f := fun _ h _ => h
theorem rch_step {C N : Nat} {s : ByteArray} {f i : Nat} {I : Nat -> Bool} (hI : ∀ j, I j = true -> Rch C N s f j) (h1 : C <= i) (h2 : i + C < N) (h3 : byt s i ≠ 35) (h4 : nbB C I i = true) : Rch C N s f i := by
 intro J hf hJ
 refine hJ i h1 h2 h3 ?_
 unfold nbB at h4 ⊢
 simp only [Bool.or_eq_true] at h4 ⊢
 rcases h4 with h | h | h | h
 ·exact .inl (hI _ h J hf hJ)
 ·exact .inr (.inl (hI _ h J hf hJ))
 ·exact .inr (.inr (.inl (hI _ h J hf hJ)))
 ·exact .inr (.inr (.inr (hI _ h J hf hJ)))
def IsR (C N : Nat) (s : ByteArray) (f : Nat) (I : Nat -> Bool) : Prop := I f = true /\ Shut C N s I /\ ∀ i, I i = true -> Rch C N s f i
theorem isR_one {C N : Nat} {s : ByteArray} {f : Nat} {I J : Nat -> Bool} (h : IsR C N s f I) (k : IsR C N s f J) (i : Nat) : I i = J i := by
 cases e : I i with
 | true => exact (h.2.2 i e J k.1 k.2.1).symm
 | false =>
  cases e2 : J i with
  | false => rfl
  | true =>
   rw [k.2.2 i e2 I h.1 h.2.1] at e
   cases e
end Go.Proofs.YthcjckgmdokmdaaGreatDoor
set_option maxRecDepth 100000
namespace Go.Proofs.YthcjckgmdokmdaaGreatDoor
open Go.RowKit
open Pu Gp Ap
theorem made_row (n : Nat) : madeCells #[Value.bool false] (n * 1) = rowB (fun _ => false) n := by
 apply Array.ext_getElem?
 intro i
 by_cases h : i < n
 ·rw [rowB_at _ h]; simp [madeCells, h, Nat.mod_one]
 ·rw [Array.getElem?_eq_none (by rw [size_madeCells]; omega), Array.getElem?_eq_none (by rw [rowB_size]; omega)]
theorem make_row (w : World) (n : Nat) (h : n <= 281474976710656) : (Instr.makeSlice 180 (.int .i64 (n : Int)) (.int .i64 (n : Int))).run Tryz.prog w = .ok (.slice (some ⟨w.heap.size, 0, none⟩) n n) (w.alloc (.cells (rowB (fun _ => false) n) 4)) := by
 obtain ⟨i, hi, hz, h1, h2⟩ : ∃ i, Tryz.prog.info? 4 = some i /\ i.zero = some (.bool false) /\ i.size = 1 /\ i.bytes = 1 := ⟨_, rfl, rfl, rfl, rfl⟩
 have hr := run_make (P := Tryz.prog) w 180 4 i (.bool false) Tryz.underlying180 hi hz .i64 .i64 (n : Int) (n : Int) (by omega) (by omega) (by rw [h2]; omega) (by omega)
 rw [h1] at hr
 simp only [Int.toNat_natCast] at hr
 rw [hr, <- made_row]
 rfl
def boolN (v : Value) : Nat := match v with
 | .bool true => 1
 | _ => 0
set_option maxHeartbeats 8000000 in
set_option maxRecDepth 100000 in
theorem rreach_any (C : Nat) (R : Int) (s : ByteArray) (f : Nat) (hC : 1 <= C) (hC2 : C <= 32) (hz : s.size <= 768) (hf : f < s.size) (w : World) :
    Calls Tryz.prog 107 #[ar (C : Int) R s, .int .i64 (f : Int)] w fun e w' => ∃ g I, e = .returned (.slice (some ⟨g, 0, none⟩) s.size s.size) /\ IsR C s.size s f I /\ Rb w' g s.size I /\ Still w w' := by
  have hmk := fun u => make_row u s.size (by omega)
  have p := (newA_ab w C R s).still (Still.alloc (newA w C R s) (.cells (rowB (fun _ => false) s.size) 4))
  have q : Rb ((newA w C R s).alloc (.cells (rowB (fun _ => false) s.size) 4)) (w.heap.size + 1) s.size (fun _ => false) := by
    have := heap_alloc_new (newA w C R s) (.cells (rowB (fun _ => false) s.size) 4)
    rw [size_alloc] at this
    exact this
  have HS0 := hid ((Still.alloc w (.cells #[.int .i64 (C : Int), .int .i64 R, .string s] 24)).trans (Still.alloc (newA w C R s) (.cells (rowB (fun _ => false) s.size) 4)))
  obtain ⟨c0, c1, c2, cf⟩ := (newA_ab w C R s).cells
  have c3 := q.cell hf
  have c4 := q.frozen f
  simp only [newA] at c0 c1 c2 cf c3 c4 p q HS0
  have hfi : (f : Int) < (s.size : Int) := by omega
  go_enter Tryz.func107, Tryz.ntmps107
  go_wp2_with fail
  have p2 : Ab ((w.alloc (.cells #[.int .i64 (C : Int), .int .i64 R, .string s] 24)).alloc (.cells ((rowB (fun _ => false) s.size).setIfInBounds f (.bool true)) 4)) w.heap.size C R s :=
    (newA_ab w C R s).still (Still.alloc _ _)
  have q2 : Rb ((w.alloc (.cells #[.int .i64 (C : Int), .int .i64 R, .string s] 24)).alloc (.cells ((rowB (fun _ => false) s.size).setIfInBounds f (.bool true)) 4)) (w.heap.size + 1) s.size (upd (fun _ => false) f) := by
    have := heap_alloc_new (newA w C R s) (.cells ((rowB (fun _ => false) s.size).setIfInBounds f (.bool true)) 4)
    rw [size_alloc, rowB_set _ hf] at this
    rw [rowB_set _ hf]
    exact this
  have HS2 := hid ((Still.alloc w (.cells #[.int .i64 (C : Int), .int .i64 R, .string s] 24)).trans (Still.alloc (newA w C R s) (.cells ((rowB (fun _ => false) s.size).setIfInBounds f (.bool true)) 4)))
  clear p q HS0 c0 c1 c2 cf c3 c4 hmk
  go_loopw [6] (fun v wr => ∃ (I : Nat -> Bool) (b : Bool), v = .bool b /\ Ab wr w.heap.size C R s /\ Rb wr (w.heap.size + 1) s.size I /\ (I f = true /\ ∀ i, I i = true -> Rch C s.size s f i) /\ (b = false -> Shut C s.size s I) /\ Still w wr) (fun v wr => 2 * cntW wr (w.heap.size + 1) s.size + boolN v)
  case atStart => exact ⟨upd (fun _ => false) f, true, rfl, p2, q2, ⟨by simp [upd], fun i hi => by
      by_cases e : i = f
      · subst e; exact rch_from C s.size s i
      · simp [upd, e] at hi⟩, fun h => (by cases h), HS2.out⟩
  case round =>
    obtain ⟨I, b, rfl, a3, r3, hI, hb, hs⟩ := hrel
    have HS3 := hid hs
    clear hs p2 q2 HS2
    cases b with
    | false =>
      have HR := hid (show IsR C s.size s f I from ⟨hI.1, hb rfl, hI.2⟩)
      clear hb hI
      go_wp2_with fail
      go_ret
      exact ⟨_, I, rfl, HR.out, r3, HS3.out⟩
    | true =>
      have HI := hid hI
      have HM := hid (cntW_eq r3 (Nat.le_refl _))
      clear hI hb
      obtain ⟨c0, c1, c2, cf⟩ := a3.cells
      go_wp2_with fail
      clear c0 c1 c2 cf
      go_loopw [6, 7] (fun v u wr => ∃ (i : Nat) (J : Nat -> Bool) (b : Bool), C <= i /\ i <= s.size + C /\ u = .int .i64 (i : Int) /\ v = .bool b /\ Ab wr w.heap.size C R s /\ Rb wr (w.heap.size + 1) s.size J /\ (J f = true /\ ∀ j, J j = true -> Rch C s.size s f j) /\
          (b = false -> (∀ j, J j = I j) /\ ∀ j, C <= j -> j < i -> byt s j ≠ 35 -> nbB C J j = true -> J j = true) /\ (b = true -> cntB J s.size < cntB I s.size) /\ Still w wr) (fun _ u _ => s.size + C - (intOf u).toNat)
      case atStart => exact ⟨C, I, false, by omega, by omega, rfl, rfl, a3, r3, HI.out, fun _ => ⟨fun _ => rfl, fun j h1 h2 => by omega⟩, fun h => (by cases h), HS3.out⟩
      case round =>
        obtain ⟨i, J, b, i1, i3, rfl, rfl, a4, r4, hJ0, hb, hc, hs⟩ := hrel
        have HJ := hid hJ0
        have HB := hid hb
        have HC := hid hc
        have HS4 := hid hs
        clear hJ0 hb hc hs
        obtain ⟨c0, c1, c2, cf⟩ := a4.cells
        by_cases i2 : i + C < s.size
        · have e := byt_at s i (by omega)
          obtain ⟨y, ey⟩ : ∃ y, byt s i = y := ⟨_, rfl⟩
          rw [ey] at e
          have k0 := r4.cell (i := i) (by omega)
          have k1 := r4.cell (i := i - 1) (by omega)
          have k2 := r4.cell (i := i + 1) (by omega)
          have k3 := r4.cell (i := i - C) (by omega)
          have k4 := r4.cell (i := i + C) (by omega)
          have z1 : (i : Int) - 1 = ((i - 1 : Nat) : Int) := by omega
          have z3 : (i : Int) - (C : Int) = ((i - C : Nat) : Int) := by omega
          have i2' : ((i + C : Nat) : Int) < (s.size : Int) := by omega
          have i5 : (i : Int) < (s.size : Int) := by omega
          cases hJ : J i with
          | true =>
            rw [hJ] at k0
            have HK := hid (show byt s i ≠ 35 -> nbB C J i = true -> J i = true from fun _ _ => hJ)
            clear hJ ey
            go_wp2_with fail
            go_roundw
            case rel => exact ⟨i + 1, J, b, by omega, by omega, by go_num, rfl, a4, r4, HJ.out, fun h => ⟨(HB.out h).1, fun j h1 h2 => by
                by_cases e : j = i
                · subst e; exact HK.out
                · exact (HB.out h).2 j h1 (by omega)⟩, HC.out, HS4.out⟩
            case measure => simp [intOf]; omega
          | false =>
            rw [hJ] at k0
            by_cases h35 : y = 35
            · have n35 : (y != 35) = false := by simpa using h35
              have HK := hid (show byt s i ≠ 35 -> nbB C J i = true -> J i = true from fun h => absurd (ey.trans h35) h)
              clear hJ ey h35
              go_wp2_with fail
              go_roundw
              case rel => exact ⟨i + 1, J, b, by omega, by omega, by go_num, rfl, a4, r4, HJ.out, fun h => ⟨(HB.out h).1, fun j h1 h2 => by
                  by_cases e : j = i
                  · subst e; exact HK.out
                  · exact (HB.out h).2 j h1 (by omega)⟩, HC.out, HS4.out⟩
              case measure => simp [intOf]; omega
            · have n35 : (y != 35) = true := by simpa using h35
              have h35 : byt s i ≠ 35 := fun h => h35 (ey.symm.trans h)
              clear ey
              cases h1 : J (i - 1) with
              | true =>
                rw [h1] at k1
                have HN := hid (show nbB C J i = true by unfold nbB; rw [h1]; rfl)
                have HV := hid (show cntB (upd J i) s.size < cntB I s.size by
                  have h1 := cntB_upd (k := i) hJ (n := s.size) (by omega)
                  cases hb : b with
                  | true => have := HC.out hb; omega
                  | false =>
                    have := cntB_congr (n := s.size) (fun j _ => (HB.out hb).1 j)
                    omega)
                have HR := hid (show ∀ j, upd J i j = true -> Rch C s.size s f j from fun j hj => by
                  by_cases e : j = i
                  · subst e; exact rch_step HJ.out.2 i1 i2 h35 HN.out
                  · exact HJ.out.2 j (by simpa [upd, e] using hj))
                have HF := hid (show upd J i f = true by
                  unfold upd
                  split
                  · rfl
                  · exact HJ.out.1)
                have fz := r4.frozen i
                have r5 := r4.set (k := i) (by omega)
                have a5 : Ab (wr.setCell ⟨w.heap.size + 1, i, none⟩ (.bool true)) w.heap.size C R s := by
                  unfold Ab
                  rw [heap_setCell_other _ _ _ _ (show w.heap.size ≠ w.heap.size + 1 by omega)]
                  exact a4
                have HS5 := hid (Fr.setCell HS4.out ⟨w.heap.size + 1, i, none⟩ (.bool true) (.inr (show w.heap.size <= w.heap.size + 1 by omega)))
                clear h35
                go_wp2_with fail
                go_roundw
                case rel => exact ⟨i + 1, upd J i, true, by omega, by omega, by go_num, rfl, a5, r5, ⟨HF.out, HR.out⟩, fun h => (by cases h), fun _ => HV.out, HS5.out⟩
                case measure => simp [intOf]; omega
              | false =>
                rw [h1] at k1
                cases h2 : J (i + 1) with
                | true =>
                  rw [h2] at k2
                  have HN := hid (show nbB C J i = true by unfold nbB; rw [h1, h2]; rfl)
                  have HV := hid (show cntB (upd J i) s.size < cntB I s.size by
                    have h1 := cntB_upd (k := i) hJ (n := s.size) (by omega)
                    cases hb : b with
                    | true => have := HC.out hb; omega
                    | false =>
                      have := cntB_congr (n := s.size) (fun j _ => (HB.out hb).1 j)
                      omega)
                  have HR := hid (show ∀ j, upd J i j = true -> Rch C s.size s f j from fun j hj => by
                    by_cases e : j = i
                    · subst e; exact rch_step HJ.out.2 i1 i2 h35 HN.out
                    · exact HJ.out.2 j (by simpa [upd, e] using hj))
                  have HF := hid (show upd J i f = true by
                    unfold upd
                    split
                    · rfl
                    · exact HJ.out.1)
                  have fz := r4.frozen i
                  have r5 := r4.set (k := i) (by omega)
                  have a5 : Ab (wr.setCell ⟨w.heap.size + 1, i, none⟩ (.bool true)) w.heap.size C R s := by
                    unfold Ab
                    rw [heap_setCell_other _ _ _ _ (show w.heap.size ≠ w.heap.size + 1 by omega)]
                    exact a4
                  have HS5 := hid (Fr.setCell HS4.out ⟨w.heap.size + 1, i, none⟩ (.bool true) (.inr (show w.heap.size <= w.heap.size + 1 by omega)))
                  clear h35
                  go_wp2_with fail
                  go_roundw
                  case rel => exact ⟨i + 1, upd J i, true, by omega, by omega, by go_num, rfl, a5, r5, ⟨HF.out, HR.out⟩, fun h => (by cases h), fun _ => HV.out, HS5.out⟩
                  case measure => simp [intOf]; omega
                | false =>
                  rw [h2] at k2
                  cases h3 : J (i - C) with
                  | true =>
                    rw [h3] at k3
                    have HN := hid (show nbB C J i = true by unfold nbB; rw [h1, h2, h3]; rfl)
                    have HV := hid (show cntB (upd J i) s.size < cntB I s.size by
                      have h1 := cntB_upd (k := i) hJ (n := s.size) (by omega)
                      cases hb : b with
                      | true => have := HC.out hb; omega
                      | false =>
                        have := cntB_congr (n := s.size) (fun j _ => (HB.out hb).1 j)
                        omega)
                    have HR := hid (show ∀ j, upd J i j = true -> Rch C s.size s f j from fun j hj => by
                      by_cases e : j = i
                      · subst e; exact rch_step HJ.out.2 i1 i2 h35 HN.out
                      · exact HJ.out.2 j (by simpa [upd, e] using hj))
                    have HF := hid (show upd J i f = true by
                      unfold upd
                      split
                      · rfl
                      · exact HJ.out.1)
                    have fz := r4.frozen i
                    have r5 := r4.set (k := i) (by omega)
                    have a5 : Ab (wr.setCell ⟨w.heap.size + 1, i, none⟩ (.bool true)) w.heap.size C R s := by
                      unfold Ab
                      rw [heap_setCell_other _ _ _ _ (show w.heap.size ≠ w.heap.size + 1 by omega)]
                      exact a4
                    have HS5 := hid (Fr.setCell HS4.out ⟨w.heap.size + 1, i, none⟩ (.bool true) (.inr (show w.heap.size <= w.heap.size + 1 by omega)))
                    clear h35
                    go_wp2_with fail
                    go_roundw
                    case rel => exact ⟨i + 1, upd J i, true, by omega, by omega, by go_num, rfl, a5, r5, ⟨HF.out, HR.out⟩, fun h => (by cases h), fun _ => HV.out, HS5.out⟩
                    case measure => simp [intOf]; omega
                  | false =>
                    rw [h3] at k3
                    cases h4 : J (i + C) with
                    | true =>
                      rw [h4] at k4
                      have HN := hid (show nbB C J i = true by unfold nbB; rw [h1, h2, h3, h4]; rfl)
                      have HV := hid (show cntB (upd J i) s.size < cntB I s.size by
                        have h1 := cntB_upd (k := i) hJ (n := s.size) (by omega)
                        cases hb : b with
                        | true => have := HC.out hb; omega
                        | false =>
                          have := cntB_congr (n := s.size) (fun j _ => (HB.out hb).1 j)
                          omega)
                      have HR := hid (show ∀ j, upd J i j = true -> Rch C s.size s f j from fun j hj => by
                        by_cases e : j = i
                        · subst e; exact rch_step HJ.out.2 i1 i2 h35 HN.out
                        · exact HJ.out.2 j (by simpa [upd, e] using hj))
                      have HF := hid (show upd J i f = true by
                        unfold upd
                        split
                        · rfl
                        · exact HJ.out.1)
                      have fz := r4.frozen i
                      have r5 := r4.set (k := i) (by omega)
                      have a5 : Ab (wr.setCell ⟨w.heap.size + 1, i, none⟩ (.bool true)) w.heap.size C R s := by
                        unfold Ab
                        rw [heap_setCell_other _ _ _ _ (show w.heap.size ≠ w.heap.size + 1 by omega)]
                        exact a4
                      have HS5 := hid (Fr.setCell HS4.out ⟨w.heap.size + 1, i, none⟩ (.bool true) (.inr (show w.heap.size <= w.heap.size + 1 by omega)))
                      clear h35
                      go_wp2_with fail
                      go_roundw
                      case rel => exact ⟨i + 1, upd J i, true, by omega, by omega, by go_num, rfl, a5, r5, ⟨HF.out, HR.out⟩, fun h => (by cases h), fun _ => HV.out, HS5.out⟩
                      case measure => simp [intOf]; omega
                    | false =>
                      rw [h4] at k4
                      have HK := hid (show byt s i ≠ 35 -> nbB C J i = true -> J i = true from fun _ h => by unfold nbB at h; rw [h1, h2, h3, h4] at h; cases h)
                      clear hJ h1 h2 h3 h4 h35
                      go_wp2_with fail
                      go_roundw
                      case rel => exact ⟨i + 1, J, b, by omega, by omega, by go_num, rfl, a4, r4, HJ.out, fun h => ⟨(HB.out h).1, fun j h1 h2 => by
                          by_cases e : j = i
                          · subst e; exact HK.out
                          · exact (HB.out h).2 j h1 (by omega)⟩, HC.out, HS4.out⟩
                      case measure => simp [intOf]; omega
        · have HE := hid (show (b = false -> Shut C s.size s J) from fun h => fun j h1 h2 h3 h4 => (HB.out h).2 j h1 (by omega) h3 h4)
          go_wp2_with fail
          go_roundw
          case rel => exact ⟨J, b, rfl, a4, r4, HJ.out, HE.out, HS4.out⟩
          case measure =>
            have h1 := HM.out
            have h2 := cntW_eq r4 (Nat.le_refl _)
            rw [h2, h1]
            cases b with
            | true => have := HC.out rfl; simp [boolN]; omega
            | false =>
              have := cntB_congr (n := s.size) (fun j _ => (HB.out rfl).1 j)
              simp [boolN]; omega
end Go.Proofs.YthcjckgmdokmdaaGreatDoor
set_option maxRecDepth 100000
namespace Go.Proofs.YthcjckgmdokmdaaGreatDoor
open Go.RowKit
open Pu Gp Ap
def okS (n : Nat) (I : Nat -> Bool) (s : ByteArray) (i : Nat) : Bool := byt s i == 35 || (byt s i == 46 || (I i && (byt s i == 42 || (decide (byt s i - 48 <= (n : Int)) && decide (fnd s (byt s i) (i + 1) < 0)))))
def allS (n : Nat) (I : Nat -> Bool) (s : ByteArray) : Nat -> Bool
 | 0 => true
 | k + 1 => allS n I s k && okS n I s k
theorem allS_more {n : Nat} {I : Nat -> Bool} {s : ByteArray} : ∀ {k m : Nat}, k <= m -> allS n I s k = false -> allS n I s m = false
  | k, 0, h, e => by obtain rfl : k = 0 := by omega
                     exact e
  | k, m + 1, h, e => by
    by_cases x : k = m + 1
    · subst x; exact e
    · rw [allS, allS_more (k := k) (m := m) (by omega) e]; rfl
theorem allS_congr {n : Nat} {I J : Nat -> Bool} {s : ByteArray} (h : ∀ i, I i = J i) : ∀ k, allS n I s k = allS n J s k
 | 0 => rfl
 | k + 1 => by rw [allS, allS, allS_congr h k]; unfold okS; rw [h k]
def ChkV (C R : Int) (s : ByteArray) (v : Int) : Prop :=
 (forB C R s = false /\ v = 61) \/ (forB C R s = true /\ mny s < 2 /\ v = 62) \/
 (forB C R s = true /\ 2 <= mny s /\ ∃ (f : Nat) (I : Nat -> Bool), fnd s 49 0 = (f : Int) /\ IsR C.toNat s.size s f I /\ v = if allS (mny s) I s s.size then 0 else 62)
theorem chkV_one {C R : Int} {s : ByteArray} {v u : Int} (h : ChkV C R s v) (k : ChkV C R s u) : v = u := by
 rcases h with ⟨h1, rfl⟩ | ⟨h1, h2, rfl⟩ | ⟨h1, h2, f, I, h3, h4, rfl⟩ <;> rcases k with ⟨k1, rfl⟩ | ⟨k1, k2, rfl⟩ | ⟨k1, k2, g, J, k3, k4, rfl⟩
 ·rfl
 ·rw [h1] at k1; cases k1
 ·rw [h1] at k1; cases k1
 ·rw [h1] at k1; cases k1
 ·rfl
 ·omega
 ·rw [h1] at k1; cases k1
 ·omega
 ·have e : f = g := by omega
  subst e
  rw [allS_congr (isR_one h4 k4)]
theorem mny_le (s : ByteArray) : ∀ f n, mnyF s f n <= n + f
 | 0, n => by simp [mnyF]
 | f + 1, n => by
  rw [mnyF]
  split
  ·have := mny_le s f (n + 1); omega
  ·omega
theorem mny_one {s : ByteArray} (h : 1 <= mny s) : ∃ f : Nat, fnd s 49 0 = (f : Int) /\ f < s.size := by
 unfold mny at h
 rw [mnyF] at h
 by_cases k : 0 <= fnd s (49 + ((0 : Nat) : Int)) 0
 ·rcases fnd_spec s 49 0 (by omega) with ⟨e, _⟩ | ⟨f, e, _, h2, _⟩
  ·rw [show (49 : Int) + ((0 : Nat) : Int) = 49 by omega, e] at k
   omega
  ·exact ⟨f, e, h2⟩
 ·rw [if_neg k] at h
  omega
theorem goodN_iff {C R : Int} {s : ByteArray} : ∀ {n : Nat}, goodN C R s n = true -> ∀ i, i < n -> goodC C R s i = true
 | 0, _, i, hi => by omega
 | n + 1, h, i, hi => by
  rw [goodN, Bool.and_eq_true] at h
  by_cases e : i = n
  ·subst e; exact h.2
  ·exact goodN_iff h.1 i (by omega)
theorem form_sign {C R : Int} {s : ByteArray} (h : forB C R s = true) {i : Nat} (hi : i < s.size) : byt s i = 35 \/ byt s i = 46 \/ byt s i = 42 \/ (49 <= byt s i /\ byt s i <= 54) := by
 unfold forB at h
 simp only [Bool.and_eq_true] at h
 have := goodN_iff h.2.1 i hi
 unfold goodC okC at this
 simp only [Bool.or_eq_true, Bool.and_eq_true, beq_iff_eq, decide_eq_true_eq] at this
 omega
theorem form_shape {C R : Int} {s : ByteArray} (h : forB C R s = true) : 3 <= C /\ C <= 32 /\ 3 <= R /\ R <= 24 /\ (s.size : Int) = C * R /\ s.size <= 768 := by
 unfold forB shaB at h
 simp only [Bool.and_eq_true] at h
 obtain ⟨h1, h2, h3, h4, h5⟩ := of_decide_eq_true h.1
 have : C * R <= 32 * 24 := Int.mul_le_mul h2 h4 (by omega) (by omega)
 exact ⟨h1, h2, h3, h4, h5, by omega⟩
theorem rformed_is (C R : Int) (s : ByteArray) {t : Bool} (h : forB C R s = t) (w : World) : Calls Tryz.prog 106 #[ar C R s] w fun e w' => e = .returned (.bool t) /\ Still w w' := by
 have := rformed_any C R s w
 rw [h] at this
 exact this
theorem rchk1 (C R : Int) (s : ByteArray) (h : forB C R s = false) (w : World) : Calls Tryz.prog 51 #[ar C R s] w fun e w' => e = .returned (.int .i64 61) /\ Still w w' := by
 go_enter Tryz.func51, Tryz.ntmps51
 go_wp2_with fail
 refine (rformed_is C R s h _).mono ?_
 rintro e w1 ⟨rfl, h1⟩
 go_wp2_with fail
 go_ret
 exact ⟨rfl, (Still.alloc w _).trans h1⟩
theorem rchk2 (C R : Int) (s : ByteArray) (hz : s.size <= 281474976710656) (h : forB C R s = true) (hm : mny s < 2) (w : World) : Calls Tryz.prog 51 #[ar C R s] w fun e w' => e = .returned (.int .i64 62) /\ Still w w' := by
 have p := newA_ab w C R s
 have H := hid h
 clear h
 go_enter Tryz.func51, Tryz.ntmps51
 go_wp2_with fail
 refine (rformed_is C R s H.out _).mono ?_
 rintro e w1 ⟨rfl, h1⟩
 obtain ⟨c0, c1, c2, cf⟩ := (p.still h1).cells
 have HS1 := hid ((Still.alloc w (.cells #[.int .i64 C, .int .i64 R, .string s] 24)).trans h1)
 clear p h1
 go_wp2_with fail
 refine (rmany_any C R s hz _).mono ?_
 rintro e w2 ⟨rfl, h2⟩
 have HS2 := hid (HS1.out.trans h2)
 clear HS1 h2 c0 c1 c2 cf
 go_wp2_with fail
 go_ret
 exact ⟨rfl, HS2.out⟩
set_option maxHeartbeats 8000000 in
set_option maxRecDepth 100000 in
theorem rchk3 (C : Nat) (R : Int) (s : ByteArray) (h : forB (C : Int) R s = true) (hm : 2 <= mny s) (f : Nat) (hf : fnd s 49 0 = (f : Int)) (hfs : f < s.size) (w : World) :
  Calls Tryz.prog 51 #[ar (C : Int) R s] w fun e w' => ∃ I, IsR C s.size s f I /\ e = .returned (.int .i64 (if allS (mny s) I s s.size then 0 else 62)) /\ Still w w' := by
 obtain ⟨q1, q2, q3, q4, q5, q6⟩ := form_shape h
 have HG := hid (fun i (hi : i < s.size) => form_sign h hi)
 have p := newA_ab w C R s
 have H := hid h
 obtain ⟨n, en⟩ : ∃ n, mny s = n := ⟨_, rfl⟩
 have nl : n <= 6 := by rw [<- en]; exact mny_le s 6 0
 have HN := hid en
 rw [en] at hm ⊢
 have HM : Hid (∀ u : World, Calls Tryz.prog 56 #[ar (C : Int) R s] u fun e w' => e = .returned (.int .i64 (n : Int)) /\ Still u w') := hid (fun u => by
  have := rmany_any C R s (by omega) u
  rw [en] at this
  exact this)
 have HQ : Hid (∀ u : World, Calls Tryz.prog 57 #[.string s, .int .u8 49, .int .i64 0] u fun e w' => e = .returned (.int .i64 (f : Int)) /\ w' = u) := hid (fun u => by
  have := rfind_any s 49 0 (by omega) (by omega) u
  rw [hf] at this
  exact this)
 clear h en hf
 go_enter Tryz.func51, Tryz.ntmps51
 go_wp2_with fail
 refine (rformed_is C R s H.out _).mono ?_
 rintro e w1 ⟨rfl, h1⟩
 have p1 := p.still h1
 have HS1 := hid ((Still.alloc w (.cells #[.int .i64 (C : Int), .int .i64 R, .string s] 24)).trans h1)
 clear p h1
 obtain ⟨c0, c1, c2, cf⟩ := p1.cells
 go_wp2_with fail
 refine (HM.out _).mono ?_
 rintro e w2 ⟨rfl, h2⟩
 have p2 := p1.still h2
 have HS2 := hid (HS1.out.trans h2)
 clear p1 HS1 h2 c0 c1 c2 cf HM
 have c0 := Cl.cell p2.cells.1
 have c1 := Cl.cell p2.cells.2.1
 have c2 := Cl.cell p2.cells.2.2.1
 have hne := Aft.here w2
 go_wp2_with fail
 refine region_rest 4 (by kernel_rfl) (by kernel_rfl) ?_
 simp only [List.take_succ_cons, List.take_zero, List.drop_succ_cons, List.drop_zero]
 repeat (go_big_quiet_step ((go_at_call 57; exact Calls.cl_same (HQ.out _))))
 refine wpQuiet_nil ?_
 intro w3 h3
 have p3 := p2.still h3
 have HS3 := hid (HS2.out.trans h3)
 clear p2 HS2 h3 c0 c1 c2 hne HQ
 go_wp2_with fail
 refine (rreach_any C R s f (by omega) (by omega) q6 hfs _).mono ?_
 rintro e w4 ⟨g, I, rfl, hI, r4, h4⟩
 have p4 := p3.still h4
 have HS4 := hid (HS3.out.trans h4)
 have HI := hid hI
 clear p3 HS3 h4 hI
 obtain ⟨c0, c1, c2, cf⟩ := p4.cells
 go_wp2_with fail
 go_loop [6] (fun v => ∃ i : Nat, i <= s.size /\ v = .int .i64 (i : Int) /\ allS n I s i = true) (fun v => s.size - (intOf v).toNat)
 case atStart => exact ⟨0, by omega, rfl, rfl⟩
 case round =>
  obtain ⟨i, hi, rfl, ha⟩ := hrel
  by_cases hlt : i < s.size
  ·have e := byt_at s i hlt
   have k0 := r4.cell hlt
   have hg := HG.out i hlt
   have hok : allS n I s (i + 1) = okS n I s i := by rw [allS, ha]; rfl
   have HX : Hid (okS n I s i = false -> (62 : Int) = if allS n I s s.size then 0 else 62) := hid (fun h => by
    rw [allS_more (k := i + 1) (m := s.size) (by omega) (hok.trans h)]
    rfl)
   obtain ⟨F, eF⟩ : ∃ F, fnd s (byt s i) (i + 1) = F := ⟨_, rfl⟩
   have HC : Hid (∀ u : World, Calls Tryz.prog 57 #[.string s, .int .u8 (byt s i), .int .i64 ((i : Int) + 1)] u fun e w' => e = .returned (.int .i64 F) /\ w' = u) := hid (fun u => by
    have h := rfind_any s (byt s i) (i + 1) (by omega) (by omega) u
    rw [eF, show ((i + 1 : Nat) : Int) = (i : Int) + 1 by omega] at h
    exact h)
   have HD : Hid (okS n I s i = (byt s i == 35 || (byt s i == 46 || (I i && (byt s i == 42 || (decide (byt s i - 48 <= (n : Int)) && decide (F < 0))))))) := hid (by unfold okS; rw [eF])
   obtain ⟨b, eb⟩ : ∃ b, byt s i = b := ⟨_, rfl⟩
   rw [eb] at e hg HC HD
   have HO := hid hok
   clear hok ha eF eb
   rcases hg with rfl | rfl | hg
   ·have HF := hid (show allS n I s (i + 1) = true by rw [HO.out, HD.out]; rfl)
    clear k0 HC HD HO HX
    go_wp2_with fail
    go_round
    case rel => exact ⟨i + 1, by omega, by go_num, HF.out⟩
    case measure => simp [intOf]; omega
   ·have HF := hid (show allS n I s (i + 1) = true by rw [HO.out, HD.out]; rfl)
    clear k0 HC HD HO HX
    go_wp2_with fail
    go_round
    case rel => exact ⟨i + 1, by omega, by go_num, HF.out⟩
    case measure => simp [intOf]; omega
   ·cases hI : I i with
    | false =>
     rw [hI] at k0
     have HF := hid (HX.out (by rw [HD.out, hI]; rcases hg with rfl | ⟨g1, g2⟩ <;> simp <;> omega))
     have n35 : (b == 35) = false := by simp; omega
     have n46 : (b == 46) = false := by simp; omega
     clear hI HC HD HO HX hg
     go_wp2_with fail
     go_ret
     exact ⟨I, HI.out, ret_int HF.out, HS4.out⟩
    | true =>
     rw [hI] at k0
     rcases hg with rfl | ⟨g1, g2⟩
     ·have HF := hid (show allS n I s (i + 1) = true by rw [HO.out, HD.out, hI]; rfl)
      clear hI HC HD HO HX
      go_wp2_with fail
      go_round
      case rel => exact ⟨i + 1, by omega, by go_num, HF.out⟩
      case measure => simp [intOf]; omega
     ·have n35 : (b == 35) = false := by simp; omega
      have n46 : (b == 46) = false := by simp; omega
      have n42 : (b != 42) = true := by simp; omega
      have wr8 : IntKind.u8.wrap (b - 48) = b - 48 := by rw [IntKind.wrap_u8]; omega
      by_cases hn : b - 48 <= (n : Int)
      ·have hn' : decide ((n : Int) < b - 48) = false := decide_eq_false (by omega)
       by_cases hF : F < 0
       ·have HF := hid (show allS n I s (i + 1) = true by rw [HO.out, HD.out, hI]; simp [hn, hF])
        have hF' : decide (0 <= F) = false := decide_eq_false (by omega)
        clear hI HD HO HX
        go_wp2_with (go_at_call 57; refine (HC.out _).mono ?_; rintro e w' ⟨he, hw⟩; rw [he, hw]; clear he hw w')
        go_round
        case rel => exact ⟨i + 1, by omega, by go_num, HF.out⟩
        case measure => simp [intOf]; omega
       ·have HF := hid (HX.out (by rw [HD.out, hI]; simp [hF]; omega))
        have hF' : 0 <= F := by omega
        clear hI HD HO HX
        go_wp2_with (go_at_call 57; refine (HC.out _).mono ?_; rintro e w' ⟨he, hw⟩; rw [he, hw]; clear he hw w')
        go_ret
        exact ⟨I, HI.out, ret_int HF.out, HS4.out⟩
      ·have HF := hid (HX.out (by rw [HD.out, hI]; simp [hn]; omega))
       have hn' : (n : Int) < b - 48 := by omega
       clear hI HC HD HO HX
       go_wp2_with fail
       go_ret
       exact ⟨I, HI.out, ret_int HF.out, HS4.out⟩
  ·have HF := hid (show (0 : Int) = if allS n I s s.size then 0 else 62 by
    rw [show s.size = i by omega, ha]; rfl)
   clear ha
   go_wp2_with fail
   go_ret
   exact ⟨I, HI.out, ret_int HF.out, HS4.out⟩
theorem rmapcheck_any (C R : Int) (s : ByteArray) (hz : s.size <= 281474976710656) (w : World) :
  Calls Tryz.prog 51 #[ar C R s] w fun e w' => ∃ v, e = .returned (.int .i64 v) /\ ChkV C R s v /\ Still w w' := by
 cases h : forB C R s with
 | false =>
  refine (rchk1 C R s h w).mono ?_
  rintro e w1 ⟨rfl, h1⟩
  exact ⟨61, rfl, .inl ⟨h, rfl⟩, h1⟩
 | true =>
  by_cases hm : mny s < 2
  ·refine (rchk2 C R s hz h hm w).mono ?_
   rintro e w1 ⟨rfl, h1⟩
   exact ⟨62, rfl, .inr (.inl ⟨h, hm, rfl⟩), h1⟩
  ·obtain ⟨f, hf, hfs⟩ := mny_one (s := s) (by omega)
   have q := (form_shape h).1
   have hc : C = (C.toNat : Int) := by omega
   have k := rchk3 C.toNat R s (by rw [<- hc]; exact h) (by omega) f hf hfs w
   rw [<- hc] at k
   refine k.mono ?_
   rintro e w1 ⟨I, hI, rfl, h1⟩
   exact ⟨_, rfl, .inr (.inr ⟨h, by omega, f, I, hf, hI, rfl⟩), h1⟩
end Go.Proofs.YthcjckgmdokmdaaGreatDoor
set_option maxRecDepth 100000
namespace Go.Proofs.YthcjckgmdokmdaaGreatDoor
open Go.RowKit
open Pu Gp Ap
end Go.Proofs.YthcjckgmdokmdaaGreatDoor
set_option maxRecDepth 100000
namespace Go.Proofs.YthcjckgmdokmdaaGreatDoor
open Go.RowKit
open Pu Gp Ap
theorem chkV_ok {C R : Int} {s : ByteArray} (h : ChkV C R s 0) : forB C R s = true := by
 rcases h with ⟨_, e⟩ | ⟨_, _, e⟩ | ⟨h, _⟩
 ·cases e
 ·cases e
 ·exact h
end Go.Proofs.YthcjckgmdokmdaaGreatDoor
set_option maxRecDepth 100000
namespace Go.Proofs.YthcjckgmdokmdaaGreatDoor
open Go.RowKit
open Pu Gp
end Go.Proofs.YthcjckgmdokmdaaGreatDoor
set_option maxRecDepth 100000
namespace Go.Proofs.YthcjckgmdokmdaaGreatDoor
open Go.RowKit
open Pu Gp
end Go.Proofs.YthcjckgmdokmdaaGreatDoor
namespace Go.Proofs.YthcjckgmdokmdaaGreatDoor
open Go.RowKit
open Pu Gp
end Go.Proofs.YthcjckgmdokmdaaGreatDoor
namespace Go.Proofs.YthcjckgmdokmdaaGreatDoor
open Go.RowKit
open Pu Gp
end Go.Proofs.YthcjckgmdokmdaaGreatDoor
namespace Go.Proofs.YthcjckgmdokmdaaGreatDoor
open Go.RowKit
open Pu Gp
end Go.Proofs.YthcjckgmdokmdaaGreatDoor
set_option maxRecDepth 100000
namespace Go.Proofs.YthcjckgmdokmdaaGreatDoor
open Go.RowKit
open Pu Gp Ap
end Go.Proofs.YthcjckgmdokmdaaGreatDoor
set_option maxRecDepth 100000
namespace Go.Proofs.YthcjckgmdokmdaaGreatDoor
open Go
def flowB (l : List Oper) (n : Nat) (xs : List Nat) : Bool :=
  Region.noSelect l.toArray && lowK l && decide (n + 1 < l.length) && goodB (l.take n) &&
  (List.range l.length).all fun j => match l.toArray[j]? with
    | some o => o.guard.isNone && (if j < n then
          o.dst.isSome && ((List.range n).all fun i => (i == j) || (match l.toArray[i]? with | some p => p.dst != o.dst | none => false)) &&
          (o.op.operands.toList.all fun x => match x with
            | .tmp t => ((List.range l.length).all fun i => decide (i < n) || (match l.toArray[i]? with | some p => p.dst != some t || p.after.any fun e => e.on == j && Region.binds .any e | none => false)) &&
                (List.range n).all fun i => match l.toArray[i]? with | some p => (p.dst != some t) || o.after.any fun e => e.on == i && Region.binds .any e | none => false
            | _ => true) &&
          (pureB o.op || xs.contains j || reachB l (n + 1) 6 j)
        else
          (j == n || o.after.any fun e => e.on == j - 1 && Region.binds .any e) &&
          (match o.dst with | some t => (List.range n).all fun i => (match l.toArray[i]? with | some p => p.dst != some t | none => false) | none => true) &&
          (o.op.operands.toList.all fun x => match x with
            | .tmp t => (List.range n).all fun i => match l.toArray[i]? with | some p => (p.dst != some t) || o.after.any fun e => e.on == i && Region.binds .any e | none => false
            | _ => true))
    | none => false
section
variable {P : Program} {W : World} {l : List Oper} {n : Nat} {xs : List Nat} {A : Act}
structure MidC (P : Program) (l : List Oper) (n : Nat) (xs : List Nat) (A : Act) (W : World) (Q : Exit -> Act -> World -> Prop) (L : Array Bool) (a : Act) (w : World) (k : Nat) (B : Act) : Prop where
 size : a.tmps.size = B.tmps.size
 defers : a.defers = B.defers
 agree : ∀ t, (∀ j o, j < n -> l[j]? = some o -> o.dst = some t -> L.getD j true = true) -> a.tmps[t]? = B.tmps[t]?
 keep : ∀ t, (∀ i o, n <= i -> i < n + k -> l[i]? = some o -> o.dst ≠ some t) -> B.tmps[t]? = A.tmps[t]?
 le : n + k <= l.length
 tail : ∀ i, n <= i -> i < l.length -> L.getD i true = decide (i < n + k)
 second : 1 < k -> ∀ j o, j < n -> l[j]? = some o -> pureB o.op = false -> xs.contains j = false -> L.getD j true = true
 zero : k = 0 -> B = A
 still : k <= 1 -> Still W w
 wp1 : k = 1 -> ∀ u, Still w u -> wpList P l.toArray (Nrm Q) (l.drop (n + 1)) B u
 wp : 1 < k -> wpList P l.toArray (Nrm Q) (l.drop (n + k)) B w
 bsize : B.tmps.size = A.tmps.size
 closed : ∀ i j, i < l.length -> j < l.length -> edgeB l i j = true -> L.getD i true = true -> L.getD j true = true
theorem any_flow {Q : Exit -> Act -> World -> Prop} (hB : flowB l n xs = true)
  (hS : ∀ o, l[n]? = some o -> ∀ u, Still W u -> ∃ v u', (execOp A.eval o).run P u = .ok (.value v) u' /\ Still u u' /\ ∀ u'', Still u' u'' -> wpList P l.toArray (Nrm Q) (l.drop (n + 1)) (A.put o.dst v) u'')
  (hX : ∀ j o t, j < n -> xs.contains j = true -> l[j]? = some o -> o.dst = some t -> ∀ u, (execOp A.eval o).run P u = .ok (.value (A.tmps.getD t undef)) u)
  (hop : ∀ j o, j < n -> l[j]? = some o -> ∀ w, Still W w -> ∀ t, o.dst = some t -> o.quietAt P A (fun u => Still w u) w (A.tmps.getD t undef) /\ t < A.tmps.size) :
  ∀ (f : Nat) (L : Array Bool) (a : Act) (w : World) (k : Nat) (B : Act), L.size = l.length -> cnt L l.length = f -> MidC P l n xs A W Q L a w k B -> wpAny P .any l.toArray Q f L a w
 | 0, L, a, w, k, B, hLs, hcnt, hm => by
  have hall := cnt_zero hcnt
  have hB' := hB
  unfold flowB at hB'
  simp only [Bool.and_eq_true, decide_eq_true_eq] at hB'
  obtain ⟨⟨⟨_, hnl⟩, _⟩, _⟩ := hB'
  refine ⟨?_, ?_⟩
  ·rw [List.eq_nil_iff_forall_not_mem]
   intro j hj
   obtain ⟨hju, o, ho, _⟩ := mem_ready.1 hj
   have hjl : j < l.length := by have := (Array.getElem?_eq_some_iff.1 ho).1; simpa using this
   rw [hall j hjl] at hju
   cases hju
  ·have hk : l.length <= n + k := by
    have := hm.tail (l.length - 1) (by omega) (by omega)
    rw [hall _ (by omega)] at this
    have := of_decide_eq_true this.symm
    omega
   have hw := hm.wp (by omega)
   rw [List.drop_eq_nil_of_le hk] at hw
   have e : a = B := by
    obtain ⟨ts, df⟩ := a
    obtain ⟨Ts, Df⟩ := B
    have g1 : df = Df := hm.defers
    have g2 : ts = Ts := by
     apply Array.ext_getElem?
     intro t
     exact hm.agree t fun j o hj ho _ => hall j (by omega)
    rw [g1, g2]
   rw [e]
   exact hw.2
 | f + 1, L, a, w, k, B, hLs, hcnt, hm => by
  have hB0 := hB
  unfold flowB at hB
  simp only [Bool.and_eq_true, decide_eq_true_eq] at hB
  obtain ⟨⟨⟨⟨hsel, hlow⟩, hnl⟩, _⟩, hall⟩ := hB
  obtain ⟨i, hi, hun, hmin⟩ := cnt_pos (L := L) (n := l.length) (by omega)
  refine ⟨fun h0 => ?_, fun j hj => ?_⟩
  ·exfalso
   obtain ⟨o, ho⟩ : ∃ o, l.toArray[i]? = some o := ⟨_, Array.getElem?_eq_getElem (by simpa using hi)⟩
   have : i ∈ Region.ready .any l.toArray L := mem_ready.2 ⟨hun, o, ho, fun e he hb => by
    have hlt := lowK_spec hlow hi ho e he hb
    have hin : e.on < L.size := by omega
    have := hmin e.on hlt
    simp [hin] at this ⊢
    exact this⟩
   rw [h0] at this
   cases this
  ·obtain ⟨hju, o, ho, hwait⟩ := mem_ready.1 hj
   have hjl : j < l.length := by have := (Array.getElem?_eq_some_iff.1 ho).1; simpa using this
   have ho' : l[j]? = some o := by simpa using ho
   have hJ := List.all_eq_true.1 hall j (List.mem_range.2 hjl)
   simp only [ho, Bool.and_eq_true] at hJ
   obtain ⟨hg0, hJ⟩ := hJ
   have hg : o.guard = none := by simpa using hg0
   have next : ∀ (a' : Act) (w' : World) (k' : Nat) (B' : Act), MidC P l n xs A W Q (L.setIfInBounds j true) a' w' k' B' -> wpAny P .any l.toArray Q f (L.setIfInBounds j true) a' w' := fun a' w' k' B' hm' =>
    any_flow hB0 hS hX hop f _ a' w' k' B' (by simp [hLs]) (by have := cnt_set hju hjl; omega) hm'
   have hset : ∀ k, k ≠ j -> (L.setIfInBounds j true).getD k true = L.getD k true := fun k hk => getD_set_ne true (Ne.symm hk)
   have hself : (L.setIfInBounds j true).getD j true = true := by simp [show j < L.size by omega]
   have hcl : ∀ i j', i < l.length -> j' < l.length -> edgeB l i j' = true -> (L.setIfInBounds j true).getD i true = true -> (L.setIfInBounds j true).getD j' true = true := fun i j' hi hj' he hl => by
    by_cases e2 : j' = j
    ·rw [e2]; simp [show j < L.size by omega]
    ·rw [hset j' e2]
     by_cases e1 : i = j
     ·subst e1
      unfold edgeB at he
      simp only [ho] at he
      obtain ⟨e, he1, hb⟩ := Array.any_eq_true'.1 he
      simp only [Bool.and_eq_true, beq_iff_eq] at hb
      have := hwait e he1 hb.2
      rw [hb.1] at this
      exact getD_true_false (by omega) this
     ·rw [hset i e1] at hl
      exact hm.closed i j' hi hj' he hl
   have hmore : ∀ k, L.getD k true = true -> (L.setIfInBounds j true).getD k true = true := fun k hk => by
    by_cases e : k = j
    ·rw [e]; exact hself
    ·rw [hset k e]; exact hk
   -- what an operation waits for is done
   have hdone : ∀ i, i < l.length -> (o.after.any fun e => e.on == i && Region.binds .any e) = true -> L.getD i true = true := fun i hi h => by
    obtain ⟨e, he, hb⟩ := Array.any_eq_true'.1 h
    simp only [Bool.and_eq_true, beq_iff_eq] at hb
    have := hwait e he hb.2
    rw [hb.1] at this
    exact getD_true_false (by omega) this
   have hprod : ∀ s, ((List.range n).all fun i => match l.toArray[i]? with | some p => (p.dst != some s) || o.after.any fun e => e.on == i && Region.binds .any e | none => false) = true -> ∀ i p, i < n -> l[i]? = some p -> p.dst = some s -> L.getD i true = true := fun s h i p hi hp hps => by
    have h6 := List.all_eq_true.1 h i (List.mem_range.2 hi)
    have hp' : l.toArray[i]? = some p := by simpa using hp
    simp only [hp', Bool.or_eq_true] at h6
    rcases h6 with h6 | h6
    ·rw [hps] at h6; simp at h6
    ·exact hdone i (by omega) h6
   unfold wpOp
   simp only [ho]
   rw [if_pos (by unfold Region.wanted; rw [hg])]
   refine .inl ?_
   by_cases hjn : j < n
   ·rw [if_pos hjn] at hJ
    simp only [Bool.and_eq_true] at hJ
    obtain ⟨⟨⟨h1, h2⟩, h3⟩, h4⟩ := hJ
    obtain ⟨t, ht⟩ : ∃ t, o.dst = some t := Option.isSome_iff_exists.1 h1
    have hcong : execOp a.eval o = execOp A.eval o := execOp_congr o (fun cs b => Region.noSelect_spec hsel j o cs b ho) fun x hx => by
     cases x with
     | tmp s =>
      have h5 := List.all_eq_true.1 h3 (.tmp s) (by simpa using hx)
      simp only [Bool.and_eq_true] at h5
      refine tmps_eval ?_
      rw [hm.agree s fun i p hi hp hps => hprod s h5.2 i p hi hp hps]
      refine hm.keep s fun i p hi hik hp hps => ?_
      have hil : i < l.length := (List.getElem?_eq_some_iff.1 hp).1
      have h6 := List.all_eq_true.1 h5.1 i (List.mem_range.2 hil)
      have hp' : l.toArray[i]? = some p := by simpa using hp
      simp only [hp', show ¬ i < n by omega, decide_false, Bool.false_or] at h6
      rw [hps] at h6
      have h7 : edgeB l i j = true := by
       unfold edgeB
       simp only [hp']
       simpa using h6
      rw [hm.closed i j hil hjl h7 (by rw [hm.tail i hi hil]; simpa using hik)] at hju
      cases hju
     | const v => rfl
     | global g => rfl
     | func f => rfl
    have hta := (hop j o hjn ho' W (Fr.refl _ _) t ht).2
    have hAt : A.tmps[t]? = some (A.tmps.getD t undef) := by simp [hta]
    have htail : ∀ i p, n <= i -> l[i]? = some p -> p.dst ≠ some t := fun i p hi hp hps => by
     have hil : i < l.length := (List.getElem?_eq_some_iff.1 hp).1
     have h5 := List.all_eq_true.1 hall i (List.mem_range.2 hil)
     have hp' : l.toArray[i]? = some p := by simpa using hp
     simp only [hp', Bool.and_eq_true] at h5
     have h6 := h5.2
     rw [if_neg (by omega)] at h6
     simp only [Bool.and_eq_true, hps] at h6
     have h7 := List.all_eq_true.1 h6.1.2 j (List.mem_range.2 hjn)
     simp only [ho, ht] at h7
     simp at h7
    have hagree : ∀ s, (∀ i p, i < n -> l[i]? = some p -> p.dst = some s -> (L.setIfInBounds j true).getD i true = true) -> (a.put o.dst (A.tmps.getD t undef)).tmps[s]? = B.tmps[s]? := fun s hs => by
     by_cases e : t = s
     ·subst e
      simp only [Act.put, ht]
      rw [getE_set_self (by rw [hm.size, hm.bsize]; exact hta), hm.keep t (fun i p hi _ hp => htail i p hi hp), hAt]
     ·simp only [Act.put, ht, Array.getElem?_setIfInBounds_ne e]
      refine hm.agree s fun i p hi hp hps => ?_
      have hij : i ≠ j := fun e2 => by
       subst e2
       rw [ho'] at hp
       obtain rfl : o = p := Option.some.inj hp
       exact e (Option.some.inj (ht.symm.trans hps))
      rw [<- hset i hij]
      exact hs i p hi hp hps
    have htl : ∀ i, n <= i -> i < l.length -> (L.setIfInBounds j true).getD i true = decide (i < n + k) := fun i hi hil => by
     rw [hset i (by omega)]
     exact hm.tail i hi hil
    by_cases hk : k <= 1
    ·have hst := hm.still hk
     have hqa := (hop j o hjn ho' w hst t ht).1
     have hq' : o.quietAt P a (fun u => Still w u) w (A.tmps.getD t undef) := by
      unfold Oper.quietAt at hqa ⊢
      rw [hcong]
      exact hqa
     refine wp_of_at hq' fun w' hw' => next _ w' k B ⟨by simp [Act.put, ht, hm.size], by simp [Act.put, ht, hm.defers], hagree, hm.keep, hm.le, htl, fun h => by omega, hm.zero, fun _ => hst.trans hw', fun h u hu => hm.wp1 h u (hw'.trans hu), fun h => by omega, hm.bsize, hcl⟩
    ·have hrun : (execOp A.eval o).run P w = .ok (.value (A.tmps.getD t undef)) w := by
      cases e : pureB o.op with
      | true => exact pure_run e A.eval (hop j o hjn ho' W (Fr.refl _ _) t ht).1 w
      | false =>
       cases e2 : xs.contains j with
       | true => exact hX j o t hjn e2 ho' ht w
       | false => rw [hm.second (by omega) j o hjn ho' e e2] at hju; cases hju
     unfold Oper.wp
     rw [hcong, hrun, Oper.upon_value]
     exact next _ w k B ⟨by simp [Act.put, ht, hm.size], by simp [Act.put, ht, hm.defers], hagree, hm.keep, hm.le, htl, fun h i p hi hp h1 h2 => hmore i (hm.second h i p hi hp h1 h2), hm.zero, fun h => by omega, fun h => by omega, hm.wp, hm.bsize, hcl⟩
   ·rw [if_neg hjn] at hJ
    simp only [Bool.and_eq_true] at hJ
    obtain ⟨⟨h1, h2⟩, h3⟩ := hJ
    have hjk : j = n + k := by
     have h5 := hm.tail j (by omega) hjl
     rw [hju] at h5
     have h6 : ¬ j < n + k := by simpa using h5.symm
     by_cases e : j = n
     ·omega
     ·have e' : (j == n) = false := by simpa using e
      rw [e', Bool.false_or] at h1
      have h7 := hdone (j - 1) (by omega) h1
      rw [hm.tail (j - 1) (by omega) (by omega)] at h7
      have := of_decide_eq_true h7
      omega
    have hcong : execOp a.eval o = execOp B.eval o := execOp_congr o (fun cs b => Region.noSelect_spec hsel j o cs b ho) fun x hx => by
     cases x with
     | tmp s => exact tmps_eval (hm.agree s fun i p hi hp hps => hprod s (List.all_eq_true.1 h3 (.tmp s) (by simpa using hx)) i p hi hp hps)
     | const v => rfl
     | global g => rfl
     | func f => rfl
    have hw2 : 0 < k -> o.upon P B (wpList P l.toArray (Nrm Q) (l.drop (n + (k + 1)))) (Nrm Q) ((execOp B.eval o).run P w) := fun h0 => by
     have hw : wpList P l.toArray (Nrm Q) (o :: l.drop (n + (k + 1))) B w := by
      have e : l.drop (n + k) = o :: l.drop (n + (k + 1)) := by rw [<- hjk, drop_at ho', hjk]; rfl
      rw [<- e]
      by_cases hk : k = 1
      ·have := hm.wp1 hk w (Fr.refl _ _)
       rwa [hk]
      ·exact hm.wp (by omega)
     unfold wpList at hw
     rw [if_pos (by unfold Region.wanted; rw [hg])] at hw
     rcases hw with hw | ⟨_, a0, w0, h0, _⟩
     ·exact hw
     ·cases h0
    have hsm : ∀ i j', edgeB l i j' = true -> i < l.length /\ j' < l.length := fun i j' he => by
     unfold edgeB at he
     cases eo : l.toArray[i]? with
     | none => rw [eo] at he; cases he
     | some q =>
      have hil : i < l.length := by have := (Array.getElem?_eq_some_iff.1 eo).1; simpa using this
      simp only [eo] at he
      obtain ⟨e, he1, hb⟩ := Array.any_eq_true'.1 he
      simp only [Bool.and_eq_true, beq_iff_eq] at hb
      have := lowK_spec hlow hil eo e he1 hb.2
      exact ⟨hil, by omega⟩
    have hkind : ∀ i p, i < n -> l[i]? = some p -> (pureB p.op || xs.contains i || reachB l (n + 1) 6 i) = true := fun i p hi hp => by
     have h5 := List.all_eq_true.1 hall i (List.mem_range.2 (by omega))
     have hp' : l.toArray[i]? = some p := by simpa using hp
     simp only [hp', Bool.and_eq_true] at h5
     have h6 := h5.2
     rw [if_pos hi] at h6
     simp only [Bool.and_eq_true] at h6
     exact h6.2
    have hedge : ∀ j', edgeB l j j' = true -> L.getD j' true = true := fun j' he => by
     have hj' := (hsm j j' he).2
     unfold edgeB at he
     simp only [ho] at he
     exact hdone j' hj' he
    have hreachj : ∀ i, reachB l j 6 i = true -> L.getD i true = true := fun i h7 => reach_done (n := j) hedge (fun i1 j1 he hl1 => hm.closed i1 j1 (hsm i1 j1 he).1 (hsm i1 j1 he).2 he hl1) 6 i h7
    have hreach1 : k = 1 -> ∀ i, reachB l (n + 1) 6 i = true -> L.getD i true = true := fun hk i h7 => hreachj i (by rw [hjk, hk]; exact h7)
    have step : ∀ (a1 B1 : Act) (w1 : World), a1.tmps.size = B1.tmps.size -> B1.tmps.size = A.tmps.size -> a1.defers = B1.defers -> (∀ s, (∀ i p, i < n -> l[i]? = some p -> p.dst = some s -> L.getD i true = true) -> a1.tmps[s]? = B1.tmps[s]?) -> (∀ s, (∀ i p, n <= i -> i < n + (k + 1) -> l[i]? = some p -> p.dst ≠ some s) -> B1.tmps[s]? = A.tmps[s]?) -> (0 < k -> wpList P l.toArray (Nrm Q) (l.drop (n + (k + 1))) B1 w1) -> (k = 0 -> Still W w1 /\ ∀ u, Still w1 u -> wpList P l.toArray (Nrm Q) (l.drop (n + 1)) B1 u) -> wpAny P .any l.toArray Q f (L.setIfInBounds j true) a1 w1 := fun a1 B1 w1 g1 g2 g3 g4 g5 g6 g7 =>
     next a1 w1 (k + 1) B1 ⟨g1, g3, fun s hs => g4 s fun i p hi hp hps => by rw [<- hset i (by omega)]; exact hs i p hi hp hps, g5, by omega, fun i hi hil => by
      by_cases e : i = j
      ·rw [e, hself]; symm; simp; omega
      ·rw [hset i e, hm.tail i hi hil]
       have : (i < n + k) ↔ (i < n + (k + 1)) := by omega
       simp [this],
      fun hq2 i p hi hp hpp hpx => by
       rw [hset i (by omega)]
       by_cases hk : k = 1
       ·have h6 := hkind i p hi hp
        rw [hpp, hpx] at h6
        exact hreach1 hk i (by simpa using h6)
       ·exact hm.second (by omega) i p hi hp hpp hpx,
      fun h => by omega, fun h => (g7 (by omega)).1, fun h => (g7 (by omega)).2, fun h => g6 (by omega), g2, hcl⟩
    have hd : ∀ t, o.dst = some t -> ∀ i p, i < n -> l[i]? = some p -> p.dst ≠ some t := fun t ht i p hi hp hps => by
     rw [ht] at h2
     have h5 := List.all_eq_true.1 h2 i (List.mem_range.2 hi)
     have hp' : l.toArray[i]? = some p := by simpa using hp
     simp only [hp', hps] at h5
     simp at h5
    have put : ∀ (a1 B1 : Act) (v : Value) (w1 : World), a1.tmps = a.tmps -> B1.tmps = B.tmps -> a1.defers = B1.defers -> (0 < k -> wpList P l.toArray (Nrm Q) (l.drop (n + (k + 1))) (B1.put o.dst v) w1) -> (k = 0 -> Still W w1 /\ ∀ u, Still w1 u -> wpList P l.toArray (Nrm Q) (l.drop (n + 1)) (B1.put o.dst v) u) -> wpAny P .any l.toArray Q f (L.setIfInBounds j true) (a1.put o.dst v) w1 := fun a1 B1 v w1 e1 e2 e3 hw1 hs1 => by
     cases ht : o.dst with
     | none =>
      rw [ht] at hw1 hs1
      exact step a1 B1 w1 (by rw [e1, e2]; exact hm.size) (by rw [e2]; exact hm.bsize) e3 (fun s hs => by rw [e1, e2]; exact hm.agree s hs) (fun s hs => by rw [e2]; exact hm.keep s (fun i p h1 h2 hp => hs i p h1 (by omega) hp)) hw1 hs1
     | some t =>
      rw [ht] at hw1 hs1
      refine step _ _ w1 (by simp [Act.put, e1, e2, hm.size]) (by simp [Act.put, e2, hm.bsize]) (by simp [Act.put, e3]) (fun s hs => ?_) (fun s hs => ?_) hw1 hs1
      ·by_cases e : t = s
       ·subst e
        simp only [Act.put, e1, e2]
        by_cases hlt : t < a.tmps.size
        ·rw [getE_set_self hlt, getE_set_self (by rw [<- hm.size]; exact hlt)]
        ·rw [Array.getElem?_eq_none (show (a.tmps.setIfInBounds t v).size <= t by rw [Array.size_setIfInBounds]; exact Nat.le_of_not_lt hlt), Array.getElem?_eq_none (show (B.tmps.setIfInBounds t v).size <= t by rw [Array.size_setIfInBounds, <- hm.size]; exact Nat.le_of_not_lt hlt)]
       ·simp only [Act.put, Array.getElem?_setIfInBounds_ne e, e1, e2]
        exact hm.agree s hs
      ·have hne : t ≠ s := fun e => hs j o (by omega) (by omega) ho' (by rw [ht, e])
       simp only [Act.put, Array.getElem?_setIfInBounds_ne hne, e2]
       exact hm.keep s (fun i p h1 h2 hp => hs i p h1 (by omega) hp)
    unfold Oper.wp
    rw [hcong]
    by_cases hk : k = 0
    ·have hst := hm.still (by omega)
     have hBA := hm.zero hk
     obtain ⟨v, u', hrun, hsu, hT⟩ := hS o (by rw [<- ho']; congr 1; omega) w hst
     rw [hBA, hrun, Oper.upon_value]
     exact put a A v u' rfl (by rw [hBA]) (by rw [hm.defers, hBA]) (fun h => by omega) (fun _ => ⟨hst.trans hsu, hT⟩)
    ·exact upon_sim (fun v w1 hw1 => put a B v w1 rfl rfl hm.defers (fun _ => hw1) (fun h => absurd h hk)) (fun d w1 hw1 => put { a with defers := d :: a.defers } { B with defers := d :: B.defers } undef w1 rfl rfl (by simp [hm.defers]) (fun _ => hw1) (fun h => absurd h hk)) (hw2 (by omega))
theorem region_flow {id : Nat} {Q : Exit -> Act -> World -> Prop} {a : Act} {w : World} (n : Nat) (xs : List Nat) (hm : P.follows .mixedOrders = true) (hB : flowB l n xs = true) (hdB : dstB (l.take n) a.tmps.size = true)
  (h : ∃ A, (∀ u, Still w u -> wpQuiet P l.toArray (fun w' => ∃ z : Aft u, w' = z.u) (fun a' => a' = A) (l.take n) a) /\ (∀ j o t, j < n -> xs.contains j = true -> l[j]? = some o -> o.dst = some t -> ∀ u, (execOp A.eval o).run P u = .ok (.value (A.tmps.getD t undef)) u) /\ ∀ o, l[n]? = some o -> ∀ u, Still w u -> ∃ v u', (execOp A.eval o).run P u = .ok (.value v) u' /\ Still u u' /\ ∀ u'', Still u' u'' -> wpList P l.toArray (Nrm Q) (l.drop (n + 1)) (A.put o.dst v) u'') :
  (Code.region id l.toArray true).wp P Q a w := by
 obtain ⟨A, hwalk, hX, hS⟩ := h
 have hB0 := hB
 unfold flowB at hB
 simp only [Bool.and_eq_true, decide_eq_true_eq] at hB
 obtain ⟨⟨⟨⟨hsel, hlow⟩, hnl⟩, hgood⟩, hall⟩ := hB
 have hin : ∀ o ∈ l.take n, o ∈ l.toArray := fun o ho => by simpa using List.mem_of_mem_take ho
 have hsel' : ∀ o ∈ l.toArray, ∀ cs b, o.op ≠ .select cs b := fun o ho cs b => by
  obtain ⟨i, hi, e⟩ := Array.mem_iff_getElem.1 ho
  exact Region.noSelect_spec hsel i o cs b (by rw [Array.getElem?_eq_getElem hi, e])
 have hmem : ∀ j o, j < n -> l[j]? = some o -> o ∈ l.take n := fun j o hj ho => List.mem_iff_getElem?.2 ⟨j, by rw [List.getElem?_take_of_lt hj]; exact ho⟩
 obtain ⟨⟨e1, e2, e3⟩, _⟩ := walk_each hsel' (l.take n) a hin hgood hdB (hwalk w (Fr.refl _ _))
 refine wp_region_any hm ?_
 have hst0 : Still w { w with drawn := w.drawn + 1 } := (Fr.refl _ w).drew
 have key := any_flow (P := P) (W := w) (A := A) (Q := Q) hB0 hS hX (fun j o hj ho u hu t ht => (walk_each hsel' (l.take n) a hin hgood hdB (hwalk u hu)).2 o (hmem j o hj ho) t ht) l.length (Array.replicate l.length false) a { w with drawn := w.drawn + 1 } 0 A (by simp) (cnt_new (Nat.le_refl _))
  ⟨e1.symm, e2.symm, fun t ht => (e3 t fun o ho e => ?_).symm, fun _ _ => rfl, by omega, fun i hi hil => by simp [hil]; omega, fun h => by omega, fun _ => rfl, fun _ => hst0, fun h => by omega, fun h => by omega, rfl, fun i j hi _ _ hl => by simp [hi] at hl⟩
 ·simpa using key
 ·obtain ⟨j, hj, e4⟩ := List.mem_iff_getElem.1 ho
  have hjn : j < n := by simp at hj; omega
  have := ht j o hjn (by rw [<- List.getElem?_take_of_lt hjn, List.getElem?_eq_getElem hj, e4]) e
  simp [show j < l.length by omega] at this
end
end Go.Proofs.YthcjckgmdokmdaaGreatDoor
