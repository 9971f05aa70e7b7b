/- Parts of the proof, laid end to end. -/
import Derived.Test.YtdljmpjfiggdiaaDoorZV10
import Derived.Test.YtdljmpjfiggdiaaDoorZV04
import Derived.Test.YtdljmpjfiggdiaaDoorZV01
import Derived.Test.YtdljmpjfiggdiaaDoorZV08
namespace Go.Proofs.YtdljmpjfiggdiaaDoor
open Go.RowKit
open Ea
set_option maxRecDepth 100000
abbrev ccs (x : Scr) : Array Value := #[.int .i64 x.p, .int .i64 x.h, .int .i64 x.o, .int .i64 x.k]
abbrev cv (x : Scr) : Value := .agg (ccs x)
def Cb (w : World) (g : Nat) (x : Scr) : Prop := w.heap[g]? = some (.cells (ccs x) 54 (0, 0))
theorem Cb.still {w w' : World} {g : Nat} {x : Scr} (h : Cb w g x) (hs : Still w w') : Cb w' g x := hs.kept_still h
theorem Cb.lt {w : World} {g : Nat} {x : Scr} (h : Cb w g x) : g < w.heap.size := block_lt h
theorem Cb.cells {w : World} {g : Nat} {x : Scr} (h : Cb w g x) : w.cell? ⟨g, 0, none⟩ = some (.int .i64 x.p) /\ w.cell? ⟨g, 1, none⟩ = some (.int .i64 x.h) /\ w.cell? ⟨g, 2, none⟩ = some (.int .i64 x.o) /\ w.cell? ⟨g, 3, none⟩ = some (.int .i64 x.k) /\ ∀ o, w.frozen? ⟨g, o, none⟩ = false := by
 refine ⟨?_, ?_, ?_, ?_, fun o => frozen_of_row w g o _ _ h⟩ <;> (rw [cell_of_row _ _ _ _ _ _ h]; rfl)
abbrev newC (w : World) (x : Scr) : World := w.alloc (.cells (ccs x) 54)
theorem newC_cb (w : World) (x : Scr) : Cb (newC w x) w.heap.size x := heap_alloc_new w _
theorem Cb.put {w : World} {g : Nat} {x : Scr} (h0 : Cb w g x) (a b c d : Int) : Cb ((((w.setCell ⟨g, 0, none⟩ (.int .i64 a)).setCell ⟨g, 1, none⟩ (.int .i64 b)).setCell ⟨g, 2, none⟩ (.int .i64 c)).setCell ⟨g, 3, none⟩ (.int .i64 d)) g ⟨a, b, c, d⟩ := by
 unfold Cb at h0 ⊢
 have h1 := heap_setCell_same _ g 0 _ _ (.int .i64 a) h0
 have h2 := heap_setCell_same _ g 1 _ _ (.int .i64 b) h1
 have h3 := heap_setCell_same _ g 2 _ _ (.int .i64 c) h2
 have h4 := heap_setCell_same _ g 3 _ _ (.int .i64 d) h3
 exact h4.trans (by kernel_rfl)
theorem Cb.other {w : World} {g : Nat} {x : Scr} (h : Cb w g x) (k o : Nat) (v : Value) (hk : g ≠ k) : Cb (w.setCell ⟨k, o, none⟩ v) g x := by
 unfold Cb at h ⊢
 rw [heap_setCell_other _ _ _ _ hk]
 exact h
theorem Cb.others {w : World} {g k : Nat} {x : Scr} (h : Cb w g x) (hk : g ≠ k) (a b c d : Int) : Cb ((((w.setCell ⟨k, 0, none⟩ (.int .i64 a)).setCell ⟨k, 1, none⟩ (.int .i64 b)).setCell ⟨k, 2, none⟩ (.int .i64 c)).setCell ⟨k, 3, none⟩ (.int .i64 d)) g x :=
 (((h.other k 0 _ hk).other k 1 _ hk).other k 2 _ hk).other k 3 _ hk
theorem Cb.sp {w : World} {g : Nat} {x : Scr} (h : Cb w g x) (v : Int) : Cb (w.setCell ⟨g, 0, none⟩ (.int .i64 v)) g { x with p := v } := (heap_setCell_same w g 0 _ _ (.int .i64 v) h).trans (by kernel_rfl)
theorem Cb.sh {w : World} {g : Nat} {x : Scr} (h : Cb w g x) (v : Int) : Cb (w.setCell ⟨g, 1, none⟩ (.int .i64 v)) g { x with h := v } := (heap_setCell_same w g 1 _ _ (.int .i64 v) h).trans (by kernel_rfl)
theorem Cb.so {w : World} {g : Nat} {x : Scr} (h : Cb w g x) (v : Int) : Cb (w.setCell ⟨g, 2, none⟩ (.int .i64 v)) g { x with o := v } := (heap_setCell_same w g 2 _ _ (.int .i64 v) h).trans (by kernel_rfl)
theorem Cb.sk {w : World} {g : Nat} {x : Scr} (h : Cb w g x) (v : Int) : Cb (w.setCell ⟨g, 3, none⟩ (.int .i64 v)) g { x with k := v } := (heap_setCell_same w g 3 _ _ (.int .i64 v) h).trans (by kernel_rfl)
theorem Cb.load {w : World} {g : Nat} {x : Scr} (h : Cb w g x) : (loadVar 54 ⟨g, 0, none⟩).run Tryd.prog w = .ok (cv x) w := by
 obtain ⟨c0, c1, c2, c3, cf⟩ := h.cells
 go_simp
theorem Cb.rest {fn : Func} {p q : Tmp} {w : World} {g : Nat} {x : Scr} (hb : Cb w g x) (h : fn.results = #[.cell p 54, .tmp q]) (tmps : Array Value) (t : Value) (hp : tmps.getD p undef = .pointer (some ⟨g, 0, none⟩)) (hq : tmps.getD q undef = t) :
  (results fn tmps).run Tryd.prog w = .ok (.tuple #[cv x, t]) w := by
 have hp' : tmps[p]?.getD undef = .pointer (some ⟨g, 0, none⟩) := by simpa using hp
 have hq' : tmps[q]?.getD undef = t := by simpa using hq
 simp [results, h, hp', hq', asAddr, hb.load]
theorem Cb.res2 {fn : Func} {p q r : Tmp} {w : World} {g k : Nat} {a b : Scr} (ha : Cb w g a) (hb : Cb w k b) (h : fn.results = #[.cell p 54, .cell q 54, .tmp r]) (tmps : Array Value) (t : Value) (hp : tmps.getD p undef = .pointer (some ⟨g, 0, none⟩)) (hq : tmps.getD q undef = .pointer (some ⟨k, 0, none⟩)) (hr : tmps.getD r undef = t) :
  (results fn tmps).run Tryd.prog w = .ok (.tuple #[cv a, cv b, t]) w := by
 have hp' : tmps[p]?.getD undef = .pointer (some ⟨g, 0, none⟩) := by simpa using hp
 have hq' : tmps[q]?.getD undef = .pointer (some ⟨k, 0, none⟩) := by simpa using hq
 have hr' : tmps[r]?.getD undef = t := by simpa using hr
 simp [results, h, hp', hq', hr', asAddr, ha.load, hb.load]
def eqC (x y : Scr) : Bool := (x.p == y.p) && ((x.h == y.h) && ((x.o == y.o) && (x.k == y.k)))
theorem eqC_refl (x : Scr) : eqC x x = true := by unfold eqC; simp
theorem eqC_iff {x y : Scr} : eqC x y = true ↔ x = y := by
 obtain ⟨a, b, c, d⟩ := x
 obtain ⟨a', b', c', d'⟩ := y
 unfold eqC
 simp
theorem cpart_in (x : Scr) (w : World) : (part 3 (ccs x) 0).run Tryd.prog w = .ok (.int .i64 x.p) w /\ (part 3 (ccs x) 1).run Tryd.prog w = .ok (.int .i64 x.h) w /\ (part 3 (ccs x) 2).run Tryd.prog w = .ok (.int .i64 x.o) w /\ (part 3 (ccs x) 3).run Tryd.prog w = .ok (.int .i64 x.k) w := by
 refine ⟨?_, ?_, ?_, ?_⟩ <;> go_simp
theorem equalC_int (d : Nat) (x y : Int) (w : World) : (Op.equalIn (d + 1) 3 (.int .i64 x) (.int .i64 y)).run Tryd.prog w = .ok (x == y) w := by
 go_simp
theorem stC {b c : Bool} {w : World} {R : Result Bool} (h : R = .ok c w) : (if (!b) = true then Result.ok false w else R) = .ok (b && c) w := by
 cases b <;> simp [h]
theorem stC1 (b : Bool) {w : World} : (if (!b) = true then Result.ok false w else Result.ok true w) = .ok b w := by
 cases b <;> rfl
theorem equal_cv (x y : Scr) (w : World) : (Op.equalIn 10000 54 (cv x) (cv y)).run Tryd.prog w = .ok (eqC x y) w := by
 have c0 := fun w => (cpart_in x w).1
 have d0 := fun w => (cpart_in y w).1
 have r0 := fun w => equalC_int 9998 x.p y.p w
 have c1 := fun w => (cpart_in x w).2.1
 have d1 := fun w => (cpart_in y w).2.1
 have r1 := fun w => equalC_int 9998 x.h y.h w
 have c2 := fun w => (cpart_in x w).2.2.1
 have d2 := fun w => (cpart_in y w).2.2.1
 have r2 := fun w => equalC_int 9998 x.o y.o w
 have c3 := fun w => (cpart_in x w).2.2.2
 have d3 := fun w => (cpart_in y w).2.2.2
 have r3 := fun w => equalC_int 9998 x.k y.k w
 rw [run_equalIn_struct w 9999 _ _ _ (by kernel_rfl) (by kernel_rfl)]
 have e : (Tryd.prog.fieldsOf 54) = #[⟨ "Points", 3, 0, false, "", "", 0⟩, ⟨ "Hits", 3, 1, false, "", "", 8⟩, ⟨ "Outs", 3, 2, false, "", "", 16⟩, ⟨ "Streak", 3, 3, false, "", "", 24⟩] := by kernel_rfl
 rw [e]
 simp only [Op.eqFields, ne_eq, String.reduceEq, not_false_eq_true, if_true, Sem.run_bind, c0, c1, c2, c3, d0, d1, d2, d3, Result.andThen_ok, r0, r1, r2, r3, Sem.run_ite, Sem.run_pure]
 unfold eqC
 exact stC (stC (stC (stC1 _)))
theorem eql_cv (x y : Scr) (w : World) : (binOp .eql 54 (cv x) (cv y)).run Tryd.prog w = .ok (.bool (eqC x y)) w := by
 rw [run_eql_struct, equal_cv]; rfl
theorem neq_cv (x y : Scr) (w : World) : (binOp .neq 54 (cv x) (cv y)).run Tryd.prog w = .ok (.bool (!eqC x y)) w := by
 rw [run_neq_struct, equal_cv]; rfl
theorem eql_cv_t (x : Scr) (w : World) : (binOp .eql 54 (cv x) (cv x)).run Tryd.prog w = .ok (.bool true) w := by
 rw [eql_cv, eqC_refl]
theorem neq_cv_f (x : Scr) (w : World) : (binOp .neq 54 (cv x) (cv x)).run Tryd.prog w = .ok (.bool false) w := by
 rw [neq_cv, eqC_refl]; rfl
theorem guard_cv (op : BinOp) (a b : Operand) (xs ys : Array Value) (w : World) : (eqGuard op 54 a b (.agg xs) (.agg ys)).run Tryd.prog w = .ok () w := run_eqGuard_agg w op _ a b xs ys (by kernel_rfl)
def KC : Kd Scr := ⟨fun m => (ccs m).toList, 4, zC, fun _ => rfl, fun m u hu => by
 simp at hu
 rcases hu with rfl | rfl | rfl | rfl <;> rfl, by decide⟩
theorem infoC : ∃ i, Tryd.prog.info? 54 = some i /\ i.zero = some (.agg (KC.f KC.d).toArray) /\ i.size = KC.k /\ i.bytes = 32 := ⟨_, rfl, rfl, rfl, rfl⟩
theorem rdC {w : World} {B o n : Nat} {L : List Scr} (h : RdG KC w (some ⟨B, o, none⟩) n L) {i : Nat} (hi : i < n) : w.cell? ⟨B, o + i * 4, none⟩ = some (.int .i64 (sc L i).p) /\ w.cell? ⟨B, o + i * 4 + 1, none⟩ = some (.int .i64 (sc L i).h) /\ w.cell? ⟨B, o + i * 4 + 2, none⟩ = some (.int .i64 (sc L i).o) /\ w.cell? ⟨B, o + i * 4 + 3, none⟩ = some (.int .i64 (sc L i).k) :=
 ⟨h.get hi 0 _ rfl, h.get hi 1 _ rfl, h.get hi 2 _ rfl, h.get hi 3 _ rfl⟩
theorem owC {e : TypeId} {w : World} {B g n cap : Nat} {L : List Scr} (h : OwG KC e w B (.slice (some ⟨g, 0, none⟩) n cap) L) {i : Nat} (hi : i < L.length) : w.cell? ⟨g, i * 4, none⟩ = some (.int .i64 (sc L i).p) /\ w.cell? ⟨g, i * 4 + 1, none⟩ = some (.int .i64 (sc L i).h) /\ w.cell? ⟨g, i * 4 + 2, none⟩ = some (.int .i64 (sc L i).o) /\ w.cell? ⟨g, i * 4 + 3, none⟩ = some (.int .i64 (sc L i).k) /\ ∀ o, w.frozen? ⟨g, o, none⟩ = false :=
 ⟨h.get hi 0 _ rfl, h.get hi 1 _ rfl, h.get hi 2 _ rfl, h.get hi 3 _ rfl, h.frozen⟩
def F4 (w0 w : World) (a b x y : Scr) : Prop := Cb w w0.heap.size a /\ Cb w (w0.heap.size + 1) b /\ Cb w (w0.heap.size + 1 + 1) x /\ Cb w (w0.heap.size + 1 + 1 + 1) y /\ Still w0 w
theorem F4.new (w : World) (a b : Scr) : F4 w (newC (newC (newC (newC w a) b) zC) zC) a b zC zC := by
 have A0 := Still.alloc w (.cells (ccs a) 54)
 have A1 := Still.alloc (newC w a) (.cells (ccs b) 54)
 have A2 := Still.alloc (newC (newC w a) b) (.cells (ccs zC) 54)
 have A3 := Still.alloc (newC (newC (newC w a) b) zC) (.cells (ccs zC) 54)
 have q0 := ((newC_cb (newC w a) b).still A2).still A3
 have r0 := (newC_cb (newC (newC w a) b) zC).still A3
 have s0 := newC_cb (newC (newC (newC w a) b) zC) zC
 simp only [size_alloc] at q0 r0 s0
 exact ⟨((newC_cb w a).still A1).still A2 |>.still A3, q0, r0, s0, ((A0.trans A1).trans A2).trans A3⟩
theorem F4.on {w0 w w' : World} {a b x y : Scr} (h : F4 w0 w a b x y) (hs : Still w w') : F4 w0 w' a b x y :=
 ⟨h.1.still hs, h.2.1.still hs, h.2.2.1.still hs, h.2.2.2.1.still hs, h.2.2.2.2.trans hs⟩
theorem F4.setA {w0 w : World} {a b x y a' : Scr} (h : F4 w0 w a b x y) (o : Nat) (v : Value) (ha : Cb (w.setCell ⟨w0.heap.size, o, none⟩ v) w0.heap.size a') : F4 w0 (w.setCell ⟨w0.heap.size, o, none⟩ v) a' b x y :=
 ⟨ha, h.2.1.other _ _ _ (by omega), h.2.2.1.other _ _ _ (by omega), h.2.2.2.1.other _ _ _ (by omega), h.2.2.2.2.setCell _ _ (.inr (Nat.le_refl _))⟩
theorem F4.setB {w0 w : World} {a b x y b' : Scr} (h : F4 w0 w a b x y) (o : Nat) (v : Value) (hb : Cb (w.setCell ⟨w0.heap.size + 1, o, none⟩ v) (w0.heap.size + 1) b') : F4 w0 (w.setCell ⟨w0.heap.size + 1, o, none⟩ v) a b' x y :=
 ⟨h.1.other _ _ _ (by omega), hb, h.2.2.1.other _ _ _ (by omega), h.2.2.2.1.other _ _ _ (by omega), h.2.2.2.2.setCell _ _ (.inr (by simp))⟩
theorem setC_frC {a w : World} (h : Still a w) (g o : Nat) (v : Value) (hg : a.heap.size <= g) : Still a (w.setCell ⟨g, o, none⟩ v) := h.setCell _ _ (.inr hg)
end Go.Proofs.YtdljmpjfiggdiaaDoor
namespace Go.Proofs.YtdljmpjfiggdiaaDoor.Ea
def pl (R : List Int) (a : Nat) : Nat := (R.getD a 0).toNat
structure Plc (n : Nat) (R : List Int) : Prop where
 len : R.length = n
 low : ∀ a, a < n -> R.getD a 0 = ((pl R a : Nat) : Int) /\ pl R a < n
 inj : ∀ a b, a < n -> b < n -> pl R a = pl R b -> a = b
theorem getD_swap {R : List Int} {i j : Nat} (hi : i < R.length) (hj : j < R.length) (a : Nat) : (Rg.swap R i j).getD a 0 = if a = j then R.getD i 0 else if a = i then R.getD j 0 else R.getD a 0 := by
 unfold Rg.swap
 simp only [List.getD_eq_getElem?_getD, List.getElem?_set, List.length_set]
 by_cases h1 : a = j
 ·subst h1
  simp [hj]
 ·by_cases h2 : a = i
  ·subst h2
   simp [h1, Ne.symm h1, hi]
  ·simp [h1, h2, Ne.symm h1, Ne.symm h2]
theorem pl_swap {R : List Int} {i j : Nat} (hi : i < R.length) (hj : j < R.length) (a : Nat) : pl (Rg.swap R i j) a = if a = j then pl R i else if a = i then pl R j else pl R a := by
 unfold pl
 rw [getD_swap hi hj]
 split
 ·rfl
 ·split <;> rfl
theorem Plc.swap {n : Nat} {R : List Int} (h : Plc n R) {i j : Nat} (hi : i < n) (hj : j < n) : Plc n (Rg.swap R i j) := by
 have hl := h.len
 refine ⟨by rw [Rg.swap_length]; exact hl, fun a ha => ?_, fun a b ha hb e => ?_⟩
 ·rw [getD_swap (by omega) (by omega), pl_swap (by omega) (by omega)]
  split
  ·exact h.low i hi
  ·split
   ·exact h.low j hj
   ·exact h.low a ha
 ·rw [pl_swap (by omega) (by omega), pl_swap (by omega) (by omega)] at e
  have k1 := h.inj i j hi hj
  have k2 := h.inj j i hj hi
  have k3 := h.inj i a hi ha
  have k4 := h.inj i b hi hb
  have k5 := h.inj j a hj ha
  have k6 := h.inj j b hj hb
  have k7 := h.inj a b ha hb
  have k8 := h.inj a i ha hi
  have k9 := h.inj a j ha hj
  split at e <;> split at e <;> (try split at e) <;> (try split at e) <;> first | omega | (have := k1 e; omega) | (have := k2 e; omega) | (have := k3 e; omega) | (have := k4 e; omega) | (have := k5 e; omega) | (have := k6 e; omega) | (have := k7 e; omega) | (have := k8 e; omega) | (have := k9 e; omega)
theorem plc_up (n : Nat) : Plc n (Rg.upTo n) := by
 have hg : ∀ n a, a < n -> (Rg.upTo n).getD a 0 = (a : Int) := by
  intro n
  induction n with
  | zero => intro a h; omega
  | succ n ih =>
   intro a h
   rw [Rg.upTo, List.getD_eq_getElem?_getD]
   by_cases e : a = n
   ·subst e
    rw [List.getElem?_append_right (by rw [Rg.upTo_length]; exact Nat.le_refl _), Rg.upTo_length]
    simp
   ·rw [List.getElem?_append_left (by rw [Rg.upTo_length]; omega), <- List.getD_eq_getElem?_getD]
    exact ih a (by omega)
 have hp : ∀ a, a < n -> pl (Rg.upTo n) a = a := fun a h => by unfold pl; rw [hg n a h]; simp
 exact ⟨Rg.upTo_length n, fun a h => ⟨by rw [hg n a h, hp a h], by rw [hp a h]; exact h⟩, fun a b ha hb e => by rw [hp a ha, hp b hb] at e; exact e⟩
def Srt (L : List Scr) (R : List Int) (i : Nat) : Prop := ∀ a b, a < b -> b < i -> ahd L (pl R a) (pl R b) = true
def Ins (L : List Scr) (R : List Int) (i j : Nat) : Prop := (∀ a b, a < b -> b <= i -> a ≠ j -> b ≠ j -> ahd L (pl R a) (pl R b) = true) /\ ∀ b, j < b -> b <= i -> ahd L (pl R j) (pl R b) = true
theorem ins_start {L : List Scr} {R : List Int} {i : Nat} (h : Srt L R i) : Ins L R i i :=
 ⟨fun a b h1 h2 _ h4 => h a b h1 (by omega), fun b h1 h2 => by omega⟩
theorem ins_stop {L : List Scr} {R : List Int} {n i j : Nat} (hp : Plc n R) (hi : i < n) (hj : j <= i) (h : Ins L R i j) (hs : j = 0 \/ ahd L (pl R j) (pl R (j - 1)) = false) : Srt L R (i + 1) := by
 intro a b hab hb
 by_cases e : b = j
 ·subst e
  rcases hs with hs | hs
  ·omega
  ·have hne : pl R (b - 1) ≠ pl R b := fun e => by have := hp.inj (b - 1) b (by omega) (by omega) e; omega
   have h1 : ahd L (pl R (b - 1)) (pl R b) = true := by
    rcases ahd_total (L := L) hne with h1 | h1
    ·exact h1
    ·rw [hs] at h1; cases h1
   by_cases e2 : a = b - 1
   ·rw [e2]; exact h1
   ·exact ahd_trans (h.1 a (b - 1) (by omega) (by omega) (by omega) (by omega)) h1
 ·by_cases e2 : a = j
  ·subst e2
   exact h.2 b hab (by omega)
  ·exact h.1 a b hab (by omega) e2 e
theorem ins_step {L : List Scr} {R : List Int} {n i j : Nat} (hp : Plc n R) (hi : i < n) (hj : j + 1 <= i) (h : Ins L R i (j + 1)) (hs : ahd L (pl R (j + 1)) (pl R j) = true) : Ins L (Rg.swap R (j + 1) j) i j := by
 have hl := hp.len
 have e : ∀ a, pl (Rg.swap R (j + 1) j) a = if a = j then pl R (j + 1) else if a = j + 1 then pl R j else pl R a := fun a => pl_swap (by omega) (by omega) a
 refine ⟨fun a b h1 h2 h3 h4 => ?_, fun b h1 h2 => ?_⟩
 ·rw [e, e, if_neg h3, if_neg h4]
  by_cases e1 : a = j + 1
  ·rw [if_pos e1, if_neg (by omega)]
   exact h.1 j b (by omega) h2 (by omega) (by omega)
  ·rw [if_neg e1]
   by_cases e2 : b = j + 1
   ·rw [if_pos e2]
    exact h.1 a j (by omega) (by omega) e1 (by omega)
   ·rw [if_neg e2]
    exact h.1 a b h1 h2 e1 e2
 ·rw [e, e, if_pos rfl, if_neg (by omega)]
  by_cases e2 : b = j + 1
  ·rw [if_pos e2]; exact hs
  ·rw [if_neg e2]; exact h.2 b (by omega) h2
theorem rise_id (f : Nat -> Nat) (n : Nat) (hf : ∀ a, a < n -> f a < n) (hr : ∀ a b, a < b -> b < n -> f a < f b) : ∀ a, a < n -> f a = a := by
 have lo : ∀ a, a < n -> a <= f a := by
  intro a
  induction a with
  | zero => intro _; omega
  | succ a ih => intro h; have := ih (by omega); have := hr a (a + 1) (by omega) h; omega
 have hi : ∀ d a, a + d + 1 = n -> f a <= a := by
  intro d
  induction d with
  | zero => intro a h; have := hf a (by omega); omega
  | succ d ih => intro a h; have := ih (a + 1) (by omega); have := hr a (a + 1) (by omega) (by omega); omega
 intro a h
 have := lo a h
 have := hi (n - a - 1) a (by omega)
 omega
theorem srt_done {L : List Scr} {R : List Int} (hp : Plc L.length R) (h : Srt L R L.length) : R = rnk L := by
 apply rnk_only hp.len
 have hc := rise_id (fun a => cntC L (pl R a)) L.length (fun a ha => cntC_lt (hp.low a ha).2) (fun a b hab hb => cntC_mono (hp.low a (by omega)).2 (h a b hab hb))
 intro i hi
 have hk := cntC_lt hi
 have he : pl R (cntC L i) = i := cntC_inj (hp.low _ hk).2 hi (hc _ hk)
 have hg := (hp.low _ hk).1
 rw [he] at hg
 rw [List.getD_eq_getElem?_getD] at hg
 rw [List.getElem?_eq_getElem (by rw [hp.len]; exact hk)] at hg ⊢
 simpa using hg
def cI (x y : Int) : Int := if x < y then -1 else if x > y then 1 else 0
def orI : List Int -> Int
 | [] => 0
 | x :: r => if x ≠ 0 then x else orI r
def cfL (L : List Scr) (a b : Nat) : Int := orI [cI (sc L b).p (sc L a).p, cI (sc L a).o (sc L b).o, cI (sc L b).h (sc L a).h, cI (a : Int) (b : Int)]
theorem cI_cases (x y : Int) : x < y /\ cI x y = -1 \/ x = y /\ cI x y = 0 \/ y < x /\ cI x y = 1 := by
 unfold cI
 by_cases h1 : x < y
 ·rw [if_pos h1]; exact .inl ⟨h1, rfl⟩
 ·rw [if_neg h1]
  by_cases h2 : x > y
  ·rw [if_pos h2]; exact .inr (.inr ⟨h2, rfl⟩)
  ·rw [if_neg h2]; exact .inr (.inl ⟨by omega, rfl⟩)
theorem orI_0 (r : List Int) : orI (0 :: r) = orI r := rfl
theorem orI_n (r : List Int) : orI (-1 :: r) = -1 := rfl
theorem orI_p (r : List Int) : orI (1 :: r) = 1 := rfl
theorem cfL_neg (L : List Scr) (a b : Nat) : decide (cfL L a b < 0) = ahd L a b := by
 have hi : ahd L a b = true ↔ cfL L a b < 0 := by
  rw [ahd_iff]
  unfold cfL Fore evn
  rcases cI_cases (sc L b).p (sc L a).p with ⟨h, e⟩ | ⟨h, e⟩ | ⟨h, e⟩
  ·rw [e, orI_n]; omega
  ·rw [e, orI_0]
   rcases cI_cases (sc L a).o (sc L b).o with ⟨g, e⟩ | ⟨g, e⟩ | ⟨g, e⟩
   ·rw [e, orI_n]; omega
   ·rw [e, orI_0]
    rcases cI_cases (sc L b).h (sc L a).h with ⟨k, e⟩ | ⟨k, e⟩ | ⟨k, e⟩
    ·rw [e, orI_n]; omega
    ·rw [e, orI_0]
     rcases cI_cases (a : Int) (b : Int) with ⟨m, e⟩ | ⟨m, e⟩ | ⟨m, e⟩
     ·rw [e, orI_n]; omega
     ·rw [e, orI_0]
      have z : orI [] = 0 := rfl
      rw [z]; omega
     ·rw [e, orI_p]; omega
    ·rw [e, orI_p]; omega
   ·rw [e, orI_p]; omega
  ·rw [e, orI_p]; omega
 cases e : ahd L a b with
 | true => exact decide_eq_true (hi.1 e)
 | false => exact decide_eq_false fun h => by rw [hi.2 h] at e; cases e
end Go.Proofs.YtdljmpjfiggdiaaDoor.Ea
