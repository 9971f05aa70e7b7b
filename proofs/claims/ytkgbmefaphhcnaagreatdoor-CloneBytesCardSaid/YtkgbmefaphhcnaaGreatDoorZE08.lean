/- Parts of the proof, laid end to end. -/
import Derived.Test.YtkgbmefaphhcnaaGreatDoorZE06
import Derived.Test.YtkgbmefaphhcnaaGreatDoorZE07
import Derived.Test.YtkgbmefaphhcnaaGreatDoorZE05
import Derived.Test.YtkgbmefaphhcnaaGreatDoorZE04
import Derived.Deep.OwnRows
import Derived.Laws.CopyRow
import Derived.Laws.OwnMore
set_option maxRecDepth 100000
namespace Go.Proofs.YtkgbmefaphhcnaaGreatDoor.Ha
open Pu Gp Ap Vp Np Za Ka Ja Ea
structure Cm where
 fr : Int
 pe : Int
 sq : Int
 v : Int
 a : Int
 b : Int
 c : Int
structure Nn where
 k : Int
 a : Int
 b : Int
structure Wd where
 fr : Int
 ms : List Mv
 cs : List Scr
 hs : List Sh
 ks : List Pk
 nx : Int
structure Env where
 sol : Int -> Int -> Bool
 st : List (Int × Int)
 sp : List (Int × Int)
 q : Int
structure Gm where
 w : Wd
 ns : List Nn
def act1 (g : Gm) (x : Cm) : Gm :=
 let m0 := mm g.w.ms x.pe.toNat
 let m := actM m0 x.v x.a x.b x.c
 let d := actD m0 x.v x.a x.b x.c
 if d = true /\ x.v = 4 /\ g.w.hs.length < 48 /\ g.w.nx <= 1099511627776 then
  ⟨{ g.w with ms := g.w.ms.set x.pe.toNat m, hs := g.w.hs ++ [firS m x.pe x.a g.w.nx], nx := g.w.nx + 1 }, g.ns ++ [⟨1, x.pe, g.w.nx⟩]⟩
 else if d = true /\ x.v = 7 then ⟨{ g.w with ms := g.w.ms.set x.pe.toNat m }, g.ns ++ [⟨8, x.pe, x.a⟩]⟩
 else ⟨{ g.w with ms := g.w.ms.set x.pe.toNat m }, g.ns⟩
def acts (l : List Cm) (g : Gm) : Gm := l.foldl act1 g
def glid (E : Env) (g : Gm) : Gm := ⟨{ g.w with ms := g.w.ms.map (gliM E.sol) }, g.ns⟩
def bnc1 (g : Gm) (t : Int × Int) : Gm :=
 let a := mm g.w.ms t.1.toNat
 let b := mm g.w.ms t.2.toNat
 ⟨{ g.w with ms := (g.w.ms.set t.1.toNat (aptA a b)).set t.2.toNat (aptA b a) }, g.ns ++ [⟨7, t.1, t.2⟩]⟩
def bncs (l : List (Int × Int)) (g : Gm) : Gm := l.foldl bnc1 g
def flsF (E : Env) (S : List Sh) : List Sh := (S.filter (goes E.sol)).map (flyS E.sol)
def harm (g : Gm) (s : Sh) (t : Int) : Gm :=
 let m := mm g.w.ms t.toNat
 if m.ou > 0 then g else
 let o := hurD m (dmg s.pw)
 let a := sc g.w.cs s.ow.toNat
 let b := sc g.w.cs t.toNat
 ⟨{ g.w with ms := g.w.ms.set t.toNat (hurM m (dmg s.pw)), cs := (g.w.cs.set s.ow.toNat (hit1 a b s.pw o)).set t.toNat (hit2 a b s.pw o) }, g.ns ++ [⟨2, t, s.ow⟩] ++ (if o then [⟨3, t, s.ow⟩] else [])⟩
def metB (l : List (Int × Int)) (i : Nat) : Bool := l.any fun t => t.1 == (i : Int)
def harmR (F : List Sh) (l : List (Int × Int)) (g : Gm) : Gm := l.foldl (fun g t => harm g (ss F t.1.toNat) t.2) g
def lefts {α : Type} (F : List α) (l : List (Int × Int)) : List α := (F.zipIdx.filter fun x => !metB l x.2).map (·.1)
def shts (E : Env) (g : Gm) : Gm :=
 let F := flsF E g.w.hs
 let l := sho g.w.ms F
 let g1 := harmR F l g
 ⟨{ g1.w with hs := lefts F l }, g1.ns⟩
def take1 (Q : List Pk) (g : Gm) (t : Int × Int) : Gm :=
 let x := pk Q t.1.toNat
 let m := mm g.w.ms t.2.toNat
 ⟨{ g.w with ms := g.w.ms.set t.2.toNat (takM m x.kd), cs := g.w.cs.set t.2.toNat (gain (sc g.w.cs t.2.toNat) (takP m x.kd)) }, g.ns ++ [⟨5, t.2, x.kd⟩]⟩
def takR (Q : List Pk) (l : List (Int × Int)) (g : Gm) : Gm := l.foldl (take1 Q) g
def pcks (E : Env) (f : Int) (g : Gm) : Gm :=
 let l := pic g.w.ms g.w.ks E.sp
 let g1 := takR g.w.ks l g
 let L := lefts g.w.ks l
 if g1.w.nx <= 1099511627776 /\ comes L f (E.sp.length : Int) g1.w.nx = true then
  let x := spwn E.q f L (E.sp.length : Int) g1.w.nx
  ⟨{ g1.w with ks := L ++ [x], nx := g1.w.nx + 1 }, g1.ns ++ [⟨6, x.sp, x.kd⟩]⟩
 else ⟨{ g1.w with ks := L }, g1.ns⟩
def restN (E : Env) (L : List Mv) : Nat -> List Mv
 | 0 => L
 | i + 1 => (restN E L i).set i (resM (mm L i) (pp E.st i).1 (pp E.st i).2)
def backN (L : List Mv) : Nat -> List Nn
 | 0 => []
 | i + 1 => backN L i ++ (if resD (mm L i) then [⟨4, (i : Int), 0⟩] else [])
def rsts (E : Env) (g : Gm) : Gm := ⟨{ g.w with ms := restN E g.w.ms g.w.ms.length }, g.ns ++ backN g.w.ms g.w.ms.length⟩
def frame (E : Env) (w : Wd) (l : List Cm) : Gm :=
 let f := w.fr + 1
 let g1 := glid E (acts l ⟨w, []⟩)
 let g2 := bncs (bod g1.w.ms) g1
 let g3 := rsts E (pcks E f (shts E g2))
 ⟨{ g3.w with fr := f }, g3.ns⟩
/-! What may be stays so. -/
theorem mm_at {L : List Mv} {i : Nat} (h : i < L.length) : mm L i = L[i] := by simp [mm, List.getD, h]
theorem ss_at {L : List Sh} {i : Nat} (h : i < L.length) : ss L i = L[i] := by simp [ss, List.getD, h]
def Seats (n : Nat) (w : Wd) : Prop := w.ms.length = n /\ (∀ i, i < n -> May (mm w.ms i)) /\ w.cs.length = n /\ ∀ i, i < n -> MayC (sc w.cs i)
theorem flo_pw {S : List Sh} : Flo S ↔ S.length <= 48 /\ (∀ s ∈ S, MayS s) /\ S.Pairwise fun a b => a.no < b.no := by
 constructor
 ·rintro ⟨h1, h2⟩
  have step : ∀ i j, i < j -> j < S.length -> (ss S i).no < (ss S j).no := by
   intro i j hij
   induction j with
   | zero => omega
   | succ j ih =>
    intro hj
    have h3 := (h2 (j + 1) hj).2 (by omega)
    rw [show j + 1 - 1 = j by omega] at h3
    by_cases e : i = j
    ·subst e; exact h3
    ·have := ih (by omega) (by omega)
     omega
  refine ⟨h1, fun s hs => ?_, ?_⟩
  ·obtain ⟨i, hi, rfl⟩ := List.mem_iff_getElem.1 hs
   have := (h2 i hi).1
   rw [ss_at hi] at this
   exact maySB_iff.1 this
  ·rw [List.pairwise_iff_getElem]
   intro i j hi hj hij
   have := step i j hij hj
   rwa [ss_at hi, ss_at hj] at this
 ·rintro ⟨h1, h2, h3⟩
  rw [List.pairwise_iff_getElem] at h3
  refine ⟨h1, fun i hi => ⟨?_, fun h0 => ?_⟩⟩
  ·rw [ss_at hi]; exact maySB_iff.2 (h2 _ (List.getElem_mem hi))
  ·have := h3 (i - 1) i (by omega) hi (by omega)
   rw [ss_at hi, ss_at (show i - 1 < S.length by omega)]
   exact this
theorem pk_at {L : List Pk} {i : Nat} (h : i < L.length) : pk L i = L[i] := by simp [pk, List.getD, h]
theorem mayK_pw {L : List Pk} {s : Int} : MayK L s ↔ (0 <= s /\ s <= 16) /\ L.length <= 8 /\ (∀ x ∈ L, (1 <= x.no /\ x.no <= 1099511627776) /\ (0 <= x.sp /\ x.sp < s) /\ 1 <= x.kd /\ x.kd <= 3) /\ (L.Pairwise fun a b => a.no < b.no) /\ L.Pairwise fun a b => a.sp ≠ b.sp := by
 constructor
 ·rintro ⟨h1, h2, h3⟩
  have step : ∀ i j, i < j -> j < L.length -> (pk L i).no < (pk L j).no := by
   intro i j hij
   induction j with
   | zero => omega
   | succ j ih =>
    intro hj
    have h4 := (h3 (j + 1) hj).2.1 (by omega)
    rw [show j + 1 - 1 = j by omega] at h4
    by_cases e : i = j
    ·subst e; exact h4
    ·have := ih (by omega) (by omega)
     omega
  refine ⟨h1, h2, fun x hx => ?_, ?_, ?_⟩
  ·obtain ⟨i, hi, rfl⟩ := List.mem_iff_getElem.1 hx
   obtain ⟨a1, _, a3, a4, _⟩ := h3 i hi
   rw [pk_at hi] at a1 a3 a4
   exact ⟨a1, a3, a4⟩
  ·rw [List.pairwise_iff_getElem]
   intro i j hi hj hij
   have := step i j hij hj
   rwa [pk_at hi, pk_at hj] at this
  ·rw [List.pairwise_iff_getElem]
   intro i j hi hj hij
   have := (h3 j hj).2.2.2.2 i hij
   rwa [pk_at hi, pk_at hj] at this
 ·rintro ⟨h1, h2, h3, h4, h5⟩
  rw [List.pairwise_iff_getElem] at h4 h5
  refine ⟨h1, h2, fun i hi => ?_⟩
  obtain ⟨a1, a3, a4⟩ := h3 _ (List.getElem_mem hi)
  refine ⟨by rw [pk_at hi]; exact a1, fun h0 => ?_, by rw [pk_at hi]; exact a3, by rw [pk_at hi]; exact a4, fun k hk => ?_⟩
  ·rw [pk_at hi, pk_at (show i - 1 < L.length by omega)]
   exact h4 (i - 1) i (by omega) hi (by omega)
  ·rw [pk_at hi, pk_at (show k < L.length by omega)]
   exact h5 k i (by omega) hi hk
def Rest (n : Nat) (E : Env) (w : Wd) : Prop := Flo w.hs /\ (∀ s ∈ w.hs, s.ow < (n : Int) /\ s.no < w.nx) /\ MayK w.ks (E.sp.length : Int) /\ (∀ x ∈ w.ks, x.no < w.nx) /\ 1 <= w.nx /\ w.nx <= 1099511627777
def Good (n : Nat) (E : Env) (w : Wd) : Prop := Seats n w /\ Rest n E w
end Go.Proofs.YtkgbmefaphhcnaaGreatDoor.Ha
namespace Go.Proofs.YtkgbmefaphhcnaaGreatDoor
open Go.RowKit
open Pu Gp Np Ka
set_option maxRecDepth 100000
abbrev kcs (x : Pk) : Array Value := #[.int .i64 x.no, .int .i64 x.sp, .int .i64 x.kd]
abbrev kv (x : Pk) : Value := .agg (kcs x)
def Kb (w : World) (g : Nat) (x : Pk) : Prop := w.heap[g]? = some (.cells (kcs x) 61 (0, 0))
theorem Kb.still {w w' : World} {g : Nat} {x : Pk} (h : Kb w g x) (hs : Still w w') : Kb w' g x := hs.kept_still h
theorem Kb.cells {w : World} {g : Nat} {x : Pk} (h : Kb w g x) : w.cell? ⟨g, 0, none⟩ = some (.int .i64 x.no) /\ w.cell? ⟨g, 1, none⟩ = some (.int .i64 x.sp) /\ w.cell? ⟨g, 2, none⟩ = some (.int .i64 x.kd) /\ ∀ o, w.frozen? ⟨g, o, none⟩ = false := by
 refine ⟨?_, ?_, ?_, fun o => frozen_of_row w g o _ _ h⟩ <;> (rw [cell_of_row _ _ _ _ _ _ h]; rfl)
abbrev newK (w : World) (x : Pk) : World := w.alloc (.cells (kcs x) 61)
theorem newK_kb (w : World) (x : Pk) : Kb (newK w x) w.heap.size x := heap_alloc_new w _
theorem Kb.put {w : World} {g : Nat} {x : Pk} (h0 : Kb w g x) (a b c : Int) : Kb (((w.setCell ⟨g, 0, none⟩ (.int .i64 a)).setCell ⟨g, 1, none⟩ (.int .i64 b)).setCell ⟨g, 2, none⟩ (.int .i64 c)) g ⟨a, b, c⟩ := by
 unfold Kb at h0 ⊢
 have h1 := heap_setCell_same _ g 0 _ _ (.int .i64 a) h0
 have h2 := heap_setCell_same _ g 1 _ _ (.int .i64 b) h1
 have h3 := heap_setCell_same _ g 2 _ _ (.int .i64 c) h2
 exact h3.trans (by kernel_rfl)
theorem Kb.load {w : World} {g : Nat} {x : Pk} (h : Kb w g x) : (loadVar 61 ⟨g, 0, none⟩).run Tryz.prog w = .ok (kv x) w := by
 obtain ⟨c0, c1, c2, cf⟩ := h.cells
 go_simp
def eqK (x y : Pk) : Bool := (x.no == y.no) && ((x.sp == y.sp) && (x.kd == y.kd))
theorem eqK_refl (x : Pk) : eqK x x = true := by unfold eqK; simp
theorem kpart_in (x : Pk) (w : World) : (part 3 (kcs x) 0).run Tryz.prog w = .ok (.int .i64 x.no) w /\ (part 3 (kcs x) 1).run Tryz.prog w = .ok (.int .i64 x.sp) w /\ (part 3 (kcs x) 2).run Tryz.prog w = .ok (.int .i64 x.kd) w := by
 refine ⟨?_, ?_, ?_⟩ <;> go_simp
theorem equal_kv (x y : Pk) (w : World) : (Op.equalIn 10000 61 (kv x) (kv y)).run Tryz.prog w = .ok (eqK x y) w := by
 have c0 := fun w => (kpart_in x w).1
 have d0 := fun w => (kpart_in y w).1
 have r0 := fun w => equal_int 9998 x.no y.no w
 have c1 := fun w => (kpart_in x w).2.1
 have d1 := fun w => (kpart_in y w).2.1
 have r1 := fun w => equal_int 9998 x.sp y.sp w
 have c2 := fun w => (kpart_in x w).2.2
 have d2 := fun w => (kpart_in y w).2.2
 have r2 := fun w => equal_int 9998 x.kd y.kd w
 rw [run_equalIn_struct w 9999 _ _ _ (by kernel_rfl) (by kernel_rfl)]
 have e : (Tryz.prog.fieldsOf 61) = #[⟨ "No", 3, 0, false, "", "", 0⟩, ⟨ "Spot", 3, 1, false, "", "", 8⟩, ⟨ "Kind", 3, 2, false, "", "", 16⟩] := by kernel_rfl
 rw [e]
 simp only [Op.eqFields, ne_eq, String.reduceEq, not_false_eq_true, if_true, Sem.run_bind, c0, c1, c2, d0, d1, d2, Result.andThen_ok, r0, r1, r2, Sem.run_ite, Sem.run_pure]
 unfold eqK
 exact st (st (st1 _))
theorem neq_kv (x y : Pk) (w : World) : (binOp .neq 61 (kv x) (kv y)).run Tryz.prog w = .ok (.bool (!eqK x y)) w := by
 rw [run_neq_struct, equal_kv]; rfl
theorem neq_kv_f (x : Pk) (w : World) : (binOp .neq 61 (kv x) (kv x)).run Tryz.prog w = .ok (.bool false) w := by
 rw [neq_kv, eqK_refl]; rfl
theorem guard_kv (op : BinOp) (a b : Operand) (xs ys : Array Value) (w : World) : (eqGuard op 61 a b (.agg xs) (.agg ys)).run Tryz.prog w = .ok () w := run_eqGuard_agg w op _ a b xs ys (by kernel_rfl)
def RdK (w : World) (ao : Option Addr) (n : Nat) (L : List Pk) : Prop := L.length = n /\ n <= 281474976710656 /\ (n = 0 \/ ∃ B o, ao = some ⟨B, o, none⟩ /\ ∀ i, i < n -> w.cell? ⟨B, o + i * 3, none⟩ = some (.int .i64 (pk L i).no) /\ w.cell? ⟨B, o + i * 3 + 1, none⟩ = some (.int .i64 (pk L i).sp) /\ w.cell? ⟨B, o + i * 3 + 2, none⟩ = some (.int .i64 (pk L i).kd))
theorem RdK.still {w w' : World} {ao : Option Addr} {n : Nat} {L : List Pk} (h : RdK w ao n L) (hs : Still w w') : RdK w' ao n L := by
 refine ⟨h.1, h.2.1, ?_⟩
 rcases h.2.2 with h0 | ⟨B, o, e, hc⟩
 ·exact .inl h0
 ·have on : ∀ {p : Addr} {x : Value}, w.cell? p = some x -> w'.cell? p = some x := fun hp => (hs.cell (World.block_lt_of_cell? w _ hp) (fun e => e)).trans hp
  exact .inr ⟨B, o, e, fun i hi => ⟨on (hc i hi).1, on (hc i hi).2.1, on (hc i hi).2.2⟩⟩
theorem RdK.at {w : World} {ao : Option Addr} {n : Nat} {L : List Pk} (h : RdK w ao n L) (hn : 0 < n) : ∃ B o, ao = some ⟨B, o, none⟩ /\ ∀ i, i < n -> w.cell? ⟨B, o + i * 3, none⟩ = some (.int .i64 (pk L i).no) /\ w.cell? ⟨B, o + i * 3 + 1, none⟩ = some (.int .i64 (pk L i).sp) /\ w.cell? ⟨B, o + i * 3 + 2, none⟩ = some (.int .i64 (pk L i).kd) := by
 rcases h.2.2 with h0 | h
 ·omega
 ·exact h
theorem info_kv : ∃ i, Tryz.prog.info? 61 = some i /\ i.zero = some (kv zK) /\ i.size = 3 /\ i.bytes = 24 := ⟨_, rfl, rfl, rfl, rfl⟩
theorem run_uptoK (w : World) (ao : Option Addr) (n cap : Nat) (x : Int) (h0 : 0 <= x) (h1 : x <= cap) :
  (Instr.slice 25 (.slice ao n cap) none (some (.int .i64 x)) none).run Tryz.prog w = .ok (.slice ao x.toNat cap) w := by
 obtain ⟨i, hi, _, hs, _⟩ := info_kv
 have ht : Tryz.prog.underlying 25 = some (.slice 61) := Tryz.underlying25
 have ht' : Tryz.prog.underlying 25 = some (.slice (Tryz.prog.elem 25)) := by simp [Program.elem, ht]
 have he : Tryz.prog.elem 25 = 61 := by simp [Program.elem, ht]
 rw [run_slice_h w 25 ao n cap ht' .i64 x h0 h1, he]
 have := cutAt_zero ao cap
 simp only [cutAt] at this
 simp [sizeOf, typeInfo, hi, hs, Result.andThen, sliced]
 simpa using this
end Go.Proofs.YtkgbmefaphhcnaaGreatDoor
set_option maxRecDepth 100000
namespace Go.Proofs.YtkgbmefaphhcnaaGreatDoor.Ha
open Pu Gp Ap Vp Np Za Ka Ja Ea
/-! Commands in order. -/
/-! The seed. -/
/-! What notes tell. -/
end Go.Proofs.YtkgbmefaphhcnaaGreatDoor.Ha
