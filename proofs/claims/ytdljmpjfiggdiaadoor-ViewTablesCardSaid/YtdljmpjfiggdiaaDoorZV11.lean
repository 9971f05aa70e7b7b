/- Parts of the proof, laid end to end. -/
import Derived.Test.YtdljmpjfiggdiaaDoorZV09
import Derived.Test.YtdljmpjfiggdiaaDoorZV10
import Derived.Test.YtdljmpjfiggdiaaDoorZV07
import Derived.Test.YtdljmpjfiggdiaaDoorZV04
import Derived.Test.YtdljmpjfiggdiaaDoorZV08
import Derived.Deep.OwnRows
import Derived.Laws.CopyRow
import Derived.Laws.OwnMore
namespace Go.Proofs.YtdljmpjfiggdiaaDoor.Ha
open Pu Gp Ap Vp Np Za Ka Ja Ea
structure Cm where
 fr : Int
 pe : Int
 sq : Int
 v : Int
 a : Int
 b : Int
 c : Int
structure Nn where
 k : Int
 a : Int
 b : Int
structure Wd where
 fr : Int
 ms : List Mv
 cs : List Scr
 hs : List Sh
 ks : List Pk
 nx : Int
structure Env where
 sol : Int -> Int -> Bool
 st : List (Int × Int)
 sp : List (Int × Int)
 q : Int
structure Gm where
 w : Wd
 ns : List Nn
def act1 (g : Gm) (x : Cm) : Gm :=
 let m0 := mm g.w.ms x.pe.toNat
 let m := actM m0 x.v x.a x.b x.c
 let d := actD m0 x.v x.a x.b x.c
 if d = true /\ x.v = 4 /\ g.w.hs.length < 48 /\ g.w.nx <= 1099511627776 then
  ⟨{ g.w with ms := g.w.ms.set x.pe.toNat m, hs := g.w.hs ++ [firS m x.pe x.a g.w.nx], nx := g.w.nx + 1 }, g.ns ++ [⟨1, x.pe, g.w.nx⟩]⟩
 else if d = true /\ x.v = 7 then ⟨{ g.w with ms := g.w.ms.set x.pe.toNat m }, g.ns ++ [⟨8, x.pe, x.a⟩]⟩
 else ⟨{ g.w with ms := g.w.ms.set x.pe.toNat m }, g.ns⟩
def acts (l : List Cm) (g : Gm) : Gm := l.foldl act1 g
def glid (E : Env) (g : Gm) : Gm := ⟨{ g.w with ms := g.w.ms.map (gliM E.sol) }, g.ns⟩
def bnc1 (g : Gm) (t : Int × Int) : Gm :=
 let a := mm g.w.ms t.1.toNat
 let b := mm g.w.ms t.2.toNat
 ⟨{ g.w with ms := (g.w.ms.set t.1.toNat (aptA a b)).set t.2.toNat (aptA b a) }, g.ns ++ [⟨7, t.1, t.2⟩]⟩
def bncs (l : List (Int × Int)) (g : Gm) : Gm := l.foldl bnc1 g
def flsF (E : Env) (S : List Sh) : List Sh := (S.filter (goes E.sol)).map (flyS E.sol)
def harm (g : Gm) (s : Sh) (t : Int) : Gm :=
 let m := mm g.w.ms t.toNat
 if m.ou > 0 then g else
 let o := hurD m (dmg s.pw)
 let a := sc g.w.cs s.ow.toNat
 let b := sc g.w.cs t.toNat
 ⟨{ g.w with ms := g.w.ms.set t.toNat (hurM m (dmg s.pw)), cs := (g.w.cs.set s.ow.toNat (hit1 a b s.pw o)).set t.toNat (hit2 a b s.pw o) }, g.ns ++ [⟨2, t, s.ow⟩] ++ (if o then [⟨3, t, s.ow⟩] else [])⟩
def metB (l : List (Int × Int)) (i : Nat) : Bool := l.any fun t => t.1 == (i : Int)
def harmR (F : List Sh) (l : List (Int × Int)) (g : Gm) : Gm := l.foldl (fun g t => harm g (ss F t.1.toNat) t.2) g
def lefts {α : Type} (F : List α) (l : List (Int × Int)) : List α := (F.zipIdx.filter fun x => !metB l x.2).map (·.1)
def shts (E : Env) (g : Gm) : Gm :=
 let F := flsF E g.w.hs
 let l := sho g.w.ms F
 let g1 := harmR F l g
 ⟨{ g1.w with hs := lefts F l }, g1.ns⟩
def take1 (Q : List Pk) (g : Gm) (t : Int × Int) : Gm :=
 let x := pk Q t.1.toNat
 let m := mm g.w.ms t.2.toNat
 ⟨{ g.w with ms := g.w.ms.set t.2.toNat (takM m x.kd), cs := g.w.cs.set t.2.toNat (gain (sc g.w.cs t.2.toNat) (takP m x.kd)) }, g.ns ++ [⟨5, t.2, x.kd⟩]⟩
def takR (Q : List Pk) (l : List (Int × Int)) (g : Gm) : Gm := l.foldl (take1 Q) g
def pcks (E : Env) (f : Int) (g : Gm) : Gm :=
 let l := pic g.w.ms g.w.ks E.sp
 let g1 := takR g.w.ks l g
 let L := lefts g.w.ks l
 if g1.w.nx <= 1099511627776 /\ comes L f (E.sp.length : Int) g1.w.nx = true then
  let x := spwn E.q f L (E.sp.length : Int) g1.w.nx
  ⟨{ g1.w with ks := L ++ [x], nx := g1.w.nx + 1 }, g1.ns ++ [⟨6, x.sp, x.kd⟩]⟩
 else ⟨{ g1.w with ks := L }, g1.ns⟩
def restN (E : Env) (L : List Mv) : Nat -> List Mv
 | 0 => L
 | i + 1 => (restN E L i).set i (resM (mm L i) (pp E.st i).1 (pp E.st i).2)
def backN (L : List Mv) : Nat -> List Nn
 | 0 => []
 | i + 1 => backN L i ++ (if resD (mm L i) then [⟨4, (i : Int), 0⟩] else [])
def rsts (E : Env) (g : Gm) : Gm := ⟨{ g.w with ms := restN E g.w.ms g.w.ms.length }, g.ns ++ backN g.w.ms g.w.ms.length⟩
def frame (E : Env) (w : Wd) (l : List Cm) : Gm :=
 let f := w.fr + 1
 let g1 := glid E (acts l ⟨w, []⟩)
 let g2 := bncs (bod g1.w.ms) g1
 let g3 := rsts E (pcks E f (shts E g2))
 ⟨{ g3.w with fr := f }, g3.ns⟩
/-! What may be stays so. -/
theorem mm_at {L : List Mv} {i : Nat} (h : i < L.length) : mm L i = L[i] := by simp [mm, List.getD, h]
theorem ss_at {L : List Sh} {i : Nat} (h : i < L.length) : ss L i = L[i] := by simp [ss, List.getD, h]
theorem mm_set {T : List Mv} {j k : Nat} {x : Mv} (hj : j < T.length) : mm (T.set j x) k = if k = j then x else mm T k := by
 unfold mm
 by_cases h : k = j
 ·subst h; simp [List.getD, hj]
 ·rw [if_neg h]; simp [List.getD, List.getElem?_set_ne (Ne.symm h)]
theorem scs_set {T : List Scr} {j k : Nat} {x : Scr} (hj : j < T.length) : sc (T.set j x) k = if k = j then x else sc T k := by
 unfold sc
 by_cases h : k = j
 ·subst h; simp [List.getD, hj]
 ·rw [if_neg h]; simp [List.getD, List.getElem?_set_ne (Ne.symm h)]
def Seats (n : Nat) (w : Wd) : Prop := w.ms.length = n /\ (∀ i, i < n -> May (mm w.ms i)) /\ w.cs.length = n /\ ∀ i, i < n -> MayC (sc w.cs i)
theorem Seats.setM {n : Nat} {w : Wd} {j : Nat} {x : Mv} (h : Seats n w) (hj : j < n) (hx : May x) : Seats n { w with ms := w.ms.set j x } := by
 obtain ⟨h1, h2, h3, h4⟩ := h
 refine ⟨by simpa using h1, fun i hi => ?_, h3, h4⟩
 show May (mm (w.ms.set j x) i)
 rw [mm_set (by omega)]
 split
 ·exact hx
 ·exact h2 i hi
theorem Seats.setC {n : Nat} {w : Wd} {j : Nat} {x : Scr} (h : Seats n w) (hj : j < n) (hx : MayC x) : Seats n { w with cs := w.cs.set j x } := by
 obtain ⟨h1, h2, h3, h4⟩ := h
 refine ⟨h1, h2, by simpa using h3, fun i hi => ?_⟩
 show MayC (sc (w.cs.set j x) i)
 rw [scs_set (by omega)]
 split
 ·exact hx
 ·exact h4 i hi
theorem flo_pw {S : List Sh} : Flo S ↔ S.length <= 48 /\ (∀ s ∈ S, MayS s) /\ S.Pairwise fun a b => a.no < b.no := by
 constructor
 ·rintro ⟨h1, h2⟩
  have step : ∀ i j, i < j -> j < S.length -> (ss S i).no < (ss S j).no := by
   intro i j hij
   induction j with
   | zero => omega
   | succ j ih =>
    intro hj
    have h3 := (h2 (j + 1) hj).2 (by omega)
    rw [show j + 1 - 1 = j by omega] at h3
    by_cases e : i = j
    ·subst e; exact h3
    ·have := ih (by omega) (by omega)
     omega
  refine ⟨h1, fun s hs => ?_, ?_⟩
  ·obtain ⟨i, hi, rfl⟩ := List.mem_iff_getElem.1 hs
   have := (h2 i hi).1
   rw [ss_at hi] at this
   exact maySB_iff.1 this
  ·rw [List.pairwise_iff_getElem]
   intro i j hi hj hij
   have := step i j hij hj
   rwa [ss_at hi, ss_at hj] at this
 ·rintro ⟨h1, h2, h3⟩
  rw [List.pairwise_iff_getElem] at h3
  refine ⟨h1, fun i hi => ⟨?_, fun h0 => ?_⟩⟩
  ·rw [ss_at hi]; exact maySB_iff.2 (h2 _ (List.getElem_mem hi))
  ·have := h3 (i - 1) i (by omega) hi (by omega)
   rw [ss_at hi, ss_at (show i - 1 < S.length by omega)]
   exact this
theorem pk_at {L : List Pk} {i : Nat} (h : i < L.length) : pk L i = L[i] := by simp [pk, List.getD, h]
theorem mayK_pw {L : List Pk} {s : Int} : MayK L s ↔ (0 <= s /\ s <= 16) /\ L.length <= 8 /\ (∀ x ∈ L, (1 <= x.no /\ x.no <= 1099511627776) /\ (0 <= x.sp /\ x.sp < s) /\ 1 <= x.kd /\ x.kd <= 3) /\ (L.Pairwise fun a b => a.no < b.no) /\ L.Pairwise fun a b => a.sp ≠ b.sp := by
 constructor
 ·rintro ⟨h1, h2, h3⟩
  have step : ∀ i j, i < j -> j < L.length -> (pk L i).no < (pk L j).no := by
   intro i j hij
   induction j with
   | zero => omega
   | succ j ih =>
    intro hj
    have h4 := (h3 (j + 1) hj).2.1 (by omega)
    rw [show j + 1 - 1 = j by omega] at h4
    by_cases e : i = j
    ·subst e; exact h4
    ·have := ih (by omega) (by omega)
     omega
  refine ⟨h1, h2, fun x hx => ?_, ?_, ?_⟩
  ·obtain ⟨i, hi, rfl⟩ := List.mem_iff_getElem.1 hx
   obtain ⟨a1, _, a3, a4, _⟩ := h3 i hi
   rw [pk_at hi] at a1 a3 a4
   exact ⟨a1, a3, a4⟩
  ·rw [List.pairwise_iff_getElem]
   intro i j hi hj hij
   have := step i j hij hj
   rwa [pk_at hi, pk_at hj] at this
  ·rw [List.pairwise_iff_getElem]
   intro i j hi hj hij
   have := (h3 j hj).2.2.2.2 i hij
   rwa [pk_at hi, pk_at hj] at this
 ·rintro ⟨h1, h2, h3, h4, h5⟩
  rw [List.pairwise_iff_getElem] at h4 h5
  refine ⟨h1, h2, fun i hi => ?_⟩
  obtain ⟨a1, a3, a4⟩ := h3 _ (List.getElem_mem hi)
  refine ⟨by rw [pk_at hi]; exact a1, fun h0 => ?_, by rw [pk_at hi]; exact a3, by rw [pk_at hi]; exact a4, fun k hk => ?_⟩
  ·rw [pk_at hi, pk_at (show i - 1 < L.length by omega)]
   exact h4 (i - 1) i (by omega) hi (by omega)
  ·rw [pk_at hi, pk_at (show k < L.length by omega)]
   exact h5 k i (by omega) hi hk
theorem lefts_sub {α : Type} (F : List α) (l : List (Int × Int)) : (lefts F l).Sublist F := by
 unfold lefts
 have h : ((F.zipIdx.filter fun x => !metB l x.2).map (·.1)).Sublist (F.zipIdx.map (·.1)) := (List.filter_sublist).map _
 rwa [List.zipIdx_map_fst] at h
def Rest (n : Nat) (E : Env) (w : Wd) : Prop := Flo w.hs /\ (∀ s ∈ w.hs, s.ow < (n : Int) /\ s.no < w.nx) /\ MayK w.ks (E.sp.length : Int) /\ (∀ x ∈ w.ks, x.no < w.nx) /\ 1 <= w.nx /\ w.nx <= 1099511627777
def Good (n : Nat) (E : Env) (w : Wd) : Prop := Seats n w /\ Rest n E w
def Rgt (n : Nat) (x : Cm) : Prop := 0 <= x.pe /\ x.pe < (n : Int) /\ 1 <= x.sq /\ chkO x.v x.a x.b x.c = 0
theorem good_act1 {n : Nat} {E : Env} {g : Gm} {x : Cm} (hn : n <= 6) (h : Good n E g.w) (hx : Rgt n x) : Good n E (act1 g x).w := by
 obtain ⟨hS, hR⟩ := h
 obtain ⟨p0, p1, p2, p3⟩ := hx
 have hp : x.pe.toNat < n := by omega
 have he : errA (mm g.w.ms x.pe.toNat) x.v x.a x.b x.c = 0 := by unfold errA; rw [mayB_iff.2 (hS.2.1 _ hp)]; exact p3
 have hm := may_act he
 have hS' := hS.setM hp hm
 unfold act1
 dsimp only
 split
 ·rename_i hc
  obtain ⟨_, c2, c3, c4⟩ := hc
  obtain ⟨r1, r2, r3, r4, r5, r6⟩ := hR
  have ha : 1 <= x.a /\ x.a <= 3 := by have := chk_rng p3; omega
  have harg : argB x.pe x.a g.w.nx = true := argB_iff.2 ⟨⟨p0, by omega⟩, ha, r5, c4⟩
  have hf : firS (actM (mm g.w.ms x.pe.toNat) x.v x.a x.b x.c) x.pe x.a g.w.nx = fired (actM (mm g.w.ms x.pe.toNat) x.v x.a x.b x.c) x.pe x.a g.w.nx := by
   unfold firS errF
   rw [mayB_iff.2 hm, harg]
   rfl
  refine ⟨hS', ?_, ?_, r3, fun y hy => by have := r4 y hy; show _ < _ + 1; omega, by show 1 <= _ + 1; omega, by show _ + 1 <= _; omega⟩
  ·rw [hf]
   obtain ⟨q1, q2, q3⟩ := flo_pw.1 r1
   refine flo_pw.2 ⟨by simp; omega, fun s hs => ?_, ?_⟩
   ·rcases List.mem_append.1 hs with hs | hs
    ·exact q2 s hs
    ·rw [List.mem_singleton.1 hs]; exact may_fired harg
   ·rw [List.pairwise_append]
    refine ⟨q3, List.pairwise_singleton _ _, fun a ha b hb => ?_⟩
    rw [List.mem_singleton.1 hb]
    exact (r2 a ha).2
  ·intro s hs
   rw [hf] at hs
   rcases List.mem_append.1 hs with hs | hs
   ·have := r2 s hs
    exact ⟨this.1, by show _ < _ + 1; omega⟩
   ·rw [List.mem_singleton.1 hs]
    exact ⟨p1, by show g.w.nx < g.w.nx + 1; omega⟩
 ·split
  ·exact ⟨hS', hR⟩
  ·exact ⟨hS', hR⟩
theorem good_acts {n : Nat} {E : Env} (hn : n <= 6) : ∀ (l : List Cm) (g : Gm), Good n E g.w -> (∀ x ∈ l, Rgt n x) -> Good n E (acts l g).w
 | [], _, h, _ => h
 | x :: l, g, h, hl => good_acts hn l (act1 g x) (good_act1 hn h (hl x (List.mem_cons_self ..))) (fun y hy => hl y (List.mem_cons_of_mem _ hy))
theorem good_glid {n : Nat} {E : Env} {g : Gm} (h : Good n E g.w) : Good n E (glid E g).w := by
 obtain ⟨⟨h1, h2, h3, h4⟩, hR⟩ := h
 refine ⟨⟨by simpa [glid] using h1, fun i hi => ?_, h3, h4⟩, hR⟩
 have := may_glide E.sol (h2 i hi)
 rw [mm_at (by omega)] at this
 show May (mm (g.w.ms.map (gliM E.sol)) i)
 rw [mm_at (by simp; omega), List.getElem_map]
 exact this
theorem may_apt {a b : Mv} (ha : May a) (hb : May b) : May (aptA a b) := by
 unfold aptA aptE
 rw [mayB_iff.2 ha, mayB_iff.2 hb]
 simp only [Bool.and_self, if_true]
 split
 ·rename_i ho
  obtain ⟨a1, a2, a3, a4, a5, a6, a7, a8, a9, a10, a11⟩ := ha
  obtain ⟨_, b2, _⟩ := hb
  exact ⟨a1, b2, a3, a4, a5, a6, a7, a8, a9, a10, fun h => absurd ho.1 h⟩
 ·exact ha
theorem good_bnc1 {n : Nat} {E : Env} {g : Gm} {t : Int × Int} (h : Good n E g.w) (h1 : t.1.toNat < n) (h2 : t.2.toNat < n) : Good n E (bnc1 g t).w := by
 obtain ⟨hS, hR⟩ := h
 have ma := hS.2.1 _ h1
 have mb := hS.2.1 _ h2
 exact ⟨(hS.setM h1 (may_apt ma mb)).setM h2 (may_apt mb ma), hR⟩
theorem good_bncs {n : Nat} {E : Env} : ∀ (l : List (Int × Int)) (g : Gm), Good n E g.w -> (∀ t ∈ l, t.1.toNat < n /\ t.2.toNat < n) -> Good n E (bncs l g).w
 | [], _, h, _ => h
 | x :: l, g, h, hl => good_bncs l (bnc1 g x) (good_bnc1 h (hl x (List.mem_cons_self ..)).1 (hl x (List.mem_cons_self ..)).2) (fun y hy => hl y (List.mem_cons_of_mem _ hy))
theorem bod_in {L : List Mv} : ∀ t ∈ bod L, t.1.toNat < L.length /\ t.2.toNat < L.length := by
 intro t ht
 unfold bod at ht
 split at ht
 ·obtain ⟨i, j, h1, h2, h3, rfl, _⟩ := allB_mem ht
  exact ⟨by simpa using h1, by simpa using h2⟩
 ·simp at ht
theorem fls_no {sol : Int -> Int -> Bool} {s : Sh} (h : goes sol s = true) : (flyS sol s).no = s.no /\ (flyS sol s).ow = s.ow /\ (flyS sol s).pw = s.pw /\ MayS (flyS sol s) := by
 have e : flyS sol s = flown sol s := by unfold flyS; rw [if_pos h]
 rw [e]
 exact ⟨rfl, rfl, rfl, may_flown h⟩
theorem flo_fls {E : Env} {S : List Sh} (h : Flo S) : Flo (flsF E S) /\ ∀ s ∈ flsF E S, ∃ t ∈ S, s.no = t.no /\ s.ow = t.ow := by
 obtain ⟨h1, h2, h3⟩ := flo_pw.1 h
 have hsub : ∀ s ∈ flsF E S, ∃ t ∈ S, goes E.sol t = true /\ s = flyS E.sol t := by
  intro s hs
  unfold flsF at hs
  obtain ⟨t, ht, rfl⟩ := List.mem_map.1 hs
  obtain ⟨ht1, ht2⟩ := List.mem_filter.1 ht
  exact ⟨t, ht1, ht2, rfl⟩
 refine ⟨flo_pw.2 ⟨?_, fun s hs => ?_, ?_⟩, fun s hs => ?_⟩
 ·unfold flsF
  have := List.length_filter_le (goes E.sol) S
  simp
  omega
 ·obtain ⟨t, _, ht, rfl⟩ := hsub s hs
  exact (fls_no ht).2.2.2
 ·unfold flsF
  rw [List.pairwise_map]
  have h4 := h3.filter (goes E.sol)
  refine List.Pairwise.imp_of_mem ?_ h4
  intro a b ha hb hab
  rw [(fls_no (List.mem_filter.1 ha).2).1, (fls_no (List.mem_filter.1 hb).2).1]
  exact hab
 ·obtain ⟨t, ht0, ht, rfl⟩ := hsub s hs
  exact ⟨t, ht0, (fls_no ht).1, (fls_no ht).2.1⟩
theorem flo_sub {S T : List Sh} (h : Flo S) (hs : T.Sublist S) : Flo T := by
 obtain ⟨h1, h2, h3⟩ := flo_pw.1 h
 exact flo_pw.2 ⟨Nat.le_trans hs.length_le h1, fun s hm => h2 s (hs.subset hm), h3.sublist hs⟩
theorem mayK_sub {S T : List Pk} {s : Int} (h : MayK S s) (hs : T.Sublist S) : MayK T s := by
 obtain ⟨h0, h1, h2, h3, h4⟩ := mayK_pw.1 h
 exact mayK_pw.2 ⟨h0, Nat.le_trans hs.length_le h1, fun s hm => h2 s (hs.subset hm), h3.sublist hs, h4.sublist hs⟩
theorem harm_keeps (g : Gm) (s : Sh) (t : Int) : (harm g s t).w.fr = g.w.fr /\ (harm g s t).w.hs = g.w.hs /\ (harm g s t).w.ks = g.w.ks /\ (harm g s t).w.nx = g.w.nx := by
 unfold harm
 dsimp only
 split <;> exact ⟨rfl, rfl, rfl, rfl⟩
theorem may_hits {a b : Scr} {n : Int} {o : Bool} (ha : MayC a) (hb : MayC b) (hn : 1 <= n /\ n <= 3) : MayC (hit1 a b n o) /\ MayC (hit2 a b n o) := by
 have e := errC_yes ha hb hn
 unfold hit1 hit2
 rw [if_pos e, if_pos e]
 exact ⟨may_hitA ha, may_hitW hb⟩
theorem seats_harm {n : Nat} {g : Gm} {s : Sh} {t : Int} (h : Seats n g.w) (hs : MayS s) (ho : s.ow.toNat < n) (ht : t.toNat < n) : Seats n (harm g s t).w := by
 unfold harm
 dsimp only
 split
 ·exact h
 ·have hp : 1 <= s.pw /\ s.pw <= 3 := hs.2.2.1
  have he : errH (mm g.w.ms t.toNat) (dmg s.pw) = 0 := by
   have hd : dmg s.pw = 15 * s.pw := by unfold dmg; rw [if_neg (by omega)]
   unfold errH
   rw [mayB_iff.2 (h.2.1 _ ht), hd]
   simp only [if_true]
   rw [if_neg (by omega)]
  obtain ⟨m1, m2⟩ := may_hits (o := hurD (mm g.w.ms t.toNat) (dmg s.pw)) (h.2.2.2 _ ho) (h.2.2.2 _ ht) hp
  exact ((h.setM ht (may_hurt he)).setC ho m1).setC ht m2
theorem seats_harms {n : Nat} {F : List Sh} (hF : ∀ i, i < F.length -> MayS (ss F i) /\ (ss F i).ow.toNat < n) : ∀ (l : List (Int × Int)) (g : Gm), Seats n g.w -> (∀ t ∈ l, t.1.toNat < F.length /\ t.2.toNat < n) -> Seats n (harmR F l g).w /\ (harmR F l g).w.ks = g.w.ks /\ (harmR F l g).w.nx = g.w.nx /\ (harmR F l g).w.fr = g.w.fr
 | [], g, h, _ => ⟨h, rfl, rfl, rfl⟩
 | t :: l, g, h, hl => by
  obtain ⟨t1, t2⟩ := hl t (List.mem_cons_self ..)
  have hk := harm_keeps g (ss F t.1.toNat) t.2
  have ih := seats_harms hF l (harm g (ss F t.1.toNat) t.2) (seats_harm h (hF _ t1).1 (hF _ t1).2 t2) (fun y hy => hl y (List.mem_cons_of_mem _ hy))
  show Seats n (harmR F l (harm g (ss F t.1.toNat) t.2)).w /\ _
  refine ⟨ih.1, ih.2.1.trans hk.2.2.1, ih.2.2.1.trans hk.2.2.2, ih.2.2.2.trans hk.1⟩
theorem rowS_in {P : Nat -> Nat -> Bool} {n m : Nat} : ∀ t ∈ rowS P n m, t.1.toNat < m /\ t.2.toNat < n := by
 intro t ht
 obtain ⟨i, hi, rfl⟩ := List.mem_iff_getElem.1 ht
 obtain ⟨j, k, h1, h2, h3, _⟩ := rowS_at P n m i hi
 rw [h3]
 exact ⟨by simpa using h1, by simpa using h2⟩
theorem sho_in {L : List Mv} {S : List Sh} : ∀ t ∈ sho L S, t.1.toNat < S.length /\ t.2.toNat < L.length := by
 intro t ht
 unfold sho at ht
 split at ht
 ·exact rowS_in t ht
 ·simp at ht
theorem pic_in {L : List Mv} {Q : List Pk} {T : List (Int × Int)} : ∀ t ∈ pic L Q T, t.1.toNat < Q.length /\ t.2.toNat < L.length := by
 intro t ht
 unfold pic at ht
 split at ht
 ·exact rowS_in t ht
 ·simp at ht
theorem good_shts {n : Nat} {E : Env} {g : Gm} (h : Good n E g.w) : Good n E (shts E g).w := by
 obtain ⟨hS, r1, r2, r3, r4, r5, r6⟩ := h
 obtain ⟨f1, f2⟩ := flo_fls (E := E) r1
 have hF : ∀ i, i < (flsF E g.w.hs).length -> MayS (ss (flsF E g.w.hs) i) /\ (ss (flsF E g.w.hs) i).ow.toNat < n := fun i hi => by
  have hm : ss (flsF E g.w.hs) i ∈ flsF E g.w.hs := by rw [ss_at hi]; exact List.getElem_mem hi
  have h1 := (flo_pw.1 f1).2.1 _ hm
  obtain ⟨t, ht, _, h3⟩ := f2 _ hm
  have h4 := (r2 t ht).1
  have h5 : 0 <= (ss (flsF E g.w.hs) i).ow := h1.2.1.1
  exact ⟨h1, by omega⟩
 obtain ⟨k1, k2, k3, k4⟩ := seats_harms hF (sho g.w.ms (flsF E g.w.hs)) g hS (fun t ht => by
  have := sho_in t ht
  exact ⟨this.1, by rw [<- hS.1]; exact this.2⟩)
 unfold shts
 dsimp only
 have hsub := lefts_sub (flsF E g.w.hs) (sho g.w.ms (flsF E g.w.hs))
 refine ⟨k1, flo_sub f1 hsub, fun s hs => ?_, by rw [k2]; exact r3, fun x hx => by rw [k3]; rw [k2] at hx; exact r4 x hx, by rw [k3]; exact r5, by rw [k3]; exact r6⟩
 obtain ⟨t, ht, e1, e2⟩ := f2 s (hsub.subset hs)
 have := r2 t ht
 exact ⟨by rw [e2]; exact this.1, by show s.no < _; rw [k3, e1]; exact this.2⟩
theorem may_take {m : Mv} {k : Int} (hm : May m) (hk : 1 <= k /\ k <= 3) : May (takM m k) /\ 0 <= takP m k /\ takP m k <= 5 := by
 have e : errT m k = 0 := by unfold errT; rw [mayB_iff.2 hm, if_pos hk]; rfl
 refine ⟨?_, ?_, ?_⟩
 ·unfold takM taken
  rw [if_pos e]
  obtain ⟨a1, a2, a3, a4, a5, a6, a7, a8, a9, a10, a11⟩ := hm
  split
  ·rename_i ho
   have h10 := a10 ho
   split
   ·exact ⟨a1, a2, a3, a4, by show 0 <= min (m.hl + 30) 100 /\ min (m.hl + 30) 100 <= 100; omega, a6, a7, a8, a9, fun _ => by show 1 <= min (m.hl + 30) 100; omega, fun h => absurd ho h⟩
   ·split
    ·exact ⟨a1, a2, a3, a4, a5, by show 0 <= min (m.en + 40) 100 /\ min (m.en + 40) 100 <= 100; omega, a7, a8, a9, a10, fun h => absurd ho h⟩
    ·exact ⟨a1, a2, a3, a4, a5, a6, a7, a8, a9, a10, a11⟩
  ·exact ⟨a1, a2, a3, a4, a5, a6, a7, a8, a9, a10, a11⟩
 ·unfold takP; split <;> omega
 ·unfold takP; split <;> omega
theorem may_gains {s : Scr} {n : Int} (hs : MayC s) (hn : 0 <= n /\ n <= 100) : MayC (gain s n) := by
 unfold gain
 rw [if_pos (errG_yes hs hn)]
 exact may_gain hs
theorem seats_take {n : Nat} {Q : List Pk} {g : Gm} {t : Int × Int} (h : Seats n g.w) (hk : 1 <= (pk Q t.1.toNat).kd /\ (pk Q t.1.toNat).kd <= 3) (ht : t.2.toNat < n) : Seats n (take1 Q g t).w := by
 obtain ⟨m1, m2, m3⟩ := may_take (h.2.1 _ ht) hk
 exact (h.setM ht m1).setC ht (may_gains (h.2.2.2 _ ht) ⟨m2, by omega⟩)
theorem seats_takes {n : Nat} {Q : List Pk} (hQ : ∀ i, i < Q.length -> 1 <= (pk Q i).kd /\ (pk Q i).kd <= 3) : ∀ (l : List (Int × Int)) (g : Gm), Seats n g.w -> (∀ t ∈ l, t.1.toNat < Q.length /\ t.2.toNat < n) -> Seats n (takR Q l g).w /\ (takR Q l g).w.hs = g.w.hs /\ (takR Q l g).w.nx = g.w.nx /\ (takR Q l g).w.fr = g.w.fr
 | [], g, h, _ => ⟨h, rfl, rfl, rfl⟩
 | t :: l, g, h, hl => by
  obtain ⟨t1, t2⟩ := hl t (List.mem_cons_self ..)
  have ih := seats_takes hQ l (take1 Q g t) (seats_take h (hQ _ t1) t2) (fun y hy => hl y (List.mem_cons_of_mem _ hy))
  exact ih
theorem good_pcks {n : Nat} {E : Env} {f : Int} {g : Gm} (h : Good n E g.w) : Good n E (pcks E f g).w := by
 obtain ⟨hS, r1, r2, r3, r4, r5, r6⟩ := h
 have hQ : ∀ i, i < g.w.ks.length -> 1 <= (pk g.w.ks i).kd /\ (pk g.w.ks i).kd <= 3 := fun i hi => (r3.2.2 i hi).2.2.2.1
 obtain ⟨k1, k2, k3, k4⟩ := seats_takes hQ (pic g.w.ms g.w.ks E.sp) g hS (fun t ht => by
  have := pic_in t ht
  exact ⟨this.1, by rw [<- hS.1]; exact this.2⟩)
 have hsub := lefts_sub g.w.ks (pic g.w.ms g.w.ks E.sp)
 have hL := mayK_sub r3 hsub
 have hN : ∀ x ∈ lefts g.w.ks (pic g.w.ms g.w.ks E.sp), x.no < g.w.nx := fun x hx => r4 x (hsub.subset hx)
 unfold pcks
 dsimp only
 split
 ·rename_i hc
  rw [k3] at hc
  refine ⟨k1, by rw [k2]; exact r1, fun s hs => ?_, ?_, fun x hx => ?_, (by rw [k3]; omega : 1 <= (takR g.w.ks (pic g.w.ms g.w.ks E.sp) g).w.nx + 1), (by rw [k3]; omega : (takR g.w.ks (pic g.w.ms g.w.ks E.sp) g).w.nx + 1 <= 1099511627777)⟩
  ·rw [k2] at hs
   have := r2 s hs
   exact ⟨this.1, by show s.no < _ + 1; rw [k3]; omega⟩
  ·rw [k3]
   exact may_spawn hc.2 (fun i hi => by rw [pk_at hi]; exact hN _ (List.getElem_mem hi))
  ·show x.no < _ + 1
   rw [k3]
   rcases List.mem_append.1 hx with hx | hx
   ·have := hN x hx; omega
   ·rw [List.mem_singleton.1 hx, k3]
    have e : (spwn E.q f (lefts g.w.ks (pic g.w.ms g.w.ks E.sp)) (E.sp.length : Int) g.w.nx).no = g.w.nx := by unfold spwn; rw [if_pos hc.2]
    omega
 ·exact ⟨k1, by rw [k2]; exact r1, fun s hs => by rw [k2] at hs; show _ /\ s.no < _; rw [k3]; exact r2 s hs, hL, fun x hx => by show x.no < _; rw [k3]; exact hN x hx, (by rw [k3]; exact r5 : 1 <= (takR g.w.ks (pic g.w.ms g.w.ks E.sp) g).w.nx), (by rw [k3]; exact r6 : (takR g.w.ks (pic g.w.ms g.w.ks E.sp) g).w.nx <= 1099511627777)⟩
theorem restN_len (E : Env) (L : List Mv) : ∀ i, (restN E L i).length = L.length
 | 0 => rfl
 | i + 1 => by rw [restN, List.length_set, restN_len E L i]
theorem restN_at (E : Env) {L : List Mv} : ∀ {i : Nat}, i <= L.length -> ∀ k, k < L.length -> mm (restN E L i) k = if k < i then resM (mm L k) (pp E.st k).1 (pp E.st k).2 else mm L k
 | 0, _, k, hk => by rw [restN, if_neg (by omega)]
 | i + 1, hi, k, hk => by
  rw [restN, mm_set (by rw [restN_len]; omega), restN_at E (by omega) k hk]
  by_cases e : k = i
  ·subst e
   rw [if_pos rfl, if_pos (by omega)]
  ·rw [if_neg e]
   by_cases e2 : k < i
   ·rw [if_pos e2, if_pos (by omega)]
   ·rw [if_neg e2, if_neg (by omega)]
theorem good_rsts {n : Nat} {E : Env} {g : Gm} (h : Good n E g.w) : Good n E (rsts E g).w := by
 obtain ⟨⟨h1, h2, h3, h4⟩, hR⟩ := h
 refine ⟨⟨by show (restN E g.w.ms g.w.ms.length).length = n; rw [restN_len]; exact h1, fun i hi => ?_, h3, h4⟩, hR⟩
 show May (mm (restN E g.w.ms g.w.ms.length) i)
 rw [restN_at E (Nat.le_refl _) i (by omega), if_pos (by omega)]
 exact may_rest _ _ (h2 i hi)
theorem acts_fr : ∀ (l : List Cm) (g : Gm), (acts l g).w.fr = g.w.fr
 | [], _ => rfl
 | x :: l, g => by
  show (acts l (act1 g x)).w.fr = _
  rw [acts_fr l]
  unfold act1
  dsimp only
  split
  ·rfl
  ·split <;> rfl
theorem Good.fr {n : Nat} {E : Env} {w : Wd} (h : Good n E w) (f : Int) : Good n E { w with fr := f } := h
theorem good_frame {n : Nat} {E : Env} {w : Wd} {l : List Cm} (hn : n <= 6) (h : Good n E w) (hl : ∀ x ∈ l, Rgt n x) : Good n E (frame E w l).w /\ (frame E w l).w.fr = w.fr + 1 := by
 have g1 := good_glid (E := E) (good_acts hn l ⟨w, []⟩ h hl)
 have g2 := good_bncs (bod (glid E (acts l ⟨w, []⟩)).w.ms) _ g1 (fun t ht => by
  have := bod_in t ht
  rw [g1.1.1] at this
  exact this)
 have g3 := (good_rsts (good_pcks (f := w.fr + 1) (good_shts g2))).fr (w.fr + 1)
 unfold frame
 dsimp only
 exact ⟨g3, rfl⟩
end Go.Proofs.YtdljmpjfiggdiaaDoor.Ha
namespace Go.Proofs.YtdljmpjfiggdiaaDoor.Ha
open Pu Gp Ap Vp Np Za Ka Ja Ea
/-! Commands in order. -/
def lessC (a b : Cm) : Bool := decide (a.pe < b.pe) || (decide (a.pe = b.pe) && decide (a.sq < b.sq))
theorem lessC_iff {a b : Cm} : lessC a b = true ↔ a.pe < b.pe \/ a.pe = b.pe /\ a.sq < b.sq := by
 unfold lessC
 simp only [Bool.or_eq_true, Bool.and_eq_true, decide_eq_true_eq]
def insR : List Cm -> Cm -> List Cm
 | [], x => [x]
 | y :: r, x => if lessC y x then x :: y :: r else y :: insR r x
def ofR (f : Int) : List Cm -> List Cm -> List Cm
 | [], acc => acc
 | x :: l, acc => ofR f l (if x.fr = f then insR acc x else acc)
def ofC (l : List Cm) (f : Int) : List Cm := (ofR f l []).reverse
theorem insR_perm : ∀ (r : List Cm) (x : Cm), (insR r x).Perm (x :: r)
 | [], x => List.Perm.refl _
 | y :: r, x => by
  unfold insR
  split
  ·exact List.Perm.refl _
  ·exact ((insR_perm r x).cons y).trans (List.Perm.swap x y r)
theorem ofR_perm (f : Int) : ∀ (l acc : List Cm), (ofR f l acc).Perm (l.filter (fun x => decide (x.fr = f)) ++ acc)
 | [], acc => List.Perm.refl _
 | x :: l, acc => by
  unfold ofR
  by_cases h : x.fr = f
  ·rw [if_pos h, List.filter_cons_of_pos (by simpa using h)]
   refine (ofR_perm f l (insR acc x)).trans ?_
   refine ((insR_perm acc x).append_left _).trans ?_
   exact List.perm_middle
  ·rw [if_neg h, List.filter_cons_of_neg (by simpa using h)]
   exact ofR_perm f l acc
theorem ofC_perm (l : List Cm) (f : Int) : (ofC l f).Perm (l.filter (fun x => decide (x.fr = f))) := by
 unfold ofC
 have h := ofR_perm f l []
 rw [List.append_nil] at h
 exact (List.reverse_perm _).trans h
theorem ofC_mem {l : List Cm} {f : Int} {x : Cm} : x ∈ ofC l f ↔ x ∈ l /\ x.fr = f := by
 rw [(ofC_perm l f).mem_iff, List.mem_filter]
 simp
def Dst (l : List Cm) : Prop := l.Pairwise fun a b => ¬ (a.pe = b.pe /\ a.sq = b.sq)
theorem insR_sorted : ∀ {r : List Cm} {x : Cm}, (r.Pairwise fun a b => lessC b a = true) -> (∀ y ∈ r, ¬ (y.pe = x.pe /\ y.sq = x.sq)) -> (insR r x).Pairwise fun a b => lessC b a = true
 | [], x, _, _ => List.pairwise_singleton _ _
 | y :: r, x, h, hd => by
  rw [List.pairwise_cons] at h
  unfold insR
  split
  ·rename_i hl
   rw [List.pairwise_cons]
   refine ⟨fun z hz => ?_, List.pairwise_cons.2 h⟩
   rcases List.mem_cons.1 hz with rfl | hz
   ·exact hl
   ·have h1 := lessC_iff.1 (h.1 z hz)
    have h2 := lessC_iff.1 hl
    rw [lessC_iff]
    omega
  ·rename_i hl
   rw [List.pairwise_cons]
   refine ⟨fun z hz => ?_, insR_sorted h.2 (fun z hz => hd z (List.mem_cons_of_mem _ hz))⟩
   rcases List.mem_cons.1 ((insR_perm r x).mem_iff.1 hz) with rfl | hz
   ·have h1 := hd y (List.mem_cons_self ..)
    have h2 : ¬ (y.pe < z.pe \/ y.pe = z.pe /\ y.sq < z.sq) := fun e => hl (lessC_iff.2 e)
    rw [lessC_iff]
    omega
   ·exact h.1 z hz
theorem ofR_sorted (f : Int) : ∀ {l acc : List Cm}, Dst l -> (acc.Pairwise fun a b => lessC b a = true) -> (∀ x ∈ l, ∀ y ∈ acc, ¬ (y.pe = x.pe /\ y.sq = x.sq)) -> (ofR f l acc).Pairwise fun a b => lessC b a = true
 | [], _, _, h, _ => h
 | x :: l, acc, hd, h, hx => by
  rw [Dst, List.pairwise_cons] at hd
  unfold ofR
  split
  ·refine ofR_sorted f hd.2 (insR_sorted h (hx x (List.mem_cons_self ..))) (fun z hz y hy => ?_)
   rcases List.mem_cons.1 ((insR_perm acc x).mem_iff.1 hy) with rfl | hy
   ·exact hd.1 z hz
   ·exact hx z (List.mem_cons_of_mem _ hz) y hy
  ·exact ofR_sorted f hd.2 h (fun z hz => hx z (List.mem_cons_of_mem _ hz))
theorem ofC_sorted {l : List Cm} (hd : Dst l) (f : Int) : (ofC l f).Pairwise fun a b => lessC a b = true := by
 unfold ofC
 rw [List.pairwise_reverse]
 exact ofR_sorted f hd List.Pairwise.nil (fun _ _ y hy => by cases hy)
theorem ofC_any {l l' : List Cm} (hp : l.Perm l') (hd : Dst l) (hd' : Dst l') (f : Int) : ofC l f = ofC l' f := by
 have h1 := ofC_sorted hd f
 have h2 := ofC_sorted hd' f
 have hp2 : (ofC l f).Perm (ofC l' f) := ((ofC_perm l f).trans (hp.filter _)).trans (ofC_perm l' f).symm
 refine List.Perm.eq_of_pairwise (le := fun a b => lessC a b = true) (fun a b _ _ e1 e2 => ?_) h1 h2 hp2
 rw [lessC_iff] at e1 e2
 omega
theorem dst_rev {l : List Cm} (h : Dst l) : Dst l.reverse := by
 unfold Dst at *
 rw [List.pairwise_reverse]
 exact h.imp (fun hn e => hn ⟨e.1.symm, e.2.symm⟩)
/-! The seed. -/
theorem pcks_seed {sol : Int -> Int -> Bool} {st sp : List (Int × Int)} {q q' f : Int} (hf : f % 16 ≠ 0) (g : Gm) : pcks ⟨sol, st, sp, q⟩ f g = pcks ⟨sol, st, sp, q'⟩ f g := by
 unfold pcks
 dsimp only
 have hn : ∀ L s n, comes L f s n = true -> False := fun L s n h => hf (comes_may h).2.2.2.1
 rw [if_neg (fun h => hn _ _ _ h.2), if_neg (fun h => hn _ _ _ h.2)]
theorem glid_seed {sol : Int -> Int -> Bool} {st sp : List (Int × Int)} {q q' : Int} (g : Gm) : glid ⟨sol, st, sp, q⟩ g = glid ⟨sol, st, sp, q'⟩ g := rfl
theorem shts_seed {sol : Int -> Int -> Bool} {st sp : List (Int × Int)} {q q' : Int} (g : Gm) : shts ⟨sol, st, sp, q⟩ g = shts ⟨sol, st, sp, q'⟩ g := rfl
theorem restN_seed {sol : Int -> Int -> Bool} {st sp : List (Int × Int)} {q q' : Int} (L : List Mv) : ∀ i, restN ⟨sol, st, sp, q⟩ L i = restN ⟨sol, st, sp, q'⟩ L i
 | 0 => rfl
 | i + 1 => by rw [restN, restN, restN_seed L i]
theorem rsts_seed {sol : Int -> Int -> Bool} {st sp : List (Int × Int)} {q q' : Int} (g : Gm) : rsts ⟨sol, st, sp, q⟩ g = rsts ⟨sol, st, sp, q'⟩ g := by
 unfold rsts
 rw [restN_seed (q' := q')]
theorem frame_seed {sol : Int -> Int -> Bool} {st sp : List (Int × Int)} {q q' : Int} {w : Wd} {l : List Cm} (hf : (w.fr + 1) % 16 ≠ 0) : frame ⟨sol, st, sp, q⟩ w l = frame ⟨sol, st, sp, q'⟩ w l := by
 unfold frame
 dsimp only
 rw [glid_seed (q' := q'), shts_seed (q' := q'), pcks_seed (q' := q') hf, rsts_seed (q' := q')]
/-! What notes tell. -/
theorem bdC_two {a c d : Int} (ha : 0 <= a) (hc : 0 <= c) (hd : 0 <= d) : bdC (bdC (a + c) + d) = bdC (a + (c + d)) := by
 unfold bdC
 split <;> split <;> (try split) <;> (try split) <;> omega
def outsN (ns : List Nn) (p : Nat) : Nat := ns.countP fun x => x.k == 3 && x.a == (p : Int)
theorem outsN_app (a b : List Nn) (p : Nat) : outsN (a ++ b) p = outsN a p + outsN b p := by unfold outsN; exact List.countP_append
structure Told (a b : Gm) (d : List Nn) : Prop where
 ns : b.ns = a.ns ++ d
 hl : ∀ p : Nat, (mm b.w.ms p).hl < (mm a.w.ms p).hl -> ∃ x ∈ d, x.k = 2 /\ x.a = (p : Int)
 up : ∀ p : Nat, (sc b.w.cs p).p > (sc a.w.cs p).p -> ∃ x ∈ d, x.k = 2 /\ x.b = (p : Int) \/ x.k = 5 /\ x.a = (p : Int) /\ x.b = 3
 dn : ∀ p : Nat, (sc b.w.cs p).p < (sc a.w.cs p).p -> ∃ x ∈ d, x.k = 3 /\ x.a = (p : Int)
 ou : ∀ p : Nat, (sc b.w.cs p).o = bdC ((sc a.w.cs p).o + (outsN d p : Int))
 pos : ∀ p : Nat, 0 <= (sc a.w.cs p).o
theorem Told.trans {a b c : Gm} {d e : List Nn} (h1 : Told a b d) (h2 : Told b c e) : Told a c (d ++ e) := by
 refine ⟨by rw [h2.ns, h1.ns, List.append_assoc], fun p h => ?_, fun p h => ?_, fun p h => ?_, fun p => ?_, h1.pos⟩
 ·by_cases hx : (mm b.w.ms p).hl < (mm a.w.ms p).hl
  ·obtain ⟨x, hx, h3⟩ := h1.hl p hx; exact ⟨x, List.mem_append_left _ hx, h3⟩
  ·obtain ⟨x, hx, h3⟩ := h2.hl p (by omega); exact ⟨x, List.mem_append_right _ hx, h3⟩
 ·by_cases hx : (sc b.w.cs p).p > (sc a.w.cs p).p
  ·obtain ⟨x, hx, h3⟩ := h1.up p hx; exact ⟨x, List.mem_append_left _ hx, h3⟩
  ·obtain ⟨x, hx, h3⟩ := h2.up p (by omega); exact ⟨x, List.mem_append_right _ hx, h3⟩
 ·by_cases hx : (sc b.w.cs p).p < (sc a.w.cs p).p
  ·obtain ⟨x, hx, h3⟩ := h1.dn p hx; exact ⟨x, List.mem_append_left _ hx, h3⟩
  ·obtain ⟨x, hx, h3⟩ := h2.dn p (by omega); exact ⟨x, List.mem_append_right _ hx, h3⟩
 ·rw [h2.ou p, h1.ou p, bdC_two (h1.pos p) (by omega) (by omega), outsN_app]
  congr 2
theorem seats_o {n : Nat} {w : Wd} (h : Seats n w) (p : Nat) : 0 <= (sc w.cs p).o /\ (sc w.cs p).o <= 2147483647 := by
 by_cases hp : p < n
 ·exact (h.2.2.2 p hp).2.2.1
 ·have e : sc w.cs p = zC := by simp [sc, List.getD, List.getElem?_eq_none (show w.cs.length <= p by rw [h.2.2.1]; omega)]
  rw [e]
  exact ⟨by decide, by decide⟩
theorem told_quiet {n : Nat} {a b : Gm} {d : List Nn} (hs : Seats n a.w) (hn : b.ns = a.ns ++ d) (hc : b.w.cs = a.w.cs) (hh : ∀ p : Nat, (mm a.w.ms p).hl <= (mm b.w.ms p).hl) (hd : ∀ x ∈ d, x.k ≠ 3) : Told a b d := by
 refine ⟨hn, fun p h => ?_, fun p h => ?_, fun p h => ?_, fun p => ?_, fun p => (seats_o hs p).1⟩
 ·have := hh p; omega
 ·rw [hc] at h; omega
 ·rw [hc] at h; omega
 ·have e : outsN d p = 0 := by
   unfold outsN
   rw [List.countP_eq_zero]
   intro x hx
   simp [hd x hx]
  rw [hc, e]
  have := seats_o hs p
  rw [bdC_id (by omega) (by omega)]
  simp
theorem deed_hl {m : Mv} {v a b : Int} : (deed m v a b).hl = m.hl := by
 unfold deed
 repeat' split
 all_goals rfl
theorem act_hl {m : Mv} {v a b c : Int} (h : errA m v a b c = 0) : (actM m v a b c).hl = m.hl := by
 unfold actM
 rw [if_pos h]
 split
 ·exact deed_hl
 ·rfl
theorem glide_hl {sol : Int -> Int -> Bool} {m : Mv} (h : May m) : (gliM sol m).hl = m.hl := by
 unfold gliM
 rw [mayB_iff.2 h]
 show (glideM sol m).hl = m.hl
 unfold glideM
 repeat' split
 all_goals rfl
theorem rest_hl {m : Mv} {x y : Int} (h : May m) : m.hl <= (resM m x y).hl := by
 unfold resM
 rw [mayB_iff.2 h]
 show m.hl <= (restM m x y).hl
 have hh := h.2.2.2.2.1
 unfold restM
 repeat' split
 all_goals (first | exact Int.le_refl _ | (show m.hl <= 100; omega))
theorem apt_hl {a b : Mv} (ha : May a) (hb : May b) : (aptA a b).hl = a.hl := by
 unfold aptA aptE
 rw [mayB_iff.2 ha, mayB_iff.2 hb]
 simp only [Bool.and_self, if_true]
 split <;> rfl
theorem told_none {n : Nat} {g : Gm} (h : Seats n g.w) : Told g g [] := told_quiet h (by simp) rfl (fun _ => Int.le_refl _) (fun x hx => by cases hx)
theorem hl_set {L : List Mv} {j : Nat} {x : Mv} (hj : j < L.length) (hx : (mm L j).hl <= x.hl) (p : Nat) : (mm L p).hl <= (mm (L.set j x) p).hl := by
 rw [mm_set hj]
 split
 ·rename_i e; subst e; exact hx
 ·exact Int.le_refl _
theorem told_act1 {n : Nat} {g : Gm} {x : Cm} (h : Seats n g.w) (hx : Rgt n x) : ∃ d, Told g (act1 g x) d := by
 obtain ⟨p0, p1, p2, p3⟩ := hx
 have hp : x.pe.toNat < n := by omega
 have he : errA (mm g.w.ms x.pe.toNat) x.v x.a x.b x.c = 0 := by unfold errA; rw [mayB_iff.2 (h.2.1 _ hp)]; exact p3
 have hh := hl_set (L := g.w.ms) (j := x.pe.toNat) (by rw [h.1]; exact hp) (Int.le_of_eq (act_hl he).symm)
 unfold act1
 dsimp only
 split
 ·exact ⟨_, told_quiet h rfl rfl hh (fun y hy => by rw [List.mem_singleton.1 hy]; exact (by decide : (1 : Int) ≠ 3))⟩
 ·split
  ·exact ⟨_, told_quiet h rfl rfl hh (fun y hy => by rw [List.mem_singleton.1 hy]; exact (by decide : (8 : Int) ≠ 3))⟩
  ·exact ⟨[], told_quiet h (by simp) rfl hh (fun y hy => by cases hy)⟩
theorem told_acts {n : Nat} {E : Env} (hn : n <= 6) : ∀ (l : List Cm) (g : Gm), Good n E g.w -> (∀ x ∈ l, Rgt n x) -> ∃ d, Told g (acts l g) d
 | [], g, h, _ => ⟨[], told_none h.1⟩
 | x :: l, g, h, hl => by
  have hx := hl x (List.mem_cons_self ..)
  obtain ⟨d, h1⟩ := told_act1 h.1 hx
  obtain ⟨e, h2⟩ := told_acts hn l (act1 g x) (good_act1 hn h hx) (fun y hy => hl y (List.mem_cons_of_mem _ hy))
  exact ⟨_, h1.trans h2⟩
theorem told_glid {n : Nat} {E : Env} {g : Gm} (h : Seats n g.w) : Told g (glid E g) [] := by
 refine told_quiet h (by simp [glid]) rfl (fun p => ?_) (fun x hx => by cases hx)
 show _ <= (mm (g.w.ms.map (gliM E.sol)) p).hl
 by_cases hp : p < n
 ·have e : mm (g.w.ms.map (gliM E.sol)) p = gliM E.sol (mm g.w.ms p) := by
   rw [mm_at (by simp; rw [h.1]; exact hp), mm_at (by rw [h.1]; exact hp), List.getElem_map]
  rw [e, glide_hl (h.2.1 p hp)]
  exact Int.le_refl _
 ·have e : mm (g.w.ms.map (gliM E.sol)) p = mm g.w.ms p := by
   have hl : g.w.ms.length <= p := by rw [h.1]; omega
   simp [mm, List.getD, List.getElem?_eq_none hl]
  rw [e]
  exact Int.le_refl _
theorem told_bncs {n : Nat} {E : Env} : ∀ (l : List (Int × Int)) (g : Gm), Good n E g.w -> (∀ t ∈ l, t.1.toNat < n /\ t.2.toNat < n) -> ∃ d, Told g (bncs l g) d
 | [], g, h, _ => ⟨[], told_none h.1⟩
 | t :: l, g, h, hl => by
  obtain ⟨t1, t2⟩ := hl t (List.mem_cons_self ..)
  obtain ⟨e, h2⟩ := told_bncs l (bnc1 g t) (good_bnc1 h t1 t2) (fun y hy => hl y (List.mem_cons_of_mem _ hy))
  have ma := h.1.2.1 _ t1
  have mb := h.1.2.1 _ t2
  refine ⟨_, (told_quiet (a := g) (b := bnc1 g t) (d := [⟨7, t.1, t.2⟩]) h.1 rfl rfl (fun p => ?_) (fun y hy => by rw [List.mem_singleton.1 hy]; exact (by decide : (7 : Int) ≠ 3))).trans h2⟩
  have s1 := hl_set (L := g.w.ms) (j := t.1.toNat) (x := aptA (mm g.w.ms t.1.toNat) (mm g.w.ms t.2.toNat)) (by rw [h.1.1]; exact t1) (Int.le_of_eq (apt_hl ma mb).symm) p
  have s2 := hl_set (L := g.w.ms.set t.1.toNat (aptA (mm g.w.ms t.1.toNat) (mm g.w.ms t.2.toNat))) (j := t.2.toNat) (x := aptA (mm g.w.ms t.2.toNat) (mm g.w.ms t.1.toNat)) (by simp; rw [h.1.1]; exact t2) (by
   rw [mm_set (by rw [h.1.1]; exact t1), apt_hl mb ma]
   split
   ·rename_i e
    rw [apt_hl ma mb, e]
    exact Int.le_refl _
   ·exact Int.le_refl _) p
  exact Int.le_trans s1 s2
theorem hit_outs {a b : Scr} {n : Int} {o : Bool} (ha : MayC a) (hb : MayC b) (hn : 1 <= n /\ n <= 3) : (hit1 a b n o).o = a.o /\ (hit2 a b n o).o = (if o then bdC (b.o + 1) else b.o) /\ a.p <= (hit1 a b n o).p /\ (hit2 a b n o).p <= b.p /\ (o = false -> (hit2 a b n o).p = b.p) := by
 have e := errC_yes ha hb hn
 obtain ⟨m1, m2⟩ := moreC_in (out := o) ha hn
 have hpa := ha.1
 have hpb := hb.1
 unfold hit1 hit2
 rw [if_pos e, if_pos e]
 unfold hitA hitW
 refine ⟨rfl, ?_, ?_, ?_, ?_⟩
 ·cases o <;> rfl
 ·show a.p <= bdC (a.p + moreC a n o)
  unfold bdC
  split
  ·omega
  ·split <;> omega
 ·cases o
  ·exact Int.le_refl _
  ·show bdC (b.p - 2) <= b.p
   unfold bdC
   split
   ·omega
   ·split <;> omega
 ·rintro rfl; rfl
theorem told_harm {n : Nat} {g : Gm} {s : Sh} {t : Int} (h : Seats n g.w) (hs : MayS s) (ho : s.ow.toNat < n) (ht0 : 0 <= t) (ht : t.toNat < n) (hne : s.ow ≠ t) : ∃ d, Told g (harm g s t) d := by
 unfold harm
 dsimp only
 split
 ·exact ⟨[], told_none h⟩
 ·have hp : 1 <= s.pw /\ s.pw <= 3 := hs.2.2.1
  have how : 0 <= s.ow := hs.2.1.1
  have hneN : t.toNat ≠ s.ow.toNat := by omega
  obtain ⟨o, eo⟩ : ∃ o, hurD (mm g.w.ms t.toNat) (dmg s.pw) = o := ⟨_, rfl⟩
  rw [eo]
  obtain ⟨q1, q2, q3, q4, q5⟩ := hit_outs (o := o) (h.2.2.2 _ ho) (h.2.2.2 _ ht) hp
  have hc : ∀ p, sc ((g.w.cs.set s.ow.toNat (hit1 (sc g.w.cs s.ow.toNat) (sc g.w.cs t.toNat) s.pw o)).set t.toNat (hit2 (sc g.w.cs s.ow.toNat) (sc g.w.cs t.toNat) s.pw o)) p = if p = t.toNat then hit2 (sc g.w.cs s.ow.toNat) (sc g.w.cs t.toNat) s.pw o else if p = s.ow.toNat then hit1 (sc g.w.cs s.ow.toNat) (sc g.w.cs t.toNat) s.pw o else sc g.w.cs p := fun p => by
   rw [scs_set (by simp; rw [h.2.2.1]; exact ht), scs_set (by rw [h.2.2.1]; exact ho)]
  refine ⟨[⟨2, t, s.ow⟩] ++ (if o then [⟨3, t, s.ow⟩] else []), ⟨by simp, fun p hx => ?_, fun p hx => ?_, fun p hx => ?_, fun p => ?_, fun p => (seats_o h p).1⟩⟩
  ·refine ⟨⟨2, t, s.ow⟩, by simp, rfl, ?_⟩
   show t = (p : Int)
   have hx' : (mm (g.w.ms.set t.toNat (hurM (mm g.w.ms t.toNat) (dmg s.pw))) p).hl < (mm g.w.ms p).hl := hx
   rw [mm_set (by rw [h.1]; exact ht)] at hx'
   split at hx'
   ·rename_i e; omega
   ·omega
  ·refine ⟨⟨2, t, s.ow⟩, by simp, .inl ⟨rfl, ?_⟩⟩
   show s.ow = (p : Int)
   have hx' := hx
   rw [hc p] at hx'
   split at hx'
   ·rename_i e
    subst e
    omega
   ·split at hx'
    ·rename_i e; omega
    ·omega
  ·have hx' := hx
   rw [hc p] at hx'
   split at hx'
   ·rename_i e
    subst e
    cases o with
    | false => have := q5 rfl; omega
    | true => exact ⟨⟨3, t, s.ow⟩, by simp, rfl, by show t = ((t.toNat : Nat) : Int); omega⟩
   ·split at hx'
    ·rename_i e
     subst e
     omega
    ·omega
  ·show (sc _ p).o = _
   rw [hc p]
   have hb := seats_o h p
   have hout : outsN ([⟨2, t, s.ow⟩] ++ (if o then [⟨3, t, s.ow⟩] else [])) p = if o = true /\ p = t.toNat then 1 else 0 := by
    unfold outsN
    rw [List.countP_append]
    cases o
    ·simp
    ·by_cases e : p = t.toNat
     ·subst e
      simp
      omega
     ·have : t ≠ (p : Int) := fun e2 => e (by omega)
      simp [e, this]
   rw [hout]
   by_cases e : p = t.toNat
   ·rw [if_pos e]
    subst e
    rw [q2]
    cases o
    ·simp only [Bool.false_eq_true, if_false, false_and]
     rw [bdC_id (by omega) (by omega)]
     simp
    ·simp
   ·have e0 : ¬ (o = true /\ p = t.toNat) := fun hx => e hx.2
    rw [if_neg e]
    by_cases e2 : p = s.ow.toNat
    ·rw [if_pos e2, if_neg e0]
     subst e2
     rw [q1, bdC_id (by omega) (by omega)]
     simp
    ·rw [if_neg e2, if_neg e0, bdC_id (by omega) (by omega)]
     simp
theorem told_harms {n : Nat} {F : List Sh} (hF : ∀ i, i < F.length -> MayS (ss F i) /\ (ss F i).ow.toNat < n) : ∀ (l : List (Int × Int)) (g : Gm), Seats n g.w -> (∀ t ∈ l, t.1.toNat < F.length /\ 0 <= t.2 /\ t.2.toNat < n /\ (ss F t.1.toNat).ow ≠ t.2) -> ∃ d, Told g (harmR F l g) d
 | [], g, h, _ => ⟨[], told_none h⟩
 | t :: l, g, h, hl => by
  obtain ⟨t1, t0, t2, t3⟩ := hl t (List.mem_cons_self ..)
  obtain ⟨d, h1⟩ := told_harm h (hF _ t1).1 (hF _ t1).2 t0 t2 t3
  obtain ⟨e, h2⟩ := told_harms hF l (harm g (ss F t.1.toNat) t.2) (seats_harm h (hF _ t1).1 (hF _ t1).2 t2) (fun y hy => hl y (List.mem_cons_of_mem _ hy))
  exact ⟨_, h1.trans h2⟩
theorem sho_own {L : List Mv} {S : List Sh} : ∀ t ∈ sho L S, 0 <= t.2 /\ (ss S t.1.toNat).ow ≠ t.2 := by
 intro t ht
 unfold sho at ht
 split at ht
 ·obtain ⟨i, hi, rfl⟩ := List.mem_iff_getElem.1 ht
  obtain ⟨j, k, h1, h2, h3, h4, _⟩ := rowS_at _ _ _ i hi
  rw [h3]
  refine ⟨by show (0 : Int) <= (k : Int); omega, ?_⟩
  show (ss S ((j : Int).toNat)).ow ≠ (k : Int)
  rw [Int.toNat_natCast]
  unfold hS at h4
  simp only [Bool.and_eq_true, Bool.not_eq_true', beq_eq_false_iff_ne] at h4
  exact fun e => h4.1.2 e.symm
 ·simp at ht
theorem told_shts {n : Nat} {E : Env} {g : Gm} (h : Good n E g.w) : ∃ d, Told g (shts E g) d := by
 obtain ⟨hS, r1, r2, r3, r4, r5, r6⟩ := h
 obtain ⟨f1, f2⟩ := flo_fls (E := E) r1
 have hF : ∀ i, i < (flsF E g.w.hs).length -> MayS (ss (flsF E g.w.hs) i) /\ (ss (flsF E g.w.hs) i).ow.toNat < n := fun i hi => by
  have hm : ss (flsF E g.w.hs) i ∈ flsF E g.w.hs := by rw [ss_at hi]; exact List.getElem_mem hi
  have h1 := (flo_pw.1 f1).2.1 _ hm
  obtain ⟨t, ht, _, h3⟩ := f2 _ hm
  have h4 := (r2 t ht).1
  have h5 : 0 <= (ss (flsF E g.w.hs) i).ow := h1.2.1.1
  exact ⟨h1, by omega⟩
 obtain ⟨d, hd⟩ := told_harms hF (sho g.w.ms (flsF E g.w.hs)) g hS (fun t ht => by
  have h1 := sho_in t ht
  have h2 := sho_own t ht
  exact ⟨h1.1, h2.1, by rw [<- hS.1]; exact h1.2, h2.2⟩)
 exact ⟨d, hd.ns, hd.hl, hd.up, hd.dn, hd.ou, hd.pos⟩
theorem gain_in {s : Scr} {n : Int} (hs : MayC s) (hn : 0 <= n /\ n <= 100) : (gain s n).o = s.o /\ s.p <= (gain s n).p /\ (n = 0 -> (gain s n).p = s.p) := by
 have hp := hs.1
 unfold gain
 rw [if_pos (errG_yes hs hn)]
 refine ⟨rfl, ?_, fun h => ?_⟩
 ·show s.p <= bdC (s.p + n)
  unfold bdC
  split
  ·omega
  ·split <;> omega
 ·show bdC (s.p + n) = s.p
  rw [h, Int.add_zero, bdC_id (by omega) (by omega)]
theorem told_take {n : Nat} {Q : List Pk} {g : Gm} {t : Int × Int} (h : Seats n g.w) (hk : 1 <= (pk Q t.1.toNat).kd /\ (pk Q t.1.toNat).kd <= 3) (t0 : 0 <= t.2) (ht : t.2.toNat < n) : Told g (take1 Q g t) [⟨5, t.2, (pk Q t.1.toNat).kd⟩] := by
 have hm := h.2.1 _ ht
 obtain ⟨m1, m2, m3⟩ := may_take hm hk
 have e : errT (mm g.w.ms t.2.toNat) (pk Q t.1.toNat).kd = 0 := by unfold errT; rw [mayB_iff.2 hm, if_pos hk]; rfl
 obtain ⟨g1, g2, g3⟩ := gain_in (h.2.2.2 _ ht) (n := takP (mm g.w.ms t.2.toNat) (pk Q t.1.toNat).kd) ⟨m2, by omega⟩
 have hh := hl_set (L := g.w.ms) (j := t.2.toNat) (by rw [h.1]; exact ht) (helps e).1
 have hc : ∀ p, sc (take1 Q g t).w.cs p = if p = t.2.toNat then gain (sc g.w.cs t.2.toNat) (takP (mm g.w.ms t.2.toNat) (pk Q t.1.toNat).kd) else sc g.w.cs p := fun p => scs_set (by rw [h.2.2.1]; exact ht)
 refine ⟨rfl, fun p hx => ?_, fun p hx => ?_, fun p hx => ?_, fun p => ?_, fun p => (seats_o h p).1⟩
 ·have := hh p
  have hx' : (mm (g.w.ms.set t.2.toNat (takM (mm g.w.ms t.2.toNat) (pk Q t.1.toNat).kd)) p).hl < (mm g.w.ms p).hl := hx
  omega
 ·rw [hc p] at hx
  split at hx
  ·rename_i ep
   subst ep
   refine ⟨_, List.mem_singleton.2 rfl, .inr ⟨rfl, by show t.2 = ((t.2.toNat : Nat) : Int); omega, ?_⟩⟩
   show (pk Q t.1.toNat).kd = 3
   by_cases h3 : (pk Q t.1.toNat).kd = 3
   ·exact h3
   ·have : takP (mm g.w.ms t.2.toNat) (pk Q t.1.toNat).kd = 0 := by unfold takP; rw [if_neg (fun hx => h3 hx.2.2)]
    have := g3 this
    omega
  ·omega
 ·rw [hc p] at hx
  split at hx
  ·rename_i ep
   subst ep
   omega
  ·omega
 ·have hb := seats_o h p
  rw [hc p]
  have e0 : outsN [⟨5, t.2, (pk Q t.1.toNat).kd⟩] p = 0 := by simp [outsN]
  rw [e0]
  split
  ·rename_i ep
   subst ep
   rw [g1, bdC_id (by omega) (by omega)]
   simp
  ·rw [bdC_id (by omega) (by omega)]
   simp
theorem told_takes {n : Nat} {Q : List Pk} (hQ : ∀ i, i < Q.length -> 1 <= (pk Q i).kd /\ (pk Q i).kd <= 3) : ∀ (l : List (Int × Int)) (g : Gm), Seats n g.w -> (∀ t ∈ l, t.1.toNat < Q.length /\ 0 <= t.2 /\ t.2.toNat < n) -> ∃ d, Told g (takR Q l g) d
 | [], g, h, _ => ⟨[], told_none h⟩
 | t :: l, g, h, hl => by
  obtain ⟨t1, t0, t2⟩ := hl t (List.mem_cons_self ..)
  have h1 := told_take h (hQ _ t1) t0 t2
  obtain ⟨e, h2⟩ := told_takes hQ l (take1 Q g t) (seats_take h (hQ _ t1) t2) (fun y hy => hl y (List.mem_cons_of_mem _ hy))
  exact ⟨_, h1.trans h2⟩
theorem pic_pos {L : List Mv} {Q : List Pk} {T : List (Int × Int)} : ∀ t ∈ pic L Q T, 0 <= t.2 := by
 intro t ht
 unfold pic at ht
 split at ht
 ·obtain ⟨i, hi, rfl⟩ := List.mem_iff_getElem.1 ht
  obtain ⟨j, k, h1, h2, h3, _⟩ := rowS_at _ _ _ i hi
  rw [h3]
  show (0 : Int) <= (k : Int)
  omega
 ·simp at ht
theorem told_pcks {n : Nat} {E : Env} {f : Int} {g : Gm} (h : Good n E g.w) : ∃ d, Told g (pcks E f g) d := by
 obtain ⟨hS, r1, r2, r3, r4, r5, r6⟩ := h
 have hQ : ∀ i, i < g.w.ks.length -> 1 <= (pk g.w.ks i).kd /\ (pk g.w.ks i).kd <= 3 := fun i hi => (r3.2.2 i hi).2.2.2.1
 have hin : ∀ t ∈ pic g.w.ms g.w.ks E.sp, t.1.toNat < g.w.ks.length /\ t.2.toNat < n := fun t ht => by
  have := pic_in t ht
  exact ⟨this.1, by rw [<- hS.1]; exact this.2⟩
 obtain ⟨k1, _⟩ := seats_takes hQ (pic g.w.ms g.w.ks E.sp) g hS hin
 obtain ⟨d, hd⟩ := told_takes hQ (pic g.w.ms g.w.ks E.sp) g hS (fun t ht => ⟨(hin t ht).1, pic_pos t ht, (hin t ht).2⟩)
 unfold pcks
 dsimp only
 split
 ·refine ⟨_, hd.trans (told_quiet (n := n) k1 rfl rfl (fun _ => Int.le_refl _) (fun y hy => by rw [List.mem_singleton.1 hy]; exact (by decide : (6 : Int) ≠ 3)))⟩
 ·exact ⟨d, hd.ns, hd.hl, hd.up, hd.dn, hd.ou, hd.pos⟩
theorem back_kind (L : List Mv) : ∀ i, ∀ x ∈ backN L i, x.k = 4
 | 0, x, h => by cases h
 | i + 1, x, h => by
  rw [backN, List.mem_append] at h
  rcases h with h | h
  ·exact back_kind L i x h
  ·split at h
   ·rw [List.mem_singleton.1 h]
   ·cases h
theorem told_rsts {n : Nat} {E : Env} {g : Gm} (h : Seats n g.w) : Told g (rsts E g) (backN g.w.ms g.w.ms.length) := by
 refine told_quiet h rfl rfl (fun p => ?_) (fun x hx => by rw [back_kind _ _ x hx]; decide)
 show _ <= (mm (restN E g.w.ms g.w.ms.length) p).hl
 by_cases hp : p < g.w.ms.length
 ·rw [restN_at E (Nat.le_refl _) p hp, if_pos hp]
  exact rest_hl (h.2.1 p (by rw [<- h.1]; exact hp))
 ·have e : mm (restN E g.w.ms g.w.ms.length) p = mm g.w.ms p := by
   unfold mm
   rw [List.getD_eq_getElem?_getD, List.getD_eq_getElem?_getD, List.getElem?_eq_none (by rw [restN_len]; omega), List.getElem?_eq_none (by omega)]
  rw [e]
  exact Int.le_refl _
theorem Told.self {a b : Gm} {d : List Nn} (h : Told a b d) (ha : a.ns = []) : Told a b b.ns := by
 have e := h.ns
 rw [ha, List.nil_append] at e
 rw [e]
 exact h
theorem Told.fr {a b : Gm} {d : List Nn} (h : Told a b d) (f : Int) : Told a ⟨{ b.w with fr := f }, b.ns⟩ d := ⟨h.ns, h.hl, h.up, h.dn, h.ou, h.pos⟩
theorem told_frame {n : Nat} {E : Env} {w : Wd} {l : List Cm} (hn : n <= 6) (h : Good n E w) (hl : ∀ x ∈ l, Rgt n x) : Told ⟨w, []⟩ (frame E w l) (frame E w l).ns := by
 have a1 := good_acts hn l ⟨w, []⟩ h hl
 have g1 := good_glid (E := E) a1
 have hin : ∀ t ∈ bod (glid E (acts l ⟨w, []⟩)).w.ms, t.1.toNat < n /\ t.2.toNat < n := fun t ht => by
  have := bod_in t ht
  rw [g1.1.1] at this
  exact this
 have g2 := good_bncs (bod (glid E (acts l ⟨w, []⟩)).w.ms) _ g1 hin
 have g3 := good_shts g2
 have g4 := good_pcks (f := w.fr + 1) g3
 obtain ⟨d1, t1⟩ := told_acts hn l ⟨w, []⟩ h hl
 have t2 := told_glid (E := E) a1.1
 obtain ⟨d3, t3⟩ := told_bncs (bod (glid E (acts l ⟨w, []⟩)).w.ms) _ g1 hin
 obtain ⟨d4, t4⟩ := told_shts g2
 obtain ⟨d5, t5⟩ := told_pcks (f := w.fr + 1) g3
 have t6 := told_rsts (E := E) g4.1
 have T := ((((t1.trans t2).trans t3).trans t4).trans t5).trans t6
 have T' := (T.self rfl).fr (w.fr + 1)
 unfold frame
 dsimp only
 exact T'
end Go.Proofs.YtdljmpjfiggdiaaDoor.Ha
namespace Go.Proofs.YtdljmpjfiggdiaaDoor
open Go.RowKit
open Pu Gp Ap Vp Np Za Ka Ja
set_option maxRecDepth 100000
def KM : Kd Mv := ⟨fun m => (mcs m).toList, 13, zM, fun _ => rfl, fun m u hu => by
 simp at hu
 rcases hu with rfl | rfl | rfl | rfl | rfl | rfl | rfl | rfl | rfl | rfl | rfl | rfl | rfl <;> rfl, by decide⟩
def KS : Kd Sh := ⟨fun m => (scs m).toList, 8, zS, fun _ => rfl, fun m u hu => by
 simp at hu
 rcases hu with rfl | rfl | rfl | rfl | rfl | rfl | rfl | rfl <;> rfl, by decide⟩
def KT : Kd (Int × Int) := ⟨fun p => [.int .i64 p.1, .int .i64 p.2], 2, (0, 0), fun _ => rfl, fun m u hu => by
 simp at hu
 rcases hu with rfl | rfl <;> rfl, by decide⟩
theorem infoM : ∃ i, Tryd.prog.info? 52 = some i /\ i.zero = some (.agg (KM.f KM.d).toArray) /\ i.size = KM.k /\ i.bytes = 104 := ⟨_, rfl, rfl, rfl, rfl⟩
theorem rdM {w : World} {B o n : Nat} {L : List Mv} (h : RdG KM w (some ⟨B, o, none⟩) n L) {i : Nat} (hi : i < n) : w.cell? ⟨B, o + i * 13, none⟩ = some (.int .i64 (mm L i).ax) /\ w.cell? ⟨B, o + i * 13 + 1, none⟩ = some (.int .i64 (mm L i).ay) /\ w.cell? ⟨B, o + i * 13 + 2, none⟩ = some (.int .i64 (mm L i).sx) /\ w.cell? ⟨B, o + i * 13 + 3, none⟩ = some (.int .i64 (mm L i).sy) /\ w.cell? ⟨B, o + i * 13 + 4, none⟩ = some (.int .i64 (mm L i).px) /\ w.cell? ⟨B, o + i * 13 + 5, none⟩ = some (.int .i64 (mm L i).py) /\ w.cell? ⟨B, o + i * 13 + 6, none⟩ = some (.int .i64 (mm L i).fc) /\ w.cell? ⟨B, o + i * 13 + 7, none⟩ = some (.int .i64 (mm L i).hl) /\ w.cell? ⟨B, o + i * 13 + 8, none⟩ = some (.int .i64 (mm L i).en) /\ w.cell? ⟨B, o + i * 13 + 9, none⟩ = some (.bool (mm L i).sh) /\ w.cell? ⟨B, o + i * 13 + 10, none⟩ = some (.int .i64 (mm L i).co) /\ w.cell? ⟨B, o + i * 13 + 11, none⟩ = some (.int .i64 (mm L i).ou) /\ w.cell? ⟨B, o + i * 13 + 12, none⟩ = some (.int .i64 (mm L i).sd) :=
 ⟨h.get hi 0 _ rfl, h.get hi 1 _ rfl, h.get hi 2 _ rfl, h.get hi 3 _ rfl, h.get hi 4 _ rfl, h.get hi 5 _ rfl, h.get hi 6 _ rfl, h.get hi 7 _ rfl, h.get hi 8 _ rfl, h.get hi 9 _ rfl, h.get hi 10 _ rfl, h.get hi 11 _ rfl, h.get hi 12 _ rfl⟩
theorem rdS {w : World} {B o n : Nat} {L : List Sh} (h : RdG KS w (some ⟨B, o, none⟩) n L) {i : Nat} (hi : i < n) : w.cell? ⟨B, o + i * 8, none⟩ = some (.int .i64 (ss L i).no) /\ w.cell? ⟨B, o + i * 8 + 1, none⟩ = some (.int .i64 (ss L i).ow) /\ w.cell? ⟨B, o + i * 8 + 2, none⟩ = some (.int .i64 (ss L i).pw) /\ w.cell? ⟨B, o + i * 8 + 3, none⟩ = some (.int .i64 (ss L i).ax) /\ w.cell? ⟨B, o + i * 8 + 4, none⟩ = some (.int .i64 (ss L i).ay) /\ w.cell? ⟨B, o + i * 8 + 5, none⟩ = some (.int .i64 (ss L i).sx) /\ w.cell? ⟨B, o + i * 8 + 6, none⟩ = some (.int .i64 (ss L i).sy) /\ w.cell? ⟨B, o + i * 8 + 7, none⟩ = some (.int .i64 (ss L i).lf) :=
 ⟨h.get hi 0 _ rfl, h.get hi 1 _ rfl, h.get hi 2 _ rfl, h.get hi 3 _ rfl, h.get hi 4 _ rfl, h.get hi 5 _ rfl, h.get hi 6 _ rfl, h.get hi 7 _ rfl⟩
theorem rdP {w : World} {B o n : Nat} {L : List (Int × Int)} (h : RdG KT w (some ⟨B, o, none⟩) n L) {i : Nat} (hi : i < n) : w.cell? ⟨B, o + i * 2, none⟩ = some (.int .i64 (pp L i).1) /\ w.cell? ⟨B, o + i * 2 + 1, none⟩ = some (.int .i64 (pp L i).2) :=
 ⟨h.get hi 0 _ rfl, h.get hi 1 _ rfl⟩
theorem owM {e : TypeId} {w : World} {B g n cap : Nat} {L : List Mv} (h : OwG KM e w B (.slice (some ⟨g, 0, none⟩) n cap) L) {i : Nat} (hi : i < L.length) : w.cell? ⟨g, i * 13, none⟩ = some (.int .i64 (mm L i).ax) /\ w.cell? ⟨g, i * 13 + 1, none⟩ = some (.int .i64 (mm L i).ay) /\ w.cell? ⟨g, i * 13 + 2, none⟩ = some (.int .i64 (mm L i).sx) /\ w.cell? ⟨g, i * 13 + 3, none⟩ = some (.int .i64 (mm L i).sy) /\ w.cell? ⟨g, i * 13 + 4, none⟩ = some (.int .i64 (mm L i).px) /\ w.cell? ⟨g, i * 13 + 5, none⟩ = some (.int .i64 (mm L i).py) /\ w.cell? ⟨g, i * 13 + 6, none⟩ = some (.int .i64 (mm L i).fc) /\ w.cell? ⟨g, i * 13 + 7, none⟩ = some (.int .i64 (mm L i).hl) /\ w.cell? ⟨g, i * 13 + 8, none⟩ = some (.int .i64 (mm L i).en) /\ w.cell? ⟨g, i * 13 + 9, none⟩ = some (.bool (mm L i).sh) /\ w.cell? ⟨g, i * 13 + 10, none⟩ = some (.int .i64 (mm L i).co) /\ w.cell? ⟨g, i * 13 + 11, none⟩ = some (.int .i64 (mm L i).ou) /\ w.cell? ⟨g, i * 13 + 12, none⟩ = some (.int .i64 (mm L i).sd) /\ ∀ o, w.frozen? ⟨g, o, none⟩ = false :=
 ⟨h.get hi 0 _ rfl, h.get hi 1 _ rfl, h.get hi 2 _ rfl, h.get hi 3 _ rfl, h.get hi 4 _ rfl, h.get hi 5 _ rfl, h.get hi 6 _ rfl, h.get hi 7 _ rfl, h.get hi 8 _ rfl, h.get hi 9 _ rfl, h.get hi 10 _ rfl, h.get hi 11 _ rfl, h.get hi 12 _ rfl, h.frozen⟩
theorem owT {e : TypeId} {w : World} {B g n cap : Nat} {L : List (Int × Int)} (h : OwG KT e w B (.slice (some ⟨g, 0, none⟩) n cap) L) {i : Nat} (hi : i < L.length) : w.cell? ⟨g, i * 2, none⟩ = some (.int .i64 (pp L i).1) /\ w.cell? ⟨g, i * 2 + 1, none⟩ = some (.int .i64 (pp L i).2) /\ ∀ o, w.frozen? ⟨g, o, none⟩ = false :=
 ⟨h.get hi 0 _ rfl, h.get hi 1 _ rfl, h.frozen⟩
end Go.Proofs.YtdljmpjfiggdiaaDoor
namespace Go.Proofs.YtdljmpjfiggdiaaDoor
open Go.RowKit
open Pu Gp Np Ka
set_option maxRecDepth 100000
abbrev kcs (x : Pk) : Array Value := #[.int .i64 x.no, .int .i64 x.sp, .int .i64 x.kd]
abbrev kv (x : Pk) : Value := .agg (kcs x)
def Kb (w : World) (g : Nat) (x : Pk) : Prop := w.heap[g]? = some (.cells (kcs x) 155 (0, 0))
theorem Kb.still {w w' : World} {g : Nat} {x : Pk} (h : Kb w g x) (hs : Still w w') : Kb w' g x := hs.kept_still h
theorem Kb.lt {w : World} {g : Nat} {x : Pk} (h : Kb w g x) : g < w.heap.size := block_lt h
theorem Kb.cells {w : World} {g : Nat} {x : Pk} (h : Kb w g x) : w.cell? ⟨g, 0, none⟩ = some (.int .i64 x.no) /\ w.cell? ⟨g, 1, none⟩ = some (.int .i64 x.sp) /\ w.cell? ⟨g, 2, none⟩ = some (.int .i64 x.kd) /\ ∀ o, w.frozen? ⟨g, o, none⟩ = false := by
 refine ⟨?_, ?_, ?_, fun o => frozen_of_row w g o _ _ h⟩ <;> (rw [cell_of_row _ _ _ _ _ _ h]; rfl)
abbrev newK (w : World) (x : Pk) : World := w.alloc (.cells (kcs x) 155)
theorem newK_kb (w : World) (x : Pk) : Kb (newK w x) w.heap.size x := heap_alloc_new w _
theorem Kb.put {w : World} {g : Nat} {x : Pk} (h0 : Kb w g x) (a b c : Int) : Kb (((w.setCell ⟨g, 0, none⟩ (.int .i64 a)).setCell ⟨g, 1, none⟩ (.int .i64 b)).setCell ⟨g, 2, none⟩ (.int .i64 c)) g ⟨a, b, c⟩ := by
 unfold Kb at h0 ⊢
 have h1 := heap_setCell_same _ g 0 _ _ (.int .i64 a) h0
 have h2 := heap_setCell_same _ g 1 _ _ (.int .i64 b) h1
 have h3 := heap_setCell_same _ g 2 _ _ (.int .i64 c) h2
 exact h3.trans (by kernel_rfl)
theorem Kb.other {w : World} {g : Nat} {x : Pk} (h : Kb w g x) (k o : Nat) (v : Value) (hk : g ≠ k) : Kb (w.setCell ⟨k, o, none⟩ v) g x := by
 unfold Kb at h ⊢
 rw [heap_setCell_other _ _ _ _ hk]
 exact h
theorem Kb.load {w : World} {g : Nat} {x : Pk} (h : Kb w g x) : (loadVar 155 ⟨g, 0, none⟩).run Tryd.prog w = .ok (kv x) w := by
 obtain ⟨c0, c1, c2, cf⟩ := h.cells
 go_simp
theorem Kb.rest3 {fn : Func} {p q r : Tmp} {w : World} {g : Nat} {x : Pk} (hb : Kb w g x) (h : fn.results = #[.cell p 155, .tmp q, .tmp r]) (tmps : Array Value) (t s : Value) (hp : tmps.getD p undef = .pointer (some ⟨g, 0, none⟩)) (hq : tmps.getD q undef = t) (hr : tmps.getD r undef = s) :
  (results fn tmps).run Tryd.prog w = .ok (.tuple #[kv x, t, s]) w := by
 rw [results3 h, hp, hq, hr]
 simp [asAddr, Result.andThen, hb.load]
def eqK (x y : Pk) : Bool := (x.no == y.no) && ((x.sp == y.sp) && (x.kd == y.kd))
theorem eqK_refl (x : Pk) : eqK x x = true := by unfold eqK; simp
theorem kpart_in (x : Pk) (w : World) : (part 3 (kcs x) 0).run Tryd.prog w = .ok (.int .i64 x.no) w /\ (part 3 (kcs x) 1).run Tryd.prog w = .ok (.int .i64 x.sp) w /\ (part 3 (kcs x) 2).run Tryd.prog w = .ok (.int .i64 x.kd) w := by
 refine ⟨?_, ?_, ?_⟩ <;> go_simp
theorem equal_kv (x y : Pk) (w : World) : (Op.equalIn 10000 155 (kv x) (kv y)).run Tryd.prog w = .ok (eqK x y) w := by
 have c0 := fun w => (kpart_in x w).1
 have d0 := fun w => (kpart_in y w).1
 have r0 := fun w => equal_int 9998 x.no y.no w
 have c1 := fun w => (kpart_in x w).2.1
 have d1 := fun w => (kpart_in y w).2.1
 have r1 := fun w => equal_int 9998 x.sp y.sp w
 have c2 := fun w => (kpart_in x w).2.2
 have d2 := fun w => (kpart_in y w).2.2
 have r2 := fun w => equal_int 9998 x.kd y.kd w
 rw [run_equalIn_struct w 9999 _ _ _ (by kernel_rfl) (by kernel_rfl)]
 have e : (Tryd.prog.fieldsOf 155) = #[⟨ "No", 3, 0, false, "", "", 0⟩, ⟨ "Spot", 3, 1, false, "", "", 8⟩, ⟨ "Kind", 3, 2, false, "", "", 16⟩] := by kernel_rfl
 rw [e]
 simp only [Op.eqFields, ne_eq, String.reduceEq, not_false_eq_true, if_true, Sem.run_bind, c0, c1, c2, d0, d1, d2, Result.andThen_ok, r0, r1, r2, Sem.run_ite, Sem.run_pure]
 unfold eqK
 exact st (st (st1 _))
theorem eql_kv (x y : Pk) (w : World) : (binOp .eql 155 (kv x) (kv y)).run Tryd.prog w = .ok (.bool (eqK x y)) w := by
 rw [run_eql_struct, equal_kv]; rfl
theorem neq_kv (x y : Pk) (w : World) : (binOp .neq 155 (kv x) (kv y)).run Tryd.prog w = .ok (.bool (!eqK x y)) w := by
 rw [run_neq_struct, equal_kv]; rfl
theorem eql_kv_t (x : Pk) (w : World) : (binOp .eql 155 (kv x) (kv x)).run Tryd.prog w = .ok (.bool true) w := by
 rw [eql_kv, eqK_refl]
theorem neq_kv_f (x : Pk) (w : World) : (binOp .neq 155 (kv x) (kv x)).run Tryd.prog w = .ok (.bool false) w := by
 rw [neq_kv, eqK_refl]; rfl
theorem guard_kv (op : BinOp) (a b : Operand) (xs ys : Array Value) (w : World) : (eqGuard op 155 a b (.agg xs) (.agg ys)).run Tryd.prog w = .ok () w := run_eqGuard_agg w op _ a b xs ys (by kernel_rfl)
def RdK (w : World) (ao : Option Addr) (n : Nat) (L : List Pk) : Prop := L.length = n /\ n <= 281474976710656 /\ (n = 0 \/ ∃ B o, ao = some ⟨B, o, none⟩ /\ ∀ i, i < n -> w.cell? ⟨B, o + i * 3, none⟩ = some (.int .i64 (pk L i).no) /\ w.cell? ⟨B, o + i * 3 + 1, none⟩ = some (.int .i64 (pk L i).sp) /\ w.cell? ⟨B, o + i * 3 + 2, none⟩ = some (.int .i64 (pk L i).kd))
theorem RdK.nil (w : World) (ao : Option Addr) : RdK w ao 0 [] := ⟨rfl, by omega, .inl rfl⟩
theorem RdK.still {w w' : World} {ao : Option Addr} {n : Nat} {L : List Pk} (h : RdK w ao n L) (hs : Still w w') : RdK w' ao n L := by
 refine ⟨h.1, h.2.1, ?_⟩
 rcases h.2.2 with h0 | ⟨B, o, e, hc⟩
 ·exact .inl h0
 ·have on : ∀ {p : Addr} {x : Value}, w.cell? p = some x -> w'.cell? p = some x := fun hp => (hs.cell (World.block_lt_of_cell? w _ hp) (fun e => e)).trans hp
  exact .inr ⟨B, o, e, fun i hi => ⟨on (hc i hi).1, on (hc i hi).2.1, on (hc i hi).2.2⟩⟩
theorem RdK.at {w : World} {ao : Option Addr} {n : Nat} {L : List Pk} (h : RdK w ao n L) (hn : 0 < n) : ∃ B o, ao = some ⟨B, o, none⟩ /\ ∀ i, i < n -> w.cell? ⟨B, o + i * 3, none⟩ = some (.int .i64 (pk L i).no) /\ w.cell? ⟨B, o + i * 3 + 1, none⟩ = some (.int .i64 (pk L i).sp) /\ w.cell? ⟨B, o + i * 3 + 2, none⟩ = some (.int .i64 (pk L i).kd) := by
 rcases h.2.2 with h0 | h
 ·omega
 ·exact h
def pksOf (L : List Pk) : List Value := L.flatMap fun x => [.int .i64 x.no, .int .i64 x.sp, .int .i64 x.kd]
theorem pksOf_cons (x : Pk) (L : List Pk) : pksOf (x :: L) = .int .i64 x.no :: .int .i64 x.sp :: .int .i64 x.kd :: pksOf L := by simp [pksOf]
theorem pksOf_len (L : List Pk) : (pksOf L).length = L.length * 3 := by
 induction L with
 | nil => rfl
 | cons x L ih => rw [pksOf_cons]; simp only [List.length_cons, ih]; omega
theorem pksOf_app (L M : List Pk) : pksOf (L ++ M) = pksOf L ++ pksOf M := by simp [pksOf]
theorem pksOf_one (L : List Pk) : ∀ u ∈ pksOf L, u.oneCell' = true := by
 intro u hu
 simp only [pksOf, List.mem_flatMap] at hu
 obtain ⟨x, _, hx⟩ := hu
 simp at hx
 rcases hx with rfl | rfl | rfl <;> rfl
theorem pksOf_get : ∀ (L : List Pk) (j : Nat) (_ : j < L.length), (pksOf L)[j * 3]? = some (.int .i64 (pk L j).no) /\ (pksOf L)[j * 3 + 1]? = some (.int .i64 (pk L j).sp) /\ (pksOf L)[j * 3 + 2]? = some (.int .i64 (pk L j).kd)
 | [], j, h => by simp at h
 | x :: L, 0, _ => by rw [pksOf_cons]; exact ⟨rfl, rfl, rfl⟩
 | x :: L, j + 1, h => by
  have ih := pksOf_get L j (by simpa using h)
  have e : pk (x :: L) (j + 1) = pk L j := by simp [pk]
  rw [pksOf_cons, e, show (j + 1) * 3 = j * 3 + 1 + 1 + 1 by omega]
  simp only [List.getElem?_cons_succ]
  exact ih
theorem pksOf_drop : ∀ (L : List Pk) (k : Nat), (pksOf L).drop (k * 3) = pksOf (L.drop k)
 | L, 0 => by simp
 | [], k + 1 => by simp [pksOf]
 | x :: L, k + 1 => by
  rw [pksOf_cons, show (k + 1) * 3 = k * 3 + 1 + 1 + 1 by omega]
  simp only [List.drop_succ_cons]
  exact pksOf_drop L k
theorem pksOf_set : ∀ (L : List Pk) (j : Nat) (_ : j < L.length) (x : Pk), (((pksOf L).set (j * 3) (.int .i64 x.no)).set (j * 3 + 1) (.int .i64 x.sp)).set (j * 3 + 2) (.int .i64 x.kd) = pksOf (L.set j x)
 | [], j, h, x => by simp at h
 | y :: L, 0, h, x => by
  show _ = pksOf (x :: L)
  rw [pksOf_cons, pksOf_cons]
  rfl
 | y :: L, j + 1, h, x => by
  have ih := pksOf_set L j (by simpa using h) x
  rw [List.set_cons_succ, pksOf_cons, pksOf_cons, <- ih, show (j + 1) * 3 = j * 3 + 1 + 1 + 1 by omega]
  simp only [List.set_cons_succ]
def OwK (w : World) (B : Nat) (v : Value) (L : List Pk) : Prop := w.ownsRow B 155 3 v L.length (pksOf L)
theorem OwK.nil (w : World) (B : Nat) : OwK w B (.slice none 0 0) [] := World.ownsRow_nil w B _ 3
theorem OwK.keep {F : Nat -> Prop} {w w' : World} {B : Nat} {v : Value} {L : List Pk} (h : OwK w B v L) (hf : Fr F w w') (hF : ∀ k, F k -> v.ownBlock ≠ some k) : OwK w' B v L := by
 refine ⟨h.1, ?_⟩
 rcases h.2 with hn | ⟨g, cap, cur, rfl, hb, hg, rest⟩
 ·exact .inl hn
 ·exact .inr ⟨g, cap, cur, rfl, hb, hf.kept hg (fun h => hF g h rfl), rest⟩
theorem OwK.still {w w' : World} {B : Nat} {v : Value} {L : List Pk} (h : OwK w B v L) (hf : Still w w') : OwK w' B v L := h.keep hf (fun _ e => e.elim)
theorem OwK.slice {w : World} {B : Nat} {v : Value} {L : List Pk} (h : OwK w B v L) : ∃ ao cap, v = .slice ao L.length cap /\ (ao = none \/ ∃ g, ao = some ⟨g, 0, none⟩ /\ B <= g /\ g < w.heap.size) := by
 rcases h.2 with ⟨rfl, hn⟩ | ⟨g, cap, cur, rfl, hb, hg, rest⟩
 ·exact ⟨none, 0, by rw [hn], .inl rfl⟩
 ·exact ⟨_, cap, rfl, .inr ⟨g, rfl, hb, block_lt hg⟩⟩
theorem OwK.cap {w : World} {B : Nat} {ao : Option Addr} {n cap : Nat} {L : List Pk} (h : OwK w B (.slice ao n cap) L) : n <= cap := by
 rcases h.2 with ⟨hv, hn⟩ | ⟨g, cap', cur, hv, hb, hg, hn, rest⟩
 ·cases hv; omega
 ·cases hv; exact hn
theorem OwK.block {w : World} {B k : Nat} {v : Value} {L : List Pk} (h : OwK w B v L) (hk : v.ownBlock = some k) : B <= k /\ k < w.heap.size := h.lt k hk
theorem OwK.cell {w : World} {B g n cap : Nat} {L : List Pk} (h : OwK w B (.slice (some ⟨g, 0, none⟩) n cap) L) (j : Nat) (hj : j < L.length) :
  w.cell? ⟨g, j * 3, none⟩ = some (.int .i64 (pk L j).no) /\ w.cell? ⟨g, j * 3 + 1, none⟩ = some (.int .i64 (pk L j).sp) /\ w.cell? ⟨g, j * 3 + 2, none⟩ = some (.int .i64 (pk L j).kd) /\ ∀ o, w.frozen? ⟨g, o, none⟩ = false := by
 obtain ⟨h1, h2, h3⟩ := pksOf_get L j hj
 have k1 := World.ownsRow.cells h (g := g) rfl _ _ h1
 have k2 := World.ownsRow.cells h (g := g) rfl _ _ h2
 have k3 := World.ownsRow.cells h (g := g) rfl _ _ h3
 rw [add_plain, Nat.zero_add] at k1 k2 k3
 refine ⟨k1, k2, k3, fun o => ?_⟩
 rcases h.2 with ⟨hv, _⟩ | ⟨g', cap', cur, hv, hb, hg, rest⟩
 ·cases hv
 ·cases hv; exact frozen_of_row w g o _ _ hg
theorem OwK.set {w : World} {B g n cap : Nat} {L : List Pk} (h : OwK w B (.slice (some ⟨g, 0, none⟩) n cap) L) (j : Nat) (hj : j < L.length) (x : Pk) :
  OwK (((w.setCell ⟨g, j * 3, none⟩ (.int .i64 x.no)).setCell ⟨g, j * 3 + 1, none⟩ (.int .i64 x.sp)).setCell ⟨g, j * 3 + 2, none⟩ (.int .i64 x.kd)) B (.slice (some ⟨g, 0, none⟩) n cap) (L.set j x) := by
 rcases h.2 with ⟨hv, _⟩ | ⟨g', cap', cur, hv, hb, hg, hn, hm, hs, ht⟩
 ·cases hv
 ·cases hv
  have h1 := heap_setCell_same w g (j * 3) _ _ (.int .i64 x.no) hg
  have h2 := heap_setCell_same _ g (j * 3 + 1) _ _ (.int .i64 x.sp) h1
  have h3 := heap_setCell_same _ g (j * 3 + 2) _ _ (.int .i64 x.kd) h2
  refine ⟨by rw [pksOf_len, List.length_set], .inr ⟨g, cap, _, by rw [List.length_set], hb, h3, by rw [List.length_set]; exact hn, hm, by rw [Array.size_setIfInBounds, Array.size_setIfInBounds, Array.size_setIfInBounds]; exact hs, ?_⟩⟩
  rw [List.length_set, <- pksOf_set L j hj x, <- ht]
  simp only [Array.toList_setIfInBounds]
  rw [List.take_set, List.take_set, List.take_set]
theorem OwK.rd {w : World} {B : Nat} {ao : Option Addr} {n cap : Nat} {L M : List Pk} (h : OwK w B (.slice ao n cap) (L ++ M)) (hm : L.length <= 281474976710656) : RdK w ao L.length L := by
 refine ⟨rfl, hm, ?_⟩
 by_cases h0 : L.length = 0
 ·exact .inl h0
 right
 obtain ⟨ao', cap', e, hao⟩ := h.slice
 cases e
 rcases hao with rfl | ⟨g, rfl, _, _⟩
 ·rcases h.2 with ⟨_, hn⟩ | ⟨g', cap', cur, hv, _⟩
  ·rw [List.length_append] at hn; omega
  ·cases hv
 ·refine ⟨g, 0, rfl, fun i hi => ?_⟩
  have hc := h.cell i (by simp; omega)
  have e : pk (L ++ M) i = pk L i := by simp [pk, List.getD, List.getElem?_append_left hi]
  rw [e] at hc
  rw [Nat.zero_add]
  exact ⟨hc.1, hc.2.1, hc.2.2.1⟩
theorem info_kv : ∃ i, Tryd.prog.info? 155 = some i /\ i.zero = some (kv zK) /\ i.size = 3 /\ i.bytes = 24 := ⟨_, rfl, rfl, rfl, rfl⟩
theorem wpList_appK (w : World) {ops : Array Oper} {rest : List Oper} {o : Oper} {a : Act} {Q : Exit -> Act -> World -> Prop} (hgd : o.guard = none) (s x : Operand)
  (hop : o.op = .call { callee := .builtin .append, args := #[s, x], argTypes := #[25, 25] })
  (B g : Nat) (v : Value) (L : List Pk) (p : Pk) (hs : a.eval s = v) (hx : a.eval x = .slice (some ⟨g, 0, none⟩) 1 1) (ho : OwK w B v L) (hr : Kb w g p) (h47 : L.length <= 100000) (hB : B <= w.heap.size)
  (h : ∀ v' w', OwK w' B v' (L ++ [p]) -> Fr (fun k => v.ownBlock = some k) w w' -> wpList Tryd.prog ops Q rest (a.put o.dst v') w') : wpList Tryd.prog ops Q (o :: rest) a w := by
 obtain ⟨i, hi, hz, h1, h2⟩ := info_kv
 refine wpList_append_own (P := Tryd.prog) w hgd s x 25 hop B 155 i (kv zK) 3 24 Tryd.underlying25 hi hz h1 h2 rfl (by omega) v L.length (pksOf L) hs ho ⟨g, 0, none⟩ 1 1 (pksOf [p]) hx rfl ?_ (pksOf_one _) (by unfold maxLen; omega) (by omega) hB ?_
 ·intro j u hu
  rw [add_plain, Nat.zero_add]
  have hj : j < 3 := by
   have := (List.getElem?_eq_some_iff.1 hu).1
   simpa [pksOf] using this
  rcases (show j = 0 \/ j = 1 \/ j = 2 by omega) with rfl | rfl | rfl
  ·simp [pksOf] at hu; subst hu; exact hr.cells.1
  ·simp [pksOf] at hu; subst hu; exact hr.cells.2.1
  ·simp [pksOf] at hu; subst hu; exact hr.cells.2.2.1
 ·intro v' w' hown hgr _
  refine h v' w' ?_ ⟨hgr.os, hgr.tape, hgr.output, hgr.size, fun k hk hn => hgr.block k hk (fun e => hn e.symm)⟩
  unfold OwK
  rw [pksOf_app, List.length_append]
  exact hown
theorem still_appK {w0 w w' : World} {B : Nat} {v : Value} {L : List Pk} (hs : Still w0 w) (ho : OwK w B v L) (hf : Fr (fun k => v.ownBlock = some k) w w') (hB : w0.heap.size <= B) : Still w0 w' :=
 Fr.trans hs hf (fun k hk e => by have := (ho.block e).1; omega)
theorem run_copy_any {P : Program} (w : World) (dT sT ty elem : TypeId) (i : TypeInfo) (g dLen dCap : Nat) (a : Addr) (sLen sCap : Nat) (cur : Array Value) (t : TypeId) (cs : List Value)
  (hu : P.underlying dT = some (.slice elem)) (hi : P.info? elem = some i) (hg : w.heap[g]? = some (.cells cur t (0, 0))) (hn : cs.length = Nat.min sLen dLen * i.size)
  (hsrc : ∀ j v, cs[j]? = some v -> w.cell? (a.add j) = some v) (hfit : cs.length <= cur.size) (h1 : ∀ v ∈ cs, v.oneCell' = true) :
  (Builtin.copy_ #[dT, sT] ty #[.slice (some ⟨g, 0, none⟩) dLen dCap, .slice (some a) sLen sCap]).run P w =
   .ok (goInt (Nat.min sLen dLen)) (w.setRow g (cs ++ cur.toList.drop cs.length).toArray) := by
 have hl := run_loadCells_list (P := P) w a cs hsrc
 have hst := run_storeCells_at P g 0 t cs 0 cur w hg (by simpa using hfit) h1
 rw [hn] at hl
 simp only [Nat.zero_add, List.take_zero, List.nil_append] at hst
 simp [Builtin.copy_, run_underlying hu, Builtin.lenOf, Builtin.firstCells, sizeOf, typeInfo, hi, hl, hst]
theorem copy_owK {W : World} {B g N : Nat} {so : Option Addr} {n c : Nat} {M L : List Pk} (ho : OwK W B (.slice (some ⟨g, 0, none⟩) N N) M) (hr : RdK W so n L) (hn : n <= N) (hc : so = none -> c = 0) :
  ∃ W', (∀ ty, (Builtin.copy_ #[25, 25] ty #[.slice (some ⟨g, 0, none⟩) N N, .slice so n c]).run Tryd.prog W = .ok (goInt n) W') /\ OwK W' B (.slice (some ⟨g, 0, none⟩) N N) (L ++ M.drop n) /\ Fr (fun k => k = g) W W' := by
 obtain ⟨i, hi, hz, h1, h2⟩ := info_kv
 have hlL := hr.1
 have hlM : M.length = N := by
  obtain ⟨ao', cap', e, _⟩ := ho.slice
  cases e; rfl
 rcases ho.2 with ⟨hv, _⟩ | ⟨g', cap', cur, hv, hb, hg, hnc, hmx, hs, ht⟩
 ·cases hv
 cases hv
 cases so with
 | none =>
  obtain rfl := hc rfl
  by_cases h0 : n = 0
  ·subst h0
   obtain rfl : L = [] := List.eq_nil_of_length_eq_zero hlL
   exact ⟨W, fun ty => run_copy_nil (P := Tryd.prog) W 25 25 ty 155 ⟨g, 0, none⟩ _ _ Tryd.underlying25 (by rw [hi]; rfl), by simpa using ho, Fr.refl _ _⟩
  ·obtain ⟨_, _, e, _⟩ := hr.at (by omega)
   cases e
 | some a =>
  have hcl : (pksOf L).length = Nat.min n M.length * i.size := by rw [pksOf_len, hlL, h1, show Nat.min n M.length = n from Nat.min_eq_left (by omega)]
  have hsrc : ∀ j v, (pksOf L)[j]? = some v -> W.cell? (a.add j) = some v := by
   intro j v hj
   have hjl := (List.getElem?_eq_some_iff.1 hj).1
   rw [pksOf_len] at hjl
   obtain ⟨B', o, e, hce⟩ := hr.at (by omega)
   cases e
   have hq : j / 3 < n := by omega
   have hg := pksOf_get L (j / 3) (by omega)
   have hc3 := hce (j / 3) hq
   rw [add_plain]
   rcases (show j = j / 3 * 3 \/ j = j / 3 * 3 + 1 \/ j = j / 3 * 3 + 2 by omega) with e | e | e
   ·rw [e] at hj ⊢
    rw [hg.1] at hj; cases hj; exact hc3.1
   ·rw [e] at hj ⊢
    rw [hg.2.1] at hj; cases hj; rw [<- Nat.add_assoc]; exact hc3.2.1
   ·rw [e] at hj ⊢
    rw [hg.2.2] at hj; cases hj; rw [<- Nat.add_assoc]; exact hc3.2.2
  have hfit : (pksOf L).length <= cur.size := by rw [pksOf_len, hs]; omega
  refine ⟨W.setRow g (pksOf L ++ cur.toList.drop (pksOf L).length).toArray, fun ty => ?_, ?_, (Fr.refl _ W).setRow g _ (.inl rfl)⟩
  ·have := run_copy_any (P := Tryd.prog) W 25 25 ty 155 i g M.length M.length a n c cur 155 (pksOf L) Tryd.underlying25 hi hg hcl hsrc hfit (pksOf_one L)
   rw [show Nat.min n M.length = n from Nat.min_eq_left (by omega)] at this
   exact this
  ·have hgn := setRow_heap W g cur (pksOf L ++ cur.toList.drop (pksOf L).length).toArray 155 _ hg
   have hct : cur.toList = pksOf M := by
    rw [<- ht]; exact (List.take_of_length_le (by rw [Array.length_toList, hs]; exact Nat.le_refl _)).symm
   have e2 : pksOf L ++ cur.toList.drop (pksOf L).length = pksOf (L ++ M.drop n) := by
    rw [hct, pksOf_len, hlL, pksOf_drop, pksOf_app]
   rw [e2] at hgn ⊢
   have hlen : (L ++ M.drop n).length = M.length := by simp; omega
   refine ⟨pksOf_len _, .inr ⟨g, M.length, _, by rw [hlen], hb, hgn, by rw [hlen]; exact Nat.le_refl _, hmx, by rw [List.size_toArray, pksOf_len, hlen], ?_⟩⟩
   rw [List.take_of_length_le (by simp [pksOf_len])]
theorem run_uptoK (w : World) (ao : Option Addr) (n cap : Nat) (x : Int) (h0 : 0 <= x) (h1 : x <= cap) :
  (Instr.slice 25 (.slice ao n cap) none (some (.int .i64 x)) none).run Tryd.prog w = .ok (.slice ao x.toNat cap) w := by
 obtain ⟨i, hi, _, hs, _⟩ := info_kv
 have ht : Tryd.prog.underlying 25 = some (.slice 155) := Tryd.underlying25
 have ht' : Tryd.prog.underlying 25 = some (.slice (Tryd.prog.elem 25)) := by simp [Program.elem, ht]
 have he : Tryd.prog.elem 25 = 155 := by simp [Program.elem, ht]
 rw [run_slice_h w 25 ao n cap ht' .i64 x h0 h1, he]
 have := cutAt_zero ao cap
 simp only [cutAt] at this
 simp [sizeOf, typeInfo, hi, hs, Result.andThen, sliced]
 simpa using this
end Go.Proofs.YtdljmpjfiggdiaaDoor
