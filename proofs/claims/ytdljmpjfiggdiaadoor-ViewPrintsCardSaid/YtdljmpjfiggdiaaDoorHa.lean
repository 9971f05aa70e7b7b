/- A game in plain words: a world, its commands, a frame's phases. No function of the program is named here. -/
import Derived.Test.YtdljmpjfiggdiaaDoorJa
import Derived.Test.YtdljmpjfiggdiaaDoorEa
import Derived.Test.YtdljmpjfiggdiaaDoorK8
namespace Go.Proofs.YtdljmpjfiggdiaaDoor.Ha
open Pu Gp Ap Vp Np Za Ka Ja Ea

/-- a command -/
structure Cm where
  fr : Int
  pe : Int
  sq : Int
  v : Int
  a : Int
  b : Int
  c : Int
/-- a note -/
structure Nn where
  k : Int
  a : Int
  b : Int
/-- a world -/
structure Wd where
  fr : Int
  ms : List Mv
  cs : List Scr
  hs : List Sh
  ks : List Pk
  nx : Int
/-- what a session is to a frame: what is solid, starts, spots, the seed -/
structure Env where
  sol : Int → Int → Bool
  st : List (Int × Int)
  sp : List (Int × Int)
  q : Int
/-- a world within a frame -/
structure Gm where
  w : Wd
  ns : List Nn
/-- phase 1: one command -/
def act1 (g : Gm) (x : Cm) : Gm :=
  let m0 := mm g.w.ms x.pe.toNat
  let m := actM m0 x.v x.a x.b x.c
  let d := actD m0 x.v x.a x.b x.c
  if d = true ∧ x.v = 4 ∧ g.w.hs.length < 48 ∧ g.w.nx ≤ 1099511627776 then
    ⟨{ g.w with ms := g.w.ms.set x.pe.toNat m, hs := g.w.hs ++ [firS m x.pe x.a g.w.nx], nx := g.w.nx + 1 }, g.ns ++ [⟨1, x.pe, g.w.nx⟩]⟩
  else if d = true ∧ x.v = 7 then ⟨{ g.w with ms := g.w.ms.set x.pe.toNat m }, g.ns ++ [⟨8, x.pe, x.a⟩]⟩
  else ⟨{ g.w with ms := g.w.ms.set x.pe.toNat m }, g.ns⟩
def acts (l : List Cm) (g : Gm) : Gm := l.foldl act1 g
/-- phase 2 -/
def glid (E : Env) (g : Gm) : Gm := ⟨{ g.w with ms := g.w.ms.map (gliM E.sol) }, g.ns⟩
/-- phase 3: two that touch -/
def bnc1 (g : Gm) (t : Int × Int) : Gm :=
  let a := mm g.w.ms t.1.toNat
  let b := mm g.w.ms t.2.toNat
  ⟨{ g.w with ms := (g.w.ms.set t.1.toNat (aptA a b)).set t.2.toNat (aptA b a) }, g.ns ++ [⟨7, t.1, t.2⟩]⟩
def bncs (l : List (Int × Int)) (g : Gm) : Gm := l.foldl bnc1 g
/-- phase 4: those that go on -/
def flsF (E : Env) (S : List Sh) : List Sh := (S.filter (goes E.sol)).map (flyS E.sol)
/-- phase 5: a shot hits a mover -/
def harm (g : Gm) (s : Sh) (t : Int) : Gm :=
  let m := mm g.w.ms t.toNat
  if m.ou > 0 then g else
  let o := hurD m (dmg s.pw)
  let a := sc g.w.cs s.ow.toNat
  let b := sc g.w.cs t.toNat
  ⟨{ g.w with ms := g.w.ms.set t.toNat (hurM m (dmg s.pw)), cs := (g.w.cs.set s.ow.toNat (hit1 a b s.pw o)).set t.toNat (hit2 a b s.pw o) }, g.ns ++ [⟨2, t, s.ow⟩] ++ (if o then [⟨3, t, s.ow⟩] else [])⟩
/-- is one of a list met -/
def metB (l : List (Int × Int)) (i : Nat) : Bool := l.any fun t => t.1 == (i : Int)
def harmR (F : List Sh) (l : List (Int × Int)) (g : Gm) : Gm := l.foldl (fun g t => harm g (ss F t.1.toNat) t.2) g
/-- those that are met by none -/
def lefts {α : Type} (F : List α) (l : List (Int × Int)) : List α := (F.zipIdx.filter fun x => !metB l x.2).map (·.1)
def shts (E : Env) (g : Gm) : Gm :=
  let F := flsF E g.w.hs
  let l := sho g.w.ms F
  let g1 := harmR F l g
  ⟨{ g1.w with hs := lefts F l }, g1.ns⟩
/-- phase 6: one is taken -/
def take1 (Q : List Pk) (g : Gm) (t : Int × Int) : Gm :=
  let x := pk Q t.1.toNat
  let m := mm g.w.ms t.2.toNat
  ⟨{ g.w with ms := g.w.ms.set t.2.toNat (takM m x.kd), cs := g.w.cs.set t.2.toNat (gain (sc g.w.cs t.2.toNat) (takP m x.kd)) }, g.ns ++ [⟨5, t.2, x.kd⟩]⟩
def takR (Q : List Pk) (l : List (Int × Int)) (g : Gm) : Gm := l.foldl (take1 Q) g
/-- phases 6 and 7 -/
def pcks (E : Env) (f : Int) (g : Gm) : Gm :=
  let l := pic g.w.ms g.w.ks E.sp
  let g1 := takR g.w.ks l g
  let L := lefts g.w.ks l
  if g1.w.nx ≤ 1099511627776 ∧ comes L f (E.sp.length : Int) g1.w.nx = true then
    let x := spwn E.q f L (E.sp.length : Int) g1.w.nx
    ⟨{ g1.w with ks := L ++ [x], nx := g1.w.nx + 1 }, g1.ns ++ [⟨6, x.sp, x.kd⟩]⟩
  else ⟨{ g1.w with ks := L }, g1.ns⟩
/-- phase 8, as far as the first i -/
def restN (E : Env) (L : List Mv) : Nat → List Mv
  | 0 => L
  | i + 1 => (restN E L i).set i (resM (mm L i) (pp E.st i).1 (pp E.st i).2)
def backN (L : List Mv) : Nat → List Nn
  | 0 => []
  | i + 1 => backN L i ++ (if resD (mm L i) then [⟨4, (i : Int), 0⟩] else [])
def rsts (E : Env) (g : Gm) : Gm := ⟨{ g.w with ms := restN E g.w.ms g.w.ms.length }, g.ns ++ backN g.w.ms g.w.ms.length⟩
/-- a frame -/
def frame (E : Env) (w : Wd) (l : List Cm) : Gm :=
  let f := w.fr + 1
  let g1 := glid E (acts l ⟨w, []⟩)
  let g2 := bncs (bod g1.w.ms) g1
  let g3 := rsts E (pcks E f (shts E g2))
  ⟨{ g3.w with fr := f }, g3.ns⟩

/-! What may be stays so. -/
theorem mm_at {L : List Mv} {i : Nat} (h : i < L.length) : mm L i = L[i] := by simp [mm, List.getD, h]
theorem ss_at {L : List Sh} {i : Nat} (h : i < L.length) : ss L i = L[i] := by simp [ss, List.getD, h]
theorem mm_set {T : List Mv} {j k : Nat} {x : Mv} (hj : j < T.length) : mm (T.set j x) k = if k = j then x else mm T k := by
  unfold mm
  by_cases h : k = j
  · subst h; simp [List.getD, hj]
  · rw [if_neg h]; simp [List.getD, List.getElem?_set_ne (Ne.symm h)]
theorem scs_set {T : List Scr} {j k : Nat} {x : Scr} (hj : j < T.length) : sc (T.set j x) k = if k = j then x else sc T k := by
  unfold sc
  by_cases h : k = j
  · subst h; simp [List.getD, hj]
  · rw [if_neg h]; simp [List.getD, List.getElem?_set_ne (Ne.symm h)]
/-- movers and scores of so many seats may be -/
def Seats (n : Nat) (w : Wd) : Prop := w.ms.length = n ∧ (∀ i, i < n → May (mm w.ms i)) ∧ w.cs.length = n ∧ ∀ i, i < n → MayC (sc w.cs i)
theorem Seats.setM {n : Nat} {w : Wd} {j : Nat} {x : Mv} (h : Seats n w) (hj : j < n) (hx : May x) : Seats n { w with ms := w.ms.set j x } := by
  obtain ⟨h1, h2, h3, h4⟩ := h
  refine ⟨by simpa using h1, fun i hi => ?_, h3, h4⟩
  show May (mm (w.ms.set j x) i)
  rw [mm_set (by omega)]
  split
  · exact hx
  · exact h2 i hi
theorem Seats.setC {n : Nat} {w : Wd} {j : Nat} {x : Scr} (h : Seats n w) (hj : j < n) (hx : MayC x) : Seats n { w with cs := w.cs.set j x } := by
  obtain ⟨h1, h2, h3, h4⟩ := h
  refine ⟨h1, h2, by simpa using h3, fun i hi => ?_⟩
  show MayC (sc (w.cs.set j x) i)
  rw [scs_set (by omega)]
  split
  · exact hx
  · exact h4 i hi
/-- numbers rise -/
theorem flo_pw {S : List Sh} : Flo S ↔ S.length ≤ 48 ∧ (∀ s ∈ S, MayS s) ∧ S.Pairwise fun a b => a.no < b.no := by
  constructor
  · rintro ⟨h1, h2⟩
    have step : ∀ i j, i < j → j < S.length → (ss S i).no < (ss S j).no := by
      intro i j hij
      induction j with
      | zero => omega
      | succ j ih =>
        intro hj
        have h3 := (h2 (j + 1) hj).2 (by omega)
        rw [show j + 1 - 1 = j by omega] at h3
        by_cases e : i = j
        · subst e; exact h3
        · have := ih (by omega) (by omega)
          omega
    refine ⟨h1, fun s hs => ?_, ?_⟩
    · obtain ⟨i, hi, rfl⟩ := List.mem_iff_getElem.1 hs
      have := (h2 i hi).1
      rw [ss_at hi] at this
      exact maySB_iff.1 this
    · rw [List.pairwise_iff_getElem]
      intro i j hi hj hij
      have := step i j hij hj
      rwa [ss_at hi, ss_at hj] at this
  · rintro ⟨h1, h2, h3⟩
    rw [List.pairwise_iff_getElem] at h3
    refine ⟨h1, fun i hi => ⟨?_, fun h0 => ?_⟩⟩
    · rw [ss_at hi]; exact maySB_iff.2 (h2 _ (List.getElem_mem hi))
    · have := h3 (i - 1) i (by omega) hi (by omega)
      rw [ss_at hi, ss_at (show i - 1 < S.length by omega)]
      exact this
theorem pk_at {L : List Pk} {i : Nat} (h : i < L.length) : pk L i = L[i] := by simp [pk, List.getD, h]
theorem mayK_pw {L : List Pk} {s : Int} : MayK L s ↔ (0 ≤ s ∧ s ≤ 16) ∧ L.length ≤ 8 ∧ (∀ x ∈ L, (1 ≤ x.no ∧ x.no ≤ 1099511627776) ∧ (0 ≤ x.sp ∧ x.sp < s) ∧ 1 ≤ x.kd ∧ x.kd ≤ 3) ∧ (L.Pairwise fun a b => a.no < b.no) ∧ L.Pairwise fun a b => a.sp ≠ b.sp := by
  constructor
  · rintro ⟨h1, h2, h3⟩
    have step : ∀ i j, i < j → j < L.length → (pk L i).no < (pk L j).no := by
      intro i j hij
      induction j with
      | zero => omega
      | succ j ih =>
        intro hj
        have h4 := (h3 (j + 1) hj).2.1 (by omega)
        rw [show j + 1 - 1 = j by omega] at h4
        by_cases e : i = j
        · subst e; exact h4
        · have := ih (by omega) (by omega)
          omega
    refine ⟨h1, h2, fun x hx => ?_, ?_, ?_⟩
    · obtain ⟨i, hi, rfl⟩ := List.mem_iff_getElem.1 hx
      obtain ⟨a1, _, a3, a4, _⟩ := h3 i hi
      rw [pk_at hi] at a1 a3 a4
      exact ⟨a1, a3, a4⟩
    · rw [List.pairwise_iff_getElem]
      intro i j hi hj hij
      have := step i j hij hj
      rwa [pk_at hi, pk_at hj] at this
    · rw [List.pairwise_iff_getElem]
      intro i j hi hj hij
      have := (h3 j hj).2.2.2.2 i hij
      rwa [pk_at hi, pk_at hj] at this
  · rintro ⟨h1, h2, h3, h4, h5⟩
    rw [List.pairwise_iff_getElem] at h4 h5
    refine ⟨h1, h2, fun i hi => ?_⟩
    obtain ⟨a1, a3, a4⟩ := h3 _ (List.getElem_mem hi)
    refine ⟨by rw [pk_at hi]; exact a1, fun h0 => ?_, by rw [pk_at hi]; exact a3, by rw [pk_at hi]; exact a4, fun k hk => ?_⟩
    · rw [pk_at hi, pk_at (show i - 1 < L.length by omega)]
      exact h4 (i - 1) i (by omega) hi (by omega)
    · rw [pk_at hi, pk_at (show k < L.length by omega)]
      exact h5 k i (by omega) hi hk
theorem lefts_sub {α : Type} (F : List α) (l : List (Int × Int)) : (lefts F l).Sublist F := by
  unfold lefts
  have h : ((F.zipIdx.filter fun x => !metB l x.2).map (·.1)).Sublist (F.zipIdx.map (·.1)) := (List.filter_sublist).map _
  rwa [List.zipIdx_map_fst] at h
/-- all else of a world that may be -/
def Rest (n : Nat) (E : Env) (w : Wd) : Prop := Flo w.hs ∧ (∀ s ∈ w.hs, s.ow < (n : Int) ∧ s.no < w.nx) ∧ MayK w.ks (E.sp.length : Int) ∧ (∀ x ∈ w.ks, x.no < w.nx) ∧ 1 ≤ w.nx ∧ w.nx ≤ 1099511627777
def Good (n : Nat) (E : Env) (w : Wd) : Prop := Seats n w ∧ Rest n E w
/-- a command of the session -/
def Rgt (n : Nat) (x : Cm) : Prop := 0 ≤ x.pe ∧ x.pe < (n : Int) ∧ 1 ≤ x.sq ∧ chkO x.v x.a x.b x.c = 0
theorem good_act1 {n : Nat} {E : Env} {g : Gm} {x : Cm} (hn : n ≤ 6) (h : Good n E g.w) (hx : Rgt n x) : Good n E (act1 g x).w := by
  obtain ⟨hS, hR⟩ := h
  obtain ⟨p0, p1, p2, p3⟩ := hx
  have hp : x.pe.toNat < n := by omega
  have he : errA (mm g.w.ms x.pe.toNat) x.v x.a x.b x.c = 0 := by unfold errA; rw [mayB_iff.2 (hS.2.1 _ hp)]; exact p3
  have hm := may_act he
  have hS' := hS.setM hp hm
  unfold act1
  dsimp only
  split
  · rename_i hc
    obtain ⟨_, c2, c3, c4⟩ := hc
    obtain ⟨r1, r2, r3, r4, r5, r6⟩ := hR
    have ha : 1 ≤ x.a ∧ x.a ≤ 3 := by have := chk_rng p3; omega
    have harg : argB x.pe x.a g.w.nx = true := argB_iff.2 ⟨⟨p0, by omega⟩, ha, r5, c4⟩
    have hf : firS (actM (mm g.w.ms x.pe.toNat) x.v x.a x.b x.c) x.pe x.a g.w.nx = fired (actM (mm g.w.ms x.pe.toNat) x.v x.a x.b x.c) x.pe x.a g.w.nx := by
      unfold firS errF
      rw [mayB_iff.2 hm, harg]
      rfl
    refine ⟨hS', ?_, ?_, r3, fun y hy => by have := r4 y hy; show _ < _ + 1; omega, by show 1 ≤ _ + 1; omega, by show _ + 1 ≤ _; omega⟩
    · rw [hf]
      obtain ⟨q1, q2, q3⟩ := flo_pw.1 r1
      refine flo_pw.2 ⟨by simp; omega, fun s hs => ?_, ?_⟩
      · rcases List.mem_append.1 hs with hs | hs
        · exact q2 s hs
        · rw [List.mem_singleton.1 hs]; exact may_fired harg
      · rw [List.pairwise_append]
        refine ⟨q3, List.pairwise_singleton _ _, fun a ha b hb => ?_⟩
        rw [List.mem_singleton.1 hb]
        exact (r2 a ha).2
    · intro s hs
      rw [hf] at hs
      rcases List.mem_append.1 hs with hs | hs
      · have := r2 s hs
        exact ⟨this.1, by show _ < _ + 1; omega⟩
      · rw [List.mem_singleton.1 hs]
        exact ⟨p1, by show g.w.nx < g.w.nx + 1; omega⟩
  · split
    · exact ⟨hS', hR⟩
    · exact ⟨hS', hR⟩
theorem good_acts {n : Nat} {E : Env} (hn : n ≤ 6) : ∀ (l : List Cm) (g : Gm), Good n E g.w → (∀ x ∈ l, Rgt n x) → Good n E (acts l g).w
  | [], _, h, _ => h
  | x :: l, g, h, hl => good_acts hn l (act1 g x) (good_act1 hn h (hl x (List.mem_cons_self ..))) (fun y hy => hl y (List.mem_cons_of_mem _ hy))
theorem good_glid {n : Nat} {E : Env} {g : Gm} (h : Good n E g.w) : Good n E (glid E g).w := by
  obtain ⟨⟨h1, h2, h3, h4⟩, hR⟩ := h
  refine ⟨⟨by simpa [glid] using h1, fun i hi => ?_, h3, h4⟩, hR⟩
  have := may_glide E.sol (h2 i hi)
  rw [mm_at (by omega)] at this
  show May (mm (g.w.ms.map (gliM E.sol)) i)
  rw [mm_at (by simp; omega), List.getElem_map]
  exact this
theorem may_apt {a b : Mv} (ha : May a) (hb : May b) : May (aptA a b) := by
  unfold aptA aptE
  rw [mayB_iff.2 ha, mayB_iff.2 hb]
  simp only [Bool.and_self, if_true]
  split
  · rename_i ho
    obtain ⟨a1, a2, a3, a4, a5, a6, a7, a8, a9, a10, a11⟩ := ha
    obtain ⟨_, b2, _⟩ := hb
    exact ⟨a1, b2, a3, a4, a5, a6, a7, a8, a9, a10, fun h => absurd ho.1 h⟩
  · exact ha
theorem good_bnc1 {n : Nat} {E : Env} {g : Gm} {t : Int × Int} (h : Good n E g.w) (h1 : t.1.toNat < n) (h2 : t.2.toNat < n) : Good n E (bnc1 g t).w := by
  obtain ⟨hS, hR⟩ := h
  have ma := hS.2.1 _ h1
  have mb := hS.2.1 _ h2
  exact ⟨(hS.setM h1 (may_apt ma mb)).setM h2 (may_apt mb ma), hR⟩
theorem good_bncs {n : Nat} {E : Env} : ∀ (l : List (Int × Int)) (g : Gm), Good n E g.w → (∀ t ∈ l, t.1.toNat < n ∧ t.2.toNat < n) → Good n E (bncs l g).w
  | [], _, h, _ => h
  | x :: l, g, h, hl => good_bncs l (bnc1 g x) (good_bnc1 h (hl x (List.mem_cons_self ..)).1 (hl x (List.mem_cons_self ..)).2) (fun y hy => hl y (List.mem_cons_of_mem _ hy))
theorem bod_in {L : List Mv} : ∀ t ∈ bod L, t.1.toNat < L.length ∧ t.2.toNat < L.length := by
  intro t ht
  unfold bod at ht
  split at ht
  · obtain ⟨i, j, h1, h2, h3, rfl, _⟩ := allB_mem ht
    exact ⟨by simpa using h1, by simpa using h2⟩
  · simp at ht
theorem fls_no {sol : Int → Int → Bool} {s : Sh} (h : goes sol s = true) : (flyS sol s).no = s.no ∧ (flyS sol s).ow = s.ow ∧ (flyS sol s).pw = s.pw ∧ MayS (flyS sol s) := by
  have e : flyS sol s = flown sol s := by unfold flyS; rw [if_pos h]
  rw [e]
  exact ⟨rfl, rfl, rfl, may_flown h⟩
theorem flo_fls {E : Env} {S : List Sh} (h : Flo S) : Flo (flsF E S) ∧ ∀ s ∈ flsF E S, ∃ t ∈ S, s.no = t.no ∧ s.ow = t.ow := by
  obtain ⟨h1, h2, h3⟩ := flo_pw.1 h
  have hsub : ∀ s ∈ flsF E S, ∃ t ∈ S, goes E.sol t = true ∧ s = flyS E.sol t := by
    intro s hs
    unfold flsF at hs
    obtain ⟨t, ht, rfl⟩ := List.mem_map.1 hs
    obtain ⟨ht1, ht2⟩ := List.mem_filter.1 ht
    exact ⟨t, ht1, ht2, rfl⟩
  refine ⟨flo_pw.2 ⟨?_, fun s hs => ?_, ?_⟩, fun s hs => ?_⟩
  · unfold flsF
    have := List.length_filter_le (goes E.sol) S
    simp
    omega
  · obtain ⟨t, _, ht, rfl⟩ := hsub s hs
    exact (fls_no ht).2.2.2
  · unfold flsF
    rw [List.pairwise_map]
    have h4 := h3.filter (goes E.sol)
    refine List.Pairwise.imp_of_mem ?_ h4
    intro a b ha hb hab
    rw [(fls_no (List.mem_filter.1 ha).2).1, (fls_no (List.mem_filter.1 hb).2).1]
    exact hab
  · obtain ⟨t, ht0, ht, rfl⟩ := hsub s hs
    exact ⟨t, ht0, (fls_no ht).1, (fls_no ht).2.1⟩
theorem flo_sub {S T : List Sh} (h : Flo S) (hs : T.Sublist S) : Flo T := by
  obtain ⟨h1, h2, h3⟩ := flo_pw.1 h
  exact flo_pw.2 ⟨Nat.le_trans hs.length_le h1, fun s hm => h2 s (hs.subset hm), h3.sublist hs⟩
theorem mayK_sub {S T : List Pk} {s : Int} (h : MayK S s) (hs : T.Sublist S) : MayK T s := by
  obtain ⟨h0, h1, h2, h3, h4⟩ := mayK_pw.1 h
  exact mayK_pw.2 ⟨h0, Nat.le_trans hs.length_le h1, fun s hm => h2 s (hs.subset hm), h3.sublist hs, h4.sublist hs⟩
theorem harm_keeps (g : Gm) (s : Sh) (t : Int) : (harm g s t).w.fr = g.w.fr ∧ (harm g s t).w.hs = g.w.hs ∧ (harm g s t).w.ks = g.w.ks ∧ (harm g s t).w.nx = g.w.nx := by
  unfold harm
  dsimp only
  split <;> exact ⟨rfl, rfl, rfl, rfl⟩
theorem may_hits {a b : Scr} {n : Int} {o : Bool} (ha : MayC a) (hb : MayC b) (hn : 1 ≤ n ∧ n ≤ 3) : MayC (hit1 a b n o) ∧ MayC (hit2 a b n o) := by
  have e := errC_yes ha hb hn
  unfold hit1 hit2
  rw [if_pos e, if_pos e]
  exact ⟨may_hitA ha, may_hitW hb⟩
theorem seats_harm {n : Nat} {g : Gm} {s : Sh} {t : Int} (h : Seats n g.w) (hs : MayS s) (ho : s.ow.toNat < n) (ht : t.toNat < n) : Seats n (harm g s t).w := by
  unfold harm
  dsimp only
  split
  · exact h
  · have hp : 1 ≤ s.pw ∧ s.pw ≤ 3 := hs.2.2.1
    have he : errH (mm g.w.ms t.toNat) (dmg s.pw) = 0 := by
      have hd : dmg s.pw = 15 * s.pw := by unfold dmg; rw [if_neg (by omega)]
      unfold errH
      rw [mayB_iff.2 (h.2.1 _ ht), hd]
      simp only [if_true]
      rw [if_neg (by omega)]
    obtain ⟨m1, m2⟩ := may_hits (o := hurD (mm g.w.ms t.toNat) (dmg s.pw)) (h.2.2.2 _ ho) (h.2.2.2 _ ht) hp
    exact ((h.setM ht (may_hurt he)).setC ho m1).setC ht m2
theorem seats_harms {n : Nat} {F : List Sh} (hF : ∀ i, i < F.length → MayS (ss F i) ∧ (ss F i).ow.toNat < n) : ∀ (l : List (Int × Int)) (g : Gm), Seats n g.w → (∀ t ∈ l, t.1.toNat < F.length ∧ t.2.toNat < n) → Seats n (harmR F l g).w ∧ (harmR F l g).w.ks = g.w.ks ∧ (harmR F l g).w.nx = g.w.nx ∧ (harmR F l g).w.fr = g.w.fr
  | [], g, h, _ => ⟨h, rfl, rfl, rfl⟩
  | t :: l, g, h, hl => by
    obtain ⟨t1, t2⟩ := hl t (List.mem_cons_self ..)
    have hk := harm_keeps g (ss F t.1.toNat) t.2
    have ih := seats_harms hF l (harm g (ss F t.1.toNat) t.2) (seats_harm h (hF _ t1).1 (hF _ t1).2 t2) (fun y hy => hl y (List.mem_cons_of_mem _ hy))
    show Seats n (harmR F l (harm g (ss F t.1.toNat) t.2)).w ∧ _
    refine ⟨ih.1, ih.2.1.trans hk.2.2.1, ih.2.2.1.trans hk.2.2.2, ih.2.2.2.trans hk.1⟩
theorem rowS_in {P : Nat → Nat → Bool} {n m : Nat} : ∀ t ∈ rowS P n m, t.1.toNat < m ∧ t.2.toNat < n := by
  intro t ht
  obtain ⟨i, hi, rfl⟩ := List.mem_iff_getElem.1 ht
  obtain ⟨j, k, h1, h2, h3, _⟩ := rowS_at P n m i hi
  rw [h3]
  exact ⟨by simpa using h1, by simpa using h2⟩
theorem sho_in {L : List Mv} {S : List Sh} : ∀ t ∈ sho L S, t.1.toNat < S.length ∧ t.2.toNat < L.length := by
  intro t ht
  unfold sho at ht
  split at ht
  · exact rowS_in t ht
  · simp at ht
theorem pic_in {L : List Mv} {Q : List Pk} {T : List (Int × Int)} : ∀ t ∈ pic L Q T, t.1.toNat < Q.length ∧ t.2.toNat < L.length := by
  intro t ht
  unfold pic at ht
  split at ht
  · exact rowS_in t ht
  · simp at ht
theorem good_shts {n : Nat} {E : Env} {g : Gm} (h : Good n E g.w) : Good n E (shts E g).w := by
  obtain ⟨hS, r1, r2, r3, r4, r5, r6⟩ := h
  obtain ⟨f1, f2⟩ := flo_fls (E := E) r1
  have hF : ∀ i, i < (flsF E g.w.hs).length → MayS (ss (flsF E g.w.hs) i) ∧ (ss (flsF E g.w.hs) i).ow.toNat < n := fun i hi => by
    have hm : ss (flsF E g.w.hs) i ∈ flsF E g.w.hs := by rw [ss_at hi]; exact List.getElem_mem hi
    have h1 := (flo_pw.1 f1).2.1 _ hm
    obtain ⟨t, ht, _, h3⟩ := f2 _ hm
    have h4 := (r2 t ht).1
    have h5 : 0 ≤ (ss (flsF E g.w.hs) i).ow := h1.2.1.1
    exact ⟨h1, by omega⟩
  obtain ⟨k1, k2, k3, k4⟩ := seats_harms hF (sho g.w.ms (flsF E g.w.hs)) g hS (fun t ht => by
    have := sho_in t ht
    exact ⟨this.1, by rw [← hS.1]; exact this.2⟩)
  unfold shts
  dsimp only
  have hsub := lefts_sub (flsF E g.w.hs) (sho g.w.ms (flsF E g.w.hs))
  refine ⟨k1, flo_sub f1 hsub, fun s hs => ?_, by rw [k2]; exact r3, fun x hx => by rw [k3]; rw [k2] at hx; exact r4 x hx, by rw [k3]; exact r5, by rw [k3]; exact r6⟩
  obtain ⟨t, ht, e1, e2⟩ := f2 s (hsub.subset hs)
  have := r2 t ht
  exact ⟨by rw [e2]; exact this.1, by show s.no < _; rw [k3, e1]; exact this.2⟩
theorem may_take {m : Mv} {k : Int} (hm : May m) (hk : 1 ≤ k ∧ k ≤ 3) : May (takM m k) ∧ 0 ≤ takP m k ∧ takP m k ≤ 5 := by
  have e : errT m k = 0 := by unfold errT; rw [mayB_iff.2 hm, if_pos hk]; rfl
  refine ⟨?_, ?_, ?_⟩
  · unfold takM taken
    rw [if_pos e]
    obtain ⟨a1, a2, a3, a4, a5, a6, a7, a8, a9, a10, a11⟩ := hm
    split
    · rename_i ho
      have h10 := a10 ho
      split
      · exact ⟨a1, a2, a3, a4, by show 0 ≤ min (m.hl + 30) 100 ∧ min (m.hl + 30) 100 ≤ 100; omega, a6, a7, a8, a9, fun _ => by show 1 ≤ min (m.hl + 30) 100; omega, fun h => absurd ho h⟩
      · split
        · exact ⟨a1, a2, a3, a4, a5, by show 0 ≤ min (m.en + 40) 100 ∧ min (m.en + 40) 100 ≤ 100; omega, a7, a8, a9, a10, fun h => absurd ho h⟩
        · exact ⟨a1, a2, a3, a4, a5, a6, a7, a8, a9, a10, a11⟩
    · exact ⟨a1, a2, a3, a4, a5, a6, a7, a8, a9, a10, a11⟩
  · unfold takP; split <;> omega
  · unfold takP; split <;> omega
theorem may_gains {s : Scr} {n : Int} (hs : MayC s) (hn : 0 ≤ n ∧ n ≤ 100) : MayC (gain s n) := by
  unfold gain
  rw [if_pos (errG_yes hs hn)]
  exact may_gain hs
theorem seats_take {n : Nat} {Q : List Pk} {g : Gm} {t : Int × Int} (h : Seats n g.w) (hk : 1 ≤ (pk Q t.1.toNat).kd ∧ (pk Q t.1.toNat).kd ≤ 3) (ht : t.2.toNat < n) : Seats n (take1 Q g t).w := by
  obtain ⟨m1, m2, m3⟩ := may_take (h.2.1 _ ht) hk
  exact (h.setM ht m1).setC ht (may_gains (h.2.2.2 _ ht) ⟨m2, by omega⟩)
theorem seats_takes {n : Nat} {Q : List Pk} (hQ : ∀ i, i < Q.length → 1 ≤ (pk Q i).kd ∧ (pk Q i).kd ≤ 3) : ∀ (l : List (Int × Int)) (g : Gm), Seats n g.w → (∀ t ∈ l, t.1.toNat < Q.length ∧ t.2.toNat < n) → Seats n (takR Q l g).w ∧ (takR Q l g).w.hs = g.w.hs ∧ (takR Q l g).w.nx = g.w.nx ∧ (takR Q l g).w.fr = g.w.fr
  | [], g, h, _ => ⟨h, rfl, rfl, rfl⟩
  | t :: l, g, h, hl => by
    obtain ⟨t1, t2⟩ := hl t (List.mem_cons_self ..)
    have ih := seats_takes hQ l (take1 Q g t) (seats_take h (hQ _ t1) t2) (fun y hy => hl y (List.mem_cons_of_mem _ hy))
    exact ih
theorem good_pcks {n : Nat} {E : Env} {f : Int} {g : Gm} (h : Good n E g.w) : Good n E (pcks E f g).w := by
  obtain ⟨hS, r1, r2, r3, r4, r5, r6⟩ := h
  have hQ : ∀ i, i < g.w.ks.length → 1 ≤ (pk g.w.ks i).kd ∧ (pk g.w.ks i).kd ≤ 3 := fun i hi => (r3.2.2 i hi).2.2.2.1
  obtain ⟨k1, k2, k3, k4⟩ := seats_takes hQ (pic g.w.ms g.w.ks E.sp) g hS (fun t ht => by
    have := pic_in t ht
    exact ⟨this.1, by rw [← hS.1]; exact this.2⟩)
  have hsub := lefts_sub g.w.ks (pic g.w.ms g.w.ks E.sp)
  have hL := mayK_sub r3 hsub
  have hN : ∀ x ∈ lefts g.w.ks (pic g.w.ms g.w.ks E.sp), x.no < g.w.nx := fun x hx => r4 x (hsub.subset hx)
  unfold pcks
  dsimp only
  split
  · rename_i hc
    rw [k3] at hc
    refine ⟨k1, by rw [k2]; exact r1, fun s hs => ?_, ?_, fun x hx => ?_, (by rw [k3]; omega : 1 ≤ (takR g.w.ks (pic g.w.ms g.w.ks E.sp) g).w.nx + 1), (by rw [k3]; omega : (takR g.w.ks (pic g.w.ms g.w.ks E.sp) g).w.nx + 1 ≤ 1099511627777)⟩
    · rw [k2] at hs
      have := r2 s hs
      exact ⟨this.1, by show s.no < _ + 1; rw [k3]; omega⟩
    · rw [k3]
      exact may_spawn hc.2 (fun i hi => by rw [pk_at hi]; exact hN _ (List.getElem_mem hi))
    · show x.no < _ + 1
      rw [k3]
      rcases List.mem_append.1 hx with hx | hx
      · have := hN x hx; omega
      · rw [List.mem_singleton.1 hx, k3]
        have e : (spwn E.q f (lefts g.w.ks (pic g.w.ms g.w.ks E.sp)) (E.sp.length : Int) g.w.nx).no = g.w.nx := by unfold spwn; rw [if_pos hc.2]
        omega
  · exact ⟨k1, by rw [k2]; exact r1, fun s hs => by rw [k2] at hs; show _ ∧ s.no < _; rw [k3]; exact r2 s hs, hL, fun x hx => by show x.no < _; rw [k3]; exact hN x hx, (by rw [k3]; exact r5 : 1 ≤ (takR g.w.ks (pic g.w.ms g.w.ks E.sp) g).w.nx), (by rw [k3]; exact r6 : (takR g.w.ks (pic g.w.ms g.w.ks E.sp) g).w.nx ≤ 1099511627777)⟩
theorem restN_len (E : Env) (L : List Mv) : ∀ i, (restN E L i).length = L.length
  | 0 => rfl
  | i + 1 => by rw [restN, List.length_set, restN_len E L i]
theorem restN_at (E : Env) {L : List Mv} : ∀ {i : Nat}, i ≤ L.length → ∀ k, k < L.length → mm (restN E L i) k = if k < i then resM (mm L k) (pp E.st k).1 (pp E.st k).2 else mm L k
  | 0, _, k, hk => by rw [restN, if_neg (by omega)]
  | i + 1, hi, k, hk => by
    rw [restN, mm_set (by rw [restN_len]; omega), restN_at E (by omega) k hk]
    by_cases e : k = i
    · subst e
      rw [if_pos rfl, if_pos (by omega)]
    · rw [if_neg e]
      by_cases e2 : k < i
      · rw [if_pos e2, if_pos (by omega)]
      · rw [if_neg e2, if_neg (by omega)]
theorem good_rsts {n : Nat} {E : Env} {g : Gm} (h : Good n E g.w) : Good n E (rsts E g).w := by
  obtain ⟨⟨h1, h2, h3, h4⟩, hR⟩ := h
  refine ⟨⟨by show (restN E g.w.ms g.w.ms.length).length = n; rw [restN_len]; exact h1, fun i hi => ?_, h3, h4⟩, hR⟩
  show May (mm (restN E g.w.ms g.w.ms.length) i)
  rw [restN_at E (Nat.le_refl _) i (by omega), if_pos (by omega)]
  exact may_rest _ _ (h2 i hi)
theorem acts_fr : ∀ (l : List Cm) (g : Gm), (acts l g).w.fr = g.w.fr
  | [], _ => rfl
  | x :: l, g => by
    show (acts l (act1 g x)).w.fr = _
    rw [acts_fr l]
    unfold act1
    dsimp only
    split
    · rfl
    · split <;> rfl
theorem Good.fr {n : Nat} {E : Env} {w : Wd} (h : Good n E w) (f : Int) : Good n E { w with fr := f } := h
/-- a frame leads from a world that may be to one that may be -/
theorem good_frame {n : Nat} {E : Env} {w : Wd} {l : List Cm} (hn : n ≤ 6) (h : Good n E w) (hl : ∀ x ∈ l, Rgt n x) : Good n E (frame E w l).w ∧ (frame E w l).w.fr = w.fr + 1 := by
  have g1 := good_glid (E := E) (good_acts hn l ⟨w, []⟩ h hl)
  have g2 := good_bncs (bod (glid E (acts l ⟨w, []⟩)).w.ms) _ g1 (fun t ht => by
    have := bod_in t ht
    rw [g1.1.1] at this
    exact this)
  have g3 := (good_rsts (good_pcks (f := w.fr + 1) (good_shts g2))).fr (w.fr + 1)
  unfold frame
  dsimp only
  exact ⟨g3, rfl⟩
end Go.Proofs.YtdljmpjfiggdiaaDoor.Ha
