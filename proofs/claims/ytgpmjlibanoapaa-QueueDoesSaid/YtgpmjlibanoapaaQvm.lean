/- All queues that the script has made. -/
import Derived.Test.YtgpmjlibanoapaaQvl
namespace Go.Proofs.Ytgpmjlibanoapaa
open Go.RowKit
set_option maxRecDepth 100000

/-- rows of pairs -/
def KPr : Kd (Option Pd) := ⟨fun x => match x with | none => [.pointer none, .pointer none] | some P => (pvs P).toList, 2, none, fun x => by cases x <;> rfl, fun x u hu => by
  cases x with
  | none => simp at hu; rcases hu with rfl | rfl <;> rfl
  | some P => simp at hu; rcases hu with rfl | rfl <;> rfl, by decide⟩
theorem infoPr : ∃ i, Try.prog.info? 31 = some i ∧ i.zero = some (.agg (KPr.f KPr.d).toArray) ∧ i.size = KPr.k ∧ i.bytes = 16 := ⟨_, rfl, rfl, rfl, rfl⟩
/-- rows of ops -/
def zOq : Oq := ⟨0, 0, zE, 0⟩
def KOq : Kd Oq := ⟨fun o => (oqs o).toList, 11, zOq, fun _ => rfl, fun m u hu => by
  simp at hu
  rcases hu with rfl | rfl | rfl | rfl | rfl | rfl | rfl | rfl | rfl | rfl | rfl <;> rfl, by decide⟩
def zPd : Pd := ⟨0, .slice none 0 0, [], 0, none, 0, []⟩
def pg (Ps : List Pd) (i : Nat) : Pd := Ps.getD i zPd
theorem pg_set (Ps : List Pd) (i j : Nat) (P : Pd) (hi : i < Ps.length) : pg (Ps.set i P) j = if j = i then P else pg Ps j := by
  unfold pg
  rw [List.getD_eq_getElem?_getD, List.getElem?_set]
  by_cases h : i = j
  · subst h; simp [hi]
  · rw [if_neg h, if_neg (fun e => h e.symm), List.getD_eq_getElem?_getD]
theorem pg_app (Ps : List Pd) (P : Pd) (j : Nat) : pg (Ps ++ [P]) j = if j < Ps.length then pg Ps j else if j = Ps.length then P else zPd := by
  unfold pg
  rw [List.getD_eq_getElem?_getD, List.getElem?_append]
  by_cases h : j < Ps.length
  · rw [if_pos h, if_pos h, List.getD_eq_getElem?_getD]
  · rw [if_neg h, if_neg h]
    by_cases h2 : j = Ps.length
    · rw [if_pos h2, h2]; simp
    · rw [if_neg h2, List.getElem?_eq_none (by simp; omega)]; rfl
/-- apart -/
def Sp (x y : Pd) : Prop := ∀ k, (Wt x k → ¬ Wt y k ∧ ¬ Rb y k) ∧ (Wt y k → ¬ Rb x k)
structure St (w wr : World) (Ps : List Pd) (lv : Value) : Prop where
  ok : ∀ i, i < Ps.length → Ok w.heap.size wr (pg Ps i)
  sp : ∀ i j, i < Ps.length → j < Ps.length → i ≠ j → Sp (pg Ps i) (pg Ps j)
  l : OwG KPr 31 wr w.heap.size lv (Ps.map some)
  lr : ∀ i, i < Ps.length → ∀ k, Rb (pg Ps i) k → lv.ownBlock ≠ some k
  s : Still w wr
theorem ow_ty {α : Type} {K : Kd α} {e : TypeId} {w : World} {B k : Nat} {u : Value} {L : List α} (ho : OwG K e w B u L) (hk : u.ownBlock = some k) : ∃ cur, w.heap[k]? = some (.cells cur e (0, 0)) := by
  rcases ho.2 with ⟨rfl, _⟩ | ⟨g, cap, cur, rfl, _, hg, _⟩
  · cases hk
  · simp [Value.ownBlock] at hk
    subst hk
    exact ⟨cur, hg⟩
theorem Ok.lne {B B2 : Nat} {w : World} {P : Pd} {u : Value} {L : List (Option Pd)} (h : Ok B w P) (ho : OwG KPr 31 w B2 u L) : ∀ k, Wt P k → u.ownBlock ≠ some k := by
  rintro k hk e
  obtain ⟨cur, hc⟩ := ow_ty ho e
  rcases hk with rfl | hk | rfl
  · exact ty_ne hc h.q.bk (by decide) rfl
  · obtain ⟨cur2, hc2⟩ := ow_ty h.q.ow hk
    exact ty_ne hc hc2 (by decide) rfl
  · exact ty_ne hc h.y.bk (by decide) rfl
theorem St.still {w wr w' : World} {Ps : List Pd} {lv : Value} (h : St w wr Ps lv) (hs : Still wr w') : St w w' Ps lv := ⟨fun i hi => (h.ok i hi).still hs, h.sp, h.l.still hs, h.lr, h.s.trans hs⟩
theorem row_set (Ps : List Pd) (i : Nat) (P : Pd) (hi : i < Ps.length) (hp : P.p = (pg Ps i).p) (hy : P.yb = (pg Ps i).yb) : KPr.row ((Ps.set i P).map some) = KPr.row (Ps.map some) := by
  have e : ∀ L : List Pd, KPr.row (L.map some) = (L.map (fun Q => (pvs Q).toList)).flatten := fun L => by
    unfold Kd.row
    rw [List.flatMap_def, List.map_map]
    rfl
  rw [e, e, List.map_set]
  congr 1
  have e2 : (pvs P).toList = (Ps.map (fun Q => (pvs Q).toList))[i]'(by simpa using hi) := by
    have : pg Ps i = Ps[i] := by unfold pg; rw [List.getD_eq_getElem?_getD, List.getElem?_eq_getElem hi]; rfl
    rw [List.getElem_map, ← this]
    simp only [hp, hy]
  rw [e2, List.set_getElem_self]
/-- a call on one of them -/
theorem St.step {w wr w' : World} {Ps : List Pd} {lv : Value} (h : St w wr Ps lv) {i : Nat} (hi : i < Ps.length) {P' : Pd} (he : Eff w.heap.size wr w' (pg Ps i) P') : St w w' (Ps.set i P') lv := by
  refine ⟨fun j hj => ?_, fun a b ha hb hab => ?_, ?_, fun j hj k hk e => ?_, ?_⟩
  · rw [List.length_set] at hj
    rw [pg_set Ps i j P' hi]
    by_cases e : j = i
    · rw [if_pos e]; exact he.ok
    · rw [if_neg e]
      exact (h.ok j hj).keep he.fr (fun k hk => ((h.sp i j hi hj (fun e' => e e'.symm)) k).1 hk)
  · rw [List.length_set] at ha hb
    have fresh : ∀ j, j < Ps.length → ∀ k, wr.heap.size ≤ k → ¬ Wt (pg Ps j) k ∧ ¬ Rb (pg Ps j) k := fun j hj k hk => ⟨fun e => by have := ((h.ok j hj).wlt k e).2; omega, fun e => by have := (h.ok j hj).rlt k e; omega⟩
    have one : ∀ j, j < Ps.length → j ≠ i → Sp P' (pg Ps j) := fun j hj hne k => by
      have hs := h.sp i j hi hj (fun e => hne e.symm)
      refine ⟨fun hk => ?_, fun hk e => ?_⟩
      · rcases he.wt k hk with h1 | h1
        · exact (hs k).1 h1
        · exact fresh j hj k h1
      · rcases he.rb k e with h1 | h1
        · exact (hs k).2 hk h1
        · exact (fresh j hj k h1).1 hk
    rw [pg_set Ps i a P' hi, pg_set Ps i b P' hi]
    by_cases e1 : a = i
    · rw [if_pos e1, if_neg (fun e => hab (e1.trans e.symm))]
      exact one b hb (fun e => hab (e1.trans e.symm))
    · rw [if_neg e1]
      by_cases e2 : b = i
      · rw [if_pos e2]
        intro k
        have := one a ha e1 k
        exact ⟨fun hk => ⟨fun e => (this.1 e).1 hk, fun e => this.2 hk e⟩, fun hk e => (this.1 hk).2 e⟩
      · rw [if_neg e2]
        exact h.sp a b ha hb hab
  · have hl := h.l.keep he.fr (fun k hk => (h.ok i hi).lne h.l k hk)
    have er := row_set Ps i P' hi he.ep he.ey
    unfold OwG at hl ⊢
    rw [er, List.length_map, List.length_set]
    rw [List.length_map] at hl
    exact hl
  · rw [List.length_set] at hj
    rw [pg_set Ps i j P' hi] at hk
    by_cases e1 : j = i
    · rw [if_pos e1] at hk
      rcases he.rb k hk with h1 | h1
      · exact h.lr i hi k h1 e
      · have := (h.l.block e).2; omega
    · rw [if_neg e1] at hk
      exact h.lr j hj k hk e
  · exact Fr.trans h.s he.fr (fun k hk e => by have := ((h.ok i hi).wlt k e).1; omega)
/-- one more, in new memory (from n on); then the row goes on -/
theorem St.more {w wr w1 w2 : World} {Ps : List Pd} {lv lv' : Value} {P : Pd} (h : St w wr Ps lv) (hs : Still wr w1) (hP : Ok w.heap.size w1 P) (hw : ∀ k, Wt P k → wr.heap.size ≤ k) (hr : ∀ k, Rb P k → wr.heap.size ≤ k) (ho : OwG KPr 31 w2 w.heap.size lv' (Ps.map some ++ [some P])) (hf : Fr (fun k => lv.ownBlock = some k) w1 w2) (hb : ∀ k, lv'.ownBlock = some k → lv.ownBlock = some k ∨ w1.heap.size ≤ k) : St w w2 (Ps ++ [P]) lv' := by
  have h1 := h.still hs
  have hlb : ∀ k, lv.ownBlock = some k → k < wr.heap.size := fun k hk => (h.l.block hk).2
  have okP : Ok w.heap.size w2 P := hP.keep hf (fun k hk => ⟨fun e => by have := hw k e; have := hlb k hk; omega, fun e => by have := hr k e; have := hlb k hk; omega⟩)
  have okO : ∀ i, i < Ps.length → Ok w.heap.size w2 (pg Ps i) := fun i hi => (h1.ok i hi).keep hf (fun k hk => ⟨fun e => (h1.ok i hi).lne h1.l k e hk, fun e => h.lr i hi k e hk⟩)
  have one : ∀ j, j < Ps.length → Sp P (pg Ps j) := fun j hj k => by
    refine ⟨fun hk => ⟨fun e => ?_, fun e => ?_⟩, fun hk e => ?_⟩
    · have := hw k hk; have := ((h.ok j hj).wlt k e).2; omega
    · have := hw k hk; have := (h.ok j hj).rlt k e; omega
    · have := hr k e; have := ((h.ok j hj).wlt k hk).2; omega
  refine ⟨fun i hi => ?_, fun a b ha hb' hab => ?_, by rw [List.map_append]; exact ho, fun j hj k hk e => ?_, ?_⟩
  · rw [List.length_append] at hi
    rw [pg_app]
    by_cases e : i < Ps.length
    · rw [if_pos e]; exact okO i e
    · rw [if_neg e, if_pos (by simp at hi; omega)]; exact okP
  · rw [List.length_append] at ha hb'
    simp at ha hb'
    rw [pg_app, pg_app]
    by_cases e1 : a < Ps.length
    · rw [if_pos e1]
      by_cases e2 : b < Ps.length
      · rw [if_pos e2]; exact h.sp a b e1 e2 hab
      · rw [if_neg e2, if_pos (by omega)]
        intro k
        have := one a e1 k
        exact ⟨fun hk => ⟨fun e => (this.1 e).1 hk, fun e => this.2 hk e⟩, fun hk e => (this.1 hk).2 e⟩
    · rw [if_neg e1, if_pos (show a = Ps.length by omega), if_pos (show b < Ps.length by omega)]
      exact one b (by omega)
  · rw [List.length_append] at hj
    simp at hj
    rw [pg_app] at hk
    by_cases e1 : j < Ps.length
    · rw [if_pos e1] at hk
      rcases hb k e with h2 | h2
      · exact h.lr j e1 k hk h2
      · have := (h.ok j e1).rlt k hk; have := hs.size; omega
    · rw [if_neg e1, if_pos (show j = Ps.length by omega)] at hk
      have h3 := hP.rlt k hk
      rcases hb k e with h2 | h2
      · have := hlb k h2; have := hr k hk; omega
      · omega
  · exact Fr.trans h1.s hf (fun k hk e => by have := (h.l.block e).1; omega)
/-- a new pair without entries -/
theorem Ok.new {B : Nat} {w : World} {p yb : Nat} (hp : w.heap[p]? = some (.cells #[.slice none 0 0] 59 (0, 0))) (hy : w.heap[yb]? = some (.cells #[.slice none 0 0] 29 (0, 0))) (h1 : B ≤ p) (h2 : B ≤ yb) : Ok B w ⟨p, .slice none 0 0, [], yb, none, 0, []⟩ :=
  ⟨⟨hp, OwG.nil _ _, h1⟩, Qu.nil, ⟨hy, Sr.nil w⟩, List.Perm.refl _, List.Pairwise.nil, h2, fun k ⟨a, ha, _⟩ => by cases ha⟩
end Go.Proofs.Ytgpmjlibanoapaa
