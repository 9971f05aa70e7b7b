/- All bags that the script has made. -/
import Derived.Test.YtakdfckkljbghaaBgq
namespace Go.Proofs.Ytakdfckkljbghaa
open Go.RowKit
set_option maxRecDepth 100000
set_option linter.unusedVariables false

/-- rows of pairs -/
def KP17 : Kd (Option Pd17) := ⟨fun x => match x with | none => [.pointer none, .pointer none] | some P => (pvs17 P).toList, 2, none, fun x => by cases x <;> rfl, fun x u hu => by
  cases x with
  | none => simp at hu; rcases hu with rfl | rfl <;> rfl
  | some P => simp at hu; rcases hu with rfl | rfl <;> rfl, by decide⟩
theorem infoP17 : ∃ i, Try.prog.info? 31 = some i ∧ i.zero = some (.agg (KP17.f KP17.d).toArray) ∧ i.size = KP17.k ∧ i.bytes = 16 := ⟨_, rfl, rfl, rfl, rfl⟩
/-- rows of ops -/
def zO17 : Oq17 := ⟨0, 0, 0, 0, none, 0, 0, [], 0, false⟩
def KO17 : Kd Oq17 := ⟨fun o => (oqs17 o).toList, 7, zO17, fun _ => rfl, fun m u hu => by
  simp at hu
  rcases hu with rfl | rfl | rfl | rfl | rfl | rfl | rfl <;> rfl, by decide⟩
def zP17 : Pd17 := ⟨0, 0, 0, .slice none 0 0, 0, [], []⟩
def pg17 (Ps : List Pd17) (i : Nat) : Pd17 := Ps.getD i zP17
theorem pg17_set (Ps : List Pd17) (i j : Nat) (P : Pd17) (hi : i < Ps.length) : pg17 (Ps.set i P) j = if j = i then P else pg17 Ps j := by
  unfold pg17
  rw [List.getD_eq_getElem?_getD, List.getElem?_set]
  by_cases h : i = j
  · subst h; simp [hi]
  · rw [if_neg h, if_neg (fun e => h e.symm), List.getD_eq_getElem?_getD]
theorem pg17_app (Ps : List Pd17) (P : Pd17) (j : Nat) : pg17 (Ps ++ [P]) j = if j < Ps.length then pg17 Ps j else if j = Ps.length then P else zP17 := by
  unfold pg17
  rw [List.getD_eq_getElem?_getD, List.getElem?_append]
  by_cases h : j < Ps.length
  · rw [if_pos h, if_pos h, List.getD_eq_getElem?_getD]
  · rw [if_neg h, if_neg h]
    by_cases h2 : j = Ps.length
    · rw [if_pos h2, h2]; simp
    · rw [if_neg h2, List.getElem?_eq_none (by simp; omega)]; rfl
/-- apart -/
def Sp17 (x y : Pd17) : Prop := ∀ k, Wt17 x k → ¬ Wt17 y k
structure St17 (w wr : World) (m : Int) (Ps : List Pd17) (lv : Value) : Prop where
  ok : ∀ i, i < Ps.length → Ok17 w.heap.size wr (pg17 Ps i)
  sp : ∀ i j, i < Ps.length → j < Ps.length → i ≠ j → Sp17 (pg17 Ps i) (pg17 Ps j)
  la : ∀ i, i < Ps.length → (pg17 Ps i).la ≤ m
  l : OwG KP17 31 wr w.heap.size lv (Ps.map some)
  s : Still w wr
theorem Ok17.lne {B B2 : Nat} {w : World} {P : Pd17} {u : Value} {L : List (Option Pd17)} (h : Ok17 B w P) (ho : OwG KP17 31 w B2 u L) : ∀ k, Wt17 P k → u.ownBlock ≠ some k := by
  rintro k hk e
  obtain ⟨cur, hc⟩ := ow_ty ho e
  rcases hk with rfl | rfl | rfl | hk
  · exact ty_ne hc h.x.bk (by decide) rfl
  · obtain ⟨es, c, hb, _⟩ := h.x.mp
    rw [hb] at hc; cases hc
  · exact ty_ne hc h.y.bk (by decide) rfl
  · obtain ⟨cur2, hc2⟩ := ow_ty h.y.ow hk
    exact ty_ne hc hc2 (by decide) rfl
theorem St17.still {w wr w' : World} {m : Int} {Ps : List Pd17} {lv : Value} (h : St17 w wr m Ps lv) (hs : Still wr w') : St17 w w' m Ps lv := ⟨fun i hi => (h.ok i hi).still hs, h.sp, h.la, h.l.still hs, h.s.trans hs⟩
theorem St17.mono {w wr : World} {m m' : Int} {Ps : List Pd17} {lv : Value} (h : St17 w wr m Ps lv) (hm : m ≤ m') : St17 w wr m' Ps lv := ⟨h.ok, h.sp, fun i hi => by have := h.la i hi; omega, h.l, h.s⟩
theorem row_set17 (Ps : List Pd17) (i : Nat) (P : Pd17) (hi : i < Ps.length) (hp : P.p = (pg17 Ps i).p) (hy : P.yb = (pg17 Ps i).yb) : KP17.row ((Ps.set i P).map some) = KP17.row (Ps.map some) := by
  have e : ∀ L : List Pd17, KP17.row (L.map some) = (L.map (fun Q => (pvs17 Q).toList)).flatten := fun L => by
    unfold Kd.row
    rw [List.flatMap_def, List.map_map]
    rfl
  rw [e, e, List.map_set]
  congr 1
  have e2 : (pvs17 P).toList = (Ps.map (fun Q => (pvs17 Q).toList))[i]'(by simpa using hi) := by
    have : pg17 Ps i = Ps[i] := by unfold pg17; rw [List.getD_eq_getElem?_getD, List.getElem?_eq_getElem hi]; rfl
    rw [List.getElem_map, ← this]
    simp only [hp, hy]
  rw [e2, List.set_getElem_self]
/-- a call on one of them -/
theorem St17.step {w wr w' : World} {m : Int} {Ps : List Pd17} {lv : Value} (h : St17 w wr m Ps lv) {i : Nat} (hi : i < Ps.length) {P' : Pd17} (he : Eff17 w.heap.size wr w' (pg17 Ps i) P') {m' : Int} (hm : m ≤ m') (hm2 : P'.la ≤ m') : St17 w w' m' (Ps.set i P') lv := by
  refine ⟨fun j hj => ?_, fun a b ha hb hab => ?_, fun j hj => ?_, ?_, ?_⟩
  · rw [List.length_set] at hj
    rw [pg17_set Ps i j P' hi]
    by_cases e : j = i
    · rw [if_pos e]; exact he.ok
    · rw [if_neg e]
      exact (h.ok j hj).keep he.fr (fun k hk => ⟨(h.sp i j hi hj (fun e' => e e'.symm)) k hk, (h.ok i hi).nbt k hk⟩)
  · rw [List.length_set] at ha hb
    have one : ∀ j, j < Ps.length → j ≠ i → ∀ k, Wt17 P' k → ¬ Wt17 (pg17 Ps j) k := fun j hj hne k hk => by
      rcases he.wt k hk with h1 | h1
      · exact h.sp i j hi hj (fun e => hne e.symm) k h1
      · intro e
        have := ((h.ok j hj).wlt k e).2
        omega
    rw [pg17_set Ps i a P' hi, pg17_set Ps i b P' hi]
    by_cases e1 : a = i
    · rw [if_pos e1, if_neg (fun e => hab (e1.trans e.symm))]
      exact one b hb (fun e => hab (e1.trans e.symm))
    · rw [if_neg e1]
      by_cases e2 : b = i
      · rw [if_pos e2]
        exact fun k hk e => one a ha e1 k e hk
      · rw [if_neg e2]
        exact h.sp a b ha hb hab
  · rw [List.length_set] at hj
    rw [pg17_set Ps i j P' hi]
    by_cases e : j = i
    · rw [if_pos e]
      exact hm2
    · rw [if_neg e]
      have := h.la j hj
      omega
  · have hl := h.l.keep he.fr (fun k hk => (h.ok i hi).lne h.l k hk)
    have er := row_set17 Ps i P' hi he.ep he.ey
    unfold OwG at hl ⊢
    rw [er, List.length_map, List.length_set]
    rw [List.length_map] at hl
    exact hl
  · exact Fr.trans h.s he.fr (fun k hk e => by have := ((h.ok i hi).wlt k e).1; omega)
/-- one more, in new memory; then the row goes on -/
theorem St17.more {w wr w1 w2 : World} {m : Int} {Ps : List Pd17} {lv lv' : Value} {P : Pd17} (h : St17 w wr m Ps lv) (hs : Still wr w1) (hP : Ok17 w.heap.size w1 P) (hl : P.la ≤ m) (hw : ∀ k, Wt17 P k → wr.heap.size ≤ k) (ho : OwG KP17 31 w2 w.heap.size lv' (Ps.map some ++ [some P])) (hf : Fr (fun k => lv.ownBlock = some k) w1 w2) : St17 w w2 m (Ps ++ [P]) lv' := by
  have h1 := h.still hs
  have nb : ∀ k, lv.ownBlock = some k → Nbt w1 k := fun k hk => by
    obtain ⟨cur, hc⟩ := ow_ty h1.l hk
    exact Nbt.of hc (by decide)
  have okP : Ok17 w.heap.size w2 P := hP.keep hf (fun k hk => ⟨fun e => by have := hw k e; have := (h.l.block hk).2; omega, nb k hk⟩)
  have okO : ∀ i, i < Ps.length → Ok17 w.heap.size w2 (pg17 Ps i) := fun i hi => (h1.ok i hi).keep hf (fun k hk => ⟨fun e => (h1.ok i hi).lne h1.l k e hk, nb k hk⟩)
  have one : ∀ j, j < Ps.length → Sp17 P (pg17 Ps j) := fun j hj k hk e => by
    have := hw k hk
    have := ((h.ok j hj).wlt k e).2
    omega
  refine ⟨fun i hi => ?_, fun a b ha hb' hab => ?_, fun j hj => ?_, by rw [List.map_append]; exact ho, ?_⟩
  · rw [List.length_append] at hi
    rw [pg17_app]
    by_cases e : i < Ps.length
    · rw [if_pos e]; exact okO i e
    · rw [if_neg e, if_pos (by simp at hi; omega)]; exact okP
  · rw [List.length_append] at ha hb'
    simp at ha hb'
    rw [pg17_app, pg17_app]
    by_cases e1 : a < Ps.length
    · rw [if_pos e1]
      by_cases e2 : b < Ps.length
      · rw [if_pos e2]; exact h.sp a b e1 e2 hab
      · rw [if_neg e2, if_pos (by omega)]
        exact fun k hk e => one a e1 k e hk
    · rw [if_neg e1, if_pos (show a = Ps.length by omega), if_pos (show b < Ps.length by omega)]
      exact one b (by omega)
  · rw [List.length_append] at hj
    simp at hj
    rw [pg17_app]
    by_cases e1 : j < Ps.length
    · rw [if_pos e1]; exact h.la j e1
    · rw [if_neg e1, if_pos (show j = Ps.length by omega)]; exact hl
  · exact Fr.trans h1.s hf (fun k hk e => by have := (h.l.block e).1; omega)
/-- a new pair -/
theorem Ok17.new {B : Nat} {w : World} {p mb yb : Nat} (hx : Bk w p mb 0 []) (hy : w.heap[yb]? = some (.cells #[.slice none 0 0, .int .i64 0] 29 (0, 0))) (h1 : B ≤ p) (h2 : B ≤ mb) (h3 : B ≤ yb) : Ok17 B w ⟨p, mb, yb, .slice none 0 0, 0, [], []⟩ :=
  ⟨hx, ⟨hy, OwG.nil _ _, fun _ h => (by cases h), h3⟩, rfl, h1, h2⟩
theorem rdO17 {w : World} {B o n : Nat} {L : List Oq17} (h : RdG KO17 w (some ⟨B, o, none⟩) n L) {i : Nat} (hi : i < n) {x : Oq17} (hx : L.getD i KO17.d = x) : w.cell? ⟨B, o + i * 7, none⟩ = some (.int .i64 x.k) ∧ w.cell? ⟨B, o + i * 7 + 1, none⟩ = some (.int .i64 x.wh) ∧ w.cell? ⟨B, o + i * 7 + 2, none⟩ = some (.int .i64 x.fr) ∧ w.cell? ⟨B, o + i * 7 + 3, none⟩ = some (.int .i64 x.td) ∧ w.cell? ⟨B, o + i * 7 + 4, none⟩ = some (.slice x.ao x.n x.cap) ∧ w.cell? ⟨B, o + i * 7 + 5, none⟩ = some (.int .i64 x.no) ∧ w.cell? ⟨B, o + i * 7 + 6, none⟩ = some (.bool x.nr) := by
  subst hx
  exact ⟨h.get hi 0 _ rfl, h.get hi 1 _ rfl, h.get hi 2 _ rfl, h.get hi 3 _ rfl, h.get hi 4 _ rfl, h.get hi 5 _ rfl, h.get hi 6 _ rfl⟩
theorem owP17 {e : TypeId} {w : World} {B g n cap : Nat} {Ps : List Pd17} (h : OwG KP17 e w B (.slice (some ⟨g, 0, none⟩) n cap) (Ps.map some)) {i : Nat} (hi : i < Ps.length) : w.cell? ⟨g, i * 2, none⟩ = some (.pointer (some ⟨(pg17 Ps i).p, 0, none⟩)) ∧ w.cell? ⟨g, i * 2 + 1, none⟩ = some (.pointer (some ⟨(pg17 Ps i).yb, 0, none⟩)) := by
  have e : (Ps.map some).getD i KP17.d = some (pg17 Ps i) := by
    unfold pg17
    rw [List.getD_eq_getElem?_getD, List.getElem?_map, List.getD_eq_getElem?_getD, List.getElem?_eq_getElem hi]; rfl
  have hi' : i < (Ps.map some).length := by simpa using hi
  exact ⟨h.get hi' 0 _ (by rw [e]; rfl), h.get hi' 1 _ (by rw [e]; rfl)⟩
theorem OwG.pair17 (w : World) (B : Nat) (P : Pd17) (hb : B ≤ w.heap.size) : OwG KP17 31 (w.alloc (.cells (pvs17 P) 31)) B (.slice (some ⟨w.heap.size, 0, none⟩) 1 1) ([P].map some) := by
  have := World.ownsRow_lit (base := B) (e := 31) (size := KP17.k) w (pvs17 P) 1 hb (by unfold maxLen; omega) (by simp [KP17])
  exact this
end Go.Proofs.Ytakdfckkljbghaa
