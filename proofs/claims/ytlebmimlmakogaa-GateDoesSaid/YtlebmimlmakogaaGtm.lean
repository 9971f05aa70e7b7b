/- Stage 21, all gates that the script has made; GateDoes. -/
import Derived.Test.YtlebmimlmakogaaGtl
namespace Go.Proofs.Ytlebmimlmakogaa
open Go.RowKit
set_option maxRecDepth 100000

abbrev pppT : TypeId := 23
/-- rows of pointers to pairs -/
def KPg : Kd Nat := ⟨fun r => [.pointer (some ⟨r, 0, none⟩)], 1, 0, fun _ => rfl, fun m u hu => by
  simp at hu
  subst hu
  rfl, by decide⟩
theorem infoPg : ∃ i, Try.prog.info? pppT = some i ∧ i.zero = some (.pointer none) ∧ i.size = KPg.k ∧ i.bytes = 8 := ⟨_, rfl, rfl, rfl, rfl⟩
def zPdG : PdG := ⟨0, 0, 0, 0, 0, 0, 0, []⟩
def pgG (Ps : List PdG) (i : Nat) : PdG := Ps.getD i zPdG
theorem pgG_set (Ps : List PdG) (i j : Nat) (P : PdG) (hi : i < Ps.length) : pgG (Ps.set i P) j = if j = i then P else pgG Ps j := by
  unfold pgG
  rw [List.getD_eq_getElem?_getD, List.getElem?_set]
  by_cases h : i = j
  · subst h; simp [hi]
  · rw [if_neg h, if_neg (fun e => h e.symm), List.getD_eq_getElem?_getD]
theorem pgG_app (Ps : List PdG) (P : PdG) (j : Nat) : pgG (Ps ++ [P]) j = if j < Ps.length then pgG Ps j else if j = Ps.length then P else zPdG := by
  unfold pgG
  rw [List.getD_eq_getElem?_getD, List.getElem?_append]
  by_cases h : j < Ps.length
  · rw [if_pos h, if_pos h, List.getD_eq_getElem?_getD]
  · rw [if_neg h, if_neg h]
    by_cases h2 : j = Ps.length
    · rw [if_pos h2, h2]; simp
    · rw [if_neg h2, List.getElem?_eq_none (by simp; omega)]; rfl
theorem mapr_set (Ps : List PdG) (i : Nat) (P : PdG) (hi : i < Ps.length) (hr : P.r = (pgG Ps i).r) : (Ps.set i P).map PdG.r = Ps.map PdG.r := by
  rw [List.map_set]
  have e2 : P.r = (Ps.map PdG.r)[i]'(by simpa using hi) := by
    have : pgG Ps i = Ps[i] := by unfold pgG; rw [List.getD_eq_getElem?_getD, List.getElem?_eq_getElem hi]; rfl
    rw [List.getElem_map, ← this, hr]
  rw [e2, List.set_getElem_self]
/-- apart -/
def SpG (x y : PdG) : Prop := x.g ≠ y.g ∧ x.g ≠ y.h ∧ x.h ≠ y.g ∧ x.h ≠ y.h
theorem SpG.symm {x y : PdG} (h : SpG x y) : SpG y x := ⟨fun e => h.1 e.symm, fun e => h.2.2.1 e.symm, fun e => h.2.1 e.symm, fun e => h.2.2.2 e.symm⟩
structure StG (w wr : World) (Ps : List PdG) (lv : Value) : Prop where
  ok : ∀ i, i < Ps.length → Pg w.heap.size wr (pgG Ps i)
  sp : ∀ i j, i < Ps.length → j < Ps.length → i ≠ j → SpG (pgG Ps i) (pgG Ps j)
  l : OwG KPg pppT wr w.heap.size lv (Ps.map PdG.r)
  s : Still w wr
theorem StG.still {w wr w' : World} {Ps : List PdG} {lv : Value} (h : StG w wr Ps lv) (hs : Still wr w') : StG w w' Ps lv := ⟨fun i hi => (h.ok i hi).still hs, h.sp, h.l.still hs, h.s.trans hs⟩
theorem owG_ty {α : Type} {K : Kd α} {e : TypeId} {w : World} {B k : Nat} {v : Value} {L : List α} (h : OwG K e w B v L) (hk : v.ownBlock = some k) : ∃ cur, w.heap[k]? = some (.cells cur e (0, 0)) := by
  rcases h.2 with ⟨rfl, _⟩ | ⟨g, cap, cur, rfl, hb, hg, _⟩
  · cases hk
  · cases hk; exact ⟨cur, hg⟩
/-- the rows of marks of one pair are no block of another pair, nor the row of pairs -/
theorem Pg.away {B : Nat} {w : World} {x y : PdG} (hx : Pg B w x) (hy : Pg B w y) (hs : SpG x y) : ∀ k, (k = x.g ∨ k = x.h) → k ≠ y.p ∧ k ≠ y.g ∧ k ≠ y.q ∧ k ≠ y.h ∧ k ≠ y.r := by
  rintro k (rfl | rfl)
  · obtain ⟨cur, hc⟩ := hx.x.row
    exact ⟨tyne hc hy.x.bk (by decide), hs.1, tyne hc hy.y.bk (by decide), hs.2.1, tyne hc hy.b (by decide)⟩
  · obtain ⟨cur, hc⟩ := hx.y.row
    exact ⟨tyne hc hy.x.bk (by decide), hs.2.2.1, tyne hc hy.y.bk (by decide), hs.2.2.2, tyne hc hy.b (by decide)⟩
theorem Pg.lne {B B2 : Nat} {w : World} {P : PdG} {u : Value} {L : List Nat} (h : Pg B w P) (ho : OwG KPg pppT w B2 u L) : ∀ k, (k = P.g ∨ k = P.h) → u.ownBlock ≠ some k := by
  rintro k hk e
  obtain ⟨cur, hc⟩ := owG_ty ho e
  rcases hk with rfl | rfl
  · obtain ⟨c2, hc2⟩ := h.x.row
    exact tyne hc hc2 (by decide) rfl
  · obtain ⟨c2, hc2⟩ := h.y.row
    exact tyne hc hc2 (by decide) rfl
/-- .. and the row of pairs is none of a pair's blocks -/
theorem Pg.lall {B B2 : Nat} {w : World} {P : PdG} {u : Value} {L : List Nat} (h : Pg B w P) (ho : OwG KPg pppT w B2 u L) : ∀ k, u.ownBlock = some k → k ≠ P.p ∧ k ≠ P.g ∧ k ≠ P.q ∧ k ≠ P.h ∧ k ≠ P.r := fun k e => by
  obtain ⟨cur, hc⟩ := owG_ty ho e
  obtain ⟨c2, hc2⟩ := h.x.row
  obtain ⟨c3, hc3⟩ := h.y.row
  exact ⟨tyne hc h.x.bk (by decide), tyne hc hc2 (by decide), tyne hc h.y.bk (by decide), tyne hc hc3 (by decide), tyne hc h.b (by decide)⟩
/-- a call on one of them -/
theorem StG.step {w wr w' : World} {Ps : List PdG} {lv : Value} (h : StG w wr Ps lv) {i : Nat} (hi : i < Ps.length) (he : DnG w.heap.size wr w' (pgG Ps i)) : ∃ Qs, StG w w' Qs lv ∧ Qs.length = Ps.length := by
  obtain ⟨M, hM, hf⟩ := he
  refine ⟨Ps.set i { pgG Ps i with L := M }, ⟨fun j hj => ?_, fun a b ha hb hab => ?_, ?_, ?_⟩, by rw [List.length_set]⟩
  · rw [List.length_set] at hj
    rw [pgG_set Ps i j _ hi]
    by_cases e : j = i
    · rw [if_pos e]; exact hM
    · rw [if_neg e]
      exact (h.ok j hj).keep hf ((h.ok i hi).away (h.ok j hj) (h.sp i j hi hj (fun e' => e e'.symm)))
  · rw [List.length_set] at ha hb
    rw [pgG_set Ps i a _ hi, pgG_set Ps i b _ hi]
    by_cases e1 : a = i
    · rw [if_pos e1, if_neg (fun e => hab (e1.trans e.symm))]
      exact h.sp i b hi hb (fun e => hab (e1.trans e))
    · rw [if_neg e1]
      by_cases e2 : b = i
      · rw [if_pos e2]
        exact h.sp a i ha hi e1
      · rw [if_neg e2]
        exact h.sp a b ha hb hab
  · have e0 := mapr_set Ps i { pgG Ps i with L := M } hi rfl
    rw [e0]
    exact h.l.keep hf (fun k hk => (h.ok i hi).lne h.l k hk)
  · refine Fr.trans h.s hf (fun k hk e => ?_)
    rcases e with rfl | rfl
    · have := (h.ok i hi).x.glt.1; omega
    · have := (h.ok i hi).y.glt.1; omega
/-- one more, in new memory; then the row goes on -/
theorem StG.more {w wr w1 w2 : World} {Ps : List PdG} {lv lv' : Value} {P : PdG} (h : StG w wr Ps lv) (hs : Still wr w1) (hP : Pg w.heap.size w1 P) (hg : wr.heap.size ≤ P.g) (hh : wr.heap.size ≤ P.h) (ho : OwG KPg pppT w2 w.heap.size lv' (Ps.map PdG.r ++ [P.r])) (hf : Fr (fun k => lv.ownBlock = some k) w1 w2) : StG w w2 (Ps ++ [P]) lv' := by
  have h1 := h.still hs
  have okP : Pg w.heap.size w2 P := hP.keep hf (fun k hk => hP.lall h1.l k hk)
  have okO : ∀ i, i < Ps.length → Pg w.heap.size w2 (pgG Ps i) := fun i hi => (h1.ok i hi).keep hf (fun k hk => (h1.ok i hi).lall h1.l k hk)
  have one : ∀ j, j < Ps.length → SpG P (pgG Ps j) := fun j hj => by
    have a := (h.ok j hj).x.glt.2
    have b := (h.ok j hj).y.glt.2
    exact ⟨by omega, by omega, by omega, by omega⟩
  refine ⟨fun i hi => ?_, fun a b ha hb hab => ?_, by rw [List.map_append]; exact ho, ?_⟩
  · rw [List.length_append] at hi
    rw [pgG_app]
    by_cases e : i < Ps.length
    · rw [if_pos e]; exact okO i e
    · rw [if_neg e, if_pos (by simp at hi; omega)]; exact okP
  · rw [List.length_append] at ha hb
    simp at ha hb
    rw [pgG_app, pgG_app]
    by_cases e1 : a < Ps.length
    · rw [if_pos e1]
      by_cases e2 : b < Ps.length
      · rw [if_pos e2]; exact h.sp a b e1 e2 hab
      · rw [if_neg e2, if_pos (by omega)]; exact (one a e1).symm
    · rw [if_neg e1, if_pos (by omega)]
      rw [if_pos (show b < Ps.length by omega)]
      exact one b (by omega)
  · exact Fr.trans h1.s hf (fun k hk e => by have := (h.l.block e).1; omega)
theorem StG.cell {w wr : World} {Ps : List PdG} {g n cap : Nat} (h : StG w wr Ps (.slice (some ⟨g, 0, none⟩) n cap)) {i : Nat} (hi : i < Ps.length) : wr.cell? ⟨g, i, none⟩ = some (.pointer (some ⟨(pgG Ps i).r, 0, none⟩)) := by
  have := h.l.get (i := i) (by simpa using hi) 0 _ rfl
  have e : (Ps.map PdG.r).getD i KPg.d = (pgG Ps i).r := by
    unfold pgG
    rw [List.getD_eq_getElem?_getD, List.getElem?_map, List.getD_eq_getElem?_getD, List.getElem?_eq_getElem hi]
    rfl
  rw [e] at this
  simpa [KPg] using this
theorem KPg.one' (w : World) (B r : Nat) (hb : B ≤ w.heap.size) : OwG KPg pppT (w.alloc (.cells #[.pointer (some ⟨r, 0, none⟩)] pppT)) B (.slice (some ⟨w.heap.size, 0, none⟩) 1 1) [r] := by
  have := World.ownsRow_lit (base := B) (e := pppT) (size := KPg.k) w #[.pointer (some ⟨r, 0, none⟩)] 1 hb (by unfold maxLen; omega) (by simp [KPg])
  exact this
set_option maxHeartbeats 4000000 in
theorem made21_yes (n s : Nat) (h : 2 ≤ n ∧ n ≤ 6 ∧ s < n) (w : World) : Calls Try.prog 6 #[.int .i64 (n : Int), .int .i64 (s : Int)] w fun e w' => ∃ P : PdG, e = .returned (.tuple #[.pointer (some ⟨P.r, 0, none⟩), .bool true]) ∧ Pg w.heap.size w' P ∧ w.heap.size ≤ P.g ∧ w.heap.size ≤ P.h ∧ Still w w' := by
  have HN := hid (fun w => gnew_yes n s h w)
  have HM := hid (fun w => dnew_yes n s h w)
  clear h
  go_enter Try.func6, Try.ntmps6
  go_wp2_with fail
  refine (HN.out _).mono ?_
  rintro e w1 ⟨he, hg1, hs1⟩
  rw [he]
  have HG1 := hid hg1
  have HS1 := hid hs1
  obtain ⟨p, ep⟩ : ∃ p, w.heap.size + 1 = p := ⟨_, rfl⟩
  rw [ep] at HG1 ⊢
  have HEp := hid ep
  clear he hg1 hs1 HN ep
  go_wp2_with fail
  refine (HM.out _).mono ?_
  rintro e w2 ⟨he, hg2, hs2⟩
  rw [he]
  obtain ⟨q, eq⟩ : ∃ p, w1.heap.size + 1 = p := ⟨_, rfl⟩
  rw [eq] at hg2 ⊢
  have A3 := Still.alloc w2 (.cells #[.pointer (some ⟨p, 0, none⟩), .pointer (some ⟨q, 0, none⟩)] pgT)
  have HF : Hid (Pg w.heap.size (w2.alloc (.cells #[.pointer (some ⟨p, 0, none⟩), .pointer (some ⟨q, 0, none⟩)] pgT)) ⟨w2.heap.size, p, w.heap.size, q, w1.heap.size, n, s, List.replicate n 0⟩ ∧ w.heap.size ≤ w.heap.size ∧ w.heap.size ≤ w1.heap.size ∧ Still w (w2.alloc (.cells #[.pointer (some ⟨p, 0, none⟩), .pointer (some ⟨q, 0, none⟩)] pgT))) := hid (by
    have z1 := HS1.out.size
    have z2 := hs2.size
    have z3 := HG1.out.glt.2
    exact ⟨⟨HG1.out.still (hs2.trans A3), (hg2.still A3).less z1, heap_alloc_new w2 _, by show w.heap.size ≤ w2.heap.size; omega, by show w.heap.size ≠ w1.heap.size; omega⟩, Nat.le_refl _, z1, (HS1.out.trans hs2).trans A3⟩)
  clear he hg2 hs2 HM eq A3
  go_wp2_with fail
  go_ret2
  exact ⟨⟨w2.heap.size, p, w.heap.size, q, w1.heap.size, n, s, List.replicate n 0⟩, rfl, HF.out⟩
theorem made21_no (a b : Int) (h : ¬ (2 ≤ a ∧ a ≤ 6 ∧ 0 ≤ b ∧ b < a)) (w : World) : Calls Try.prog 6 #[.int .i64 a, .int .i64 b] w fun e w' => e = .returned (.tuple #[.pointer none, .bool true]) ∧ w' = w := by
  have HN := hid (fun w => gnew_no a b h w)
  have HM := hid (fun w => dnew_no a b h w)
  clear h
  go_enter Try.func6, Try.ntmps6
  go_wp2_with fail
  refine (HN.out _).mono ?_
  rintro e w' ⟨he, hw⟩
  rw [he, hw]
  clear he hw w' HN
  go_wp2_with fail
  refine (HM.out _).mono ?_
  rintro e w' ⟨he, hw⟩
  rw [he, hw]
  clear he hw w' HM
  go_wp2_with fail
  go_ret2
  exact ⟨rfl, rfl⟩
end Go.Proofs.Ytlebmimlmakogaa
