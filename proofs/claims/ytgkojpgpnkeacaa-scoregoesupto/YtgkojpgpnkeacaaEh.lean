/- The law on how scores go. -/
import Derived.Test.YtgkojpgpnkeacaaEg
import Derived.Deep.RegionHeld3
import Derived.Deep.DeepCutAuto
namespace Go.Proofs.Ytgkojpgpnkeacaa
open Go.RowKit
open Ea
set_option maxRecDepth 100000

/-- a deed -/
structure Dd where
  b : Int
  w : Int
  p : Int
  o : Bool
def KDd : Kd Dd := ⟨fun m => [.int .i64 m.b, .int .i64 m.w, .int .i64 m.p, .bool m.o], 4, ⟨0, 0, 0, false⟩, fun _ => rfl, fun m u hu => by
  simp at hu
  rcases hu with rfl | rfl | rfl | rfl <;> rfl, by decide⟩
def dd (L : List Dd) (i : Nat) : Dd := L.getD i ⟨0, 0, 0, false⟩
theorem rdDd {w : World} {B o n : Nat} {L : List Dd} (h : RdG KDd w (some ⟨B, o, none⟩) n L) {i : Nat} (hi : i < n) : w.cell? ⟨B, o + i * 4, none⟩ = some (.int .i64 (dd L i).b) ∧ w.cell? ⟨B, o + i * 4 + 1, none⟩ = some (.int .i64 (dd L i).w) ∧ w.cell? ⟨B, o + i * 4 + 2, none⟩ = some (.int .i64 (dd L i).p) ∧ w.cell? ⟨B, o + i * 4 + 3, none⟩ = some (.bool (dd L i).o) :=
  ⟨h.get hi 0 _ rfl, h.get hi 1 _ rfl, h.get hi 2 _ rfl, h.get hi 3 _ rfl⟩
/-- block G is a row of three scores -/
def Ar3 (w : World) (G : Nat) (T : List Scr) : Prop := T.length = 3 ∧ w.heap[G]? = some (.cells (KC.row T).toArray 38 (0, 0))
theorem Ar3.still {w w' : World} {G : Nat} {T : List Scr} (h : Ar3 w G T) (hs : Still w w') : Ar3 w' G T := ⟨h.1, hs.kept_still h.2⟩
theorem Ar3.cells {w : World} {G : Nat} {T : List Scr} (h : Ar3 w G T) {j : Nat} (hj : j < 3) : w.cell? ⟨G, j * 4, none⟩ = some (.int .i64 (sc T j).p) ∧ w.cell? ⟨G, j * 4 + 1, none⟩ = some (.int .i64 (sc T j).h) ∧ w.cell? ⟨G, j * 4 + 2, none⟩ = some (.int .i64 (sc T j).o) ∧ w.cell? ⟨G, j * 4 + 3, none⟩ = some (.int .i64 (sc T j).k) ∧ ∀ o, w.frozen? ⟨G, o, none⟩ = false := by
  have hg := fun q hq => KC.row_get T j q (by rw [h.1]; exact hj) hq
  refine ⟨?_, ?_, ?_, ?_, fun o => frozen_of_row w G o _ _ h.2⟩
  · rw [cell_of_row _ _ _ _ _ _ h.2, List.getElem?_toArray]; exact hg 0 (by decide)
  · rw [cell_of_row _ _ _ _ _ _ h.2, List.getElem?_toArray]; exact hg 1 (by decide)
  · rw [cell_of_row _ _ _ _ _ _ h.2, List.getElem?_toArray]; exact hg 2 (by decide)
  · rw [cell_of_row _ _ _ _ _ _ h.2, List.getElem?_toArray]; exact hg 3 (by decide)
theorem Ar3.put {w : World} {G : Nat} {T : List Scr} (h : Ar3 w G T) {j : Nat} (hj : j < 3) (x : Scr) : Ar3 ((((w.setCell ⟨G, j * 4, none⟩ (.int .i64 x.p)).setCell ⟨G, j * 4 + 1, none⟩ (.int .i64 x.h)).setCell ⟨G, j * 4 + 2, none⟩ (.int .i64 x.o)).setCell ⟨G, j * 4 + 3, none⟩ (.int .i64 x.k)) G (T.set j x) := by
  have hs : (KC.row T).length = 12 := by rw [KC.row_len, h.1]; rfl
  have h1 := heap_setCells G 38 (KC.f x) (j * 4) _ w h.2 (by rw [KC.len, List.size_toArray, hs]; show j * 4 + 4 ≤ 12; omega)
  refine ⟨by rw [List.length_set]; exact h.1, ?_⟩
  rw [KC.len] at h1
  have e := KC.row_set T j (by rw [h.1]; exact hj) x
  rw [← e, ← List.append_assoc]
  exact h1
theorem Ar3.new (w : World) : Ar3 (w.alloc (.cells #[.int .i64 0, .int .i64 0, .int .i64 0, .int .i64 0, .int .i64 0, .int .i64 0, .int .i64 0, .int .i64 0, .int .i64 0, .int .i64 0, .int .i64 0, .int .i64 0] 38)) w.heap.size [zC, zC, zC] := ⟨rfl, heap_alloc_new w _⟩
theorem fr_ar {w w' : World} {G j : Nat} (h : Still w w') (hG : w.heap.size ≤ G) (x : Scr) : Still w ((((w'.setCell ⟨G, j * 4, none⟩ (.int .i64 x.p)).setCell ⟨G, j * 4 + 1, none⟩ (.int .i64 x.h)).setCell ⟨G, j * 4 + 2, none⟩ (.int .i64 x.o)).setCell ⟨G, j * 4 + 3, none⟩ (.int .i64 x.k)) :=
  setC_frC (setC_frC (setC_frC (setC_frC h _ _ _ hG) _ _ _ hG) _ _ _ hG) _ _ _ hG
theorem pairCA (w wr : World) (X Y : Scr) (h : Still wr w) : Cb ((w.alloc (.cells #[.int .i64 X.p, .int .i64 X.h, .int .i64 X.o, .int .i64 X.k] 23)).alloc (.cells #[.int .i64 Y.p, .int .i64 Y.h, .int .i64 Y.o, .int .i64 Y.k] 23)) w.heap.size X ∧ Cb ((w.alloc (.cells #[.int .i64 X.p, .int .i64 X.h, .int .i64 X.o, .int .i64 X.k] 23)).alloc (.cells #[.int .i64 Y.p, .int .i64 Y.h, .int .i64 Y.o, .int .i64 Y.k] 23)) (w.heap.size + 1) Y ∧ Still wr ((w.alloc (.cells #[.int .i64 X.p, .int .i64 X.h, .int .i64 X.o, .int .i64 X.k] 23)).alloc (.cells #[.int .i64 Y.p, .int .i64 Y.h, .int .i64 Y.o, .int .i64 Y.k] 23)) := by
  refine ⟨(newC_cb w X).still (Still.alloc _ _), ?_, (h.trans (Still.alloc _ _)).trans (Still.alloc _ _)⟩
  have h2 := newC_cb (newC w X) Y
  rw [size_alloc] at h2
  exact h2
theorem pairCC (w wr : World) (g : Nat) (X Y : Scr) (r : Cb w g zC) (h : Still wr w) (l : wr.heap.size ≤ g) : Cb (((((w.setCell ⟨g, 0, none⟩ (.int .i64 X.p)).setCell ⟨g, 1, none⟩ (.int .i64 X.h)).setCell ⟨g, 2, none⟩ (.int .i64 X.o)).setCell ⟨g, 3, none⟩ (.int .i64 X.k)).alloc (.cells #[.int .i64 Y.p, .int .i64 Y.h, .int .i64 Y.o, .int .i64 Y.k] 23)) g X ∧ Cb (((((w.setCell ⟨g, 0, none⟩ (.int .i64 X.p)).setCell ⟨g, 1, none⟩ (.int .i64 X.h)).setCell ⟨g, 2, none⟩ (.int .i64 X.o)).setCell ⟨g, 3, none⟩ (.int .i64 X.k)).alloc (.cells #[.int .i64 Y.p, .int .i64 Y.h, .int .i64 Y.o, .int .i64 Y.k] 23)) w.heap.size Y ∧ Still wr (((((w.setCell ⟨g, 0, none⟩ (.int .i64 X.p)).setCell ⟨g, 1, none⟩ (.int .i64 X.h)).setCell ⟨g, 2, none⟩ (.int .i64 X.o)).setCell ⟨g, 3, none⟩ (.int .i64 X.k)).alloc (.cells #[.int .i64 Y.p, .int .i64 Y.h, .int .i64 Y.o, .int .i64 Y.k] 23)) := by
  have r2 := r.put X.p X.h X.o X.k
  have h2 := setC_frC (setC_frC (setC_frC (setC_frC h g 0 (.int .i64 X.p) l) g 1 (.int .i64 X.h) l) g 2 (.int .i64 X.o) l) g 3 (.int .i64 X.k) l
  refine ⟨r2.still (Still.alloc _ _), ?_, h2.trans (Still.alloc _ _)⟩
  have h3 := newC_cb ((((w.setCell ⟨g, 0, none⟩ (.int .i64 X.p)).setCell ⟨g, 1, none⟩ (.int .i64 X.h)).setCell ⟨g, 2, none⟩ (.int .i64 X.o)).setCell ⟨g, 3, none⟩ (.int .i64 X.k)) Y
  simpa using h3
theorem pairC_close {wr b : World} {g1 g2 : Nat} (X Y : Scr) (h1 : Cb b g1 zC) (h2 : Cb b g2 zC) (hne : g1 ≠ g2) (hs : Still wr b) (l1 : wr.heap.size ≤ g1) (l2 : wr.heap.size ≤ g2) : Cb ((((((((b.setCell ⟨g1, 0, none⟩ (.int .i64 X.p)).setCell ⟨g1, 1, none⟩ (.int .i64 X.h)).setCell ⟨g1, 2, none⟩ (.int .i64 X.o)).setCell ⟨g1, 3, none⟩ (.int .i64 X.k)).setCell ⟨g2, 0, none⟩ (.int .i64 Y.p)).setCell ⟨g2, 1, none⟩ (.int .i64 Y.h)).setCell ⟨g2, 2, none⟩ (.int .i64 Y.o)).setCell ⟨g2, 3, none⟩ (.int .i64 Y.k)) g1 X ∧ Cb ((((((((b.setCell ⟨g1, 0, none⟩ (.int .i64 X.p)).setCell ⟨g1, 1, none⟩ (.int .i64 X.h)).setCell ⟨g1, 2, none⟩ (.int .i64 X.o)).setCell ⟨g1, 3, none⟩ (.int .i64 X.k)).setCell ⟨g2, 0, none⟩ (.int .i64 Y.p)).setCell ⟨g2, 1, none⟩ (.int .i64 Y.h)).setCell ⟨g2, 2, none⟩ (.int .i64 Y.o)).setCell ⟨g2, 3, none⟩ (.int .i64 Y.k)) g2 Y ∧ Still wr ((((((((b.setCell ⟨g1, 0, none⟩ (.int .i64 X.p)).setCell ⟨g1, 1, none⟩ (.int .i64 X.h)).setCell ⟨g1, 2, none⟩ (.int .i64 X.o)).setCell ⟨g1, 3, none⟩ (.int .i64 X.k)).setCell ⟨g2, 0, none⟩ (.int .i64 Y.p)).setCell ⟨g2, 1, none⟩ (.int .i64 Y.h)).setCell ⟨g2, 2, none⟩ (.int .i64 Y.o)).setCell ⟨g2, 3, none⟩ (.int .i64 Y.k)) := by
  refine ⟨(h1.put X.p X.h X.o X.k).others hne Y.p Y.h Y.o Y.k, (h2.others hne.symm X.p X.h X.o X.k).put Y.p Y.h Y.o Y.k, ?_⟩
  exact setC_frC (setC_frC (setC_frC (setC_frC (setC_frC (setC_frC (setC_frC (setC_frC hs g1 0 _ l1) g1 1 _ l1) g1 2 _ l1) g1 3 _ l1) g2 0 _ l2) g2 1 _ l2) g2 2 _ l2) g2 3 _ l2
theorem newC2 (w : World) : Cb (newC (newC w zC) zC) (w.heap.size + 1) zC := by
  have h := newC_cb (newC w zC) zC
  rw [size_alloc] at h
  exact h
/-- how far scores have come behind i deeds -/
def Far (i : Nat) (s : Scr) : Prop := (-(2 * (i : Int)) ≤ s.p ∧ s.p ≤ 18 * (i : Int)) ∧ (0 ≤ s.h ∧ s.h ≤ (i : Int)) ∧ (0 ≤ s.o ∧ s.o ≤ (i : Int)) ∧ (0 ≤ s.k ∧ s.k ≤ (i : Int))
theorem Far.may {i : Nat} {s : Scr} (h : Far i s) (hi : i ≤ 1048576) : MayC s := by
  obtain ⟨h1, h2, h3, h4⟩ := h
  unfold MayC
  omega
theorem Far.next {i : Nat} {s : Scr} (h : Far i s) : Far (i + 1) s := by
  obtain ⟨h1, h2, h3, h4⟩ := h
  unfold Far
  omega
theorem Far.hit {i : Nat} {a b : Scr} {n : Int} {out : Bool} (ha : Far i a) (hb : Far i b) (hi : i < 1048576) (hn : 1 ≤ n ∧ n ≤ 3) :
    errC a b n = 0 ∧ Far (i + 1) (hit1 a b n out) ∧ Far (i + 1) (hit2 a b n out) ∧ a.p + n ≤ (hit1 a b n out).p ∧ (hit2 a b n out).p = b.p - (if out then 2 else 0) ∧ (hit1 a b n out).h = a.h + 1 := by
  have ma := ha.may (by omega)
  have mb := hb.may (by omega)
  have e := errC_yes ma mb hn
  obtain ⟨m1, m2⟩ := moreC_in (out := out) ma hn
  obtain ⟨a1, a2, a3, a4⟩ := ha
  obtain ⟨b1, b2, b3, b4⟩ := hb
  have e1 : hit1 a b n out = ⟨a.p + moreC a n out, a.h + 1, a.o, if out then a.k + 1 else a.k⟩ := by
    unfold hit1
    rw [if_pos e]
    unfold hitA
    rw [bdC_id (by omega) (by omega), bdC_id (by omega) (by omega), bdC_id (n := a.k + 1) (by omega) (by omega)]
  have e2 : hit2 a b n out = if out then ⟨b.p - 2, b.h, b.o + 1, 0⟩ else b := by
    unfold hit2
    rw [if_pos e]
    unfold hitW
    rw [bdC_id (by omega) (by omega), bdC_id (n := b.o + 1) (by omega) (by omega)]
  rw [e1, e2]
  refine ⟨e, ?_, ?_, ?_, ?_, rfl⟩
  · unfold Far
    cases out
    · simp only [Bool.false_eq_true, if_false]
      omega
    · simp only [if_true]
      omega
  · cases out
    · exact Far.next ⟨b1, b2, b3, b4⟩
    · unfold Far
      simp only [if_true]
      omega
  · show a.p + n ≤ a.p + moreC a n out
    omega
  · cases out
    · simp
    · simp
theorem sc_set {T : List Scr} {j k : Nat} {x : Scr} (hj : j < T.length) : sc (T.set j x) k = if k = j then x else sc T k := by
  unfold sc
  by_cases h : k = j
  · subst h
    simp [List.getD, hj]
  · rw [if_neg h]
    simp [List.getD, List.getElem?_set_ne (Ne.symm h)]
/-- three, ranked -/
theorem rank3 {T : List Scr} (hl : T.length = 3) : ∃ a b c : Nat, a < 3 ∧ b < 3 ∧ c < 3 ∧ rnk T = [(a : Int), (b : Int), (c : Int)] ∧ a ≠ b ∧ b ≠ c ∧ a ≠ c ∧ (sc T b).p ≤ (sc T a).p ∧ (sc T c).p ≤ (sc T b).p := by
  obtain ⟨a, h1, h2, h3⟩ := rnk_who (L := T) (j := 0) (by omega)
  obtain ⟨b, g1, g2, g3⟩ := rnk_who (L := T) (j := 1) (by omega)
  obtain ⟨c, k1, k2, k3⟩ := rnk_who (L := T) (j := 2) (by omega)
  have hlen := rnk_len T
  have ab := ahd_iff.1 (cntC_ahd (L := T) (i := a) (k := b) g1 (by omega))
  have bc := ahd_iff.1 (cntC_ahd (L := T) (i := b) (k := c) k1 (by omega))
  refine ⟨a, b, c, by omega, by omega, by omega, ?_, ?_, ?_, ?_, ?_, ?_⟩
  · apply List.ext_getElem?
    intro j
    rcases (show j = 0 ∨ j = 1 ∨ j = 2 ∨ 3 ≤ j by omega) with rfl | rfl | rfl | hj
    · rw [h3]; rfl
    · rw [g3]; rfl
    · rw [k3]; rfl
    · rw [List.getElem?_eq_none (by omega), List.getElem?_eq_none (by simp; omega)]
  · rintro rfl; omega
  · rintro rfl; omega
  · rintro rfl; omega
  · unfold Fore evn at ab; omega
  · unfold Fore evn at bc; omega
theorem cb_ar {w : World} {g : Nat} {x : Scr} {T : List Scr} (h1 : Cb w g x) (h2 : Ar3 w g T) : False := by
  unfold Cb at h1
  have h3 := Option.some.inj (h1.symm.trans h2.2)
  injection h3 with _ ht _
  exact absurd ht (by decide)
theorem Cb.at4 {w : World} {g k : Nat} {x : Scr} (h : Cb w g x) (hk : g ≠ k) (o : Nat) (a b c d : Int) : Cb ((((w.setCell ⟨k, o, none⟩ (.int .i64 a)).setCell ⟨k, o + 1, none⟩ (.int .i64 b)).setCell ⟨k, o + 2, none⟩ (.int .i64 c)).setCell ⟨k, o + 3, none⟩ (.int .i64 d)) g x :=
  (((h.other k o _ hk).other k (o + 1) _ hk).other k (o + 2) _ hk).other k (o + 3) _ hk
theorem list3C {T : List Scr} (h : T.length = 3) : ∃ x y z, T = [x, y, z] := by
  match T, h with
  | [x, y, z], _ => exact ⟨x, y, z, rfl⟩
theorem ow_threeC (w : World) (x y z : Scr) : OwG KC 23 (w.alloc (.cells #[.int .i64 x.p, .int .i64 x.h, .int .i64 x.o, .int .i64 x.k, .int .i64 y.p, .int .i64 y.h, .int .i64 y.o, .int .i64 y.k, .int .i64 z.p, .int .i64 z.h, .int .i64 z.o, .int .i64 z.k] 23)) w.heap.size (.slice (some ⟨w.heap.size, 0, none⟩) 3 3) [x, y, z] :=
  World.ownsRow_lit (base := w.heap.size) (e := 23) (size := 4) w #[.int .i64 x.p, .int .i64 x.h, .int .i64 x.o, .int .i64 x.k, .int .i64 y.p, .int .i64 y.h, .int .i64 y.o, .int .i64 y.k, .int .i64 z.p, .int .i64 z.h, .int .i64 z.o, .int .i64 z.k] 3 (Nat.le_refl _) (by unfold maxLen; omega) rfl
set_option maxHeartbeats 8000000 in
theorem goes_law (so : Option Addr) (n c : Nat) (D : List Dd) (hD : ∀ i, i < n → InN (dd D i).b ∧ InN (dd D i).w ∧ InN (dd D i).p) (h20 : n ≤ 1048576) (w : World) (hr : RdG KDd w so n D) (C : Cts12 w) : Calls Try.prog 5 #[.slice so n c] w fun e w' => e = .returned (.bool true) ∧ Still w w' := by
  have HR := hid hr
  have HD := hid hD
  clear hr hD
  go_enter Try.func5, Try.ntmps5
  go_wp2_with fail
  refine (awake12_any _ C).mono ?_
  rintro e w1 ⟨rfl, h1⟩
  have HA1 := hid (Ar3.new w1)
  have HS1 := hid (h1.trans (Still.alloc w1 (.cells #[.int .i64 0, .int .i64 0, .int .i64 0, .int .i64 0, .int .i64 0, .int .i64 0, .int .i64 0, .int .i64 0, .int .i64 0, .int .i64 0, .int .i64 0, .int .i64 0] 38)))
  have HG1 := hid (show w.heap.size ≤ w1.heap.size from h1.size)
  obtain ⟨G, eG⟩ : ∃ G, w1.heap.size = G := ⟨_, rfl⟩
  rw [eG] at HA1 HG1
  clear h1
  go_wp2_with fail
  (try rw [eG])
  clear eG
  go_loopw [5] (fun u wr => ∃ (i : Nat) (T : List Scr), i ≤ n ∧ u = .int .i64 (i : Int) ∧ Ar3 wr G T ∧ Hid (∀ j, j < 3 → Far i (sc T j)) ∧ Still w wr) (fun u _ => n - (intOf u).toNat)
  case atStart => exact ⟨0, _, by omega, rfl, HA1.out, hid (fun j hj => by
    rcases (show j = 0 ∨ j = 1 ∨ j = 2 by omega) with rfl | rfl | rfl <;> exact ⟨⟨by decide, by decide⟩, ⟨by decide, by decide⟩, ⟨by decide, by decide⟩, by decide, by decide⟩), HS1.out⟩
  case round =>
    clear HA1 HS1
    obtain ⟨i, T, hi, rfl, a3, HF, hs⟩ := hrel
    have HA := hid a3
    have HS := hid hs
    have HGw := hid (show G < wr.heap.size from block_lt a3.2)
    clear a3 hs
    by_cases hin : i < n
    · have hlt : (i : Int) < (n : Int) := by omega
      have HRr := hid (HR.out.still HS.out)
      obtain ⟨B, o, rfl⟩ := HRr.out.at (by omega)
      have HRc := hid (fun u (hu : Still wr u) => rdDd (HRr.out.still hu) hin)
      obtain ⟨hb1, hb2, hb3⟩ := HD.out i hin
      obtain ⟨⟨db, dw, dp, do'⟩, ed⟩ : ∃ d, dd D i = d := ⟨_, rfl⟩
      rw [ed] at HRc hb1 hb2 hb3
      simp only at HRc hb1 hb2 hb3
      obtain ⟨c0, c1, c2, c3⟩ := HRc.out wr (Fr.refl _ _)
      obtain ⟨P, eP⟩ : ∃ P, db.tmod 3 = P := ⟨_, rfl⟩
      obtain ⟨Q, eQ⟩ : ∃ P, dw.tmod 3 = P := ⟨_, rfl⟩
      have hP : P < 3 := by rw [← eP]; exact Int.tmod_lt_of_pos db (by decide)
      have hQ : Q < 3 := by rw [← eQ]; exact Int.tmod_lt_of_pos dw (by decide)
      have HB := hid (And.intro hb1 (And.intro hb2 hb3))
      clear ed hb1 hb2 hb3
      go_upto_region 8 with fail
      (try rw [eP])
      (try rw [eQ])
      clear eP eQ
      have HNx := hid (show ∀ j, j < 3 → Far (i + 1) (sc T j) from fun j hj => (HF.out j hj).next)
      by_cases hp0 : P < 0
      · go_wp2_with fail
        go_roundw
        case rel => exact ⟨i + 1, T, by omega, by go_num, HA.out, HNx, HS.out⟩
        case measure => simp [intOf]; omega
      by_cases hq0 : Q < 0
      · go_wp2_with fail
        go_roundw
        case rel => exact ⟨i + 1, T, by omega, by go_num, HA.out, HNx, HS.out⟩
        case measure => simp [intOf]; omega
      by_cases hpq : P = Q
      · have hpq' : (P == Q) = true := by simpa using hpq
        clear hpq
        go_wp2_with fail
        go_roundw
        case rel => exact ⟨i + 1, T, by omega, by go_num, HA.out, HNx, HS.out⟩
        case measure => simp [intOf]; omega
      have hpq' : (P == Q) = false := by simpa using hpq
      obtain ⟨j, rfl⟩ : ∃ j : Nat, P = (j : Int) := ⟨P.toNat, by omega⟩
      obtain ⟨q, rfl⟩ : ∃ j : Nat, Q = (j : Int) := ⟨Q.toNat, by omega⟩
      have hj3 : j < 3 := by omega
      have hq3 : q < 3 := by omega
      have hjq : j ≠ q := by omega
      have HJ := hid hjq
      have HTc := hid (fun u (hu : Still wr u) => And.intro ((HA.out.still hu).cells hj3) ((HA.out.still hu).cells hq3))
      obtain ⟨x, ex⟩ : ∃ x, sc T j = x := ⟨_, rfl⟩
      obtain ⟨y, ey⟩ : ∃ x, sc T q = x := ⟨_, rfl⟩
      rw [ex, ey] at HTc
      have HFx := hid (ex ▸ HF.out j hj3)
      have HFy := hid (ey ▸ HF.out q hq3)
      obtain ⟨⟨d0, d1, d2, d3, df⟩, e0, e1, e2, e3, ef⟩ := HTc.out wr (Fr.refl _ _)
      have HH := hid (fun u (hu : Still w u) => C.hit x y dp do' u (may_inC (HFx.out.may (by omega))) (may_inC (HFy.out.may (by omega))) HB.out.2.2 hu)
      obtain ⟨X, eX⟩ : ∃ X, hit1 x y dp do' = X := ⟨_, rfl⟩
      obtain ⟨Y, eY⟩ : ∃ X, hit2 x y dp do' = X := ⟨_, rfl⟩
      obtain ⟨E, eE⟩ : ∃ X, errC x y dp = X := ⟨_, rfl⟩
      rw [eX, eY, eE] at HH
      have HEq := hid (And.intro eX (And.intro eY eE))
      have HEx := hid (And.intro ex ey)
      clear eX eY eE ex ey hp0 hq0 hpq hjq
      have hBl : B < wr.heap.size := World.block_lt_of_cell? wr _ c0
      have nB : wr.heap.size ≠ B := by omega
      have nB1 : wr.heap.size + 1 ≠ B := by omega
      have nG : wr.heap.size ≠ G := by have := HGw.out; omega
      have nG1 : wr.heap.size + 1 ≠ G := by have := HGw.out; omega
      go_upto_region 9 with fail
      go_cut [8, 9, 10] from 17 to 141 (fun v8 v9 v10 wx => ∃ g1 g2, v8 = .pointer (some ⟨g1, 0, none⟩) ∧ v9 = .pointer (some ⟨g2, 0, none⟩) ∧ v10 = .int .i64 E ∧ Cb wx g1 X ∧ Cb wx g2 Y ∧ Still wr wx)
      case first =>
        go_region_held3 (fun w' => w'.cell? ⟨G, j * 4, none⟩ = some (.int .i64 x.p) ∧ w'.cell? ⟨G, j * 4 + 1, none⟩ = some (.int .i64 x.h) ∧ w'.cell? ⟨G, j * 4 + 2, none⟩ = some (.int .i64 x.o) ∧ w'.cell? ⟨G, j * 4 + 3, none⟩ = some (.int .i64 x.k) ∧ w'.cell? ⟨G, q * 4, none⟩ = some (.int .i64 y.p) ∧ w'.cell? ⟨G, q * 4 + 1, none⟩ = some (.int .i64 y.h) ∧ w'.cell? ⟨G, q * 4 + 2, none⟩ = some (.int .i64 y.o) ∧ w'.cell? ⟨G, q * 4 + 3, none⟩ = some (.int .i64 y.k) ∧ w'.cell? ⟨B, o + i * 4 + 2, none⟩ = some (.int .i64 dp) ∧ w'.cell? ⟨B, o + i * 4 + 3, none⟩ = some (.bool do')) (go_keep)
          (first
            | (go_at_call 8
               refine (HH.out _ (by repeat (first | exact HS.out | refine Fr.drew ?_ | refine Fr.alloc ?_ _))).mono ?_
               rintro e w5 ⟨rfl, h5⟩
               have hX : Still wr w5 := by
                 refine Still.trans ?_ h5
                 repeat (first | exact Fr.refl _ _ | refine Fr.drew ?_ | refine Fr.alloc ?_ _)
               obtain ⟨y0, y1, y2, y3⟩ := HRc.out w5 hX
               obtain ⟨⟨z0, z1, z2, z3, zf⟩, z4, z5, z6, z7, zg⟩ := HTc.out w5 hX
               have HX := hid hX
               have n3 : w5.heap.size ≠ B := by have := hX.size; omega
               have n4 : w5.heap.size + 1 ≠ B := by have := hX.size; omega
               have n8 : w5.heap.size ≠ G := by have := hX.size; have := HGw.out; omega
               have n9 : w5.heap.size + 1 ≠ G := by have := hX.size; have := HGw.out; omega
               (try have r5 : Cb w5 wr.heap.size zC := by first | exact (newC_cb wr zC).still (Still.undrew h5) | exact ((newC_cb wr zC).still (Still.alloc _ _)).still (Still.undrew h5))
               (try have s5 : Cb w5 (wr.heap.size + 1) zC := (newC2 wr).still (Still.undrew h5))
               (try have n5 : w5.heap.size ≠ wr.heap.size := by have := r5.lt; omega)
               (try have n5' : wr.heap.size ≠ w5.heap.size := n5.symm)
               (try have n7 : wr.heap.size < w5.heap.size := r5.lt)
               (try have n6 : w5.heap.size ≠ wr.heap.size + 1 := by have := s5.lt; omega)
               (try obtain ⟨u0, u1, u2, u3, uf⟩ := r5.cells)
               (try obtain ⟨v0, v1, v2, v3, vf⟩ := s5.cells)
               clear hX h5))
        · go_wp2_with fail
          go_meet
          exact ⟨_, _, rfl, rfl, rfl, pairCA w5 wr X Y HX.out⟩
        · go_wp2_with fail
          go_meet
          exact ⟨_, _, rfl, rfl, rfl, (pairCA w5 wr Y X HX.out).2.1, (pairCA w5 wr Y X HX.out).1, (pairCA w5 wr Y X HX.out).2.2⟩
        · go_wp2_with fail
          go_meet
          exact ⟨_, _, rfl, rfl, rfl, pairCC w5 wr wr.heap.size X Y r5 HX.out (Nat.le_refl _)⟩
        · go_wp2_with fail
          go_meet
          exact ⟨_, _, rfl, rfl, rfl, pairC_close X Y r5 s5 (by omega) HX.out (Nat.le_refl _) (by omega)⟩
        · go_wp2_with fail
          go_meet
          exact ⟨_, _, rfl, rfl, rfl, (pairCC w5 wr wr.heap.size Y X r5 HX.out (Nat.le_refl _)).2.1, (pairCC w5 wr wr.heap.size Y X r5 HX.out (Nat.le_refl _)).1, (pairCC w5 wr wr.heap.size Y X r5 HX.out (Nat.le_refl _)).2.2⟩
        · go_wp2_with fail
          go_meet
          exact ⟨_, _, rfl, rfl, rfl, pairC_close X Y s5 r5 (by omega) HX.out (by omega) (Nat.le_refl _)⟩
      case rest =>
        obtain ⟨g1, g2, rfl, rfl, rfl, r6, s6, hs6⟩ := hcut
        have HSc := hid hs6
        have HR6 := hid r6
        have HS6 := hid s6
        have HSw := hid (HS.out.trans hs6)
        have HA6 := hid (HA.out.still hs6)
        clear hs6 HH c0 c1 c2 c3 d0 d1 d2 d3 df e0 e1 e2 e3 ef nB nB1 nG nG1 hBl
        obtain ⟨c0, c1, c2, c3⟩ := HRc.out wc HSc.out
        obtain ⟨⟨d0, d1, d2, d3, df⟩, e0, e1, e2, e3, ef⟩ := HTc.out wc HSc.out
        by_cases hdp : 1 ≤ dp ∧ dp ≤ 3
        · obtain ⟨f1, f2, f3, f4, f5, f6⟩ := HFx.out.hit (out := do') HFy.out (by omega) hdp
          rw [HEq.out.1] at f2 f4 f6
          rw [HEq.out.2.1] at f3 f5
          obtain rfl : E = 0 := by rw [← HEq.out.2.2]; exact f1
          have HF2 := hid f2
          have HF3 := hid f3
          have HC1 := hid (fun u (hu : Still w u) => C.chk X u (may_inC (HF2.out.may (by omega))) hu)
          have HC2 := hid (fun u (hu : Still w u) => C.chk Y u (may_inC (HF3.out.may (by omega))) hu)
          rw [chkC_yes (HF2.out.may (by omega))] at HC1
          rw [chkC_yes (HF3.out.may (by omega))] at HC2
          have b1 : -3000000 ≤ x.p ∧ x.p ≤ 20000000 := by have := HFx.out.1; omega
          have b2 : 0 ≤ x.h ∧ x.h ≤ 3000000 := by have := HFx.out.2.1; omega
          have b3 : -3000000 ≤ y.p ∧ y.p ≤ 20000000 := by have := HFy.out.1; omega
          have hc1 : decide (X.p < x.p + dp) = false := by simp; omega
          have hc3 : (X.h != x.h + 1) = false := by simp; omega
          clear f1 f2 f3 f4 f6
          have HT := hid (show ∀ k, k < 3 → Far (i + 1) (sc ((T.set j X).set q Y) k) from fun k hk => by
            rw [sc_set (by rw [List.length_set, HA6.out.1]; exact hq3)]
            by_cases hkq : k = q
            · rw [if_pos hkq]; exact HF3.out
            · rw [if_neg hkq, sc_set (by rw [HA6.out.1]; exact hj3)]
              by_cases hkj : k = j
              · rw [if_pos hkj]; exact HF2.out
              · rw [if_neg hkj]; exact HNx.out k hk)
          obtain ⟨hd1, hd3⟩ := hdp
          cases do' with
          | true =>
            have hc2 : (Y.p != y.p - 2) = false := by simp [f5]
            have hc2' : Y.p = y.p - 2 := by simpa using f5
            clear f5
            clear hc2'
            go_upto_region 16 with fail
            have k0 := Cl.cell HR6.out.cells.1
            have k1 := Cl.cell HR6.out.cells.2.1
            have k2 := Cl.cell HR6.out.cells.2.2.1
            have k3 := Cl.cell HR6.out.cells.2.2.2.1
            have l0 := Cl.cell HS6.out.cells.1
            have l1 := Cl.cell HS6.out.cells.2.1
            have l2 := Cl.cell HS6.out.cells.2.2.1
            have l3 := Cl.cell HS6.out.cells.2.2.2.1
            have m0 := Cl.cell d0
            have m1 := Cl.cell d1
            have m2 := Cl.cell e0
            have m3 := Cl.cell c2
            have hne := Aft.here wc
            clear c0 c1 c2 c3 d0 d1 d2 d3 df e0 e1 e2 e3 ef r6 s6
            refine region_all (by kernel_rfl) (by kernel_rfl) ?_
            repeat (go_big_quiet_step ((first | (go_at_call 12; with_reducible exact Calls.cl (HC1.out _ (HSw.out.trans (Aft.s _)))) | (go_at_call 12; with_reducible exact Calls.cl (HC2.out _ (HSw.out.trans (Aft.s _)))))))
            refine wpQuiet_nil ?_
            intro w7 h7
            have HS7 := hid (HSw.out.trans h7)
            have r7 := HR6.out.still h7
            have s7 := HS6.out.still h7
            have a7 := HA6.out.still h7
            have hG7 : w.heap.size ≤ G := HG1.out
            have hg1 : g1 ≠ G := fun e => cb_ar (e ▸ HR6.out) HA6.out
            have hg2 : g2 ≠ G := fun e => cb_ar (e ▸ HS6.out) HA6.out
            have a8 := a7.put hj3 X
            have s8 := Cb.at4 s7 (k := G) hg2 (j * 4) X.p X.h X.o X.k
            have HS8 := hid (fr_ar (G := G) (j := j) HS7.out hG7 X)
            obtain ⟨c0, c1, c2, c3, cf⟩ := r7.cells
            obtain ⟨d0, d1, d2, d3, df⟩ := a7.cells hj3
            obtain ⟨W8, eW8⟩ : ∃ W, (((w7.setCell ⟨G, j * 4, none⟩ (.int .i64 X.p)).setCell ⟨G, j * 4 + 1, none⟩ (.int .i64 X.h)).setCell ⟨G, j * 4 + 2, none⟩ (.int .i64 X.o)).setCell ⟨G, j * 4 + 3, none⟩ (.int .i64 X.k) = W := ⟨_, rfl⟩
            rw [eW8] at a8 s8 HS8
            clear k0 k1 k2 k3 l0 l1 l2 l3 m0 m1 m2 m3 hne h7 HC1 HC2 hc1 hc2 hc3
            go_upto_region 19 with fail
            clear eW8 c0 c1 c2 c3 cf d0 d1 d2 d3 df r7 s7 a7
            have a9 := a8.put hq3 Y
            have HS9 := hid (fr_ar (G := G) (j := q) HS8.out hG7 Y)
            obtain ⟨c0, c1, c2, c3, cf⟩ := s8.cells
            obtain ⟨d0, d1, d2, d3, df⟩ := a8.cells hq3
            obtain ⟨W9, eW9⟩ : ∃ W, (((W8.setCell ⟨G, q * 4, none⟩ (.int .i64 Y.p)).setCell ⟨G, q * 4 + 1, none⟩ (.int .i64 Y.h)).setCell ⟨G, q * 4 + 2, none⟩ (.int .i64 Y.o)).setCell ⟨G, q * 4 + 3, none⟩ (.int .i64 Y.k) = W := ⟨_, rfl⟩
            rw [eW9] at a9 HS9
            go_upto_region 5 with fail
            clear eW9 c0 c1 c2 c3 cf d0 d1 d2 d3 df s8 a8
            have HA9 := hid a9
            clear a9
            go_wp2_with fail
            go_roundw
            case rel => exact ⟨i + 1, _, by omega, by go_num, HA9.out, HT, HS9.out⟩
            case measure => simp [intOf]; omega
          | false =>
            have hc2' : Y.p = y.p := by simpa using f5
            have hc2 : (Y.p != y.p) = false := by simp [hc2']
            clear f5
            clear hc2'
            go_upto_region 16 with fail
            have k0 := Cl.cell HR6.out.cells.1
            have k1 := Cl.cell HR6.out.cells.2.1
            have k2 := Cl.cell HR6.out.cells.2.2.1
            have k3 := Cl.cell HR6.out.cells.2.2.2.1
            have l0 := Cl.cell HS6.out.cells.1
            have l1 := Cl.cell HS6.out.cells.2.1
            have l2 := Cl.cell HS6.out.cells.2.2.1
            have l3 := Cl.cell HS6.out.cells.2.2.2.1
            have m0 := Cl.cell d0
            have m1 := Cl.cell d1
            have m2 := Cl.cell e0
            have m3 := Cl.cell c2
            have hne := Aft.here wc
            clear c0 c1 c2 c3 d0 d1 d2 d3 df e0 e1 e2 e3 ef r6 s6
            refine region_all (by kernel_rfl) (by kernel_rfl) ?_
            repeat (go_big_quiet_step ((first | (go_at_call 12; with_reducible exact Calls.cl (HC1.out _ (HSw.out.trans (Aft.s _)))) | (go_at_call 12; with_reducible exact Calls.cl (HC2.out _ (HSw.out.trans (Aft.s _)))))))
            refine wpQuiet_nil ?_
            intro w7 h7
            have HS7 := hid (HSw.out.trans h7)
            have r7 := HR6.out.still h7
            have s7 := HS6.out.still h7
            have a7 := HA6.out.still h7
            have hG7 : w.heap.size ≤ G := HG1.out
            have hg1 : g1 ≠ G := fun e => cb_ar (e ▸ HR6.out) HA6.out
            have hg2 : g2 ≠ G := fun e => cb_ar (e ▸ HS6.out) HA6.out
            have a8 := a7.put hj3 X
            have s8 := Cb.at4 s7 (k := G) hg2 (j * 4) X.p X.h X.o X.k
            have HS8 := hid (fr_ar (G := G) (j := j) HS7.out hG7 X)
            obtain ⟨c0, c1, c2, c3, cf⟩ := r7.cells
            obtain ⟨d0, d1, d2, d3, df⟩ := a7.cells hj3
            obtain ⟨W8, eW8⟩ : ∃ W, (((w7.setCell ⟨G, j * 4, none⟩ (.int .i64 X.p)).setCell ⟨G, j * 4 + 1, none⟩ (.int .i64 X.h)).setCell ⟨G, j * 4 + 2, none⟩ (.int .i64 X.o)).setCell ⟨G, j * 4 + 3, none⟩ (.int .i64 X.k) = W := ⟨_, rfl⟩
            rw [eW8] at a8 s8 HS8
            clear k0 k1 k2 k3 l0 l1 l2 l3 m0 m1 m2 m3 hne h7 HC1 HC2 hc1 hc2 hc3
            go_upto_region 19 with fail
            clear eW8 c0 c1 c2 c3 cf d0 d1 d2 d3 df r7 s7 a7
            have a9 := a8.put hq3 Y
            have HS9 := hid (fr_ar (G := G) (j := q) HS8.out hG7 Y)
            obtain ⟨c0, c1, c2, c3, cf⟩ := s8.cells
            obtain ⟨d0, d1, d2, d3, df⟩ := a8.cells hq3
            obtain ⟨W9, eW9⟩ : ∃ W, (((W8.setCell ⟨G, q * 4, none⟩ (.int .i64 Y.p)).setCell ⟨G, q * 4 + 1, none⟩ (.int .i64 Y.h)).setCell ⟨G, q * 4 + 2, none⟩ (.int .i64 Y.o)).setCell ⟨G, q * 4 + 3, none⟩ (.int .i64 Y.k) = W := ⟨_, rfl⟩
            rw [eW9] at a9 HS9
            go_upto_region 5 with fail
            clear eW9 c0 c1 c2 c3 cf d0 d1 d2 d3 df s8 a8
            have HA9 := hid a9
            clear a9
            go_wp2_with fail
            go_roundw
            case rel => exact ⟨i + 1, _, by omega, by go_num, HA9.out, HT, HS9.out⟩
            case measure => simp [intOf]; omega
        · obtain rfl : E = 1 := by rw [← HEq.out.2.2]; exact errC_arg (HFx.out.may (by omega)) (HFy.out.may (by omega)) hdp
          by_cases z : dp ≥ 1
          · have z3 : ¬ dp ≤ 3 := by omega
            have z3' : decide (dp ≤ 3) = false := by simpa using z3
            clear z3
            go_wp2_with fail
            go_roundw
            case rel => exact ⟨i + 1, T, by omega, by go_num, HA6.out, HNx, HSw.out⟩
            case measure => simp [intOf]; omega
          · have z' : decide (1 ≤ dp) = false := by simpa using z
            clear z
            go_wp2_with fail
            go_roundw
            case rel => exact ⟨i + 1, T, by omega, by go_num, HA6.out, HNx, HSw.out⟩
            case measure => simp [intOf]; omega
    · have hge : ¬ (i : Int) < (n : Int) := by omega
      obtain rfl : i = n := by omega
      obtain ⟨x, y, z, rfl⟩ : ∃ x y z, T = [x, y, z] := list3C HA.out.1
      have HT := hid (fun k hk => HF.out k hk)
      have a3 := HA.out
      obtain ⟨c0, c1, c2, c3, cf⟩ := a3.cells (j := 0) (by decide)
      obtain ⟨d0, d1, d2, d3, df⟩ := a3.cells (j := 1) (by decide)
      obtain ⟨e0, e1, e2, e3, ef⟩ := a3.cells (j := 2) (by decide)
      simp only [Nat.zero_mul, Nat.zero_add, Nat.one_mul, Nat.reduceMul, Nat.reduceAdd, sc, List.getD, List.getElem?_cons_zero, List.getElem?_cons_succ, Option.getD_some] at c0 c1 c2 c3 d0 d1 d2 d3 e0 e1 e2 e3
      have mx := (HT.out 0 (by decide)).may (by omega)
      have my := (HT.out 1 (by decide)).may (by omega)
      have mz := (HT.out 2 (by decide)).may (by omega)
      have HM := hid (show ∀ k, k < ([x, y, z] : List Scr).length → MayC (sc [x, y, z] k) from fun k hk => (HT.out k (by simpa using hk)).may (by omega))
      have HK : Hid (rnkA [x, y, z] = rnk [x, y, z] ∧ errR [x, y, z] = 0) := hid (by
        have e : rnkE [x, y, z] = true := rnkE_iff.2 ⟨by simp, HM.out⟩
        exact ⟨by unfold rnkA; rw [e]; rfl, by unfold errR; rw [e]; rfl⟩)
      have HO := hid (ow_threeC wr x y z)
      have HS5 := hid (HS.out.trans (Still.alloc wr (.cells #[.int .i64 x.p, .int .i64 x.h, .int .i64 x.o, .int .i64 x.k, .int .i64 y.p, .int .i64 y.h, .int .i64 y.o, .int .i64 y.k, .int .i64 z.p, .int .i64 z.h, .int .i64 z.o, .int .i64 z.k] 23)))
      clear a3 mx my mz hge HGw HT
      go_wp2_with fail
      clear c0 c1 c2 c3 cf d0 d1 d2 d3 df e0 e1 e2 e3 ef
      refine (C.rnk [x, y, z] _ 3 3 _ (fun k hk => may_inC (HM.out k hk)) (HO.out.rdC rfl (by decide)) (Nat.le_refl _) HS5.out).mono ?_
      rintro e w6 ⟨bo, m, cp, rfl, hb, h6, _⟩
      rw [HK.out.1] at hb
      rw [HK.out.2]
      obtain ⟨a, b, cc, ha, hb3, hc, hR, n1, n2, n3, o1, o2⟩ := rank3 (T := [x, y, z]) rfl
      rw [hR] at hb
      obtain rfl : m = 3 := hb.rd.len.symm
      obtain ⟨gr, rfl⟩ := hb.head (by omega)
      have HO6 := hid (HO.out.still h6)
      have HB6 := hid hb
      have HS6 := hid (HS5.out.trans h6)
      have HRes := hid (And.intro o1 o2)
      obtain ⟨gm, egm⟩ : ∃ g, wr.heap.size = g := ⟨_, rfl⟩
      rw [egm] at HO6 ⊢
      clear hb h6 HO HS5 o1 o2 hR egm
      go_wp2_with fail
      go_loopw [15] (fun u wx => ∃ k : Nat, k ≤ 3 ∧ u = .int .i64 (k : Int) ∧ Still w6 wx) (fun u _ => 3 - (intOf u).toNat)
      case atStart => exact ⟨0, by omega, rfl, Fr.refl _ _⟩
      case round =>
        obtain ⟨k, hk, rfl, hs7⟩ := hrel
        have hb7 := HB6.out.still hs7
        have q0 := Cl.cell (hb7.at (i := 0) (x := (a : Int)) rfl)
        have q1 := Cl.cell (hb7.at (i := 1) (x := (b : Int)) rfl)
        have q2 := Cl.cell (hb7.at (i := 2) (x := (cc : Int)) rfl)
        have hm7 := HO6.out.still hs7
        have p0 := Cl.cell (owC hm7 (i := a) ha).1
        have p1 := Cl.cell (owC hm7 (i := b) hb3).1
        have p2 := Cl.cell (owC hm7 (i := cc) hc).1
        have hne := Aft.here wr
        have HS7 := hid hs7
        obtain ⟨r1, r2⟩ := HRes.out
        obtain ⟨pa, epa⟩ : ∃ v, (sc [x, y, z] a).p = v := ⟨_, rfl⟩
        obtain ⟨pb, epb⟩ : ∃ v, (sc [x, y, z] b).p = v := ⟨_, rfl⟩
        obtain ⟨pc, epc⟩ : ∃ v, (sc [x, y, z] cc).p = v := ⟨_, rfl⟩
        rw [epa] at p0 r1
        rw [epb] at p1 r1 r2
        rw [epc] at p2 r2
        have t1 : decide (pa < pb) = false := by simpa using r1
        have t2 : decide (pb < pc) = false := by simpa using r2
        have y0 : decide ((a : Int) < 0) = false := by simp
        have y1 : decide ((b : Int) < 0) = false := by simp
        have y2 : decide ((cc : Int) < 0) = false := by simp
        have x0 : decide (2 < (a : Int)) = false := by simp; omega
        have x1 : decide (2 < (b : Int)) = false := by simp; omega
        have x2 : decide (2 < (cc : Int)) = false := by simp; omega
        have u0 : (a : Int) < 3 := by omega
        have u1 : (b : Int) < 3 := by omega
        have u2 : (cc : Int) < 3 := by omega
        clear hs7 hb7 hm7 epa epb epc r1 r2
        rcases (show k = 0 ∨ k = 1 ∨ k = 2 ∨ k = 3 by omega) with rfl | rfl | rfl | rfl
        · go_wp2_with fail
          refine region_all (by kernel_rfl) (by kernel_rfl) ?_
          repeat (go_big_quiet_step (fail))
          refine wpQuiet_nil ?_
          intro w8 h8
          have HS8 := hid (HS7.out.trans h8)
          clear h8 HS7 q0 q1 q2 p0 p1 p2 hne
          go_wp2_with fail
          go_roundw
          case rel => exact ⟨1, by omega, by go_num, HS8.out⟩
          case measure => simp [intOf]
        · go_wp2_with fail
          refine region_all (by kernel_rfl) (by kernel_rfl) ?_
          repeat (go_big_quiet_step (fail))
          refine wpQuiet_nil ?_
          intro w8 h8
          have HS8 := hid (HS7.out.trans h8)
          clear h8 HS7 q0 q1 q2 p0 p1 p2 hne
          go_wp2_with fail
          go_roundw
          case rel => exact ⟨2, by omega, by go_num, HS8.out⟩
          case measure => simp [intOf]
        · go_wp2_with fail
          refine region_all (by kernel_rfl) (by kernel_rfl) ?_
          repeat (go_big_quiet_step (fail))
          refine wpQuiet_nil ?_
          intro w8 h8
          have HS8 := hid (HS7.out.trans h8)
          clear h8 HS7 q0 q1 q2 p0 p1 p2 hne
          go_wp2_with fail
          go_roundw
          case rel => exact ⟨3, by omega, by go_num, HS8.out⟩
          case measure => simp [intOf]
        · have v1 : ((a : Int) != (b : Int)) = true := by simp; omega
          have v2 : ((b : Int) != (cc : Int)) = true := by simp; omega
          have v3 : ((a : Int) != (cc : Int)) = true := by simp; omega
          go_wp2_with fail
          refine region_all (by kernel_rfl) (by kernel_rfl) ?_
          repeat (go_big_quiet_step (fail))
          refine wpQuiet_nil ?_
          intro w8 h8
          have HS8 := hid ((HS6.out.trans HS7.out).trans h8)
          clear h8 HS7 q0 q1 q2 p0 p1 p2 hne
          go_wp2_with fail
          go_ret
          exact ⟨rfl, HS8.out⟩
end Go.Proofs.Ytgkojpgpnkeacaa
