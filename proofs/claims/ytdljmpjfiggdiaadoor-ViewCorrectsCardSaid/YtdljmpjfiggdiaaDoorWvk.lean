/- What the law ViewCorrects says, walked. -/
import Derived.Test.YtdljmpjfiggdiaaDoorWvi
namespace Go.Proofs.YtdljmpjfiggdiaaDoor
open Go.RowKit
open Pu Gp Np Za Ka Ja Ea Ha
set_option maxRecDepth 100000

/-- a cell of one element of a row is written -/
theorem OwG.set1 {α : Type} {K : Kd α} {e : TypeId} {w : World} {L : List α} {B g n cap : Nat} (h : OwG K e w B (.slice (some ⟨g, 0, none⟩) n cap) L) {i j : Nat} (hi : i < L.length) (hj : j < K.k) (x : α) (v : Value) (hx : K.f x = (K.f (L.getD i K.d)).set j v) : OwG K e (w.setCell ⟨g, i * K.k + j, none⟩ v) B (.slice (some ⟨g, 0, none⟩) n cap) (L.set i x) := by
  rcases h.2 with ⟨hv, _⟩ | ⟨g', cap', cur, hv, hb, hg, hn, hm, hs, ht⟩
  · cases hv
  · cases hv
    have hi2 : i * K.k + K.k ≤ L.length * K.k := by rw [← Nat.succ_mul]; exact Nat.mul_le_mul_right _ hi
    have hc2 : L.length * K.k ≤ cap * K.k := Nat.mul_le_mul_right _ hn
    have h1 := heap_setCell_same w g (i * K.k + j) cur e v hg
    refine ⟨by rw [K.row_len, List.length_set], .inr ⟨g, cap, _, by rw [List.length_set], hb, h1, by rw [List.length_set]; exact hn, hm, ?_, ?_⟩⟩
    · simpa using hs
    · rw [List.length_set, ← K.row_set L i hi x, hx, Array.toList_setIfInBounds, List.take_set, ht]
      have e0 : K.row L = (K.row L).take (i * K.k) ++ (K.f (L.getD i K.d) ++ (K.row L).drop (i * K.k + K.k)) := by
        rw [K.row_set L i hi, List.getD_eq_getElem?_getD, List.getElem?_eq_getElem hi]
        simp
      have hl : ((K.row L).take (i * K.k)).length = i * K.k := by rw [List.length_take, K.row_len]; omega
      generalize (K.row L).take (i * K.k) = A at e0 hl ⊢
      generalize (K.row L).drop (i * K.k + K.k) = D at e0 ⊢
      rw [e0, List.set_append_right _ _ (by omega), hl, show i * K.k + j - i * K.k = j by omega, List.set_append_left _ _ (by rw [K.len]; exact hj)]
theorem still_cell {x w : World} (h : Still x w) (g o : Nat) (v : Value) (hb : x.heap.size ≤ g) : Still x (w.setCell ⟨g, o, none⟩ v) := h.setCell _ _ (.inr hb)
set_option maxHeartbeats 8000000 in
theorem corrects_core (f1 x1 f2 x2 : Int) (a1 b1 c1 d1 a4 b4 c4 d4 : Option Addr) (a2 a3 b2 b3 c2 c3 d2 d3 a5 a6 b5 b6 c5 c6 d5 d6 : Nat) (Lc : List Cr) (E : Int) (w : World) (C : Cts23 w) (hP : ∀ u, Still w u → Calls Tryd.prog 9 #[.agg (wdcs f1 x1 (.slice a1 a2 a3) (.slice b1 b2 b3) (.slice c1 c2 c3) (.slice d1 d2 d3)), .agg (wdcs f2 x2 (.slice a4 a5 a6) (.slice b4 b5 b6) (.slice c4 c5 c6) (.slice d4 d5 d6))] u fun e w' => ∃ v, e = .returned (.tuple #[v, .int .i64 E]) ∧ OwG KCr 37 w' u.heap.size v Lc ∧ Still u w') (hR : ∀ u, Still w u → Calls Tryd.prog 10 #[.agg (wdcs f1 x1 (.slice a1 a2 a3) (.slice b1 b2 b3) (.slice c1 c2 c3) (.slice d1 d2 d3)), .agg (wdcs f2 x2 (.slice a4 a5 a6) (.slice b4 b5 b6) (.slice c4 c5 c6) (.slice d4 d5 d6))] u fun e w' => ∃ v, e = .returned (.tuple #[v, .int .i64 E]) ∧ OwG KCr 37 w' u.heap.size v Lc ∧ Still u w') (hL : (Lc.length + 1) * 56 ≤ 140737488355328) :
    Calls Tryd.prog 3 #[.agg (wdcs f1 x1 (.slice a1 a2 a3) (.slice b1 b2 b3) (.slice c1 c2 c3) (.slice d1 d2 d3)), .agg (wdcs f2 x2 (.slice a4 a5 a6) (.slice b4 b5 b6) (.slice c4 c5 c6) (.slice d4 d5 d6))] w fun e w' => e = .returned (.bool true) ∧ Still w w' := by
  have A0 := Still.alloc w (.cells (wdcs f1 x1 (.slice a1 a2 a3) (.slice b1 b2 b3) (.slice c1 c2 c3) (.slice d1 d2 d3)) 27)
  have A1 := Still.alloc (w.alloc (.cells (wdcs f1 x1 (.slice a1 a2 a3) (.slice b1 b2 b3) (.slice c1 c2 c3) (.slice d1 d2 d3)) 27)) (.cells (wdcs f2 x2 (.slice a4 a5 a6) (.slice b4 b5 b6) (.slice c4 c5 c6) (.slice d4 d5 d6)) 27)
  have b0 := newWd_wb (w.alloc (.cells (wdcs f1 x1 (.slice a1 a2 a3) (.slice b1 b2 b3) (.slice c1 c2 c3) (.slice d1 d2 d3)) 27)) f2 x2 (.slice a4 a5 a6) (.slice b4 b5 b6) (.slice c4 c5 c6) (.slice d4 d5 d6)
  rw [size_alloc] at b0
  have HS0 : Hid (Still w ((w.alloc (.cells (wdcs f1 x1 (.slice a1 a2 a3) (.slice b1 b2 b3) (.slice c1 c2 c3) (.slice d1 d2 d3)) 27)).alloc (.cells (wdcs f2 x2 (.slice a4 a5 a6) (.slice b4 b5 b6) (.slice c4 c5 c6) (.slice d4 d5 d6)) 27))) := hid (A0.trans A1)
  have HP0 : Hid (Wdb ((w.alloc (.cells (wdcs f1 x1 (.slice a1 a2 a3) (.slice b1 b2 b3) (.slice c1 c2 c3) (.slice d1 d2 d3)) 27)).alloc (.cells (wdcs f2 x2 (.slice a4 a5 a6) (.slice b4 b5 b6) (.slice c4 c5 c6) (.slice d4 d5 d6)) 27)) w.heap.size f1 x1 (.slice a1 a2 a3) (.slice b1 b2 b3) (.slice c1 c2 c3) (.slice d1 d2 d3)) := hid ((newWd_wb w f1 x1 (.slice a1 a2 a3) (.slice b1 b2 b3) (.slice c1 c2 c3) (.slice d1 d2 d3)).still A1)
  have HQ0 : Hid (Wdb ((w.alloc (.cells (wdcs f1 x1 (.slice a1 a2 a3) (.slice b1 b2 b3) (.slice c1 c2 c3) (.slice d1 d2 d3)) 27)).alloc (.cells (wdcs f2 x2 (.slice a4 a5 a6) (.slice b4 b5 b6) (.slice c4 c5 c6) (.slice d4 d5 d6)) 27)) (w.heap.size + 1) f2 x2 (.slice a4 a5 a6) (.slice b4 b5 b6) (.slice c4 c5 c6) (.slice d4 d5 d6)) := hid b0
  have H0 := hid (awake23_any w ((w.alloc (.cells (wdcs f1 x1 (.slice a1 a2 a3) (.slice b1 b2 b3) (.slice c1 c2 c3) (.slice d1 d2 d3)) 27)).alloc (.cells (wdcs f2 x2 (.slice a4 a5 a6) (.slice b4 b5 b6) (.slice c4 c5 c6) (.slice d4 d5 d6)) 27)) C (A0.trans A1))
  obtain ⟨W0, eW0⟩ : ∃ X, ((w.alloc (.cells (wdcs f1 x1 (.slice a1 a2 a3) (.slice b1 b2 b3) (.slice c1 c2 c3) (.slice d1 d2 d3)) 27)).alloc (.cells (wdcs f2 x2 (.slice a4 a5 a6) (.slice b4 b5 b6) (.slice c4 c5 c6) (.slice d4 d5 d6)) 27)) = X := ⟨_, rfl⟩
  rw [eW0] at HS0 HP0 HQ0 H0
  have HPr := hid hP
  have HRr := hid hR
  obtain ⟨m, em⟩ : ∃ m, Lc.length = m := ⟨_, rfl⟩
  rw [em] at hL
  have HM := hid em
  have HLm := hid hL
  have hm : m ≤ 281474976710656 := by omega
  clear C hP hR A0 A1 b0 em hL
  go_enter Tryd.func3, Tryd.ntmps3
  go_wp2_with fail
  refine H0.out.mono ?_
  rintro e w1 ⟨rfl, h1⟩
  have HS1 := hid h1
  have H1 := hid (HPr.out w1 (HS0.out.trans h1))
  obtain ⟨c0, c1', c2', c3', c4', c5', cf⟩ := (HP0.out.still h1).cells
  obtain ⟨d0, d1', d2', d3', d4', d5', df⟩ := (HQ0.out.still h1).cells
  clear h1 H0 eW0
  go_wp2_with fail
  refine H1.out.mono ?_
  rintro e w2 ⟨va, rfl, hoa, h2⟩
  obtain ⟨oa, ka, rfl, _⟩ := hoa.slice
  rw [HM.out] at hoa ⊢
  have HS2 := hid (HS1.out.trans h2)
  have HOa := hid hoa
  have H2 := hid (HRr.out w2 (HS0.out.trans HS2.out))
  have HZ1 := hid (show W0.heap.size ≤ w1.heap.size from HS1.out.size)
  have HZ2 := hid (show w1.heap.size ≤ w2.heap.size from h2.size)
  clear h2 hoa H1 HS1 c0 c1' c2' c3' c4' c5' cf d0 d1' d2' d3' d4' d5' df
  obtain ⟨c0, c1', c2', c3', c4', c5', cf⟩ := (HP0.out.still HS2.out).cells
  obtain ⟨d0, d1', d2', d3', d4', d5', df⟩ := (HQ0.out.still HS2.out).cells
  obtain ⟨z1, ez1⟩ : ∃ z, w1.heap.size = z := ⟨_, rfl⟩
  rw [ez1] at HOa HZ1 HZ2
  go_wp2_with fail
  refine H2.out.mono ?_
  rintro e w3 ⟨vb, rfl, hob, h3⟩
  obtain ⟨ob, kb, rfl, _⟩ := hob.slice
  rw [HM.out] at hob ⊢
  have HS3 := hid (HS2.out.trans h3)
  have HOb := hid hob
  have HOa3 := hid (HOa.out.still h3)
  obtain ⟨z2, ez2⟩ : ∃ z, w2.heap.size = z := ⟨_, rfl⟩
  have HBa : Hid (∀ k, (Value.slice oa m ka).ownBlock = some k → k < z2) := hid (fun k hk => by have := (HOa.out.block hk).2; omega)
  rw [ez2] at HOb HZ2
  have HZ3 : Hid (z2 ≤ w3.heap.size) := hid (by rw [← ez2]; exact h3.size)
  have ra : RdG KCr w3 oa m Lc := by
    have h := OwG.rd (L := Lc) (M := []) (by rw [List.append_nil]; exact HOa3.out) (by rw [HM.out]; exact hm)
    rwa [HM.out] at h
  have rb : RdG KCr w3 ob m Lc := by
    have h := OwG.rd (L := Lc) (M := []) (by rw [List.append_nil]; exact HOb.out) (by rw [HM.out]; exact hm)
    rwa [HM.out] at h
  have H3 := hid (rsamec_t Lc oa ob m ka kb w3 ra rb)
  clear h3 hob H2 HS2 ra rb HOa ez1 ez2 c0 c1' c2' c3' c4' c5' cf d0 d1' d2' d3' d4' d5' df
  go_wp2_with fail
  refine H3.out.mono ?_
  rintro e w4 ⟨rfl, h4⟩
  have HS4 := hid (HS3.out.trans h4)
  have HOa4 := hid (HOa3.out.still h4)
  have HOb4 := hid (HOb.out.still h4)
  have HZ4 : Hid (z2 ≤ w4.heap.size) := hid (Nat.le_trans HZ3.out h4.size)
  clear h4 H3 HS3 HOa3 HOb
  go_wp2_with fail
  go_loopw [11] (fun u wr => ∃ (i : Nat) (L' : List Cr), i ≤ m ∧ u = .int .i64 (i : Int) ∧ Hid (L'.length = m) ∧ OwG KCr 37 wr z1 (.slice oa m ka) L' ∧ OwG KCr 37 wr z2 (.slice ob m kb) Lc ∧ Still W0 wr ∧ z2 ≤ wr.heap.size) (fun u _ => m - (intOf u).toNat)
  case atStart => exact ⟨0, Lc, by omega, rfl, HM, HOa4.out, HOb4.out, HS4.out, HZ4.out⟩
  case round =>
    clear HOa4 HOb4 HS4 HZ4 HZ3
    obtain ⟨i, L', hi, rfl, HL', ho, hb, hs, hz⟩ := hrel
    have HO := hid ho
    have HB := hid hb
    have HS := hid hs
    by_cases hin : i < m
    · have hlt : (i : Int) < (m : Int) := by omega
      obtain ⟨g, cp, hv, hg1, hg2⟩ := ho.head (by rw [HL'.out]; omega)
      simp only [Value.slice.injEq] at hv
      obtain ⟨rfl, hv1, hv2⟩ := hv
      clear hv1 hv2
      have e0 := ho.get (i := i) (by rw [HL'.out]; exact hin) 0 _ rfl
      have ef := ho.frozen
      have hgz : g < z2 := HBa.out g rfl
      have HO2 : Hid (OwG KCr 37 (wr.setCell ⟨g, i * 7, none⟩ (.int .i64 (-1))) z1 (.slice (some ⟨g, 0, none⟩) m ka) (L'.set i { crA L' i with pe := -1 })) := hid (HO.out.set1 (j := 0) (by rw [HL'.out]; exact hin) (by decide) _ _ rfl)
      have HB2 : Hid (OwG KCr 37 (wr.setCell ⟨g, i * 7, none⟩ (.int .i64 (-1))) z2 (.slice ob m kb) Lc) := hid (HB.out.keep (F := fun k => k = g) ((Fr.refl _ wr).setCell _ _ (.inl rfl)) (fun k hk hx => by have := (HB.out.block hx).1; omega))
      have HS2 := hid (still_cell HS.out g (i * 7) (.int .i64 (-1)) (by have := HZ1.out; omega))
      have HL2 : Hid ((L'.set i { crA L' i with pe := -1 }).length = m) := hid (by rw [List.length_set]; exact HL'.out)
      have HZw : Hid (z2 ≤ (wr.setCell ⟨g, i * 7, none⟩ (.int .i64 (-1))).heap.size) := hid (Nat.le_trans hz ((Fr.refl (fun k => k = g) wr).setCell ⟨g, i * 7, none⟩ (.int .i64 (-1)) (.inl rfl)).size)
      obtain ⟨W5, eW5⟩ : ∃ X, wr.setCell ⟨g, i * 7, none⟩ (.int .i64 (-1)) = X := ⟨_, rfl⟩
      rw [eW5] at HO2 HB2 HS2 HZw
      have e0' : wr.cell? ⟨g, i * 7, none⟩ = some (.int .i64 (crA L' i).pe) := e0
      clear ho hb hs e0 hg1 hg2
      go_wp2_with fail
      go_roundw
      case rel => exact ⟨i + 1, _, by omega, by go_num, HL2, HO2.out, HB2.out, HS2.out, HZw.out⟩
      case measure => first | (simp [intOf]; done) | (simp [intOf]; omega)
    · have A5 := Still.alloc wr (.cells #[.int .i64 (-2), .int .i64 0, .int .i64 0, .int .i64 0, .int .i64 0, .int .i64 0, .int .i64 0] 37)
      have hge : ¬ (i : Int) < (m : Int) := by omega
      have HO5 := hid (ho.still A5)
      have HB5 := hid (hb.still A5)
      have HS5 := hid (hs.trans A5)
      have HY5 : Hid ((wr.alloc (.cells #[.int .i64 (-2), .int .i64 0, .int .i64 0, .int .i64 0, .int .i64 0, .int .i64 0, .int .i64 0] 37)).heap[wr.heap.size]? = some (.cells (crcs ⟨-2, 0, 0, 0, 0, 0, 0⟩) 37 (0, 0))) := hid (heap_alloc_new wr _)
      have HZ5 : Hid (z1 ≤ (wr.alloc (.cells #[.int .i64 (-2), .int .i64 0, .int .i64 0, .int .i64 0, .int .i64 0, .int .i64 0, .int .i64 0] 37)).heap.size) := hid (Nat.le_trans HZ2.out (Nat.le_trans hz A5.size))
      have HL5 : Hid ((L'.length + 1) * 56 ≤ 140737488355328) := hid (by rw [HL'.out]; exact HLm.out)
      have hmw : IntKind.i64.wrap ((m : Int) + 1) = (m : Int) + 1 := by rw [IntKind.wrap_i64]; omega
      clear ho hb hs A5 hin HO HB HS hz
      go_wp2_with (
        at_builtin
        refine wpList_appH KCr _ rfl _ _ 29 rfl Tryd.underlying29 56 infoCr z1 wr.heap.size _ L' ⟨-2, 0, 0, 0, 0, 0, 0⟩ rfl rfl HO5.out HY5.out HL5.out (by have := HL5.out; omega) HZ5.out ?_
        intro v' w' ho' hf'
        obtain ⟨om, km, rfl, _⟩ := ho'.slice
        have el : (L' ++ [(⟨-2, 0, 0, 0, 0, 0, 0⟩ : Cr)]).length = m + 1 := by rw [List.length_append, HL'.out]; rfl
        rw [el]
        have HB6 := hid (HB5.out.keep hf' (fun k hk hx => by have := (HB5.out.block hx).1; have := HBa.out k hk; omega))
        have HS6 := hid (still_appG HS5.out HO5.out hf' HZ1.out)
        have H6 := hid (HPr.out w' (HS0.out.trans HS6.out))
        obtain ⟨c0, c1', c2', c3', c4', c5', cf⟩ := (HP0.out.still HS6.out).cells
        obtain ⟨d0, d1', d2', d3', d4', d5', df⟩ := (HQ0.out.still HS6.out).cells
        clear ho' hf' el)
      refine H6.out.mono ?_
      rintro e w7 ⟨vc, rfl, hoc, h7⟩
      obtain ⟨oc, kc, rfl, _⟩ := hoc.slice
      rw [HM.out] at hoc ⊢
      have HS7 := hid (HS6.out.trans h7)
      have rc : RdG KCr w7 oc m Lc := by
        have h := OwG.rd (L := Lc) (M := []) (by rw [List.append_nil]; exact hoc) (by rw [HM.out]; exact hm)
        rwa [HM.out] at h
      have rb : RdG KCr w7 ob m Lc := by
        have h := OwG.rd (L := Lc) (M := []) (by rw [List.append_nil]; exact HB6.out.still h7) (by rw [HM.out]; exact hm)
        rwa [HM.out] at h
      have H7 := hid (rsamec_t Lc oc ob m kc kb w7 rc rb)
      clear h7 hoc rc rb H6 c0 c1' c2' c3' c4' c5' cf d0 d1' d2' d3' d4' d5' df HB6 HS6
      go_wp2_with fail
      refine H7.out.mono ?_
      rintro e w8 ⟨rfl, h8⟩
      have HS8 := hid (HS0.out.trans (HS7.out.trans h8))
      clear h8 H7 HS7
      go_wp2_with fail
      go_ret
      exact ⟨rfl, HS8.out⟩
set_option maxHeartbeats 1000000 in
theorem corrects_yes (f1 x1 f2 x2 : Int) (a1 b1 c1 d1 a4 b4 c4 d4 : Option Addr) (n a3 b3 c2 c3 d2 d3 a6 b6 c5 c6 d5 d6 : Nat) (M M' : List Mv) (C C' : List Scr) (w : World) (D : Cts23 w) (h1 : RdG KM w a1 n M) (h2 : RdG KC w b1 n C) (h3 : RdG KM w a4 n M') (h4 : RdG KC w b4 n C') (hi : InH M C) (hi' : InH M' C') (hb : (n + 1) * 56 ≤ 140737488355328) :
    Calls Tryd.prog 3 #[.agg (wdcs f1 x1 (.slice a1 n a3) (.slice b1 n b3) (.slice c1 c2 c3) (.slice d1 d2 d3)), .agg (wdcs f2 x2 (.slice a4 n a6) (.slice b4 n b6) (.slice c4 c5 c6) (.slice d4 d5 d6))] w fun e w' => e = .returned (.bool true) ∧ Still w w' :=
  corrects_core f1 x1 f2 x2 a1 b1 c1 d1 a4 b4 c4 d4 n a3 n b3 c2 c3 d2 d3 n a6 n b6 c5 c6 d5 d6 (crN M M' C C' n) 0 w D (fun u hu => D.cyes f1 x1 f2 x2 a1 b1 a4 b4 c1 d1 c4 d4 a3 b3 a6 b6 c2 c3 d2 d3 c5 c6 d5 d6 n M M' C C' u hu (h1.still hu) (h2.still hu) (h3.still hu) (h4.still hu) hi hi' hb) (fun u hu => rcorrect_yes f1 x1 f2 x2 a1 b1 a4 b4 c1 d1 c4 d4 a3 b3 a6 b6 c2 c3 d2 d3 c5 c6 d5 d6 n M M' C C' u (h1.still hu) (h2.still hu) (h3.still hu) (h4.still hu) hb) (Nat.le_trans (Nat.mul_le_mul_right 56 (by have := crN_len M M' C C' n; omega)) hb)
set_option maxHeartbeats 1000000 in
theorem corrects_no (f1 x1 f2 x2 : Int) (a1 b1 c1 d1 a4 b4 c4 d4 : Option Addr) (a2 a3 b2 b3 c2 c3 d2 d3 a5 a6 b5 b6 c5 c6 d5 d6 : Nat) (w : World) (D : Cts23 w) (h : ¬ (a5 = a2 ∧ b2 = a2 ∧ b5 = a2)) : Calls Tryd.prog 3 #[.agg (wdcs f1 x1 (.slice a1 a2 a3) (.slice b1 b2 b3) (.slice c1 c2 c3) (.slice d1 d2 d3)), .agg (wdcs f2 x2 (.slice a4 a5 a6) (.slice b4 b5 b6) (.slice c4 c5 c6) (.slice d4 d5 d6))] w fun e w' => e = .returned (.bool true) ∧ Still w w' :=
  corrects_core f1 x1 f2 x2 a1 b1 c1 d1 a4 b4 c4 d4 a2 a3 b2 b3 c2 c3 d2 d3 a5 a6 b5 b6 c5 c6 d5 d6 [] 230 w D (fun u hu => (D.cno f1 x1 f2 x2 a1 b1 a4 b4 c1 d1 c4 d4 a3 b3 a6 b6 c2 c3 d2 d3 c5 c6 d5 d6 a2 a5 b2 b5 u hu h).mono fun e w' k => ⟨.slice none 0 0, k.1, OwG.nil _ _, k.2⟩) (fun u hu => (rcorrect_no f1 x1 f2 x2 a1 b1 a4 b4 c1 d1 c4 d4 a3 b3 a6 b6 c2 c3 d2 d3 c5 c6 d5 d6 a2 a5 b2 b5 h u).mono fun e w' k => ⟨.slice none 0 0, k.1, OwG.nil _ _, k.2⟩) (by decide)
theorem corrects_law (f1 x1 f2 x2 : Int) (a1 b1 c1 d1 a4 b4 c4 d4 : Option Addr) (a2 a3 b2 b3 c2 c3 d2 d3 a5 a6 b5 b6 c5 c6 d5 d6 : Nat) (M M' : List Mv) (C C' : List Scr) (w : World) (D : Cts23 w) (h1 : RdG KM w a1 a2 M) (h2 : RdG KC w b1 b2 C) (h3 : RdG KM w a4 a5 M') (h4 : RdG KC w b4 b5 C') (hi : InH M C) (hi' : InH M' C') (hb : (a2 + 1) * 56 ≤ 140737488355328) :
    Calls Tryd.prog 3 #[.agg (wdcs f1 x1 (.slice a1 a2 a3) (.slice b1 b2 b3) (.slice c1 c2 c3) (.slice d1 d2 d3)), .agg (wdcs f2 x2 (.slice a4 a5 a6) (.slice b4 b5 b6) (.slice c4 c5 c6) (.slice d4 d5 d6))] w fun e w' => e = .returned (.bool true) ∧ Still w w' := by
  by_cases h : a5 = a2 ∧ b2 = a2 ∧ b5 = a2
  · obtain ⟨e1, e2, e3⟩ := h
    rw [e1] at h3 ⊢
    rw [e2] at h2 ⊢
    rw [e3] at h4 ⊢
    exact corrects_yes f1 x1 f2 x2 a1 b1 c1 d1 a4 b4 c4 d4 a2 a3 b3 c2 c3 d2 d3 a6 b6 c5 c6 d5 d6 M M' C C' w D h1 h2 h3 h4 hi hi' hb
  · exact corrects_no f1 x1 f2 x2 a1 b1 c1 d1 a4 b4 c4 d4 a2 a3 b2 b3 c2 c3 d2 d3 a5 a6 b5 b6 c5 c6 d5 d6 w D h
end Go.Proofs.YtdljmpjfiggdiaaDoor
