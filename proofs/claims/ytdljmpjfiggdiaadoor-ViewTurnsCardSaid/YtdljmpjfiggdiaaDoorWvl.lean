/- What the law ViewTurns says: in plain words, and walked. -/
import Derived.Test.YtdljmpjfiggdiaaDoorWvi
namespace Go.Proofs.YtdljmpjfiggdiaaDoor
open Go.RowKit
open Pu Gp Np Za Ka Ja Ea Ha
set_option maxRecDepth 100000

/-- one told the other way round -/
structure Trn (x y : Cr) : Prop where
  pe : x.pe = y.pe
  b1 : x.bx = y.ax ∧ x.bz = y.az
  b2 : x.ax = y.bx ∧ x.az = y.bz
  hl : x.hl = wrap64 (-y.hl)
  po : x.po = wrap64 (-y.po)
  nz : ¬ ((x.bx = x.ax ∧ x.bz = x.az) ∧ x.hl = 0 ∧ x.po = 0)
theorem wr_neg {x y : Int} : wrap64 (x - y) = wrap64 (-wrap64 (y - x)) := by unfold wrap64; omega
theorem wr_zero {x y : Int} (hx : I64 x) (hy : I64 y) (h : wrap64 (x - y) = 0) : x = y := by
  unfold wrap64 at h
  have h1 := hx.1
  have h2 := hx.2
  have h3 := hy.1
  have h4 := hy.2
  omega
theorem trn_of {i : Nat} {a b : Mv} {s t : Scr} (h1 : I64 a.hl) (h2 : I64 b.hl) (h3 : I64 s.p) (h4 : I64 t.p) (h : crB a b s t = true) : Trn (crV i a b s t) (crV i b a t s) where
  pe := rfl
  b1 := ⟨rfl, rfl⟩
  b2 := ⟨rfl, rfl⟩
  hl := wr_neg
  po := wr_neg
  nz := fun ⟨⟨k1, k2⟩, k3, k4⟩ => by
    have e1 : a.ax = b.ax := k1
    have e2 : a.ay = b.ay := k2
    have e3 : b.hl = a.hl := wr_zero h2 h1 k3
    have e4 : t.p = s.p := wr_zero h4 h3 k4
    unfold crB at h
    rw [e1, e2, e3, e4] at h
    simp at h
theorem crB_sym (a b : Mv) (s t : Scr) : crB b a t s = crB a b s t := by
  unfold crB
  rw [show (b.ax == a.ax) = (a.ax == b.ax) from Bool.beq_comm, show (b.ay == a.ay) = (a.ay == b.ay) from Bool.beq_comm, show (b.hl != a.hl) = (a.hl != b.hl) from bne_comm, show (t.p != s.p) = (s.p != t.p) from bne_comm]
theorem crA_l {L : List Cr} {x : Cr} {j : Nat} (h : j < L.length) : crA (L ++ [x]) j = crA L j := by
  unfold crA
  rw [List.getD_eq_getElem?_getD, List.getD_eq_getElem?_getD, List.getElem?_append_left h]
theorem crA_r {L : List Cr} {x : Cr} {j : Nat} (h : j = L.length) : crA (L ++ [x]) j = x := by
  unfold crA
  rw [List.getD_eq_getElem?_getD, List.getElem?_append_right (by omega), h]
  simp
theorem cr_pair (M M' : List Mv) (C C' : List Scr) (hI : ∀ i, I64 (mm M i).hl ∧ I64 (mm M' i).hl ∧ I64 (sc C i).p ∧ I64 (sc C' i).p) : ∀ n, (crN M M' C C' n).length = (crN M' M C' C n).length ∧ ∀ j, j < (crN M M' C C' n).length → Trn (crA (crN M M' C C' n) j) (crA (crN M' M C' C n) j)
  | 0 => ⟨rfl, fun j hj => absurd hj (Nat.not_lt_zero _)⟩
  | n + 1 => by
    obtain ⟨h1, h2⟩ := cr_pair M M' C C' hI n
    rw [crN, crN, crB_sym (mm M n) (mm M' n) (sc C n) (sc C' n)]
    cases e : crB (mm M n) (mm M' n) (sc C n) (sc C' n) with
    | false => simpa using ⟨h1, h2⟩
    | true =>
      simp only [if_true]
      refine ⟨by rw [List.length_append, List.length_append, h1]; rfl, fun j hj => ?_⟩
      rw [List.length_append, List.length_singleton] at hj
      by_cases hl : j < (crN M M' C C' n).length
      · rw [crA_l hl, crA_l (by omega)]
        exact h2 j hl
      · rw [crA_r (by omega), crA_r (by omega)]
        exact trn_of (hI n).1 (hI n).2.1 (hI n).2.2.1 (hI n).2.2.2 e
theorem cr_self (M : List Mv) (C : List Scr) : ∀ n, crN M M C C n = []
  | 0 => rfl
  | n + 1 => by
    rw [crN, cr_self M C n]
    unfold crB
    simp
theorem Crb.put {w : World} {g : Nat} {x : Cr} (h0 : Crb w g x) (m : Cr) : Crb (((((((w.setCell ⟨g, 0, none⟩ (.int .i64 m.pe)).setCell ⟨g, 1, none⟩ (.int .i64 m.bx)).setCell ⟨g, 2, none⟩ (.int .i64 m.bz)).setCell ⟨g, 3, none⟩ (.int .i64 m.ax)).setCell ⟨g, 4, none⟩ (.int .i64 m.az)).setCell ⟨g, 5, none⟩ (.int .i64 m.hl)).setCell ⟨g, 6, none⟩ (.int .i64 m.po)) g m := by
  unfold Crb at h0 ⊢
  have h1 := heap_setCell_same _ g 0 _ _ (.int .i64 m.pe) h0
  have h2 := heap_setCell_same _ g 1 _ _ (.int .i64 m.bx) h1
  have h3 := heap_setCell_same _ g 2 _ _ (.int .i64 m.bz) h2
  have h4 := heap_setCell_same _ g 3 _ _ (.int .i64 m.ax) h3
  have h5 := heap_setCell_same _ g 4 _ _ (.int .i64 m.az) h4
  have h6 := heap_setCell_same _ g 5 _ _ (.int .i64 m.hl) h5
  have h7 := heap_setCell_same _ g 6 _ _ (.int .i64 m.po) h6
  exact h7.trans (by kernel_rfl)
theorem st_cr {o : Oper} {ρ : Operand → Value} {x y : Operand} {u : World} {g : Nat} {m : Cr} (ho : o.op = .store 37 x y) (hx : ρ x = .pointer (some ⟨g, 0, none⟩)) (hy : ρ y = crv m) (hh : u.heap[g]? = some (.cells (crcs zCr) 37 (0, 0))) :
    ∃ u', (execOp ρ o).run Tryd.prog u = .ok .skip u' ∧ u'.heap[g]? = some (.cells (crcs m) 37 (0, 0)) ∧ Fr (fun i => i = g) u u' := by
  have hb : Crb u g zCr := hh
  obtain ⟨d0, d1, d2, d3, d4, d5, d6, df⟩ := hb.cells
  have hput := hb.put m
  refine ⟨(((((((u.setCell ⟨g, 0, none⟩ (.int .i64 m.pe)).setCell ⟨g, 1, none⟩ (.int .i64 m.bx)).setCell ⟨g, 2, none⟩ (.int .i64 m.bz)).setCell ⟨g, 3, none⟩ (.int .i64 m.ax)).setCell ⟨g, 4, none⟩ (.int .i64 m.az)).setCell ⟨g, 5, none⟩ (.int .i64 m.hl)).setCell ⟨g, 6, none⟩ (.int .i64 m.po)), ?_, hput, ((((((((Fr.refl (fun i => i = g) u).setCell ⟨g, 0, none⟩ (.int .i64 m.pe) (.inl rfl)).setCell ⟨g, 1, none⟩ (.int .i64 m.bx) (.inl rfl)).setCell ⟨g, 2, none⟩ (.int .i64 m.bz) (.inl rfl)).setCell ⟨g, 3, none⟩ (.int .i64 m.ax) (.inl rfl)).setCell ⟨g, 4, none⟩ (.int .i64 m.az) (.inl rfl)).setCell ⟨g, 5, none⟩ (.int .i64 m.hl) (.inl rfl)).setCell ⟨g, 6, none⟩ (.int .i64 m.po) (.inl rfl))⟩
  clear hput hb hh
  unfold execOp
  rw [ho]
  simp only [hx, hy]
  go_simp
theorem nw_cr {o : Oper} {ρ : Operand → Value} (ho : o.op = .alloc 37) (u : World) : (execOp ρ o).run Tryd.prog u = .ok (.value (.pointer (some ⟨u.heap.size, 0, none⟩))) (u.alloc (.cells (crcs zCr) 37 (0, 0))) := by
  unfold execOp
  rw [ho]
  go_simp
  try rfl
set_option maxHeartbeats 8000000 in
theorem turns_core (f1 x1 f2 x2 : Int) (a1 b1 c1 d1 a4 b4 c4 d4 : Option Addr) (a2 a3 b2 b3 c2 c3 d2 d3 a5 a6 b5 b6 c5 c6 d5 d6 : Nat) (L1 L2 : List Cr) (E Eo : Int) (m : Nat) (w : World) (C : Cts23 w) (hP : ∀ u, Still w u → Calls Tryd.prog 9 #[.agg (wdcs f1 x1 (.slice a1 a2 a3) (.slice b1 b2 b3) (.slice c1 c2 c3) (.slice d1 d2 d3)), .agg (wdcs f2 x2 (.slice a4 a5 a6) (.slice b4 b5 b6) (.slice c4 c5 c6) (.slice d4 d5 d6))] u fun e w' => ∃ v, e = .returned (.tuple #[v, .int .i64 E]) ∧ OwG KCr 37 w' u.heap.size v L1 ∧ Still u w') (hQ : ∀ u, Still w u → Calls Tryd.prog 9 #[.agg (wdcs f2 x2 (.slice a4 a5 a6) (.slice b4 b5 b6) (.slice c4 c5 c6) (.slice d4 d5 d6)), .agg (wdcs f1 x1 (.slice a1 a2 a3) (.slice b1 b2 b3) (.slice c1 c2 c3) (.slice d1 d2 d3))] u fun e w' => ∃ v, e = .returned (.tuple #[v, .int .i64 E]) ∧ OwG KCr 37 w' u.heap.size v L2 ∧ Still u w') (hO : ∀ u, Still w u → Calls Tryd.prog 9 #[.agg (wdcs f1 x1 (.slice a1 a2 a3) (.slice b1 b2 b3) (.slice c1 c2 c3) (.slice d1 d2 d3)), .agg (wdcs f1 x1 (.slice a1 a2 a3) (.slice b1 b2 b3) (.slice c1 c2 c3) (.slice d1 d2 d3))] u fun e w' => ∃ v, e = .returned (.tuple #[v, .int .i64 Eo]) ∧ OwG KCr 37 w' u.heap.size v [] ∧ Still u w') (h1 : L1.length = m) (h2 : L2.length = m) (hm : m ≤ 281474976710656) (hT : ∀ j, j < m → Trn (crA L1 j) (crA L2 j)) (hE : (Eo == 0) = ((a2 : Int) == (b2 : Int))) :
    Calls Tryd.prog 4 #[.agg (wdcs f1 x1 (.slice a1 a2 a3) (.slice b1 b2 b3) (.slice c1 c2 c3) (.slice d1 d2 d3)), .agg (wdcs f2 x2 (.slice a4 a5 a6) (.slice b4 b5 b6) (.slice c4 c5 c6) (.slice d4 d5 d6))] w fun e w' => e = .returned (.bool true) ∧ Still w w' := by
  have A0 := Still.alloc w (.cells (wdcs f1 x1 (.slice a1 a2 a3) (.slice b1 b2 b3) (.slice c1 c2 c3) (.slice d1 d2 d3)) 27)
  have A1 := Still.alloc (w.alloc (.cells (wdcs f1 x1 (.slice a1 a2 a3) (.slice b1 b2 b3) (.slice c1 c2 c3) (.slice d1 d2 d3)) 27)) (.cells (wdcs f2 x2 (.slice a4 a5 a6) (.slice b4 b5 b6) (.slice c4 c5 c6) (.slice d4 d5 d6)) 27)
  have b0 := newWd_wb (w.alloc (.cells (wdcs f1 x1 (.slice a1 a2 a3) (.slice b1 b2 b3) (.slice c1 c2 c3) (.slice d1 d2 d3)) 27)) f2 x2 (.slice a4 a5 a6) (.slice b4 b5 b6) (.slice c4 c5 c6) (.slice d4 d5 d6)
  rw [size_alloc] at b0
  have HS0 : Hid (Still w ((w.alloc (.cells (wdcs f1 x1 (.slice a1 a2 a3) (.slice b1 b2 b3) (.slice c1 c2 c3) (.slice d1 d2 d3)) 27)).alloc (.cells (wdcs f2 x2 (.slice a4 a5 a6) (.slice b4 b5 b6) (.slice c4 c5 c6) (.slice d4 d5 d6)) 27))) := hid (A0.trans A1)
  have HP0 : Hid (Wdb ((w.alloc (.cells (wdcs f1 x1 (.slice a1 a2 a3) (.slice b1 b2 b3) (.slice c1 c2 c3) (.slice d1 d2 d3)) 27)).alloc (.cells (wdcs f2 x2 (.slice a4 a5 a6) (.slice b4 b5 b6) (.slice c4 c5 c6) (.slice d4 d5 d6)) 27)) w.heap.size f1 x1 (.slice a1 a2 a3) (.slice b1 b2 b3) (.slice c1 c2 c3) (.slice d1 d2 d3)) := hid ((newWd_wb w f1 x1 (.slice a1 a2 a3) (.slice b1 b2 b3) (.slice c1 c2 c3) (.slice d1 d2 d3)).still A1)
  have HQ0 : Hid (Wdb ((w.alloc (.cells (wdcs f1 x1 (.slice a1 a2 a3) (.slice b1 b2 b3) (.slice c1 c2 c3) (.slice d1 d2 d3)) 27)).alloc (.cells (wdcs f2 x2 (.slice a4 a5 a6) (.slice b4 b5 b6) (.slice c4 c5 c6) (.slice d4 d5 d6)) 27)) (w.heap.size + 1) f2 x2 (.slice a4 a5 a6) (.slice b4 b5 b6) (.slice c4 c5 c6) (.slice d4 d5 d6)) := hid b0
  have H0 := hid (awake23_any w ((w.alloc (.cells (wdcs f1 x1 (.slice a1 a2 a3) (.slice b1 b2 b3) (.slice c1 c2 c3) (.slice d1 d2 d3)) 27)).alloc (.cells (wdcs f2 x2 (.slice a4 a5 a6) (.slice b4 b5 b6) (.slice c4 c5 c6) (.slice d4 d5 d6)) 27)) C (A0.trans A1))
  obtain ⟨W0, eW0⟩ : ∃ X, ((w.alloc (.cells (wdcs f1 x1 (.slice a1 a2 a3) (.slice b1 b2 b3) (.slice c1 c2 c3) (.slice d1 d2 d3)) 27)).alloc (.cells (wdcs f2 x2 (.slice a4 a5 a6) (.slice b4 b5 b6) (.slice c4 c5 c6) (.slice d4 d5 d6)) 27)) = X := ⟨_, rfl⟩
  rw [eW0] at HS0 HP0 HQ0 H0
  have HPr := hid hP
  have HQr := hid hQ
  have HOr := hid hO
  have HM1 := hid h1
  have HM2 := hid h2
  have HT := hid hT
  obtain ⟨B1, eB1⟩ : ∃ b, (Eo == 0) = b := ⟨_, rfl⟩
  have eB2 : ((a2 : Int) == (b2 : Int)) = B1 := by rw [← hE, eB1]
  clear C hP hQ hO A0 A1 b0 h1 h2 hT hE
  go_enter Tryd.func4, Tryd.ntmps4
  go_wp2_with fail
  refine H0.out.mono ?_
  rintro e w1 ⟨rfl, h1⟩
  have HS1 := hid h1
  have H1 := hid (HPr.out w1 (HS0.out.trans h1))
  obtain ⟨c0, c1', c2', c3', c4', c5', cf⟩ := (HP0.out.still h1).cells
  obtain ⟨d0, d1', d2', d3', d4', d5', df⟩ := (HQ0.out.still h1).cells
  clear h1 H0 eW0
  go_wp2_with fail
  refine H1.out.mono ?_
  rintro e w2 ⟨va, rfl, hoa, h2⟩
  obtain ⟨oa, ka, rfl, _⟩ := hoa.slice
  rw [HM1.out] at hoa ⊢
  have HS2 := hid (HS1.out.trans h2)
  have HOa := hid hoa
  have H2 := hid (HQr.out w2 (HS0.out.trans HS2.out))
  clear h2 hoa H1 HS1 c0 c1' c2' c3' c4' c5' cf d0 d1' d2' d3' d4' d5' df
  obtain ⟨c0, c1', c2', c3', c4', c5', cf⟩ := (HP0.out.still HS2.out).cells
  obtain ⟨d0, d1', d2', d3', d4', d5', df⟩ := (HQ0.out.still HS2.out).cells
  go_wp2_with fail
  refine H2.out.mono ?_
  rintro e w3 ⟨vb, rfl, hob, h3⟩
  obtain ⟨ob, kb, rfl, _⟩ := hob.slice
  rw [HM2.out] at hob ⊢
  have HS3 := hid (HS2.out.trans h3)
  have HOb := hid hob
  have HOa3 := hid (HOa.out.still h3)
  have H3 := hid (HOr.out w3 (HS0.out.trans HS3.out))
  clear h3 hob H2 HS2 HOa c0 c1' c2' c3' c4' c5' cf d0 d1' d2' d3' d4' d5' df
  obtain ⟨c0, c1', c2', c3', c4', c5', cf⟩ := (HP0.out.still HS3.out).cells
  go_wp2_with fail
  refine H3.out.mono ?_
  rintro e w4 ⟨vo, rfl, hoo, h4⟩
  obtain ⟨oo, ko, rfl, _⟩ := hoo.slice
  have HS4 := hid (HS3.out.trans h4)
  have HOa4 := hid (HOa3.out.still h4)
  have HOb4 := hid (HOb.out.still h4)
  clear h4 hoo H3 HS3 HOa3 HOb c0 c1' c2' c3' c4' c5' cf
  obtain ⟨c0, c1', c2', c3', c4', c5', cf⟩ := (HP0.out.still HS4.out).cells
  simp only [List.length_nil]
  obtain ⟨z1, ez1⟩ : ∃ z, w1.heap.size = z := ⟨_, rfl⟩
  obtain ⟨z2, ez2⟩ : ∃ z, w2.heap.size = z := ⟨_, rfl⟩
  rw [ez1] at HOa4
  rw [ez2] at HOb4
  clear ez1 ez2
  cases B1 <;> (
    go_wp2_with fail
    clear c0 c1' c2' c3' c4' c5' cf
    go_loopw [13] (fun u wr => ∃ i : Nat, i ≤ m ∧ u = .int .i64 (i : Int) ∧ Still w4 wr) (fun u _ => m - (intOf u).toNat)
    case atStart => exact ⟨0, by omega, rfl, Fr.refl _ _⟩
    case round =>
      obtain ⟨i, hi, rfl, hs⟩ := hrel
      have HS := hid hs
      by_cases hin : i < m
      · have hlt : (i : Int) < (m : Int) := by omega
        have ha := HOa4.out.still hs
        have hb := HOb4.out.still hs
        obtain ⟨ga, ca, hv, _, _⟩ := ha.head (by rw [HM1.out]; omega)
        simp only [Value.slice.injEq] at hv
        obtain ⟨rfl, hv1, hv2⟩ := hv
        clear hv1 hv2
        obtain ⟨gb, cb, hv, _, _⟩ := hb.head (by rw [HM2.out]; omega)
        simp only [Value.slice.injEq] at hv
        obtain ⟨rfl, hv1, hv2⟩ := hv
        clear hv1 hv2
        have HGa : Hid (∀ u, Still wr u → u.cell? ⟨ga, i * 7, none⟩ = some (.int .i64 (crA L1 i).pe) ∧ u.cell? ⟨ga, i * 7 + 1, none⟩ = some (.int .i64 (crA L1 i).bx) ∧ u.cell? ⟨ga, i * 7 + 2, none⟩ = some (.int .i64 (crA L1 i).bz) ∧ u.cell? ⟨ga, i * 7 + 3, none⟩ = some (.int .i64 (crA L1 i).ax) ∧ u.cell? ⟨ga, i * 7 + 4, none⟩ = some (.int .i64 (crA L1 i).az) ∧ u.cell? ⟨ga, i * 7 + 5, none⟩ = some (.int .i64 (crA L1 i).hl) ∧ u.cell? ⟨ga, i * 7 + 6, none⟩ = some (.int .i64 (crA L1 i).po)) := hid (fun u hu => ⟨(ha.still hu).get (i := i) (by rw [HM1.out]; exact hin) 0 _ rfl, (ha.still hu).get (i := i) (by rw [HM1.out]; exact hin) 1 _ rfl, (ha.still hu).get (i := i) (by rw [HM1.out]; exact hin) 2 _ rfl, (ha.still hu).get (i := i) (by rw [HM1.out]; exact hin) 3 _ rfl, (ha.still hu).get (i := i) (by rw [HM1.out]; exact hin) 4 _ rfl, (ha.still hu).get (i := i) (by rw [HM1.out]; exact hin) 5 _ rfl, (ha.still hu).get (i := i) (by rw [HM1.out]; exact hin) 6 _ rfl⟩)
        have HGb : Hid (∀ u, Still wr u → u.cell? ⟨gb, i * 7, none⟩ = some (.int .i64 (crA L2 i).pe) ∧ u.cell? ⟨gb, i * 7 + 1, none⟩ = some (.int .i64 (crA L2 i).bx) ∧ u.cell? ⟨gb, i * 7 + 2, none⟩ = some (.int .i64 (crA L2 i).bz) ∧ u.cell? ⟨gb, i * 7 + 3, none⟩ = some (.int .i64 (crA L2 i).ax) ∧ u.cell? ⟨gb, i * 7 + 4, none⟩ = some (.int .i64 (crA L2 i).az) ∧ u.cell? ⟨gb, i * 7 + 5, none⟩ = some (.int .i64 (crA L2 i).hl) ∧ u.cell? ⟨gb, i * 7 + 6, none⟩ = some (.int .i64 (crA L2 i).po)) := hid (fun u hu => ⟨(hb.still hu).get (i := i) (by rw [HM2.out]; exact hin) 0 _ rfl, (hb.still hu).get (i := i) (by rw [HM2.out]; exact hin) 1 _ rfl, (hb.still hu).get (i := i) (by rw [HM2.out]; exact hin) 2 _ rfl, (hb.still hu).get (i := i) (by rw [HM2.out]; exact hin) 3 _ rfl, (hb.still hu).get (i := i) (by rw [HM2.out]; exact hin) 4 _ rfl, (hb.still hu).get (i := i) (by rw [HM2.out]; exact hin) 5 _ rfl, (hb.still hu).get (i := i) (by rw [HM2.out]; exact hin) 6 _ rfl⟩)
        have ht := HT.out i hin
        obtain ⟨x, ex⟩ : ∃ x, crA L1 i = x := ⟨_, rfl⟩
        obtain ⟨y, ey⟩ : ∃ x, crA L2 i = x := ⟨_, rfl⟩
        rw [ex] at HGa ht
        rw [ey] at HGb ht
        clear ex ey ha hb hs
        go_upto_region 11 with fail
        refine region_mk2 8 14 15 (.cells (crcs zCr) 37 (0, 0)) (.cells (crcs x) 37 (0, 0)) (.cells (crcs y) 37 (0, 0)) (by kernel_rfl) (by kernel_rfl) (by kernel_rfl) (by kernel_rfl) ⟨rfl, rfl⟩ ⟨rfl, rfl⟩ (fun u b => ⟨nw_cr rfl u, nw_cr rfl u⟩) (fun u => heap_alloc_new u _) ?_
        apply Exists.intro
        refine And.intro ?_ (And.intro ?_ (And.intro ?_ ?_))
        · intro u hu
          obtain ⟨p0, p1, p2, p3, p4, p5, p6⟩ := HGa.out u hu
          obtain ⟨q0, q1, q2, q3, q4, q5, q6⟩ := HGb.out u hu
          have y0 := Cl.cell p0
          have y1 := Cl.cell p1
          have y2 := Cl.cell p2
          have y3 := Cl.cell p3
          have y4 := Cl.cell p4
          have y5 := Cl.cell p5
          have y6 := Cl.cell p6
          have z0 := Cl.cell q0
          have z1 := Cl.cell q1
          have z2 := Cl.cell q2
          have z3 := Cl.cell q3
          have z4 := Cl.cell q4
          have z5 := Cl.cell q5
          have z6 := Cl.cell q6
          have hne := Aft.here u
          clear p0 p1 p2 p3 p4 p5 p6 q0 q1 q2 q3 q4 q5 q6
          simp only [qlist, List.take_succ_cons, List.take_zero, List.drop_succ_cons, List.drop_zero, List.cons_append, List.nil_append, Nat.reduceMul, Nat.reduceAdd]
          repeat (go_big_quiet_step (fail))
          exact wpQuiet_nil rfl
        · exact fun u h hh => st_cr rfl rfl rfl hh
        · exact fun u h hh => st_cr rfl rfl rfl hh
        intro w5 g1 g2 h5 hg1 hg2 hg12 hm1 hm2
        have hp5 : Crb w5 g1 x := hm1
        have hq5 : Crb w5 g2 y := hm2
        have HS5 := hid (HS.out.trans h5)
        obtain ⟨p0, p1, p2, p3, p4, p5, p6, pf⟩ := hp5.cells
        obtain ⟨q0, q1, q2, q3, q4, q5, q6, qf⟩ := hq5.cells
        have E1 := neq_pt_f ht.b1
        have E2 := neq_pt_f ht.b2
        have k0 : (x.pe != y.pe) = false := by rw [ht.pe]; simp
        have k1 : (x.hl != wrap64 (-y.hl)) = false := by rw [← ht.hl]; simp
        have k2 : (x.po != wrap64 (-y.po)) = false := by rw [← ht.po]; simp
        have HNz := hid ht.nz
        clear ht hm1 hm2 hp5 hq5 h5 HGa HGb
        simp only [Act.put, List.setIfInBounds_toArray, List.set_cons_succ, List.set_cons_zero]
        rcases (show ¬ (x.bx = x.ax ∧ x.bz = x.az) ∨ ((x.bx = x.ax ∧ x.bz = x.az) ∧ ¬ x.hl = 0) ∨ ((x.bx = x.ax ∧ x.bz = x.az) ∧ x.hl = 0 ∧ ¬ x.po = 0) by have := HNz.out; omega) with n1 | ⟨n1, n2⟩ | ⟨n1, n2, n3⟩
        · have E3 := fun w => (eql_pt x.bx x.bz x.ax x.az w)
          have n1' : (x.bx == x.ax && x.bz == x.az) = false := by simp; omega
          clear n1
          go_wp2_with fail
          go_roundw
          case rel => exact ⟨i + 1, by omega, by go_num, HS5.out⟩
          case measure => first | (simp [intOf]; done) | (simp [intOf]; omega)
        · have E3 := eql_pt_t n1.1 n1.2
          have n2' : (x.hl == 0) = false := by simpa using n2
          clear n1 n2
          go_wp2_with fail
          go_roundw
          case rel => exact ⟨i + 1, by omega, by go_num, HS5.out⟩
          case measure => first | (simp [intOf]; done) | (simp [intOf]; omega)
        · have E3 := eql_pt_t n1.1 n1.2
          have n2' : (x.hl == 0) = true := by simpa using n2
          have n3' : (x.po == 0) = false := by simpa using n3
          clear n1 n2 n3
          go_wp2_with fail
          go_roundw
          case rel => exact ⟨i + 1, by omega, by go_num, HS5.out⟩
          case measure => first | (simp [intOf]; done) | (simp [intOf]; omega)
      · have hge : ¬ (i : Int) < (m : Int) := by omega
        have HS9 := hid (HS0.out.trans (HS4.out.trans hs))
        clear hs hin
        go_wp2_with fail
        go_ret
        exact ⟨rfl, HS9.out⟩)
end Go.Proofs.YtdljmpjfiggdiaaDoor
