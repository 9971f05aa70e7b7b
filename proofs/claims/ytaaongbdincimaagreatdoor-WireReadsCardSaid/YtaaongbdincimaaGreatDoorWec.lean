/- The document's eye: a command. -/
import Derived.Test.YtaaongbdincimaaGreatDoorWeb
import Derived.Test.YtaaongbdincimaaGreatDoorWdp
namespace Go.Proofs.YtaaongbdincimaaGreatDoor
open Go.RowKit
open Wp Vp
set_option maxRecDepth 100000
set_option linter.unusedVariables false
set_option linter.unusedSimpArgs false

theorem load_cc (w : World) (g : Nat) (x : Cc) (c0 : w.cell? ⟨g, 0, none⟩ = some (.int .i64 x.fr)) (c1 : w.cell? ⟨g, 1, none⟩ = some (.int .i64 x.pe)) (c2 : w.cell? ⟨g, 2, none⟩ = some (.int .i64 x.sq)) (c3 : w.cell? ⟨g, 3, none⟩ = some (.int .i64 x.v)) (c4 : w.cell? ⟨g, 4, none⟩ = some (.int .i64 x.a)) (c5 : w.cell? ⟨g, 5, none⟩ = some (.int .i64 x.b)) (c6 : w.cell? ⟨g, 6, none⟩ = some (.int .i64 x.c)) :
    (loadVar 42 ⟨g, 0, none⟩).run Tryz.prog w = .ok (kmv x) w := by
  go_simp
theorem Ccb.res {fn : Func} {p : Tmp} {w : World} {g : Nat} {x : Cc} (hb : Ccb w g x) (h : fn.results = #[.cell p 42]) (tmps : Array Value) (hp : tmps.getD p undef = .pointer (some ⟨g, 0, none⟩)) :
    (results fn tmps).run Tryz.prog w = .ok (kmv x) w := by
  have hp' : tmps[p]?.getD undef = .pointer (some ⟨g, 0, none⟩) := by simpa using hp
  obtain ⟨c0, c1, c2, c3, c4, c5, c6, _⟩ := hb.cells
  simp [results, h, hp', asAddr, load_cc w g x c0 c1 c2 c3 c4 c5 c6]
abbrev setCc (w : World) (g : Nat) (x : Cc) : World := ((((((w.setCell ⟨g, 0, none⟩ (.int .i64 x.fr)).setCell ⟨g, 1, none⟩ (.int .i64 x.pe)).setCell ⟨g, 2, none⟩ (.int .i64 x.sq)).setCell ⟨g, 3, none⟩ (.int .i64 x.v)).setCell ⟨g, 4, none⟩ (.int .i64 x.a)).setCell ⟨g, 5, none⟩ (.int .i64 x.b)).setCell ⟨g, 6, none⟩ (.int .i64 x.c)
theorem Ccb.set {w : World} {g : Nat} {y : Cc} (h : Ccb w g y) (x : Cc) : Ccb (setCc w g x) g x := by
  have := heap_setCells g 42 (kmc x).toList 0 (kmc y) w h (by simp)
  exact this
theorem setCc_fr {F : Nat → Prop} {x w : World} (h : Fr F x w) (g : Nat) (y : Cc) (hb : F g ∨ x.heap.size ≤ g) : Fr F x (setCc w g y) := ((((((h.setCell _ _ hb).setCell _ _ hb).setCell _ _ hb).setCell _ _ hb).setCell _ _ hb).setCell _ _ hb).setCell _ _ hb
/-- a store elsewhere -/
theorem Ez.other {u u' : World} {q p g : Nat} {s : Rs} {cs : Array Value} {t : TypeId} {z : Nat × Nat} (h : Ez u q p s) (hb : u.heap[g]? = some (.cells cs t z)) (ht : t ≠ 5) (hg : g ≠ q ∧ g ≠ p) (hf : Fr (fun k => k = g) u u') : Ez u' q p s := by
  obtain ⟨ao, n, cap, B, At, h1, h2, h3⟩ := h.rd
  exact ⟨hf.kept h.box (fun e => hg.1 e.symm), ⟨ao, n, cap, B, At, h1.kept hf (fun e => hg.2 e.symm) (fun a ha _ => h3.ne hb ht a ha), h2, h3.kept hf (h3.ne hb ht)⟩, h.nq⟩
theorem Te.other {w u u' : World} {q p g : Nat} {s : Rs} {cs : Array Value} {t : TypeId} {z : Nat × Nat} (h : Te w u q p s) (hb : u.heap[g]? = some (.cells cs t z)) (ht : t ≠ 5) (hq : q < w.heap.size ∧ p < w.heap.size) (hg : w.heap.size ≤ g) (hf : Fr (fun k => k = g) u u') : Te w u' q p s :=
  ⟨h.r.other hb ht ⟨by omega, by omega⟩ hf, h.f.trans hf (fun k hk e => by have e' : k = g := e; omega)⟩
/-- three numbers -/
def Tri (w : World) (g : Nat) (t : Int × Int × Int) : Prop := w.heap[g]? = some (.cells #[.int .i64 t.1, .int .i64 t.2.1, .int .i64 t.2.2] 3 (0, 0))
theorem Tri.cells {w : World} {g : Nat} {t : Int × Int × Int} (h : Tri w g t) : w.cell? ⟨g, 0, none⟩ = some (.int .i64 t.1) ∧ w.cell? ⟨g, 1, none⟩ = some (.int .i64 t.2.1) ∧ w.cell? ⟨g, 2, none⟩ = some (.int .i64 t.2.2) ∧ ∀ o, w.frozen? ⟨g, o, none⟩ = false := by
  refine ⟨?_, ?_, ?_, fun o => frozen_of_row w g o _ _ h⟩ <;> (rw [cell_of_row _ _ _ _ _ _ h]; rfl)
theorem RF.ne {q p g : Nat} {w : World} (hq : q < w.heap.size ∧ p < w.heap.size) (hg : w.heap.size ≤ g) : ¬ RF q p g := fun e => by rcases e with e | e <;> omega
theorem Te.ccb {w w1 : World} {q p g : Nat} {s : Rs} {x : Cc} (h : Te w w1 q p s) (hn : ¬ RF q p g) (hb : Ccb w g x) : Ccb w1 g x := h.f.kept hb hn
theorem Te.tri {w w1 : World} {q p g : Nat} {s : Rs} {x : Int × Int × Int} (h : Te w w1 q p s) (hn : ¬ RF q p g) (hb : Tri w g x) : Tri w1 g x := h.f.kept hb hn
set_option maxHeartbeats 4000000 in
/-- where it is not one -/
theorem ecm_no (q p : Nat) (s : Rs) (mk f sq : Int) (hno : eOkC s = false) (w : World) (h : Ez w q p s) : Calls Tryz.prog 52 #[.pointer (some ⟨q, 0, none⟩), .int .i64 f, .int .i64 sq, .int .i64 mk] w fun r w' => r = .returned (kmv zC) ∧ Te w w' q p ⟨(byM (inM s).2).2.bs, (byM (inM s).2).2.e, true⟩ := by
  have A0 := Still.alloc w (.cells #[.int .i64 0, .int .i64 0, .int .i64 0, .int .i64 0, .int .i64 0, .int .i64 0, .int .i64 0] 42)
  have b0 : Ccb (w.alloc (.cells #[.int .i64 0, .int .i64 0, .int .i64 0, .int .i64 0, .int .i64 0, .int .i64 0, .int .i64 0] 42)) w.heap.size zC := heap_alloc_new w _
  have h0 := h.still A0
  have hlt := h0.lt
  obtain ⟨c0, _, _⟩ := h0.cells
  have HC := hid (eint_any q p s _ h0)
  have HY1 : Hid ((inM s).2.y = s.y) := hid rfl
  have HBy := hid (fun (u : World) (b : Bool) (hu : Ez u q p ⟨(inM s).2.bs, (inM s).2.e, b⟩) => ebyte_any q p ⟨(inM s).2.bs, (inM s).2.e, b⟩ u hu)
  have HBe : Hid (∀ b : Bool, byM ⟨(inM s).2.bs, (inM s).2.e, b⟩ = ((byM (inM s).2).1, ⟨(byM (inM s).2).2.bs, (byM (inM s).2).2.e, b⟩)) := hid (fun b => rfl)
  obtain ⟨W, eW⟩ : ∃ W, w.alloc (.cells #[.int .i64 0, .int .i64 0, .int .i64 0, .int .i64 0, .int .i64 0, .int .i64 0, .int .i64 0] 42) = W := ⟨_, rfl⟩
  obtain ⟨g, eg⟩ : ∃ g, w.heap.size = g := ⟨_, rfl⟩
  rw [eW] at A0 b0 h0 hlt c0 HC
  rw [eg] at b0
  have HG : Hid (w.heap.size ≤ g ∧ ¬ RF q p g) := hid ⟨by omega, by have := h.lt; exact RF.ne h.lt (by omega)⟩
  have HQ := hid h.lt
  have HA := hid A0
  have HB := hid b0
  unfold eOkC at hno
  obtain ⟨far, S1, e1⟩ : ∃ a b, inM s = (a, b) := ⟨_, _, rfl⟩
  rw [e1] at HC HY1 HBy HBe hno ⊢
  dsimp only at HC HY1 HBy HBe hno ⊢
  obtain ⟨vb, S2, e2⟩ : ∃ a b, byM S1 = (a, b) := ⟨_, _, rfl⟩
  rw [e2] at HBe hno ⊢
  dsimp only at HBe hno ⊢
  clear e1 e2 A0 b0 h0 h hlt
  have HIs := hid (fun u => ris_any (nm vb) u)
  obtain ⟨y, ey⟩ : ∃ y, s.y = y := ⟨_, rfl⟩
  rw [ey] at HY1 hno
  clear ey
  obtain ⟨vv, ev⟩ : ∃ v, nm vb = v := ⟨_, rfl⟩
  have HVv : Hid (nm vb = vv) := hid ev
  have hvr : 0 ≤ vv ∧ vv < 256 := by rw [← ev]; unfold nm; have := vb.toNat_lt; omega
  rw [ev] at HIs hno
  clear ev
  obtain ⟨iv, ei⟩ : ∃ v, isV vv = v := ⟨_, rfl⟩
  rw [ei] at HIs hno
  clear ei
  have cases5 : y = true ∨ (y = false ∧ ¬ (-1099511627776 : Int) ≤ far) ∨ (y = false ∧ (-1099511627776 : Int) ≤ far ∧ ¬ far ≤ 1099511627776) ∨ (y = false ∧ (-1099511627776 : Int) ≤ far ∧ far ≤ 1099511627776 ∧ iv = false) ∨ (y = false ∧ (-1099511627776 : Int) ≤ far ∧ far ≤ 1099511627776 ∧ iv = true ∧ (S2.e == 0) = false) := by
    unfold dsB at hno
    cases y with
    | true => exact .inl rfl
    | false =>
      right
      by_cases k1 : (-1099511627776 : Int) ≤ far
      · by_cases k2 : far ≤ 1099511627776
        · cases iv with
          | false => exact .inr (.inr (.inl ⟨rfl, k1, k2, rfl⟩))
          | true =>
            refine .inr (.inr (.inr ⟨rfl, k1, k2, rfl, ?_⟩))
            simpa [k1, k2] using hno
        · exact .inr (.inl ⟨rfl, k1, k2⟩)
      · exact .inl ⟨rfl, k1⟩
  clear hno
  have fin : ∀ (b : Bool) (w1 : World), Te W w1 q p S1 → Te W (w1.setCell ⟨q, 1, none⟩ (.bool b)) q p ⟨S1.bs, S1.e, !b⟩ := fun b w1 h1 => h1.trans (h1.r.put b)
  have HF := hid fin
  clear fin
  obtain ⟨v0, v1⟩ := hvr
  rcases cases5 with rfl | ⟨rfl, k1⟩ | ⟨rfl, k1, k2⟩ | ⟨rfl, k1, k2, rfl⟩ | ⟨rfl, k1, k2, rfl, k3⟩
  · go_enter Tryz.func52, Tryz.ntmps52
    go_wp2_with fail
    refine HC.out.mono ?_
    rintro e w1 ⟨he, h1⟩
    rw [he]
    obtain ⟨d0, d1, df⟩ := h1.r.cells
    rw [HY1.out] at d1
    have HH := hid (HF.out false w1 h1)
    clear he h1 c0 HC
    go_upto_region 3 with fail
    obtain ⟨w2, e2⟩ : ∃ u, w1.setCell ⟨q, 1, none⟩ (.bool false) = u := ⟨_, rfl⟩
    rw [e2] at HH ⊢
    clear e2 d0 d1 df
    have HC := hid (HBy.out w2 (!false) HH.out.r)
    rw [HBe.out] at HC
    dsimp only at HC
    rw [HVv.out] at HC
    obtain ⟨d0, _, _⟩ := HH.out.r.cells
    go_wp2_with fail
    refine HC.out.mono ?_
    rintro e w3 ⟨he, h3⟩
    rw [he]
    have HT := hid (HH.out.trans h3)
    clear he h3 HC HH d0
    go_wp2_with fail
    refine (HIs.out _).mono ?_
    rintro e w4 ⟨he, e4⟩
    rw [he]
    subst e4
    obtain ⟨d0, d1, df⟩ := HT.out.r.cells
    have d2 := HT.out.r.err
    dsimp only at d1 d2
    have HH2 := hid (HT.out.trans (HT.out.r.put false))
    clear he HT
    go_upto_region 6 with fail
    obtain ⟨w5, e5⟩ : ∃ u, w4.setCell ⟨q, 1, none⟩ (.bool false) = u := ⟨_, rfl⟩
    rw [e5] at HH2 ⊢
    clear e5 d0 d1 d2 df
    obtain ⟨d0, d1, df⟩ := HH2.out.r.cells
    dsimp only at d1
    have HX := hid (HH2.out.ccb HG.out.2 HB.out)
    obtain ⟨n0, n1, n2, n3, n4, n5, n6, nf⟩ := HX.out.cells
    have HZ : Hid (Te w (setCc w5 g zC) q p ⟨S2.bs, S2.e, true⟩) := hid ((Te.from HA.out HH2.out).other HX.out (by decide) HQ.out HG.out.1 (setCc_fr (Fr.refl _ _) g zC (.inl rfl)))
    clear HH2
    go_wp2_with fail
    exact bodyPost_ret ((HX.out.set zC).res rfl _ rfl) rfl ⟨rfl, HZ.out⟩
  · go_enter Tryz.func52, Tryz.ntmps52
    go_wp2_with fail
    refine HC.out.mono ?_
    rintro e w1 ⟨he, h1⟩
    rw [he]
    obtain ⟨d0, d1, df⟩ := h1.r.cells
    rw [HY1.out] at d1
    have HH := hid (HF.out false w1 h1)
    clear he h1 c0 HC
    go_upto_region 3 with fail
    obtain ⟨w2, e2⟩ : ∃ u, w1.setCell ⟨q, 1, none⟩ (.bool false) = u := ⟨_, rfl⟩
    rw [e2] at HH ⊢
    clear e2 d0 d1 df
    have HC := hid (HBy.out w2 (!false) HH.out.r)
    rw [HBe.out] at HC
    dsimp only at HC
    rw [HVv.out] at HC
    obtain ⟨d0, _, _⟩ := HH.out.r.cells
    go_wp2_with fail
    refine HC.out.mono ?_
    rintro e w3 ⟨he, h3⟩
    rw [he]
    have HT := hid (HH.out.trans h3)
    clear he h3 HC HH d0
    go_wp2_with fail
    refine (HIs.out _).mono ?_
    rintro e w4 ⟨he, e4⟩
    rw [he]
    subst e4
    obtain ⟨d0, d1, df⟩ := HT.out.r.cells
    have d2 := HT.out.r.err
    dsimp only at d1 d2
    have HH2 := hid (HT.out.trans (HT.out.r.put false))
    clear he HT
    go_upto_region 6 with fail
    obtain ⟨w5, e5⟩ : ∃ u, w4.setCell ⟨q, 1, none⟩ (.bool false) = u := ⟨_, rfl⟩
    rw [e5] at HH2 ⊢
    clear e5 d0 d1 d2 df
    obtain ⟨d0, d1, df⟩ := HH2.out.r.cells
    dsimp only at d1
    have HX := hid (HH2.out.ccb HG.out.2 HB.out)
    obtain ⟨n0, n1, n2, n3, n4, n5, n6, nf⟩ := HX.out.cells
    have HZ : Hid (Te w (setCc w5 g zC) q p ⟨S2.bs, S2.e, true⟩) := hid ((Te.from HA.out HH2.out).other HX.out (by decide) HQ.out HG.out.1 (setCc_fr (Fr.refl _ _) g zC (.inl rfl)))
    clear HH2
    go_wp2_with fail
    exact bodyPost_ret ((HX.out.set zC).res rfl _ rfl) rfl ⟨rfl, HZ.out⟩
  · go_enter Tryz.func52, Tryz.ntmps52
    go_wp2_with fail
    refine HC.out.mono ?_
    rintro e w1 ⟨he, h1⟩
    rw [he]
    obtain ⟨d0, d1, df⟩ := h1.r.cells
    rw [HY1.out] at d1
    have HH := hid (HF.out false w1 h1)
    clear he h1 c0 HC
    go_upto_region 3 with fail
    rw [show decide (far ≤ 1099511627776) = false from decide_eq_false (by omega)]
    obtain ⟨w2, e2⟩ : ∃ u, w1.setCell ⟨q, 1, none⟩ (.bool false) = u := ⟨_, rfl⟩
    rw [e2] at HH ⊢
    clear e2 d0 d1 df
    have HC := hid (HBy.out w2 (!false) HH.out.r)
    rw [HBe.out] at HC
    dsimp only at HC
    rw [HVv.out] at HC
    obtain ⟨d0, _, _⟩ := HH.out.r.cells
    go_wp2_with fail
    refine HC.out.mono ?_
    rintro e w3 ⟨he, h3⟩
    rw [he]
    have HT := hid (HH.out.trans h3)
    clear he h3 HC HH d0
    go_wp2_with fail
    refine (HIs.out _).mono ?_
    rintro e w4 ⟨he, e4⟩
    rw [he]
    subst e4
    obtain ⟨d0, d1, df⟩ := HT.out.r.cells
    have d2 := HT.out.r.err
    dsimp only at d1 d2
    have HH2 := hid (HT.out.trans (HT.out.r.put false))
    clear he HT
    go_upto_region 6 with fail
    obtain ⟨w5, e5⟩ : ∃ u, w4.setCell ⟨q, 1, none⟩ (.bool false) = u := ⟨_, rfl⟩
    rw [e5] at HH2 ⊢
    clear e5 d0 d1 d2 df
    obtain ⟨d0, d1, df⟩ := HH2.out.r.cells
    dsimp only at d1
    have HX := hid (HH2.out.ccb HG.out.2 HB.out)
    obtain ⟨n0, n1, n2, n3, n4, n5, n6, nf⟩ := HX.out.cells
    have HZ : Hid (Te w (setCc w5 g zC) q p ⟨S2.bs, S2.e, true⟩) := hid ((Te.from HA.out HH2.out).other HX.out (by decide) HQ.out HG.out.1 (setCc_fr (Fr.refl _ _) g zC (.inl rfl)))
    clear HH2
    go_wp2_with fail
    exact bodyPost_ret ((HX.out.set zC).res rfl _ rfl) rfl ⟨rfl, HZ.out⟩
  · go_enter Tryz.func52, Tryz.ntmps52
    go_wp2_with fail
    refine HC.out.mono ?_
    rintro e w1 ⟨he, h1⟩
    rw [he]
    obtain ⟨d0, d1, df⟩ := h1.r.cells
    rw [HY1.out] at d1
    have HH := hid (HF.out true w1 h1)
    clear he h1 c0 HC
    go_upto_region 3 with fail
    obtain ⟨w2, e2⟩ : ∃ u, w1.setCell ⟨q, 1, none⟩ (.bool true) = u := ⟨_, rfl⟩
    rw [e2] at HH ⊢
    clear e2 d0 d1 df
    have HC := hid (HBy.out w2 (!true) HH.out.r)
    rw [HBe.out] at HC
    dsimp only at HC
    rw [HVv.out] at HC
    obtain ⟨d0, _, _⟩ := HH.out.r.cells
    go_wp2_with fail
    refine HC.out.mono ?_
    rintro e w3 ⟨he, h3⟩
    rw [he]
    have HT := hid (HH.out.trans h3)
    clear he h3 HC HH d0
    go_wp2_with fail
    refine (HIs.out _).mono ?_
    rintro e w4 ⟨he, e4⟩
    rw [he]
    subst e4
    obtain ⟨d0, d1, df⟩ := HT.out.r.cells
    have d2 := HT.out.r.err
    dsimp only at d1 d2
    have HH2 := hid (HT.out.trans (HT.out.r.put false))
    clear he HT
    go_upto_region 6 with fail
    obtain ⟨w5, e5⟩ : ∃ u, w4.setCell ⟨q, 1, none⟩ (.bool false) = u := ⟨_, rfl⟩
    rw [e5] at HH2 ⊢
    clear e5 d0 d1 d2 df
    obtain ⟨d0, d1, df⟩ := HH2.out.r.cells
    dsimp only at d1
    have HX := hid (HH2.out.ccb HG.out.2 HB.out)
    obtain ⟨n0, n1, n2, n3, n4, n5, n6, nf⟩ := HX.out.cells
    have HZ : Hid (Te w (setCc w5 g zC) q p ⟨S2.bs, S2.e, true⟩) := hid ((Te.from HA.out HH2.out).other HX.out (by decide) HQ.out HG.out.1 (setCc_fr (Fr.refl _ _) g zC (.inl rfl)))
    clear HH2
    go_wp2_with fail
    exact bodyPost_ret ((HX.out.set zC).res rfl _ rfl) rfl ⟨rfl, HZ.out⟩
  · go_enter Tryz.func52, Tryz.ntmps52
    go_wp2_with fail
    refine HC.out.mono ?_
    rintro e w1 ⟨he, h1⟩
    rw [he]
    obtain ⟨d0, d1, df⟩ := h1.r.cells
    rw [HY1.out] at d1
    have HH := hid (HF.out true w1 h1)
    clear he h1 c0 HC
    go_upto_region 3 with fail
    obtain ⟨w2, e2⟩ : ∃ u, w1.setCell ⟨q, 1, none⟩ (.bool true) = u := ⟨_, rfl⟩
    rw [e2] at HH ⊢
    clear e2 d0 d1 df
    have HC := hid (HBy.out w2 (!true) HH.out.r)
    rw [HBe.out] at HC
    dsimp only at HC
    rw [HVv.out] at HC
    obtain ⟨d0, _, _⟩ := HH.out.r.cells
    go_wp2_with fail
    refine HC.out.mono ?_
    rintro e w3 ⟨he, h3⟩
    rw [he]
    have HT := hid (HH.out.trans h3)
    clear he h3 HC HH d0
    go_wp2_with fail
    refine (HIs.out _).mono ?_
    rintro e w4 ⟨he, e4⟩
    rw [he]
    subst e4
    obtain ⟨d0, d1, df⟩ := HT.out.r.cells
    have d2 := HT.out.r.err
    dsimp only at d1 d2
    have HH2 := hid (HT.out.trans (HT.out.r.put false))
    clear he HT
    go_upto_region 6 with fail
    obtain ⟨w5, e5⟩ : ∃ u, w4.setCell ⟨q, 1, none⟩ (.bool false) = u := ⟨_, rfl⟩
    rw [e5] at HH2 ⊢
    clear e5 d0 d1 d2 df
    obtain ⟨d0, d1, df⟩ := HH2.out.r.cells
    dsimp only at d1
    have HX := hid (HH2.out.ccb HG.out.2 HB.out)
    obtain ⟨n0, n1, n2, n3, n4, n5, n6, nf⟩ := HX.out.cells
    have HZ : Hid (Te w (setCc w5 g zC) q p ⟨S2.bs, S2.e, true⟩) := hid ((Te.from HA.out HH2.out).other HX.out (by decide) HQ.out HG.out.1 (setCc_fr (Fr.refl _ _) g zC (.inl rfl)))
    clear HH2
    go_wp2_with fail
    exact bodyPost_ret ((HX.out.set zC).res rfl _ rfl) rfl ⟨rfl, HZ.out⟩
end Go.Proofs.YtaaongbdincimaaGreatDoor
