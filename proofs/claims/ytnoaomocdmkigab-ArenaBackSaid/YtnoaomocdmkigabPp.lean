/- The program's read and Parse. -/
import Derived.Test.YtnoaomocdmkigabDc
import Derived.Test.YtnoaomocdmkigabBu
import Derived.Test.YtnoaomocdmkigabBr
import Derived.Test.YtnoaomocdmkigabBh
namespace Go.Proofs.Ytnoaomocdmkigab
open Go.RowKit
open Pu Gp Ap

/-- what read answers of lines that gave T -/
def RdV (T : Sum Nat (Nat × Nat × ByteArray)) (e : Ending) : Prop :=
  (∃ l : Nat, T = .inl l ∧ e = .returned (.tuple #[ar 0 0 ByteArray.empty, .int .i64 (l : Int)])) ∨ (∃ (c r : Nat) (S : ByteArray), T = .inr (c, r, S) ∧ e = .returned (.tuple #[ar (c : Int) (r : Int) S, .int .i64 0]))
theorem lin_row {C R : Nat} {t : ByteArray} (hR : R ≤ 24) (hC : R ≠ 0 → 3 ≤ C ∧ C ≤ 32) : linOk C R t = (decide (0 ≤ fnd t 10 0) && rowOk (if R = 0 then (linB t).size else C) (R + 1) (linB t)) := by
  unfold linOk rowOk
  obtain ⟨L, eL⟩ : ∃ L, linB t = L := ⟨_, rfl⟩
  rw [eL]
  rw [Bool.eq_iff_iff]
  by_cases h : R = 0
  · rw [if_pos h, if_pos h]
    simp only [Bool.and_eq_true, decide_eq_true_eq]
    constructor
    · rintro ⟨a, b, ⟨c, d⟩, e⟩; exact ⟨a, by omega, ⟨c, d⟩, trivial, b⟩
    · rintro ⟨a, b, ⟨c, d⟩, e, f⟩; exact ⟨a, f, ⟨c, d⟩, by omega⟩
  · rw [if_neg h, if_neg h]
    have := hC h
    simp only [Bool.and_eq_true, decide_eq_true_eq]
    constructor
    · rintro ⟨a, b, c, e⟩; exact ⟨a, by omega, by omega, c, b⟩
    · rintro ⟨a, b, c, d, e⟩; exact ⟨a, e, d, by omega⟩
theorem rst_is {t : ByteArray} (h : 0 ≤ fnd t 10 0) : rstB t = t.extract ((linB t).size + 1) t.size ∧ (rstB t).size + ((linB t).size + 1) = t.size := by
  unfold rstB linB
  rcases fnd_spec t 10 0 (by omega) with ⟨e, _⟩ | ⟨k, e, _, h2, _⟩
  · omega
  · rw [e, if_neg (by omega), if_neg (by omega)]
    simp only [Int.toNat_natCast, ByteArray.size_extract]
    rw [show min k t.size - 0 = k by omega]
    exact ⟨rfl, by omega⟩
/-- block b holds a number -/
def Ib (w : World) (b : Nat) (x : Int) : Prop := w.heap[b]? = some (.cells #[.int .i64 x] 3 (0, 0))
theorem Ib.keep {F : Nat → Prop} {w w' : World} {b : Nat} {x : Int} (h : Ib w b x) (hf : Fr F w w') (hn : ¬ F b) : Ib w' b x := hf.kept h hn
theorem Ib.still {w w' : World} {b : Nat} {x : Int} (h : Ib w b x) (hf : Still w w') : Ib w' b x := hf.kept_still h
theorem Ib.cell {w : World} {b : Nat} {x : Int} (h : Ib w b x) : w.cell? ⟨b, 0, none⟩ = some (.int .i64 x) ∧ w.frozen? ⟨b, 0, none⟩ = false := by
  refine ⟨?_, frozen_of_row w b 0 _ _ h⟩
  rw [cell_of_row _ _ _ _ _ _ h]; rfl
theorem Ib.set {w : World} {b : Nat} {x : Int} (h : Ib w b x) (y : Int) : Ib (w.setCell ⟨b, 0, none⟩ (.int .i64 y)) b y := by
  unfold Ib
  rw [heap_setCell_same w b 0 _ _ (.int .i64 y) h]; rfl
theorem res_ai {fn : Func} {p q : Tmp} {w : World} {A D : Nat} {C R x : Int} {s : ByteArray} (ha : Ab w A C R s) (hd : Ib w D x) (h : fn.results = #[.cell p 23, .cell q 3]) (tmps : Array Value) (hp : tmps.getD p undef = .pointer (some ⟨A, 0, none⟩)) (hq : tmps.getD q undef = .pointer (some ⟨D, 0, none⟩)) :
    (results fn tmps).run Try.prog w = .ok (.tuple #[ar C R s, .int .i64 x]) w := by
  have e : (results fn tmps).run Try.prog w = ((asAddr (tmps.getD p undef)).run Try.prog w).andThen fun a w₁ => ((loadVar 23 a).run Try.prog w₁).andThen fun v w₂ => ((asAddr (tmps.getD q undef)).run Try.prog w₂).andThen fun b w₃ => ((loadVar 3 b).run Try.prog w₃).andThen fun u w₄ => .ok (.tuple #[v, u]) w₄ := by
    simp only [results, h]
    simp [Sem.run_bind, Result.andThen]
  have l2 : (loadVar 3 ⟨D, 0, none⟩).run Try.prog w = .ok (.int .i64 x) w := by
    have c0 := hd.cell.1
    go_simp
  rw [e, hp, hq]
  simp [asAddr, Result.andThen, load_ar w A C R s ha.cells.1 ha.cells.2.1 ha.cells.2.2.1, l2]
theorem Ab.set1 {w : World} {b : Nat} {C R : Int} {s : ByteArray} (h : Ab w b C R s) (R' : Int) : Ab (w.setCell ⟨b, 1, none⟩ (.int .i64 R')) b C R' s := by
  unfold Ab
  rw [heap_setCell_same w b 1 _ _ (.int .i64 R') h]; rfl
theorem Ab.set0 {w : World} {b : Nat} {C R : Int} {s : ByteArray} (h : Ab w b C R s) (C' : Int) : Ab (w.setCell ⟨b, 0, none⟩ (.int .i64 C')) b C' R s := by
  unfold Ab
  rw [heap_setCell_same w b 0 _ _ (.int .i64 C') h]; rfl
theorem Ab.set2 {w : World} {b : Nat} {C R : Int} {s : ByteArray} (h : Ab w b C R s) (s' : ByteArray) : Ab (w.setCell ⟨b, 2, none⟩ (.string s')) b C R s' := by
  unfold Ab
  rw [heap_setCell_same w b 2 _ _ (.string s') h]; rfl
/-- only block A may have turned -/
theorem one_block (w : World) (A o : Nat) (v : Value) : Fr (fun k => k = A) w (w.setCell ⟨A, o, none⟩ v) := (Fr.refl _ w).setCell _ _ (.inl rfl)
theorem still_new {w wr : World} (hs : Still w wr) (A o : Nat) (v : Value) (hA : w.heap.size ≤ A) : Still w (wr.setCell ⟨A, o, none⟩ v) := Fr.setCell hs _ _ (.inr hA)
set_option maxHeartbeats 16000000 in
set_option maxRecDepth 100000 in
theorem read_any (t0 : ByteArray) (h : t0.size ≤ 65536) (w : World) :
    Calls Try.prog 25 #[.string t0] w fun e w' => RdV (prs 25 0 0 ByteArray.empty t0) e ∧ Still w w' := by
  obtain ⟨T, eT⟩ : ∃ T, prs 25 0 0 ByteArray.empty t0 = T := ⟨_, rfl⟩
  rw [eT]
  have HT := hid eT
  clear eT
  have hmf : ∀ (fn : Fn) (first cap : Array Value) (w : World), (Instr.makeFunc fn first cap).run Try.prog w = .ok (.func fn first cap) w := fun _ _ _ _ => rfl
  have HP := hid (And.intro (((newA_ab w 0 0 ByteArray.empty).still (Still.alloc _ (.cells #[.int .i64 0] 3))).still (Still.alloc _ (.cells #[.pointer none, .slice none 0 0] 56)))
    (And.intro (show Ib ((newA w 0 0 ByteArray.empty).alloc (.cells #[.int .i64 0] 3)) (newA w 0 0 ByteArray.empty).heap.size 0 from heap_alloc_new _ _) (Bld.fresh ((newA w 0 0 ByteArray.empty).alloc (.cells #[.int .i64 0] 3)))))
  have HS0 := hid (((Still.alloc w (.cells #[.int .i64 0, .int .i64 0, .string ByteArray.empty] 23)).trans (Still.alloc (newA w 0 0 ByteArray.empty) (.cells #[.int .i64 0] 3))).trans (Still.alloc _ (.cells #[.pointer none, .slice none 0 0] 56)))
  have hsz : (newA w 0 0 ByteArray.empty).heap.size = w.heap.size + 1 := size_alloc _ _
  have hsz2 : ((newA w 0 0 ByteArray.empty).alloc (.cells #[.int .i64 0] 3)).heap.size = w.heap.size + 1 + 1 := by rw [size_alloc, hsz]
  rw [hsz2, hsz] at HP
  clear hsz hsz2
  have HD := hid (HP.out.2.1.still (Still.alloc _ (.cells #[.pointer none, .slice none 0 0] 56)))
  have HN := hid (show w.heap.size ≠ w.heap.size + 1 ∧ w.heap.size < w.heap.size + 1 + 1 ∧ w.heap.size + 1 < w.heap.size + 1 + 1 ∧ w.heap.size ≤ w.heap.size + 1 ∧ w.heap.size ≤ w.heap.size + 1 + 1 ∧ w.heap.size + 1 ≠ w.heap.size by omega)
  go_enter_defers Try.func25, Try.ntmps25
  go_wp2_with fail
  go_loopw [0, 5] (fun vt vm wr => ∃ (C R : Nat) (S t : ByteArray) (m : Bool), vt = .string t ∧ vm = .bool m ∧ R ≤ 24 ∧ (R ≠ 0 → 3 ≤ C ∧ C ≤ 32) ∧ (m = false ↔ (R ≠ 0 ∧ t.size = 0)) ∧ S.size + t.size ≤ 65536 ∧ Ab wr w.heap.size (C : Int) (R : Int) ByteArray.empty ∧ Ib wr (w.heap.size + 1) 0 ∧ Bld wr (w.heap.size + 1 + 1) (w.heap.size + 1 + 1) S ∧ prs (25 - R) C R S t = T ∧ Still w wr) (fun vt _ _ => strN vt)
  case atStart => exact ⟨0, 0, ByteArray.empty, t0, true, rfl, rfl, by omega, fun h => absurd rfl h, by simp, by simpa using h, HP.out.1, HD.out, HP.out.2.2, HT.out, HS0.out⟩
  case round =>
    obtain ⟨C, R, S, t, m, rfl, rfl, hR, hC, hm, hz, a1, d1, b1, hT, hs⟩ := hrel
    clear HT HP HS0 HD
    have HS1 := hid hs
    have HT := hid hT
    clear hs hT
    obtain ⟨c0, c1, c2, cf⟩ := a1.cells
    cases m with
    | false =>
      obtain ⟨hR0, ht⟩ := hm.1 rfl
      have HX := hid (show T = .inr (C, R, S) by
        rw [← HT.out, show 25 - R = (24 - R) + 1 by omega, prs, if_pos ⟨hR0, ht⟩])
      clear hm HT ht hR0
      go_wp2_with fail
      refine (string_any _ _ _ _ b1).mono ?_
      rintro e w2 ⟨rfl, h2⟩
      have a2 := a1.below h2 HN.out.2.1
      have d2 : Ib w2 (w.heap.size + 1) 0 := d1.keep (below_fr h2) (by have := HN.out.2.2.1; omega)
      have HS2 := hid (still_below HS1.out h2 HN.out.2.2.2.2.1)
      clear a1 b1 d1 h2 HS1 c0 c1 c2 cf
      obtain ⟨c0, c1, c2, cf⟩ := a2.cells
      obtain ⟨d0, df⟩ := d2.cell
      have a3 := a2.set2 S
      have d3 : Ib (w2.setCell ⟨w.heap.size, 2, none⟩ (.string S)) (w.heap.size + 1) 0 := d2.keep (one_block w2 _ _ _) HN.out.2.2.2.2.2
      have HS3 := hid (still_new HS2.out w.heap.size 2 (.string S) (Nat.le_refl _))
      have a4 := a3.set (C : Int) (R : Int) S
      have d4 : Ib (setA (w2.setCell ⟨w.heap.size, 2, none⟩ (.string S)) w.heap.size (C : Int) (R : Int) S) (w.heap.size + 1) 0 := ((d3.keep (one_block _ _ _ _) HN.out.2.2.2.2.2).keep (one_block _ _ _ _) HN.out.2.2.2.2.2).keep (one_block _ _ _ _) HN.out.2.2.2.2.2
      have HS4 := hid (setA_fr HS3.out w.heap.size (C : Int) (R : Int) S (.inr (Nat.le_refl _)))
      have a5 := Ab.keep a4 (one_block _ (w.heap.size + 1) 0 (.int .i64 0)) HN.out.1
      have d5 := d4.set 0
      have HS5 := hid (still_new HS4.out (w.heap.size + 1) 0 (.int .i64 0) HN.out.2.2.2.1)
      clear a2 d2 HS2 a3 d3 HS3 a4 d4 HS4
      go_wp2_with fail
      refine leaves_cons (f := 42) (args := #[.pointer (some ⟨w.heap.size, 0, none⟩), .pointer (some ⟨w.heap.size + 1, 0, none⟩)]) (by simp) (by simp [go_sem]) ?_
      refine (catch_idle ⟨w.heap.size, 0, none⟩ ⟨w.heap.size + 1, 0, none⟩ _).mono ?_
      rintro e u' w'' ⟨rfl, rfl, rfl⟩
      exact ⟨_, res_ai a5 d5 rfl _ rfl rfl, .inr ⟨C, R, S, HX.out, rfl⟩, HS5.out⟩
    | true =>
      obtain ⟨L, eL⟩ : ∃ L, linB t = L := ⟨_, rfl⟩
      obtain ⟨be, eb⟩ : ∃ b, decide (0 ≤ fnd t 10 0) = b := ⟨_, rfl⟩
      obtain ⟨t2, et⟩ : ∃ t2, rstB t = t2 := ⟨_, rfl⟩
      have hl := lin_sz t
      have hlen : L.size ≤ t.size := by rw [← eL]; exact hl.1
      have HRS := hid (show be = true → t2 = t.extract (L.size + 1) t.size ∧ t2.size + (L.size + 1) = t.size from fun h => by
        have k := rst_is (of_decide_eq_true (eb.trans h))
        rw [eL, et] at k
        exact k)
      have HCUT : Hid (∀ u : World, Calls Try.prog 43 #[.string t, .string ⟨#[10]⟩] u fun e w' => e = .returned (.tuple #[.string L, .string t2, .bool be]) ∧ Still u w') := hid (fun u => by
        have k := cut_any t (by omega) u
        rw [eL, eb, et] at k
        exact k)
      have HO := hid (lin_row (t := t) hR hC)
      rw [eL, eb] at HO
      have HPX := hid (show T = if linOk C R t then prs (24 - R) L.size (R + 1) (S ++ L) (t.extract (L.size + 1) t.size) else .inl (R + 1) by
        rw [← HT.out, show 25 - R = (24 - R) + 1 by omega, prs, if_neg (fun h => by have := hm.2 h; cases this), eL])
      clear HT hl hm eL eb et
      go_wp2_with fail
      refine (HCUT.out _).mono ?_
      rintro e w2 ⟨rfl, h2⟩
      have a2 := a1.still h2
      have d2 := d1.still h2
      have b2 := b1.still h2
      have HS2 := hid (HS1.out.trans h2)
      clear a1 d1 b1 HS1 h2 HCUT c0 c1 c2 cf
      by_cases r0 : R = 0
      · subst r0
        rw [if_pos rfl] at HO
        have a3 := (a2.set0 (L.size : Int)).set1 1
        have d3 := (d2.keep (one_block w2 w.heap.size 0 (.int .i64 (L.size : Int))) HN.out.2.2.2.2.2).keep (one_block _ w.heap.size 1 (.int .i64 1)) HN.out.2.2.2.2.2
        have b3 := (b2.keep (one_block w2 w.heap.size 0 (.int .i64 (L.size : Int))) (fun k e => by have := HN.out.2.1; omega)).keep (one_block _ w.heap.size 1 (.int .i64 1)) (fun k e => by have := HN.out.2.1; omega)
        have HS3 := hid (still_new (still_new HS2.out w.heap.size 0 (.int .i64 (L.size : Int)) (Nat.le_refl _)) w.heap.size 1 (.int .i64 1) (Nat.le_refl _))
        obtain ⟨g0, g1, g2, gf⟩ := (a2.set0 (L.size : Int)).cells
        obtain ⟨h0, h1, h2, hf⟩ := a2.cells
        cases be with
        | false =>
          have HX := hid (show T = .inl 1 by rw [HPX.out, if_neg]; rw [HO.out]; simp)
          clear HO HPX HRS a2 d2 b2 HS2
          obtain ⟨c0, c1, c2, cf⟩ := a3.cells
          obtain ⟨e0, ef⟩ := d3.cell
          have HA9 := hid (Ab.set a3 0 0 ByteArray.empty)
          have HD9 := hid (show Ib (setA ((w2.setCell ⟨w.heap.size, 0, none⟩ (.int .i64 (L.size : Int))).setCell ⟨w.heap.size, 1, none⟩ (.int .i64 1)) w.heap.size 0 0 ByteArray.empty) (w.heap.size + 1) 0 from ((d3.keep (one_block _ _ _ _) HN.out.2.2.2.2.2).keep (one_block _ _ _ _) HN.out.2.2.2.2.2).keep (one_block _ _ _ _) HN.out.2.2.2.2.2)
          have HS9 := hid (still_new (setA_fr HS3.out w.heap.size 0 0 ByteArray.empty (.inr (Nat.le_refl _))) (w.heap.size + 1) 0 (.int .i64 1) HN.out.2.2.2.1)
          have HC9 := hid (catch_panicking w.heap.size (w.heap.size + 1) (L.size : Int) 1 0 1 ByteArray.empty [] ((w2.setCell ⟨w.heap.size, 0, none⟩ (.int .i64 (L.size : Int))).setCell ⟨w.heap.size, 1, none⟩ (.int .i64 1)) a3 e0 ef HN.out.1)
          go_wp2_with fail
          refine leaves_cons (f := 42) (args := #[.pointer (some ⟨w.heap.size, 0, none⟩), .pointer (some ⟨w.heap.size + 1, 0, none⟩)]) (by simp) (by simp [go_sem]) ?_
          refine HC9.out.mono ?_
          rintro e u' w'' ⟨rfl, rfl, rfl⟩
          exact ⟨_, res_ai (Ab.keep HA9.out (one_block _ (w.heap.size + 1) 0 _) HN.out.1) (HD9.out.set _) rfl _ rfl rfl, .inl ⟨1, HX.out, rfl⟩, HS9.out⟩
        | true =>
          obtain ⟨bo, ebo⟩ : ∃ b, rowOk L.size 1 L = b := ⟨_, rfl⟩
          have HROW : Hid (∀ u : World, Calls Try.prog 44 #[ar (L.size : Int) 1 ByteArray.empty, .string L] u fun e w' => e = .returned (.bool bo) ∧ Still u w') := hid (fun u => by
            have k := isRow_any L.size 1 ByteArray.empty L (by omega) u
            rw [ebo] at k
            exact k)
          obtain ⟨ht2, hsz2⟩ := HRS.out rfl
          have HLO := hid (show linOk C 0 t = bo by rw [HO.out, Bool.true_and]; exact ebo)
          have HEB := hid ebo
          have HT2 := hid ht2
          clear ebo HO HRS a2 d2 b2 HS2 ht2
          obtain ⟨c0, c1, c2, cf⟩ := a3.cells
          go_wp2_with fail
          refine (HROW.out _).mono ?_
          rintro e w4 ⟨rfl, h4⟩
          have a4 := a3.still h4
          have d4 := d3.still h4
          have b4 := b3.still h4
          have HS4 := hid (Still.trans HS3.out h4)
          clear a3 d3 b3 HS3 h4 h0 h1 h2 hf c0 c1 c2 cf HROW g0 g1 g2 gf
          cases bo with
          | false =>
            have HX := hid (show T = .inl 1 by rw [HPX.out, if_neg]; rw [HLO.out]; simp)
            clear HPX HLO HEB HT2 b4
            obtain ⟨c0, c1, c2, cf⟩ := a4.cells
            obtain ⟨e0, ef⟩ := d4.cell
            have HA9 := hid (Ab.set a4 0 0 ByteArray.empty)
            have HD9 := hid (show Ib (setA w4 w.heap.size 0 0 ByteArray.empty) (w.heap.size + 1) 0 from ((d4.keep (one_block _ _ _ _) HN.out.2.2.2.2.2).keep (one_block _ _ _ _) HN.out.2.2.2.2.2).keep (one_block _ _ _ _) HN.out.2.2.2.2.2)
            have HS9 := hid (still_new (setA_fr HS4.out w.heap.size 0 0 ByteArray.empty (.inr (Nat.le_refl _))) (w.heap.size + 1) 0 (.int .i64 1) HN.out.2.2.2.1)
            have HC9 := hid (catch_panicking w.heap.size (w.heap.size + 1) (L.size : Int) 1 0 1 ByteArray.empty [] w4 a4 e0 ef HN.out.1)
            go_wp2_with fail
            refine leaves_cons (f := 42) (args := #[.pointer (some ⟨w.heap.size, 0, none⟩), .pointer (some ⟨w.heap.size + 1, 0, none⟩)]) (by simp) (by simp [go_sem]) ?_
            refine HC9.out.mono ?_
            rintro e u' w'' ⟨rfl, rfl, rfl⟩
            exact ⟨_, res_ai (Ab.keep HA9.out (one_block _ (w.heap.size + 1) 0 _) HN.out.1) (HD9.out.set _) rfl _ rfl rfl, .inl ⟨1, HX.out, rfl⟩, HS9.out⟩
          | true =>
            have HX := hid (show prs (25 - 1) L.size 1 (S ++ L) t2 = T by
              rw [HPX.out, if_pos HLO.out, HT2.out])
            have HC := hid (show 3 ≤ L.size ∧ L.size ≤ 32 ∧ 1 ≤ 24 by
              have h := HEB.out
              unfold rowOk at h
              simp only [Bool.and_eq_true, decide_eq_true_eq] at h
              exact ⟨h.2.1.1, h.2.1.2, h.1⟩)
            clear HPX HLO HEB HT2
            go_wp2_with fail
            refine (write_any _ _ S L _ b4 (by omega)).mono ?_
            rintro e w5 ⟨rfl, b5, h5⟩
            have a5 := a4.below h5 HN.out.2.1
            have d5 : Ib w5 (w.heap.size + 1) 0 := d4.keep (below_fr h5) (by have := HN.out.2.2.1; omega)
            have HS5 := hid (still_below HS4.out h5 HN.out.2.2.2.2.1)
            clear a4 d4 b4 HS4 h5
            by_cases ht : t2.size = 0
            · obtain rfl : t2 = ⟨#[]⟩ := by
                apply ByteArray.ext
                exact Array.eq_empty_of_size_eq_zero ht
              go_wp2_with fail
              go_roundw
              case rel => exact ⟨L.size, 1, S ++ L, ⟨#[]⟩, false, rfl, rfl, HC.out.2.2, fun _ => ⟨HC.out.1, HC.out.2.1⟩, ⟨fun _ => ⟨by omega, ht⟩, fun _ => rfl⟩, by rw [ByteArray.size_append]; omega, a5, d5, b5, HX.out, HS5.out⟩
              case measure => simp only [strN]; omega
            · have hno := not_nil (t := t2) ht
              go_wp2_with fail
              go_roundw
              case rel => exact ⟨L.size, 1, S ++ L, t2, true, rfl, rfl, HC.out.2.2, fun _ => ⟨HC.out.1, HC.out.2.1⟩, ⟨fun h => (by cases h), fun h => absurd h.2 ht⟩, by rw [ByteArray.size_append]; omega, a5, d5, b5, HX.out, HS5.out⟩
              case measure => simp only [strN]; omega
      · have r1 : ((R : Int) == 0) = false := beq_false_of_ne (by omega)
        rw [if_neg r0] at HO
        have a3 := a2.set1 ((R : Int) + 1)
        have d3 := d2.keep (one_block w2 w.heap.size 1 (.int .i64 ((R : Int) + 1))) HN.out.2.2.2.2.2
        have b3 := b2.keep (one_block w2 w.heap.size 1 (.int .i64 ((R : Int) + 1))) (fun k e => by have := HN.out.2.1; omega)
        have HS3 := hid (still_new HS2.out w.heap.size 1 (.int .i64 ((R : Int) + 1)) (Nat.le_refl _))
        obtain ⟨h0, h1, h2, hf⟩ := a2.cells
        cases be with
        | false =>
          have HX := hid (show T = .inl (R + 1) by rw [HPX.out, if_neg]; rw [HO.out]; simp)
          clear HO HPX HRS a2 d2 b2 HS2
          obtain ⟨c0, c1, c2, cf⟩ := a3.cells
          obtain ⟨e0, ef⟩ := d3.cell
          have HA9 := hid (Ab.set a3 0 0 ByteArray.empty)
          have HD9 := hid (show Ib (setA (w2.setCell ⟨w.heap.size, 1, none⟩ (.int .i64 ((R : Int) + 1))) w.heap.size 0 0 ByteArray.empty) (w.heap.size + 1) 0 from ((d3.keep (one_block _ _ _ _) HN.out.2.2.2.2.2).keep (one_block _ _ _ _) HN.out.2.2.2.2.2).keep (one_block _ _ _ _) HN.out.2.2.2.2.2)
          have HS9 := hid (still_new (setA_fr HS3.out w.heap.size 0 0 ByteArray.empty (.inr (Nat.le_refl _))) (w.heap.size + 1) 0 (.int .i64 ((R : Int) + 1)) HN.out.2.2.2.1)
          have HC9 := hid (catch_panicking w.heap.size (w.heap.size + 1) (C : Int) ((R : Int) + 1) 0 ((R : Int) + 1) ByteArray.empty [] (w2.setCell ⟨w.heap.size, 1, none⟩ (.int .i64 ((R : Int) + 1))) a3 e0 ef HN.out.1)
          go_wp2_with fail
          refine leaves_cons (f := 42) (args := #[.pointer (some ⟨w.heap.size, 0, none⟩), .pointer (some ⟨w.heap.size + 1, 0, none⟩)]) (by simp) (by simp [go_sem]) ?_
          refine HC9.out.mono ?_
          rintro e u' w'' ⟨rfl, rfl, rfl⟩
          exact ⟨_, res_ai (Ab.keep HA9.out (one_block _ (w.heap.size + 1) 0 _) HN.out.1) (HD9.out.set _) rfl _ rfl rfl, .inl ⟨(R + 1), HX.out, rfl⟩, HS9.out⟩
        | true =>
          obtain ⟨bo, ebo⟩ : ∃ b, rowOk C (R + 1) L = b := ⟨_, rfl⟩
          have HROW : Hid (∀ u : World, Calls Try.prog 44 #[ar (C : Int) ((R : Int) + 1) ByteArray.empty, .string L] u fun e w' => e = .returned (.bool bo) ∧ Still u w') := hid (fun u => by
            have k := isRow_any C (R + 1) ByteArray.empty L (by omega) u
            rw [ebo] at k
            rw [show ((R + 1 : Nat) : Int) = (R : Int) + 1 by omega] at k
            exact k)
          obtain ⟨ht2, hsz2⟩ := HRS.out rfl
          have HLO := hid (show linOk C R t = bo by rw [HO.out, Bool.true_and]; exact ebo)
          have HEB := hid ebo
          have HT2 := hid ht2
          clear ebo HO HRS a2 d2 b2 HS2 ht2
          obtain ⟨c0, c1, c2, cf⟩ := a3.cells
          go_wp2_with fail
          refine (HROW.out _).mono ?_
          rintro e w4 ⟨rfl, h4⟩
          have a4 := a3.still h4
          have d4 := d3.still h4
          have b4 := b3.still h4
          have HS4 := hid (Still.trans HS3.out h4)
          clear a3 d3 b3 HS3 h4 h0 h1 h2 hf c0 c1 c2 cf HROW
          cases bo with
          | false =>
            have HX := hid (show T = .inl (R + 1) by rw [HPX.out, if_neg]; rw [HLO.out]; simp)
            clear HPX HLO HEB HT2 b4
            obtain ⟨c0, c1, c2, cf⟩ := a4.cells
            obtain ⟨e0, ef⟩ := d4.cell
            have HA9 := hid (Ab.set a4 0 0 ByteArray.empty)
            have HD9 := hid (show Ib (setA w4 w.heap.size 0 0 ByteArray.empty) (w.heap.size + 1) 0 from ((d4.keep (one_block _ _ _ _) HN.out.2.2.2.2.2).keep (one_block _ _ _ _) HN.out.2.2.2.2.2).keep (one_block _ _ _ _) HN.out.2.2.2.2.2)
            have HS9 := hid (still_new (setA_fr HS4.out w.heap.size 0 0 ByteArray.empty (.inr (Nat.le_refl _))) (w.heap.size + 1) 0 (.int .i64 ((R : Int) + 1)) HN.out.2.2.2.1)
            have HC9 := hid (catch_panicking w.heap.size (w.heap.size + 1) (C : Int) ((R : Int) + 1) 0 ((R : Int) + 1) ByteArray.empty [] w4 a4 e0 ef HN.out.1)
            go_wp2_with fail
            refine leaves_cons (f := 42) (args := #[.pointer (some ⟨w.heap.size, 0, none⟩), .pointer (some ⟨w.heap.size + 1, 0, none⟩)]) (by simp) (by simp [go_sem]) ?_
            refine HC9.out.mono ?_
            rintro e u' w'' ⟨rfl, rfl, rfl⟩
            exact ⟨_, res_ai (Ab.keep HA9.out (one_block _ (w.heap.size + 1) 0 _) HN.out.1) (HD9.out.set _) rfl _ rfl rfl, .inl ⟨(R + 1), HX.out, rfl⟩, HS9.out⟩
          | true =>
            have HX := hid (show prs (25 - (R + 1)) C (R + 1) (S ++ L) t2 = T by
              rw [HPX.out, if_pos HLO.out, HT2.out]
              have e : L.size = C := by
                have h := HEB.out
                unfold rowOk at h
                simp only [Bool.and_eq_true, decide_eq_true_eq] at h
                exact h.2.2.1
              rw [e, show 25 - (R + 1) = 24 - R by omega])
            have HC := hid (show 3 ≤ C ∧ C ≤ 32 ∧ (R + 1) ≤ 24 by
              have h := HEB.out
              unfold rowOk at h
              simp only [Bool.and_eq_true, decide_eq_true_eq] at h
              exact ⟨h.2.1.1, h.2.1.2, h.1⟩)
            clear HPX HLO HEB HT2
            go_wp2_with fail
            refine (write_any _ _ S L _ b4 (by omega)).mono ?_
            rintro e w5 ⟨rfl, b5, h5⟩
            have a5 := a4.below h5 HN.out.2.1
            have d5 : Ib w5 (w.heap.size + 1) 0 := d4.keep (below_fr h5) (by have := HN.out.2.2.1; omega)
            have HS5 := hid (still_below HS4.out h5 HN.out.2.2.2.2.1)
            clear a4 d4 b4 HS4 h5
            by_cases ht : t2.size = 0
            · obtain rfl : t2 = ⟨#[]⟩ := by
                apply ByteArray.ext
                exact Array.eq_empty_of_size_eq_zero ht
              go_wp2_with fail
              go_roundw
              case rel => exact ⟨C, (R + 1), S ++ L, ⟨#[]⟩, false, rfl, rfl, HC.out.2.2, fun _ => ⟨HC.out.1, HC.out.2.1⟩, ⟨fun _ => ⟨by omega, ht⟩, fun _ => rfl⟩, by rw [ByteArray.size_append]; omega, a5, d5, b5, HX.out, HS5.out⟩
              case measure => simp only [strN]; omega
            · have hno := not_nil (t := t2) ht
              go_wp2_with fail
              go_roundw
              case rel => exact ⟨C, (R + 1), S ++ L, t2, true, rfl, rfl, HC.out.2.2, fun _ => ⟨HC.out.1, HC.out.2.1⟩, ⟨fun h => (by cases h), fun h => absurd h.2 ht⟩, by rw [ByteArray.size_append]; omega, a5, d5, b5, HX.out, HS5.out⟩
              case measure => simp only [strN]; omega
end Go.Proofs.Ytnoaomocdmkigab
namespace Go.Proofs.Ytnoaomocdmkigab
open Go.RowKit
open Pu Gp Ap

theorem prs_pos : ∀ (f C R : Nat) (S t : ByteArray) (l : Nat), prs f C R S t = .inl l → 1 ≤ l ∧ l ≤ R + f + 1
  | 0, C, R, S, t, l, h => by
    rw [prs] at h
    cases h
    omega
  | f + 1, C, R, S, t, l, h => by
    rw [prs] at h
    split at h
    · cases h
    · split at h
      · have := prs_pos f _ (R + 1) _ _ l h
        omega
      · cases h
        omega
set_option maxHeartbeats 4000000 in
theorem parse_long (t : ByteArray) (h : 65536 < t.size) (hz : t.size ≤ 281474976710656) (w : World) :
    Calls Try.prog 8 #[.string t] w fun e w' => e = .returned (.tuple #[ar 0 0 ByteArray.empty, .int .i64 2, .int .i64 0]) ∧ Still w w' := by
  have p := newA_ab w 0 0 ByteArray.empty
  obtain ⟨c0, c1, c2, cf⟩ := p.cells
  have h' : (65536 : Int) < (t.size : Int) := by omega
  go_enter Try.func8, Try.ntmps8
  go_wp2_with fail
  exact bodyPost_ret (p.rest3 rfl _ _ _ rfl rfl rfl) rfl ⟨rfl, Still.alloc w _⟩
set_option maxHeartbeats 4000000 in
theorem parse_short (t : ByteArray) (h : t.size ≤ 65536) (w : World) :
    Calls Try.prog 8 #[.string t] w fun e w' => ∃ (C R : Int) (S : ByteArray) (v n : Int), e = .returned (.tuple #[ar C R S, .int .i64 v, .int .i64 n]) ∧ PrsT (prs 25 0 0 ByteArray.empty t) C R S v n ∧ Still w w' := by
  have HRD := hid (fun u => read_any t h u)
  obtain ⟨T, eT⟩ : ∃ T, prs 25 0 0 ByteArray.empty t = T := ⟨_, rfl⟩
  rw [eT] at HRD ⊢
  have HPOS := hid (fun l (h : T = .inl l) => prs_pos 25 0 0 ByteArray.empty t l (eT.trans h))
  clear eT
  have p := newA_ab w 0 0 ByteArray.empty
  have HS0 := hid (Still.alloc w (.cells #[.int .i64 0, .int .i64 0, .string ByteArray.empty] 23))
  have h' : (t.size : Int) ≤ 65536 := by omega
  go_enter Try.func8, Try.ntmps8
  go_wp2_with fail
  refine (HRD.out _).mono ?_
  rintro e w1 ⟨hv, h1⟩
  have p1 := p.still h1
  have HS1 := hid (HS0.out.trans h1)
  clear p HS0 h1 HRD
  rcases hv with ⟨l, hT, rfl⟩ | ⟨c, r, S, hT, rfl⟩
  · have HT := hid hT
    obtain ⟨l1, l2⟩ := HPOS.out l hT
    clear hT HPOS
    have A2 := Still.alloc w1 (.cells #[.int .i64 0, .int .i64 0, .string ByteArray.empty] 23)
    have p2 := p1.still A2
    have q2 := newA_ab w1 0 0 ByteArray.empty
    have HS2 := hid (HS1.out.trans A2)
    clear p1 HS1 A2
    obtain ⟨c0, c1, c2, cf⟩ := p2.cells
    have l3 : (0 : Int) < (l : Int) := by omega
    have l4 : (l : Int) ≤ 26 := by omega
    clear l1 l2
    go_wp2_with fail
    (try simp only [Exit.inBlock, Exit.then])
    exact bodyPost_ret ((p2.set 0 0 ByteArray.empty).rest3 rfl _ _ _ rfl rfl rfl) rfl ⟨0, 0, ByteArray.empty, 60, (l : Int), rfl, .inl ⟨l, HT.out, rfl, rfl, rfl, rfl, rfl⟩, setA_fr HS2.out _ _ _ _ (.inr (Nat.le_refl _))⟩
  · have HT := hid hT
    clear hT HPOS
    have A2 := Still.alloc w1 (.cells #[.int .i64 (c : Int), .int .i64 (r : Int), .string S] 23)
    have p2 := p1.still A2
    have q2 := newA_ab w1 (c : Int) (r : Int) S
    have HS2 := hid (HS1.out.trans A2)
    have HL := hid (block_lt p1)
    clear p1 HS1 A2
    obtain ⟨c0, c1, c2, cf⟩ := q2.cells
    go_wp2_with fail
    refine (mapcheck_any (c : Int) (r : Int) S _).mono ?_
    rintro e w3 ⟨v, rfl, hv, h3⟩
    have p3 := p2.still h3
    have q3 := q2.still h3
    have HS3 := hid (HS2.out.trans h3)
    have HV := hid hv
    clear p2 q2 HS2 h3 hv c0 c1 c2 cf
    obtain ⟨c0, c1, c2, cf⟩ := q3.cells
    obtain ⟨d0, d1, d2, df⟩ := p3.cells
    by_cases h0 : v = 0
    · subst h0
      go_wp2_with fail
      (try simp only [Exit.inBlock, Exit.then])
      exact bodyPost_ret ((p3.set _ _ _).rest3 rfl _ _ _ rfl rfl rfl) rfl ⟨(c : Int), (r : Int), S, 0, 0, rfl, .inr ⟨c, r, S, HT.out, HV.out, rfl, .inl ⟨rfl, rfl, rfl, rfl⟩⟩, setA_fr HS3.out _ _ _ _ (.inr (Nat.le_refl _))⟩
    · have hv' : (v != 0) = true := by simpa using h0
      have H0 := hid h0
      clear h0
      go_wp2_with fail
      (try simp only [Exit.inBlock, Exit.then])
      exact bodyPost_ret ((p3.set _ _ _).rest3 rfl _ _ _ rfl rfl rfl) rfl ⟨0, 0, ByteArray.empty, v, 0, rfl, .inr ⟨c, r, S, HT.out, HV.out, rfl, .inr ⟨H0.out, rfl, rfl, rfl⟩⟩, setA_fr HS3.out _ _ _ _ (.inr (Nat.le_refl _))⟩
theorem parse_any (t : ByteArray) (hz : t.size ≤ 281474976710656) (w : World) :
    Calls Try.prog 8 #[.string t] w fun e w' => ∃ (C R : Int) (S : ByteArray) (v n : Int), e = .returned (.tuple #[ar C R S, .int .i64 v, .int .i64 n]) ∧ PrsV t C R S v n ∧ Still w w' := by
  by_cases h : 65536 < t.size
  · refine (parse_long t h hz w).mono ?_
    rintro e w1 ⟨rfl, h1⟩
    exact ⟨0, 0, _, 2, 0, rfl, .inl ⟨h, rfl, rfl, rfl, rfl, rfl⟩, h1⟩
  · refine (parse_short t (by omega) w).mono ?_
    rintro e w1 ⟨C, R, S, v, n, rfl, hp, h1⟩
    exact ⟨C, R, S, v, n, rfl, .inr ⟨by omega, hp⟩, h1⟩
end Go.Proofs.Ytnoaomocdmkigab
