/- QueueDoes: the law's walk. -/
import Derived.Test.YtgpmjlibanoapaaQvm
namespace Go.Proofs.Ytgpmjlibanoapaa
open Go.RowKit
set_option maxRecDepth 100000

theorem rdO {w : World} {B o n : Nat} {L : List Oq} (h : RdG KOq w (some ⟨B, o, none⟩) n L) {i : Nat} (hi : i < n) {x : Oq} (hx : L.getD i KOq.d = x) : w.cell? ⟨B, o + i * 11, none⟩ = some (.int .i64 x.k) ∧ w.cell? ⟨B, o + i * 11 + 1, none⟩ = some (.int .i64 x.n) ∧ w.cell? ⟨B, o + i * 11 + 2, none⟩ = some (.int .i64 x.e.fr) ∧ w.cell? ⟨B, o + i * 11 + 3, none⟩ = some (.int .i64 x.e.pe) ∧ w.cell? ⟨B, o + i * 11 + 4, none⟩ = some (.int .i64 x.e.se) ∧ w.cell? ⟨B, o + i * 11 + 5, none⟩ = some (.int .i64 x.e.vb) ∧ w.cell? ⟨B, o + i * 11 + 6, none⟩ = some (.int .i64 x.e.a) ∧ w.cell? ⟨B, o + i * 11 + 7, none⟩ = some (.int .i64 x.e.b) ∧ w.cell? ⟨B, o + i * 11 + 8, none⟩ = some (.int .i64 x.e.c) ∧ w.cell? ⟨B, o + i * 11 + 9, none⟩ = some (.int .i64 x.e.ms) ∧ w.cell? ⟨B, o + i * 11 + 10, none⟩ = some (.int .i64 x.f) := by
  subst hx
  exact ⟨h.get hi 0 _ rfl, h.get hi 1 _ rfl, h.get hi 2 _ rfl, h.get hi 3 _ rfl, h.get hi 4 _ rfl, h.get hi 5 _ rfl, h.get hi 6 _ rfl, h.get hi 7 _ rfl, h.get hi 8 _ rfl, h.get hi 9 _ rfl, h.get hi 10 _ rfl⟩
theorem owP {e : TypeId} {w : World} {B g n cap : Nat} {Ps : List Pd} (h : OwG KPr e w B (.slice (some ⟨g, 0, none⟩) n cap) (Ps.map some)) {i : Nat} (hi : i < Ps.length) : w.cell? ⟨g, i * 2, none⟩ = some (.pointer (some ⟨(pg Ps i).p, 0, none⟩)) ∧ w.cell? ⟨g, i * 2 + 1, none⟩ = some (.pointer (some ⟨(pg Ps i).yb, 0, none⟩)) := by
  have e : (Ps.map some).getD i KPr.d = some (pg Ps i) := by
    unfold pg
    rw [List.getD_eq_getElem?_getD, List.getElem?_map, List.getD_eq_getElem?_getD, List.getElem?_eq_getElem hi]; rfl
  have hi' : i < (Ps.map some).length := by simpa using hi
  exact ⟨h.get hi' 0 _ (by rw [e]; rfl), h.get hi' 1 _ (by rw [e]; rfl)⟩
theorem OwG.pair1 (w : World) (B : Nat) (P : Pd) (hb : B ≤ w.heap.size) : OwG KPr 31 (w.alloc (.cells (pvs P) 31)) B (.slice (some ⟨w.heap.size, 0, none⟩) 1 1) ([P].map some) := by
  have := World.ownsRow_lit (base := B) (e := 31) (size := KPr.k) w (pvs P) 1 hb (by unfold maxLen; omega) (by simp [KPr])
  exact this
set_option maxHeartbeats 8000000 in
theorem does_law (so : Option Addr) (n c : Nat) (L : List Oq) (hb : 88 * n ≤ 140737488351232) (hp : ∀ i, i < n → (-9223372036854775808 ≤ (L.getD i KOq.d).k ∧ (L.getD i KOq.d).k ≤ 9223372036854775807) ∧ (-9223372036854775808 ≤ (L.getD i KOq.d).n ∧ (L.getD i KOq.d).n ≤ 9223372036854775807)) (w : World) (hr : RdG KOq w so n L) : Calls Try.prog 3 #[.slice so n c] w fun e w' => e = .returned (.bool true) ∧ Still w w' := by
  have HR := hid hr
  have HA := hid (fun w => awake_any w)
  have HN := hid (fun w => qnew_any w)
  have HP := hid hp
  clear hr hp
  go_enter Try.func3, Try.ntmps3
  go_wp2_with fail
  refine (HA.out _).mono ?_
  rintro e w1 ⟨he, h1⟩
  rw [he]
  have HS1 := hid h1
  clear he h1 HA
  go_wp2_with fail
  refine (HN.out _).mono ?_
  rintro e w2 ⟨he, hw⟩
  rw [he, hw]
  clear he hw w2
  obtain ⟨p, ep⟩ : ∃ p, w1.heap.size = p := ⟨_, rfl⟩
  obtain ⟨W, eW⟩ : ∃ W, newQ w1 = W := ⟨_, rfl⟩
  have hs1 : Still w W := by rw [← eW]; exact HS1.out.trans (Still.alloc w1 _)
  have hq1 : W.heap[p]? = some (.cells #[.slice none 0 0] 59 (0, 0)) := by rw [← eW, ← ep]; exact heap_alloc_new w1 _
  have hpl : w.heap.size ≤ p := by rw [← ep]; exact HS1.out.size
  rw [ep, eW]
  clear ep eW HS1
  have A2 := Still.alloc W (.cells #[.slice none 0 0] 29)
  obtain ⟨W2, eW2⟩ : ∃ X, W.alloc (.cells #[.slice none 0 0] 29) = X := ⟨_, rfl⟩
  obtain ⟨yb, eyb⟩ : ∃ g, W.heap.size = g := ⟨_, rfl⟩
  have hO2 : Ok w.heap.size W2 ⟨p, .slice none 0 0, [], yb, none, 0, []⟩ := by
    rw [← eW2, ← eyb]
    exact Ok.new (A2.kept_still hq1) (heap_alloc_new W _) hpl hs1.size
  have hs2 : Still w W2 := by rw [← eW2]; exact hs1.trans A2
  have HT0 : Hid (St w (W2.alloc (.cells #[.pointer (some ⟨p, 0, none⟩), .pointer (some ⟨yb, 0, none⟩)] 31)) [⟨p, .slice none 0 0, [], yb, none, 0, []⟩] (.slice (some ⟨W2.heap.size, 0, none⟩) 1 1)) := hid (by
    have A3 := Still.alloc W2 (.cells #[.pointer (some ⟨p, 0, none⟩), .pointer (some ⟨yb, 0, none⟩)] 31)
    refine ⟨fun i hi => ?_, fun i j hi hj hij => ?_, OwG.pair1 W2 w.heap.size ⟨p, .slice none 0 0, [], yb, none, 0, []⟩ hs2.size, fun i hi k hk => ?_, hs2.trans A3⟩
    · obtain rfl : i = 0 := by simp at hi; omega
      exact hO2.still A3
    · simp at hi hj; omega
    · obtain rfl : i = 0 := by simp at hi; omega
      obtain ⟨a, ha, _⟩ := hk
      cases ha)
  clear hs1 hq1 hpl A2 hO2 hs2
  go_wp2_with fail
  clear eW2 eyb
  go_loopw [5, 6] (fun u5 u6 wr => ∃ (i : Nat) (Ps : List Pd), i ≤ n ∧ u6 = .int .i64 (i : Int) ∧ Ps.length ≤ i + 1 ∧ 0 < Ps.length ∧ Hid (St w wr Ps u5)) (fun _ u6 _ => n - (intOf u6).toNat)
  case atStart => exact ⟨0, _, by omega, rfl, by simp, by simp, HT0⟩
  case round =>
    clear HT0
    obtain ⟨i, Ps, hi, rfl, hPl, hP0, HT⟩ := hrel
    obtain ⟨g5, cap5, e5, _, _⟩ := HT.out.l.head (by simpa using hP0)
    rw [List.length_map] at e5
    subst e5
    by_cases hin : i < n
    · have hlt : (i : Int) < (n : Int) := by omega
      obtain ⟨B, o, rfl⟩ := HR.out.at (by omega)
      obtain ⟨x, ex⟩ : ∃ x, L.getD i KOq.d = x := ⟨_, rfl⟩
      have HB := HP.out i hin
      rw [ex] at HB
      obtain ⟨c0, c1, c2, c3, c4, c5, c6, c7, c8, c9, c10⟩ := rdO (HR.out.still HT.out.s) hin ex
      clear ex
      have HPn := hid (fun w => pick_any x.n (Ps.length : Int) HB.2 (by omega) (by omega) w)
      have HPk := hid (fun w => pick_any x.k 8 HB.1 (by omega) (by omega) w)
      obtain ⟨hj0, hj1⟩ := pk_in x.n (Ps.length : Int) (by omega)
      have hk8 := pk_in x.k 8 (by omega)
      obtain ⟨j, ej⟩ : ∃ j : Nat, pk x.n (Ps.length : Int) = (j : Int) := ⟨(pk x.n (Ps.length : Int)).toNat, by omega⟩
      rw [ej] at HPn hj0 hj1
      clear ej
      have hjl : j < Ps.length := by omega
      have A0 := Still.alloc wr (.cells (oqs x) 40)
      obtain ⟨W0, eW0⟩ : ∃ W, wr.alloc (.cells (oqs x) 40) = W := ⟨_, rfl⟩
      obtain ⟨b7, eb7⟩ : ∃ g, wr.heap.size = g := ⟨_, rfl⟩
      have HT1 : Hid (St w W0 Ps (.slice (some ⟨g5, 0, none⟩) Ps.length cap5)) := hid (by rw [← eW0]; exact HT.out.still A0)
      have hx1 : W0.heap[b7]? = some (.cells (oqs x) 40 (0, 0)) := by rw [← eW0, ← eb7]; exact heap_alloc_new wr _
      have d1 : W0.cell? ⟨b7, 1, none⟩ = some (.int .i64 x.n) := by rw [cell_of_row _ _ _ _ _ _ hx1]; rfl
      obtain ⟨f0, f1⟩ := owP HT1.out.l hjl
      clear A0
      go_wp2_with fail
      refine (HPn.out _).mono ?_
      rintro e w2 ⟨he, hw⟩
      rw [he, hw]
      have A3 := Still.alloc W0 (.cells (pvs (pg Ps j)) 31)
      obtain ⟨W3, eW3⟩ : ∃ W, W0.alloc (.cells (pvs (pg Ps j)) 31) = W := ⟨_, rfl⟩
      obtain ⟨b8, eb8⟩ : ∃ g, W0.heap.size = g := ⟨_, rfl⟩
      have HT3 : Hid (St w W3 Ps (.slice (some ⟨g5, 0, none⟩) Ps.length cap5)) := hid (by rw [← eW3]; exact HT1.out.still A3)
      have HBx : Hid (Bx W3 b8 b7 (pg Ps j) x) := hid (by
        rw [← eW3, ← eb8]
        exact ⟨heap_alloc_new W0 _, A3.kept_still hx1⟩)
      obtain ⟨c20, c21, c30, c32, c33, c34, c35, c36, c37, c38, c39, c310⟩ := HBx.out.cells
      have c31 : W3.cell? ⟨b7, 1, none⟩ = some (.int .i64 x.n) := by rw [cell_of_row _ _ _ _ _ _ HBx.out.h3]; rfl
      obtain ⟨k8, ek8⟩ : ∃ k, pk x.k 8 = k := ⟨_, rfl⟩
      rw [ek8] at HPk hk8
      have hPl1 : Ps.length + 1 ≤ i + 1 + 1 := by omega
      clear he hw w2 HPn A3 ek8 eW0 eb7 HT HT1 hx1 d1 c0 c1 c2 c3 c4 c5 c6 c7 c8 c9 c10
      go_wp2_with fail
      refine (HPk.out _).mono ?_
      rintro e w2 ⟨he, hw⟩
      rw [he, hw]
      clear he hw w2 HPk f0 f1 eW3 eb8
      have HL4 := hid (show ((Ps.map some).length + 1) * 16 ≤ 140737488355328 ∧ (Ps.map some).length ≤ 281474976710656 by rw [List.length_map]; omega)
      by_cases h7 : k8 = 7
      · subst h7
        clear c20 c21 c30 c31 c32 c33 c34 c35 c36 c37 c38 c39 c310
        go_wp2_with fail
        refine (HN.out _).mono ?_
        rintro e w2 ⟨he, hw⟩
        rw [he, hw]
        clear he hw w2
        obtain ⟨p4, ep4⟩ : ∃ p, W3.heap.size = p := ⟨_, rfl⟩
        have A4 : Still W3 (newQ W3) := Still.alloc W3 _
        have hq4 : (newQ W3).heap[p4]? = some (.cells #[.slice none 0 0] 59 (0, 0)) := by rw [← ep4]; exact heap_alloc_new W3 _
        obtain ⟨W4, eW4⟩ : ∃ W, newQ W3 = W := ⟨_, rfl⟩
        rw [eW4] at A4 hq4 ⊢
        rw [ep4]
        have A5 := Still.alloc W4 (.cells #[.slice none 0 0] 29)
        have hy5 := heap_alloc_new W4 (.cells #[.slice none 0 0] 29)
        have hq5 := A5.kept_still hq4
        obtain ⟨y5, ey5⟩ : ∃ p, W4.heap.size = p := ⟨_, rfl⟩
        obtain ⟨W5, eW5⟩ : ∃ W, W4.alloc (.cells #[.slice none 0 0] 29) = W := ⟨_, rfl⟩
        rw [eW5] at A5 hy5 hq5
        rw [ey5] at hy5
        have A6 := Still.alloc W5 (.cells #[.pointer (some ⟨p4, 0, none⟩), .pointer (some ⟨y5, 0, none⟩)] 31)
        have hg6 := heap_alloc_new W5 (.cells #[.pointer (some ⟨p4, 0, none⟩), .pointer (some ⟨y5, 0, none⟩)] 31)
        obtain ⟨W6, eW6⟩ : ∃ W, W5.alloc (.cells #[.pointer (some ⟨p4, 0, none⟩), .pointer (some ⟨y5, 0, none⟩)] 31) = W := ⟨_, rfl⟩
        obtain ⟨g6, eg6⟩ : ∃ p, W5.heap.size = p := ⟨_, rfl⟩
        rw [eW6] at A6 hg6
        rw [eg6] at hg6
        have HS6 := hid ((A4.trans A5).trans A6)
        have HY5 : Hid (W3.heap.size ≤ y5) := hid (by rw [← ey5]; exact A4.size)
        have HO6 : Hid (Ok w.heap.size W6 ⟨p4, .slice none 0 0, [], y5, none, 0, []⟩) := hid ((Ok.new hq5 hy5 (by rw [← ep4]; exact HT3.out.s.size) (by have := HT3.out.s.size; have := HY5.out; omega)).still A6)
        have HW6 : Hid (∀ k, Wt ⟨p4, .slice none 0 0, [], y5, none, 0, []⟩ k → W3.heap.size ≤ k) := hid (by
          rintro k (e | e | e)
          · rw [e, ← ep4]; exact Nat.le_refl _
          · cases e
          · rw [e]; exact HY5.out)
        have HG6 : Hid (W6.heap[g6]? = some (.cells (KPr.f (some ⟨p4, .slice none 0 0, [], y5, none, 0, []⟩)).toArray 31 (0, 0))) := hid hg6
        have HT6 := hid (HT3.out.still HS6.out)
        have HB6 := hid HT6.out.s.size
        clear A4 A5 A6 hq4 hy5 hq5 hg6 eW4 ep4
        go_wp2_with (
          at_builtin
          refine wpList_appQ KPr _ rfl _ _ _ rfl rfl 16 infoPr w.heap.size g6 (.slice (some ⟨g5, 0, none⟩) Ps.length cap5) (Ps.map some) (some ⟨p4, .slice none 0 0, [], y5, none, 0, []⟩) rfl rfl HT6.out.l HG6.out HL4.out.1 HL4.out.2 HB6.out ?_
          intro u9 w9 ho9 hf9 hb9)
        have HT9 := hid (HT3.out.more HS6.out HO6.out HW6.out (fun k h => by obtain ⟨a, ha, _⟩ := h; cases ha) ho9 hf9 hb9)
        obtain ⟨g9, cap9, e9, _, _⟩ := ho9.head (by simp)
        clear ho9 hf9 hb9 HT6 HG6 HO6 HW6 HS6 HB6 HT3
        subst e9
        go_wp2_with fail
        go_roundw
        case rel => exact ⟨i + 1, _, by omega, by go_num, by simp; omega, by simp, HT9⟩
        case measure => simp [intOf]; omega
      · have hb7 : (k8 == 7) = false := beq_eq_false_iff_ne.2 h7
        by_cases h6 : k8 = 6
        · subst h6
          have hOk := HT3.out.ok j hjl
          have hSl : (pg Ps j).S.length ≤ 4096 := by rw [← hOk.pm.length_eq]; exact hOk.m.le
          have HC := hid (qClone_any (pg Ps j).M w.heap.size (pg Ps j).p (pg Ps j).v hOk.m.le W3 hOk.q)
          have HOk := hid hOk
          clear c21 c30 c31 c32 c33 c34 c35 c36 c37 c38 c39 c310 hOk
          go_wp2_with fail
          refine HC.out.mono ?_
          rintro e w4 ⟨p4, v4, he, hq4, h4⟩
          rw [he]
          have HQ4 := hid hq4
          have HS4 := hid h4
          have hx4 := h4.kept_still HBx.out.h2
          have c21 : w4.cell? ⟨b8, 1, none⟩ = some (.pointer (some ⟨(pg Ps j).yb, 0, none⟩)) := by rw [cell_of_row _ _ _ _ _ _ hx4]; rfl
          have HC := hid (rAll_any (pg Ps j).S (pg Ps j).yb (pg Ps j).cap (pg Ps j).ao hSl w4 (HOk.out.y.still h4))
          clear he hq4 h4 c20 hx4
          go_wp2_with fail
          refine HC.out.mono ?_
          rintro e w5 ⟨v5, he, ho5, h5⟩
          rw [he]
          obtain ⟨a5, cp5, e5, _⟩ := ho5.slice
          subst e5
          have A6 := Still.alloc w5 (.cells #[.slice a5 (pg Ps j).S.length cp5] 29)
          have hy6 := heap_alloc_new w5 (.cells #[.slice a5 (pg Ps j).S.length cp5] 29)
          obtain ⟨W6, eW6⟩ : ∃ W, w5.alloc (.cells #[.slice a5 (pg Ps j).S.length cp5] 29) = W := ⟨_, rfl⟩
          obtain ⟨y6, ey6⟩ : ∃ p, w5.heap.size = p := ⟨_, rfl⟩
          rw [eW6] at A6 hy6
          rw [ey6] at hy6
          have HO6 : Hid (Ok w.heap.size W6 ⟨p4, v4, (pg Ps j).M, y6, a5, cp5, (pg Ps j).S⟩) := hid (by
            have z0 := HT3.out.s.size
            have z4 := HS4.out.size
            have z5 := h5.size
            refine ⟨((HQ4.out.less z0).still h5).still A6, HOk.out.m, ⟨hy6, (Sr.own ho5 (by omega)).still A6⟩, HOk.out.pm, HOk.out.sr, (by rw [← ey6]; exact Nat.le_trans z0 (Nat.le_trans z4 z5)), ?_⟩
            rintro k ⟨a, ha, h0, rfl⟩ e
            have e1 := (HQ4.out.ow.block e).2
            obtain ⟨g, cp, e2, _, _⟩ := ho5.head h0
            cases e2
            cases ha
            have e3 := (ho5.block (k := g) rfl).1
            simp at e1
            omega)
          have HW6 : Hid (∀ k, Wt ⟨p4, v4, (pg Ps j).M, y6, a5, cp5, (pg Ps j).S⟩ k → W3.heap.size ≤ k) := hid (by
            rintro k (e | e | e)
            · rw [e]; exact HQ4.out.lo
            · exact (HQ4.out.ow.block e).1
            · rw [e, ← ey6]; exact Nat.le_trans HS4.out.size h5.size)
          have HV6 : Hid (∀ k, Rb ⟨p4, v4, (pg Ps j).M, y6, a5, cp5, (pg Ps j).S⟩ k → W3.heap.size ≤ k) := hid (by
            rintro k ⟨a, ha, h0, rfl⟩
            obtain ⟨g, cp, e2, _, _⟩ := ho5.head h0
            cases e2
            cases ha
            have e3 := (ho5.block (k := g) rfl).1
            have z4 := HS4.out.size
            exact Nat.le_trans z4 e3)
          have A7 := Still.alloc W6 (.cells #[.pointer (some ⟨p4, 0, none⟩), .pointer (some ⟨y6, 0, none⟩)] 31)
          have hg7 := heap_alloc_new W6 (.cells #[.pointer (some ⟨p4, 0, none⟩), .pointer (some ⟨y6, 0, none⟩)] 31)
          obtain ⟨W7, eW7⟩ : ∃ W, W6.alloc (.cells #[.pointer (some ⟨p4, 0, none⟩), .pointer (some ⟨y6, 0, none⟩)] 31) = W := ⟨_, rfl⟩
          obtain ⟨g7, eg7⟩ : ∃ p, W6.heap.size = p := ⟨_, rfl⟩
          rw [eW7] at A7 hg7
          rw [eg7] at hg7
          have HS7 := hid (((HS4.out.trans h5).trans A6).trans A7)
          have HO7 := hid (HO6.out.still A7)
          have HG7 : Hid (W7.heap[g7]? = some (.cells (KPr.f (some ⟨p4, v4, (pg Ps j).M, y6, a5, cp5, (pg Ps j).S⟩)).toArray 31 (0, 0))) := hid hg7
          have HT7 := hid (HT3.out.still HS7.out)
          have HB7 := hid HT7.out.s.size
          clear he ho5 h5 A6 hy6 A7 hg7 HO6 c21 HC HOk HQ4 HS4
          go_wp2_with (
            at_builtin
            refine wpList_appQ KPr _ rfl _ _ _ rfl rfl 16 infoPr w.heap.size g7 (.slice (some ⟨g5, 0, none⟩) Ps.length cap5) (Ps.map some) (some ⟨p4, v4, (pg Ps j).M, y6, a5, cp5, (pg Ps j).S⟩) rfl rfl HT7.out.l HG7.out HL4.out.1 HL4.out.2 HB7.out ?_
            intro u9 w9 ho9 hf9 hb9)
          have HT9 := hid (HT3.out.more HS7.out HO7.out HW6.out HV6.out ho9 hf9 hb9)
          obtain ⟨g9, cap9, e9, _, _⟩ := ho9.head (by simp)
          clear ho9 hf9 hb9 HT7 HG7 HO7 HW6 HV6 HS7 HB7 HT3
          subst e9
          go_wp2_with fail
          go_roundw
          case rel => exact ⟨i + 1, _, by omega, by go_num, by simp; omega, by simp, HT9⟩
          case measure => simp [intOf]; omega
        · have hb6 : (k8 == 6) = false := beq_eq_false_iff_ne.2 h6
          have HC := hid (does_any w.heap.size (pg Ps j) x HB.1 W3 (HT3.out.ok j hjl))
          go_wp2_with fail
          refine HC.out.mono ?_
          rintro e w4 ⟨he, P4, h4⟩
          rw [he]
          have HT4 := hid (HT3.out.step hjl h4)
          clear he h4 HC HT3 HBx c20 c21 c30 c31 c32 c33 c34 c35 c36 c37 c38 c39 c310
          go_wp2_with fail
          go_roundw
          case rel => exact ⟨i + 1, _, by omega, by go_num, by rw [List.length_set]; omega, by rw [List.length_set]; exact hP0, HT4⟩
          case measure => simp [intOf]; omega
    · have hge : ¬ (i : Int) < (n : Int) := by omega
      obtain ⟨N, eN⟩ : ∃ N, Ps.length = N := ⟨_, rfl⟩
      rw [eN] at HT hPl hP0 ⊢
      go_wp2_with fail
      go_loopw [12] (fun u12 wr => ∃ (i : Nat) (Ps : List Pd), i ≤ N ∧ u12 = .int .i64 (i : Int) ∧ Ps.length = N ∧ Hid (St w wr Ps (.slice (some ⟨g5, 0, none⟩) N cap5))) (fun u12 _ => N - (intOf u12).toNat)
      case atStart => exact ⟨0, Ps, by omega, rfl, eN, HT⟩
      case round =>
        clear HT eN
        obtain ⟨i, Ps, hi, rfl, hN, HT⟩ := hrel
        by_cases hin : i < N
        · have hlt : (i : Int) < (N : Int) := by omega
          have hiP : i < Ps.length := by omega
          have HC := hid (does_any w.heap.size (pg Ps i) ⟨4, 0, zE, 0⟩ ⟨by simp, by simp⟩ wr (HT.out.ok i hiP))
          obtain ⟨f0, f1⟩ := owP HT.out.l hiP
          go_wp2_with fail
          refine HC.out.mono ?_
          rintro e w4 ⟨he, P4, h4⟩
          rw [he]
          have HT4 := hid (HT.out.step hiP h4)
          clear he h4 HC HT f0 f1
          have hN4 : (Ps.set i P4).length = N := by rw [List.length_set]; exact hN
          obtain ⟨Qs, eQs⟩ : ∃ Qs, Ps.set i P4 = Qs := ⟨_, rfl⟩
          rw [eQs] at HT4 hN4
          clear eQs
          have hiP : i < Qs.length := by omega
          have HC := hid (does_any w.heap.size (pg Qs i) ⟨5, 0, zE, 0⟩ ⟨by simp, by simp⟩ w4 (HT4.out.ok i hiP))
          obtain ⟨f0, f1⟩ := owP HT4.out.l hiP
          go_wp2_with fail
          refine HC.out.mono ?_
          rintro e w5 ⟨he, P5, h5⟩
          rw [he]
          have HT5 := hid (HT4.out.step hiP h5)
          clear he h5 HC HT4 f0 f1
          go_wp2_with fail
          go_roundw
          case rel => exact ⟨i + 1, _, by omega, by go_num, by rw [List.length_set]; exact hN4, HT5⟩
          case measure => simp [intOf]; omega
        · have hge : ¬ (i : Int) < (N : Int) := by omega
          go_wp2_with fail
          (try simp only [Exit.inBlock, Exit.then])
          go_ret
          exact ⟨rfl, HT.out.s⟩
end Go.Proofs.Ytgpmjlibanoapaa
