/- The program's reachedFrom. -/
import Derived.Test.YtnoaomocdmkigabBg
namespace Go.Proofs.Ytnoaomocdmkigab
open Go.RowKit
open Pu Gp Ap

theorem cnt_none : ∀ n, cntB (fun _ => false) n = n
  | 0 => rfl
  | n + 1 => by rw [cntB, cnt_none n]; rfl
def slN (v : Value) : Nat := match v with
  | .slice _ n _ => n
  | _ => 0
theorem Rb.keep {F : Nat → Prop} {w w' : World} {g n : Nat} {I : Nat → Bool} (h : Rb w g n I) (hf : Fr F w w') (hn : ¬ F g) : Rb w' g n I := hf.kept h hn
theorem Ab.keep {F : Nat → Prop} {w w' : World} {b : Nat} {C R : Int} {s : ByteArray} (h : Ab w b C R s) (hf : Fr F w w') (hn : ¬ F b) : Ab w' b C R s := hf.kept h hn
/-- what is true of the world, of I and of the work behind a place that is put in -/
theorem put_in {w wr w1 : World} {C R : Int} {s : ByteArray} {N m n cap : Nat} {ao ao' : Option Addr} {J : Nat → Bool} {V : List Int} {o : Obj} (ha : Ab wr w.heap.size C R s) (hr : Rb wr (w.heap.size + 1) N J) (hm : m < N) (_ho : OwI 3 wr ao n cap V) (hs : Still w wr) (hb : ∀ a, ao = some a → w.heap.size + 2 ≤ a.block)
    (hf : Fr (fun k => ∃ a, ao = some a ∧ a.block = k) ((wr.setCell ⟨w.heap.size + 1, m, none⟩ (.bool true)).alloc o) w1) (hn : ∀ a, ao' = some a → ao = some a ∨ ((wr.setCell ⟨w.heap.size + 1, m, none⟩ (.bool true)).alloc o).heap.size ≤ a.block) :
    Ab w1 w.heap.size C R s ∧ Rb w1 (w.heap.size + 1) N (upd J m) ∧ Still w w1 ∧ ∀ a, ao' = some a → w.heap.size + 2 ≤ a.block := by
  have hr1 := hr.set hm
  have ha1 : Ab (wr.setCell ⟨w.heap.size + 1, m, none⟩ (.bool true)) w.heap.size C R s := by
    unfold Ab
    rw [heap_setCell_other _ _ _ _ (show w.heap.size ≠ w.heap.size + 1 by omega)]
    exact ha
  have hs1 : Still w (wr.setCell ⟨w.heap.size + 1, m, none⟩ (.bool true)) := Fr.setCell hs _ _ (.inr (show w.heap.size ≤ w.heap.size + 1 by omega))
  have hlt := block_lt hr1
  refine ⟨(ha1.still (Still.alloc _ o)).keep hf ?_, (hr1.still (Still.alloc _ o)).keep hf ?_, Fr.trans (Fr.alloc hs1 o) hf ?_, fun a h => ?_⟩
  · rintro ⟨a, h1, h2⟩; have := hb a h1; omega
  · rintro ⟨a, h1, h2⟩; have := hb a h1; omega
  · rintro k hk ⟨a, h1, rfl⟩; have := hb a h1; omega
  · rcases hn a h with h1 | h1
    · exact hb a h1
    · rw [size_alloc] at h1; omega
theorem OwI.setB {w wr : World} {n cap m : Nat} {ao : Option Addr} {V : List Int} (h : OwI 3 wr ao n cap V) (hb : ∀ a, ao = some a → w.heap.size + 2 ≤ a.block) (v : Value) : OwI 3 (wr.setCell ⟨w.heap.size + 1, m, none⟩ v) ao n cap V :=
  h.kept (F := fun k => k = w.heap.size + 1) ((Fr.refl _ wr).setCell _ _ (.inl rfl)) (fun a ha e => by have := hb a ha; omega)
theorem one_set {w : World} (wr : World) (m : Nat) (x : Int) : RdI ((wr.setCell ⟨w.heap.size + 1, m, none⟩ (.bool true)).alloc (.cells #[.int .i64 x] 3)) (some ⟨wr.heap.size, 0, none⟩) 1 1 [x] := by
  have h := (OwI.one 3 (wr.setCell ⟨w.heap.size + 1, m, none⟩ (.bool true)) x).rd
  have e : (wr.setCell ⟨w.heap.size + 1, m, none⟩ (.bool true)).heap.size = wr.heap.size := by simp [World.setCell]
  rw [e] at h
  exact h
set_option maxHeartbeats 8000000 in
set_option maxRecDepth 100000 in
theorem reachedFrom_any (C R : Nat) (s : ByteArray) (f : Nat) (hform : forB (C : Int) (R : Int) s = true) (hf : f < s.size) (hff : byt s f ≠ 35) (w : World) :
    Calls Try.prog 58 #[ar (C : Int) (R : Int) s, .int .i64 (f : Int)] w fun e w' => ∃ g I, e = .returned (.slice (some ⟨g, 0, none⟩) s.size s.size) ∧ IsR C s.size s f I ∧ Rb w' g s.size I ∧ Still w w' := by
  obtain ⟨q1, q2, q3, q4, q5, q6⟩ := form_shape hform
  clear q5
  have hmk := fun u => make_row u s.size (by omega)
  have p := (newA_ab w C R s).still (Still.alloc (newA w C R s) (.cells (rowB (fun _ => false) s.size) 4))
  have q : Rb ((newA w C R s).alloc (.cells (rowB (fun _ => false) s.size) 4)) (w.heap.size + 1) s.size (fun _ => false) := by
    have := heap_alloc_new (newA w C R s) (.cells (rowB (fun _ => false) s.size) 4)
    rw [size_alloc] at this
    exact this
  have HS0 := hid ((Still.alloc w (.cells #[.int .i64 (C : Int), .int .i64 (R : Int), .string s] 23)).trans (Still.alloc (newA w C R s) (.cells (rowB (fun _ => false) s.size) 4)))
  obtain ⟨c0, c1, c2, cf⟩ := (newA_ab w C R s).cells
  have c3 := q.cell hf
  have c4 := q.frozen f
  simp only [newA] at c0 c1 c2 cf c3 c4 p q HS0
  have hfi : (f : Int) < (s.size : Int) := by omega
  go_enter Try.func58, Try.ntmps58
  go_wp2_with fail
  have p2 : Ab (((w.alloc (.cells #[.int .i64 (C : Int), .int .i64 (R : Int), .string s] 23)).alloc (.cells ((rowB (fun _ => false) s.size).setIfInBounds f (.bool true)) 4)).alloc (.cells #[.int .i64 (f : Int)] 3)) w.heap.size C R s :=
    ((newA_ab w C R s).still (Still.alloc _ _)).still (Still.alloc _ _)
  have q2 : Rb (((w.alloc (.cells #[.int .i64 (C : Int), .int .i64 (R : Int), .string s] 23)).alloc (.cells ((rowB (fun _ => false) s.size).setIfInBounds f (.bool true)) 4)).alloc (.cells #[.int .i64 (f : Int)] 3)) (w.heap.size + 1) s.size (upd (fun _ => false) f) := by
    have := heap_alloc_new (newA w C R s) (.cells ((rowB (fun _ => false) s.size).setIfInBounds f (.bool true)) 4)
    rw [size_alloc, rowB_set _ hf] at this
    rw [rowB_set _ hf]
    exact Rb.still this (Still.alloc _ _)
  have o2 := OwI.one 3 ((w.alloc (.cells #[.int .i64 (C : Int), .int .i64 (R : Int), .string s] 23)).alloc (.cells ((rowB (fun _ => false) s.size).setIfInBounds f (.bool true)) 4)) (f : Int)
  simp only [size_alloc] at o2
  have HS2 := hid (((Still.alloc w (.cells #[.int .i64 (C : Int), .int .i64 (R : Int), .string s] 23)).trans (Still.alloc (newA w C R s) (.cells ((rowB (fun _ => false) s.size).setIfInBounds f (.bool true)) 4))).trans (Still.alloc _ (.cells #[.int .i64 (f : Int)] 3)))
  have HK0 := hid (Wk.start (C := C) hf hff)
  have HFM := hid hform
  clear p q HS0 c0 c1 c2 cf c3 c4 hmk hff hform
  obtain ⟨i0, hi0, hz0, hz1, hz2⟩ := info_int
  go_loopw [6] (fun v wr => ∃ (I : Nat → Bool) (W : List Int) (ao : Option Addr) (cap : Nat), v = .slice ao W.length cap ∧ Ab wr w.heap.size C R s ∧ Rb wr (w.heap.size + 1) s.size I ∧ OwI 3 wr ao W.length cap W ∧ Wk C s f I W none ∧ 2 * cntB I s.size + W.length ≤ 2 * s.size ∧ Still w wr ∧ ∀ a, ao = some a → w.heap.size + 2 ≤ a.block) (fun v wr => 2 * cntW wr (w.heap.size + 1) s.size + slN v)
  case atStart => exact ⟨upd (fun _ => false) f, [(f : Int)], some ⟨w.heap.size + 1 + 1, 0, none⟩, 1, rfl, p2, q2, o2, HK0.out, by have h := cntB_upd (I := fun _ => false) (k := f) rfl (n := s.size) hf; rw [cnt_none] at h; simp only [List.length_singleton]; omega, HS2.out, fun a h => by cases h; exact Nat.le_refl _⟩
  case round =>
    obtain ⟨I, W, ao, cap, rfl, a3, r3, o3, k3, hcnt, hs, hb⟩ := hrel
    have HS3 := hid hs
    have HB3 := hid hb
    clear hs hb p2 q2 o2 HS2 HK0
    by_cases hW : W = []
    · subst hW
      have HR := hid (k3.isR (by omega))
      clear k3
      go_wp2_with fail
      go_ret
      exact ⟨_, I, rfl, HR.out, r3, HS3.out⟩
    · obtain ⟨V, i, rfl⟩ : ∃ (V : List Int) (i : Nat), W = V ++ [(i : Int)] := by
        obtain ⟨i, e, _⟩ := k3.work (W.getLast hW) (List.getLast_mem hW)
        exact ⟨W.dropLast, i, by rw [← e]; exact (List.dropLast_concat_getLast hW).symm⟩
      obtain ⟨k4, hIi⟩ := k3.pop
      obtain ⟨b1, b2, b3⟩ := k3.in_ i hIi
      obtain ⟨l1, l2⟩ := free_in HFM.out b1 b2
      obtain ⟨g, rfl⟩ := o3.head (by simp)
      have cg := o3.rd.byte (k := V.length) (by simp)
      simp only [Nat.zero_add, List.getElem_concat_length] at cg
      have o4 := o3.take (i := V.length) (by simp)
      rw [List.take_left] at o4
      have hcap := o3.rd.le
      have hmax := o3.rd.max
      have HM := hid (cntW_eq r3 (Nat.le_refl _))
      have HW0 := hid k4
      have HI0 := hid hIi
      have HGE := hid (HB3.out _ rfl)
      clear o3 k3 k4 hIi b3 hW b2
      simp only [List.length_append, List.length_singleton] at hcap hcnt ⊢
      unfold maxLen at hmax
      obtain ⟨c0, c1, c2, cf⟩ := a3.cells
      obtain ⟨m0, e0⟩ : ∃ m0, i - C = m0 := ⟨_, rfl⟩
      obtain ⟨m1, e1⟩ : ∃ m1, i - 1 = m1 := ⟨_, rfl⟩
      obtain ⟨m2, e2⟩ : ∃ m2, i + 1 = m2 := ⟨_, rfl⟩
      obtain ⟨m3, e3⟩ : ∃ m3, i + C = m3 := ⟨_, rfl⟩
      have z0 : (i : Int) - (C : Int) = (m0 : Int) := by omega
      have z1 : (i : Int) - 1 = (m1 : Int) := by omega
      have z2 : (i : Int) + 1 = (m2 : Int) := by omega
      have z3 : (i : Int) + (C : Int) = (m3 : Int) := by omega
      have HNB := hid (show nbr C i 0 = m0 ∧ nbr C i 1 = m1 ∧ nbr C i 2 = m2 ∧ nbr C i 3 = m3 from ⟨e0, e1, e2, e3⟩)
      have y0 : m0 < s.size := by omega
      have y1 : m1 < s.size := by omega
      have y2 : m2 < s.size := by omega
      have y3 : m3 < s.size := by omega
      clear e0 e1 e2 e3
      go_wp2_with fail
      clear c0 c1 c2 cf cg z0 z1 z2 z3
      go_loopw [6, 46] (fun v6 vk wt => ∃ (k : Nat) (J : Nat → Bool) (V' : List Int) (ao' : Option Addr) (cap' : Nat), k ≤ 4 ∧ vk = .int .i64 (k : Int) ∧ v6 = .slice ao' V'.length cap' ∧ Ab wt w.heap.size C R s ∧ Rb wt (w.heap.size + 1) s.size J ∧ OwI 3 wt ao' V'.length cap' V' ∧ Wk C s f J V' (some i) ∧ J i = true ∧
          (∀ x, x < k → byt s (nbr C i x) ≠ 35 → J (nbr C i x) = true) ∧ 2 * cntB J s.size + V'.length ≤ 2 * cntB I s.size + V.length ∧ Still w wt ∧ ∀ a, ao' = some a → w.heap.size + 2 ≤ a.block) (fun _ vk _ => 4 - (intOf vk).toNat)
      case atStart => exact ⟨0, I, V, _, cap, by omega, rfl, rfl, a3, r3, o4, HW0.out, HI0.out, fun x hx => by omega, Nat.le_refl _, HS3.out, HB3.out⟩
      case round =>
        obtain ⟨k, J, V', ao', cap', hk4, rfl, rfl, a5, r5, o5, w5, j5, dn5, c5, hs, hb⟩ := hrel
        have HW5 := hid w5
        have HJ5 := hid j5
        have HDN := hid dn5
        have HC5 := hid c5
        have HS5 := hid hs
        have HB5 := hid hb
        have hlen : V'.length ≤ 2000 := by omega
        clear w5 j5 dn5 hs hb a3 r3 o4
        obtain ⟨c0, c1, c2, cf⟩ := a5.cells
        by_cases hlt : k < 4
        · rcases (show k = 0 ∨ k = 1 ∨ k = 2 ∨ k = 3 by omega) with rfl | rfl | rfl | rfl
          · have ix : ∀ u : World, (Instr.index 93 (.agg #[.int .i64 (m0 : Int), .int .i64 (m1 : Int), .int .i64 (m2 : Int), .int .i64 (m3 : Int)]) (.int .i64 0)).run Try.prog u = .ok (.int .i64 (m0 : Int)) u := fun _ => by kernel_rfl
            have hy := byt_at s m0 y0
            have hn : nbr C i 0 = m0 := HNB.out.1
            obtain ⟨b, eb⟩ : ∃ b, byt s m0 = b := ⟨_, rfl⟩
            rw [eb] at hy
            have yi : (m0 : Int) < (s.size : Int) := by omega
            have kc := r5.cell (i := m0) y0
            have kf := r5.frozen m0
            by_cases h35 : b = 35
            · have n35 : (b != 35) = false := by simpa using h35
              have HD := hid (show ∀ x, x < 0 + 1 → byt s (nbr C i x) ≠ 35 → J (nbr C i x) = true from fun x hx hb => by
                by_cases e : x = 0
                · subst e; rw [hn, eb] at hb; exact absurd h35 hb
                · exact HDN.out x (by omega) hb)
              clear eb h35 kc kf
              go_wp2_with fail
              go_roundw
              case rel => exact ⟨0 + 1, J, V', ao', cap', by omega, by go_num, rfl, a5, r5, o5, HW5.out, HJ5.out, HD.out, HC5.out, HS5.out, HB5.out⟩
              case measure => simp [intOf]
            · have n35 : (b != 35) = true := by simpa using h35
              cases hJ : J m0 with
              | true =>
                rw [hJ] at kc
                have HD := hid (show ∀ x, x < 0 + 1 → byt s (nbr C i x) ≠ 35 → J (nbr C i x) = true from fun x hx hb => by
                  by_cases e : x = 0
                  · subst e; rw [hn]; exact hJ
                  · exact HDN.out x (by omega) hb)
                clear eb h35 hJ
                go_wp2_with fail
                go_roundw
                case rel => exact ⟨0 + 1, J, V', ao', cap', by omega, by go_num, rfl, a5, r5, o5, HW5.out, HJ5.out, HD.out, HC5.out, HS5.out, HB5.out⟩
                case measure => simp [intOf]
              | false =>
                rw [hJ] at kc
                have HP := hid (show Wk C s f (upd J m0) (V' ++ [(m0 : Int)]) (some i) by
                  have h := HW5.out.push (k := 0) HFM.out HJ5.out (by rw [hn, eb]; exact h35)
                  rw [hn] at h
                  exact h)
                have HU := hid (show ∀ j, J j = true → upd J m0 j = true from fun j hj => by
                  unfold upd; split
                  · rfl
                  · exact hj)
                have HV := hid (cntB_upd hJ (n := s.size) y0)
                have HD := hid (show ∀ x, x < 0 + 1 → byt s (nbr C i x) ≠ 35 → upd J m0 (nbr C i x) = true from fun x hx hb => by
                  by_cases e : x = 0
                  · subst e; rw [hn]; simp [upd]
                  · exact HU.out _ (HDN.out x (by omega) hb))
                have HO1 := hid ((OwI.setB (m := m0) o5 HB5.out (.bool true)).alloc (.cells #[.int .i64 (m0 : Int)] 3))
                have HO2 := hid (one_set (w := w) wr m0 (m0 : Int))
                clear eb h35 hJ
                go_wp2_with (at_builtin; refine wpList_appI _ rfl _ _ 72 rfl 3 i0 Try.underlying72 hi0 hz0 hz1 hz2 ao' (some ⟨wr.heap.size, 0, none⟩) V'.length cap' 1 1 V' [(m0 : Int)] rfl rfl HO1.out HO2.out (by omega) ?_; intro ao'' cap'' w1 ho' hf' hn' _)
                obtain ⟨a6, r6, hs6, hb6⟩ := put_in a5 r5 y0 o5 HS5.out HB5.out hf' hn'
                go_roundw
                case rel => exact ⟨0 + 1, upd J m0, V' ++ [(m0 : Int)], ao'', cap'', by omega, by go_num, by simp, a6, r6, by simpa using ho', HP.out, HU.out _ HJ5.out, HD.out, by have h1 := HC5.out; have h2 := HV.out; simp only [List.length_append, List.length_singleton]; omega, hs6, hb6⟩
                case measure => simp [intOf]
          · have ix : ∀ u : World, (Instr.index 93 (.agg #[.int .i64 (m0 : Int), .int .i64 (m1 : Int), .int .i64 (m2 : Int), .int .i64 (m3 : Int)]) (.int .i64 1)).run Try.prog u = .ok (.int .i64 (m1 : Int)) u := fun _ => by kernel_rfl
            have hy := byt_at s m1 y1
            have hn : nbr C i 1 = m1 := HNB.out.2.1
            obtain ⟨b, eb⟩ : ∃ b, byt s m1 = b := ⟨_, rfl⟩
            rw [eb] at hy
            have yi : (m1 : Int) < (s.size : Int) := by omega
            have kc := r5.cell (i := m1) y1
            have kf := r5.frozen m1
            by_cases h35 : b = 35
            · have n35 : (b != 35) = false := by simpa using h35
              have HD := hid (show ∀ x, x < 1 + 1 → byt s (nbr C i x) ≠ 35 → J (nbr C i x) = true from fun x hx hb => by
                by_cases e : x = 1
                · subst e; rw [hn, eb] at hb; exact absurd h35 hb
                · exact HDN.out x (by omega) hb)
              clear eb h35 kc kf
              go_wp2_with fail
              go_roundw
              case rel => exact ⟨1 + 1, J, V', ao', cap', by omega, by go_num, rfl, a5, r5, o5, HW5.out, HJ5.out, HD.out, HC5.out, HS5.out, HB5.out⟩
              case measure => simp [intOf]
            · have n35 : (b != 35) = true := by simpa using h35
              cases hJ : J m1 with
              | true =>
                rw [hJ] at kc
                have HD := hid (show ∀ x, x < 1 + 1 → byt s (nbr C i x) ≠ 35 → J (nbr C i x) = true from fun x hx hb => by
                  by_cases e : x = 1
                  · subst e; rw [hn]; exact hJ
                  · exact HDN.out x (by omega) hb)
                clear eb h35 hJ
                go_wp2_with fail
                go_roundw
                case rel => exact ⟨1 + 1, J, V', ao', cap', by omega, by go_num, rfl, a5, r5, o5, HW5.out, HJ5.out, HD.out, HC5.out, HS5.out, HB5.out⟩
                case measure => simp [intOf]
              | false =>
                rw [hJ] at kc
                have HP := hid (show Wk C s f (upd J m1) (V' ++ [(m1 : Int)]) (some i) by
                  have h := HW5.out.push (k := 1) HFM.out HJ5.out (by rw [hn, eb]; exact h35)
                  rw [hn] at h
                  exact h)
                have HU := hid (show ∀ j, J j = true → upd J m1 j = true from fun j hj => by
                  unfold upd; split
                  · rfl
                  · exact hj)
                have HV := hid (cntB_upd hJ (n := s.size) y1)
                have HD := hid (show ∀ x, x < 1 + 1 → byt s (nbr C i x) ≠ 35 → upd J m1 (nbr C i x) = true from fun x hx hb => by
                  by_cases e : x = 1
                  · subst e; rw [hn]; simp [upd]
                  · exact HU.out _ (HDN.out x (by omega) hb))
                have HO1 := hid ((OwI.setB (m := m1) o5 HB5.out (.bool true)).alloc (.cells #[.int .i64 (m1 : Int)] 3))
                have HO2 := hid (one_set (w := w) wr m1 (m1 : Int))
                clear eb h35 hJ
                go_wp2_with (at_builtin; refine wpList_appI _ rfl _ _ 72 rfl 3 i0 Try.underlying72 hi0 hz0 hz1 hz2 ao' (some ⟨wr.heap.size, 0, none⟩) V'.length cap' 1 1 V' [(m1 : Int)] rfl rfl HO1.out HO2.out (by omega) ?_; intro ao'' cap'' w1 ho' hf' hn' _)
                obtain ⟨a6, r6, hs6, hb6⟩ := put_in a5 r5 y1 o5 HS5.out HB5.out hf' hn'
                go_roundw
                case rel => exact ⟨1 + 1, upd J m1, V' ++ [(m1 : Int)], ao'', cap'', by omega, by go_num, by simp, a6, r6, by simpa using ho', HP.out, HU.out _ HJ5.out, HD.out, by have h1 := HC5.out; have h2 := HV.out; simp only [List.length_append, List.length_singleton]; omega, hs6, hb6⟩
                case measure => simp [intOf]
          · have ix : ∀ u : World, (Instr.index 93 (.agg #[.int .i64 (m0 : Int), .int .i64 (m1 : Int), .int .i64 (m2 : Int), .int .i64 (m3 : Int)]) (.int .i64 2)).run Try.prog u = .ok (.int .i64 (m2 : Int)) u := fun _ => by kernel_rfl
            have hy := byt_at s m2 y2
            have hn : nbr C i 2 = m2 := HNB.out.2.2.1
            obtain ⟨b, eb⟩ : ∃ b, byt s m2 = b := ⟨_, rfl⟩
            rw [eb] at hy
            have yi : (m2 : Int) < (s.size : Int) := by omega
            have kc := r5.cell (i := m2) y2
            have kf := r5.frozen m2
            by_cases h35 : b = 35
            · have n35 : (b != 35) = false := by simpa using h35
              have HD := hid (show ∀ x, x < 2 + 1 → byt s (nbr C i x) ≠ 35 → J (nbr C i x) = true from fun x hx hb => by
                by_cases e : x = 2
                · subst e; rw [hn, eb] at hb; exact absurd h35 hb
                · exact HDN.out x (by omega) hb)
              clear eb h35 kc kf
              go_wp2_with fail
              go_roundw
              case rel => exact ⟨2 + 1, J, V', ao', cap', by omega, by go_num, rfl, a5, r5, o5, HW5.out, HJ5.out, HD.out, HC5.out, HS5.out, HB5.out⟩
              case measure => simp [intOf]
            · have n35 : (b != 35) = true := by simpa using h35
              cases hJ : J m2 with
              | true =>
                rw [hJ] at kc
                have HD := hid (show ∀ x, x < 2 + 1 → byt s (nbr C i x) ≠ 35 → J (nbr C i x) = true from fun x hx hb => by
                  by_cases e : x = 2
                  · subst e; rw [hn]; exact hJ
                  · exact HDN.out x (by omega) hb)
                clear eb h35 hJ
                go_wp2_with fail
                go_roundw
                case rel => exact ⟨2 + 1, J, V', ao', cap', by omega, by go_num, rfl, a5, r5, o5, HW5.out, HJ5.out, HD.out, HC5.out, HS5.out, HB5.out⟩
                case measure => simp [intOf]
              | false =>
                rw [hJ] at kc
                have HP := hid (show Wk C s f (upd J m2) (V' ++ [(m2 : Int)]) (some i) by
                  have h := HW5.out.push (k := 2) HFM.out HJ5.out (by rw [hn, eb]; exact h35)
                  rw [hn] at h
                  exact h)
                have HU := hid (show ∀ j, J j = true → upd J m2 j = true from fun j hj => by
                  unfold upd; split
                  · rfl
                  · exact hj)
                have HV := hid (cntB_upd hJ (n := s.size) y2)
                have HD := hid (show ∀ x, x < 2 + 1 → byt s (nbr C i x) ≠ 35 → upd J m2 (nbr C i x) = true from fun x hx hb => by
                  by_cases e : x = 2
                  · subst e; rw [hn]; simp [upd]
                  · exact HU.out _ (HDN.out x (by omega) hb))
                have HO1 := hid ((OwI.setB (m := m2) o5 HB5.out (.bool true)).alloc (.cells #[.int .i64 (m2 : Int)] 3))
                have HO2 := hid (one_set (w := w) wr m2 (m2 : Int))
                clear eb h35 hJ
                go_wp2_with (at_builtin; refine wpList_appI _ rfl _ _ 72 rfl 3 i0 Try.underlying72 hi0 hz0 hz1 hz2 ao' (some ⟨wr.heap.size, 0, none⟩) V'.length cap' 1 1 V' [(m2 : Int)] rfl rfl HO1.out HO2.out (by omega) ?_; intro ao'' cap'' w1 ho' hf' hn' _)
                obtain ⟨a6, r6, hs6, hb6⟩ := put_in a5 r5 y2 o5 HS5.out HB5.out hf' hn'
                go_roundw
                case rel => exact ⟨2 + 1, upd J m2, V' ++ [(m2 : Int)], ao'', cap'', by omega, by go_num, by simp, a6, r6, by simpa using ho', HP.out, HU.out _ HJ5.out, HD.out, by have h1 := HC5.out; have h2 := HV.out; simp only [List.length_append, List.length_singleton]; omega, hs6, hb6⟩
                case measure => simp [intOf]
          · have ix : ∀ u : World, (Instr.index 93 (.agg #[.int .i64 (m0 : Int), .int .i64 (m1 : Int), .int .i64 (m2 : Int), .int .i64 (m3 : Int)]) (.int .i64 3)).run Try.prog u = .ok (.int .i64 (m3 : Int)) u := fun _ => by kernel_rfl
            have hy := byt_at s m3 y3
            have hn : nbr C i 3 = m3 := HNB.out.2.2.2
            obtain ⟨b, eb⟩ : ∃ b, byt s m3 = b := ⟨_, rfl⟩
            rw [eb] at hy
            have yi : (m3 : Int) < (s.size : Int) := by omega
            have kc := r5.cell (i := m3) y3
            have kf := r5.frozen m3
            by_cases h35 : b = 35
            · have n35 : (b != 35) = false := by simpa using h35
              have HD := hid (show ∀ x, x < 3 + 1 → byt s (nbr C i x) ≠ 35 → J (nbr C i x) = true from fun x hx hb => by
                by_cases e : x = 3
                · subst e; rw [hn, eb] at hb; exact absurd h35 hb
                · exact HDN.out x (by omega) hb)
              clear eb h35 kc kf
              go_wp2_with fail
              go_roundw
              case rel => exact ⟨3 + 1, J, V', ao', cap', by omega, by go_num, rfl, a5, r5, o5, HW5.out, HJ5.out, HD.out, HC5.out, HS5.out, HB5.out⟩
              case measure => simp [intOf]
            · have n35 : (b != 35) = true := by simpa using h35
              cases hJ : J m3 with
              | true =>
                rw [hJ] at kc
                have HD := hid (show ∀ x, x < 3 + 1 → byt s (nbr C i x) ≠ 35 → J (nbr C i x) = true from fun x hx hb => by
                  by_cases e : x = 3
                  · subst e; rw [hn]; exact hJ
                  · exact HDN.out x (by omega) hb)
                clear eb h35 hJ
                go_wp2_with fail
                go_roundw
                case rel => exact ⟨3 + 1, J, V', ao', cap', by omega, by go_num, rfl, a5, r5, o5, HW5.out, HJ5.out, HD.out, HC5.out, HS5.out, HB5.out⟩
                case measure => simp [intOf]
              | false =>
                rw [hJ] at kc
                have HP := hid (show Wk C s f (upd J m3) (V' ++ [(m3 : Int)]) (some i) by
                  have h := HW5.out.push (k := 3) HFM.out HJ5.out (by rw [hn, eb]; exact h35)
                  rw [hn] at h
                  exact h)
                have HU := hid (show ∀ j, J j = true → upd J m3 j = true from fun j hj => by
                  unfold upd; split
                  · rfl
                  · exact hj)
                have HV := hid (cntB_upd hJ (n := s.size) y3)
                have HD := hid (show ∀ x, x < 3 + 1 → byt s (nbr C i x) ≠ 35 → upd J m3 (nbr C i x) = true from fun x hx hb => by
                  by_cases e : x = 3
                  · subst e; rw [hn]; simp [upd]
                  · exact HU.out _ (HDN.out x (by omega) hb))
                have HO1 := hid ((OwI.setB (m := m3) o5 HB5.out (.bool true)).alloc (.cells #[.int .i64 (m3 : Int)] 3))
                have HO2 := hid (one_set (w := w) wr m3 (m3 : Int))
                clear eb h35 hJ
                go_wp2_with (at_builtin; refine wpList_appI _ rfl _ _ 72 rfl 3 i0 Try.underlying72 hi0 hz0 hz1 hz2 ao' (some ⟨wr.heap.size, 0, none⟩) V'.length cap' 1 1 V' [(m3 : Int)] rfl rfl HO1.out HO2.out (by omega) ?_; intro ao'' cap'' w1 ho' hf' hn' _)
                obtain ⟨a6, r6, hs6, hb6⟩ := put_in a5 r5 y3 o5 HS5.out HB5.out hf' hn'
                go_roundw
                case rel => exact ⟨3 + 1, upd J m3, V' ++ [(m3 : Int)], ao'', cap'', by omega, by go_num, by simp, a6, r6, by simpa using ho', HP.out, HU.out _ HJ5.out, HD.out, by have h1 := HC5.out; have h2 := HV.out; simp only [List.length_append, List.length_singleton]; omega, hs6, hb6⟩
                case measure => simp [intOf]
        · obtain rfl : k = 4 := by omega
          have HX := hid (HW5.out.shut HDN.out)
          have HM2 := hid (cntW_eq r5 (Nat.le_refl _))
          clear hlt
          go_wp2_with fail
          go_roundw
          case rel => exact ⟨J, V', ao', cap', rfl, a5, r5, o5, HX.out, by omega, HS5.out, HB5.out⟩
          case measure =>
            have h1 := HM.out
            have h2 := HM2.out
            rw [h1, h2]
            simp only [slN]
            omega
end Go.Proofs.Ytnoaomocdmkigab
