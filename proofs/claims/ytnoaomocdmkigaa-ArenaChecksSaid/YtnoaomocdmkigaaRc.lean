/- Which cells one comes to: the document's answer. -/
import Derived.Test.YtnoaomocdmkigaaRb
namespace Go.Proofs.Ytnoaomocdmkigaa
open Go.RowKit
open Pu Gp Ap

theorem made_row (n : Nat) : madeCells #[Value.bool false] (n * 1) = rowB (fun _ => false) n := by
  apply Array.ext_getElem?
  intro i
  by_cases h : i < n
  · rw [rowB_at _ h]; simp [madeCells, h, Nat.mod_one]
  · rw [Array.getElem?_eq_none (by rw [size_madeCells]; omega), Array.getElem?_eq_none (by rw [rowB_size]; omega)]
theorem make_row (w : World) (n : Nat) (h : n ≤ 281474976710656) : (Instr.makeSlice 66 (.int .i64 (n : Int)) (.int .i64 (n : Int))).run Try.prog w = .ok (.slice (some ⟨w.heap.size, 0, none⟩) n n) (w.alloc (.cells (rowB (fun _ => false) n) 4)) := by
  obtain ⟨i, hi, hz, h1, h2⟩ : ∃ i, Try.prog.info? 4 = some i ∧ i.zero = some (.bool false) ∧ i.size = 1 ∧ i.bytes = 1 := ⟨_, rfl, rfl, rfl, rfl⟩
  have hr := run_make (P := Try.prog) w 66 4 i (.bool false) Try.underlying66 hi hz .i64 .i64 (n : Int) (n : Int) (by omega) (by omega) (by rw [h2]; omega) (by omega)
  rw [h1] at hr
  simp only [Int.toNat_natCast] at hr
  rw [hr, ← made_row]
  rfl
def boolN (v : Value) : Nat := match v with
  | .bool true => 1
  | _ => 0
set_option maxHeartbeats 8000000 in
set_option maxRecDepth 100000 in
theorem rreach_any (C : Nat) (R : Int) (s : ByteArray) (f : Nat) (hC : 1 ≤ C) (hC2 : C ≤ 32) (hz : s.size ≤ 768) (hf : f < s.size) (w : World) :
    Calls Try.prog 41 #[ar (C : Int) R s, .int .i64 (f : Int)] w fun e w' => ∃ g I, e = .returned (.slice (some ⟨g, 0, none⟩) s.size s.size) ∧ IsR C s.size s f I ∧ Rb w' g s.size I ∧ Still w w' := by
  have hmk := fun u => make_row u s.size (by omega)
  have p := (newA_ab w C R s).still (Still.alloc (newA w C R s) (.cells (rowB (fun _ => false) s.size) 4))
  have q : Rb ((newA w C R s).alloc (.cells (rowB (fun _ => false) s.size) 4)) (w.heap.size + 1) s.size (fun _ => false) := by
    have := heap_alloc_new (newA w C R s) (.cells (rowB (fun _ => false) s.size) 4)
    rw [size_alloc] at this
    exact this
  have HS0 := hid ((Still.alloc w (.cells #[.int .i64 (C : Int), .int .i64 R, .string s] 24)).trans (Still.alloc (newA w C R s) (.cells (rowB (fun _ => false) s.size) 4)))
  obtain ⟨c0, c1, c2, cf⟩ := (newA_ab w C R s).cells
  have c3 := q.cell hf
  have c4 := q.frozen f
  simp only [newA] at c0 c1 c2 cf c3 c4 p q HS0
  have hfi : (f : Int) < (s.size : Int) := by omega
  go_enter Try.func41, Try.ntmps41
  go_wp2_with fail
  have p2 : Ab ((w.alloc (.cells #[.int .i64 (C : Int), .int .i64 R, .string s] 24)).alloc (.cells ((rowB (fun _ => false) s.size).setIfInBounds f (.bool true)) 4)) w.heap.size C R s :=
    (newA_ab w C R s).still (Still.alloc _ _)
  have q2 : Rb ((w.alloc (.cells #[.int .i64 (C : Int), .int .i64 R, .string s] 24)).alloc (.cells ((rowB (fun _ => false) s.size).setIfInBounds f (.bool true)) 4)) (w.heap.size + 1) s.size (upd (fun _ => false) f) := by
    have := heap_alloc_new (newA w C R s) (.cells ((rowB (fun _ => false) s.size).setIfInBounds f (.bool true)) 4)
    rw [size_alloc, rowB_set _ hf] at this
    rw [rowB_set _ hf]
    exact this
  have HS2 := hid ((Still.alloc w (.cells #[.int .i64 (C : Int), .int .i64 R, .string s] 24)).trans (Still.alloc (newA w C R s) (.cells ((rowB (fun _ => false) s.size).setIfInBounds f (.bool true)) 4)))
  clear p q HS0 c0 c1 c2 cf c3 c4 hmk
  go_loopw [6] (fun v wr => ∃ (I : Nat → Bool) (b : Bool), v = .bool b ∧ Ab wr w.heap.size C R s ∧ Rb wr (w.heap.size + 1) s.size I ∧ (I f = true ∧ ∀ i, I i = true → Rch C s.size s f i) ∧ (b = false → Shut C s.size s I) ∧ Still w wr) (fun v wr => 2 * cntW wr (w.heap.size + 1) s.size + boolN v)
  case atStart => exact ⟨upd (fun _ => false) f, true, rfl, p2, q2, ⟨by simp [upd], fun i hi => by
      by_cases e : i = f
      · subst e; exact rch_from C s.size s i
      · simp [upd, e] at hi⟩, fun h => (by cases h), HS2.out⟩
  case round =>
    obtain ⟨I, b, rfl, a3, r3, hI, hb, hs⟩ := hrel
    have HS3 := hid hs
    clear hs p2 q2 HS2
    cases b with
    | false =>
      have HR := hid (show IsR C s.size s f I from ⟨hI.1, hb rfl, hI.2⟩)
      clear hb hI
      go_wp2_with fail
      go_ret
      exact ⟨_, I, rfl, HR.out, r3, HS3.out⟩
    | true =>
      have HI := hid hI
      have HM := hid (cntW_eq r3 (Nat.le_refl _))
      clear hI hb
      obtain ⟨c0, c1, c2, cf⟩ := a3.cells
      go_wp2_with fail

      clear c0 c1 c2 cf
      go_loopw [6, 7] (fun v u wr => ∃ (i : Nat) (J : Nat → Bool) (b : Bool), C ≤ i ∧ i ≤ s.size + C ∧ u = .int .i64 (i : Int) ∧ v = .bool b ∧ Ab wr w.heap.size C R s ∧ Rb wr (w.heap.size + 1) s.size J ∧ (J f = true ∧ ∀ j, J j = true → Rch C s.size s f j) ∧
          (b = false → (∀ j, J j = I j) ∧ ∀ j, C ≤ j → j < i → byt s j ≠ 35 → nbB C J j = true → J j = true) ∧ (b = true → cntB J s.size < cntB I s.size) ∧ Still w wr) (fun _ u _ => s.size + C - (intOf u).toNat)
      case atStart => exact ⟨C, I, false, by omega, by omega, rfl, rfl, a3, r3, HI.out, fun _ => ⟨fun _ => rfl, fun j h1 h2 => by omega⟩, fun h => (by cases h), HS3.out⟩
      case round =>
        obtain ⟨i, J, b, i1, i3, rfl, rfl, a4, r4, hJ0, hb, hc, hs⟩ := hrel
        have HJ := hid hJ0
        have HB := hid hb
        have HC := hid hc
        have HS4 := hid hs
        clear hJ0 hb hc hs
        obtain ⟨c0, c1, c2, cf⟩ := a4.cells
        by_cases i2 : i + C < s.size
        · have e := byt_at s i (by omega)
          obtain ⟨y, ey⟩ : ∃ y, byt s i = y := ⟨_, rfl⟩
          rw [ey] at e
          have k0 := r4.cell (i := i) (by omega)
          have k1 := r4.cell (i := i - 1) (by omega)
          have k2 := r4.cell (i := i + 1) (by omega)
          have k3 := r4.cell (i := i - C) (by omega)
          have k4 := r4.cell (i := i + C) (by omega)
          have z1 : (i : Int) - 1 = ((i - 1 : Nat) : Int) := by omega
          have z3 : (i : Int) - (C : Int) = ((i - C : Nat) : Int) := by omega
          have i2' : ((i + C : Nat) : Int) < (s.size : Int) := by omega
          have i5 : (i : Int) < (s.size : Int) := by omega
          cases hJ : J i with
          | true =>
            rw [hJ] at k0
            have HK := hid (show byt s i ≠ 35 → nbB C J i = true → J i = true from fun _ _ => hJ)
            clear hJ ey
            go_wp2_with fail
            go_roundw
            case rel => exact ⟨i + 1, J, b, by omega, by omega, by go_num, rfl, a4, r4, HJ.out, fun h => ⟨(HB.out h).1, fun j h1 h2 => by
                by_cases e : j = i
                · subst e; exact HK.out
                · exact (HB.out h).2 j h1 (by omega)⟩, HC.out, HS4.out⟩
            case measure => simp [intOf]; omega
          | false =>
            rw [hJ] at k0
            by_cases h35 : y = 35
            · have n35 : (y != 35) = false := by simpa using h35
              have HK := hid (show byt s i ≠ 35 → nbB C J i = true → J i = true from fun h => absurd (ey.trans h35) h)
              clear hJ ey h35
              go_wp2_with fail
              go_roundw
              case rel => exact ⟨i + 1, J, b, by omega, by omega, by go_num, rfl, a4, r4, HJ.out, fun h => ⟨(HB.out h).1, fun j h1 h2 => by
                  by_cases e : j = i
                  · subst e; exact HK.out
                  · exact (HB.out h).2 j h1 (by omega)⟩, HC.out, HS4.out⟩
              case measure => simp [intOf]; omega
            · have n35 : (y != 35) = true := by simpa using h35
              have h35 : byt s i ≠ 35 := fun h => h35 (ey.symm.trans h)
              clear ey
              cases h1 : J (i - 1) with
              | true =>
                rw [h1] at k1
                have HN := hid (show nbB C J i = true by unfold nbB; rw [h1]; rfl)
                have HV := hid (show cntB (upd J i) s.size < cntB I s.size by
                  have h1 := cntB_upd (k := i) hJ (n := s.size) (by omega)
                  cases hb : b with
                  | true => have := HC.out hb; omega
                  | false =>
                    have := cntB_congr (n := s.size) (fun j _ => (HB.out hb).1 j)
                    omega)
                have HR := hid (show ∀ j, upd J i j = true → Rch C s.size s f j from fun j hj => by
                  by_cases e : j = i
                  · subst e; exact rch_step HJ.out.2 i1 i2 h35 HN.out
                  · exact HJ.out.2 j (by simpa [upd, e] using hj))
                have HF := hid (show upd J i f = true by
                  unfold upd
                  split
                  · rfl
                  · exact HJ.out.1)
                have fz := r4.frozen i
                have r5 := r4.set (k := i) (by omega)
                have a5 : Ab (wr.setCell ⟨w.heap.size + 1, i, none⟩ (.bool true)) w.heap.size C R s := by
                  unfold Ab
                  rw [heap_setCell_other _ _ _ _ (show w.heap.size ≠ w.heap.size + 1 by omega)]
                  exact a4
                have HS5 := hid (Fr.setCell HS4.out ⟨w.heap.size + 1, i, none⟩ (.bool true) (.inr (show w.heap.size ≤ w.heap.size + 1 by omega)))
                clear h35
                go_wp2_with fail
                go_roundw
                case rel => exact ⟨i + 1, upd J i, true, by omega, by omega, by go_num, rfl, a5, r5, ⟨HF.out, HR.out⟩, fun h => (by cases h), fun _ => HV.out, HS5.out⟩
                case measure => simp [intOf]; omega
              | false =>
                rw [h1] at k1
                cases h2 : J (i + 1) with
                | true =>
                  rw [h2] at k2
                  have HN := hid (show nbB C J i = true by unfold nbB; rw [h1, h2]; rfl)
                  have HV := hid (show cntB (upd J i) s.size < cntB I s.size by
                    have h1 := cntB_upd (k := i) hJ (n := s.size) (by omega)
                    cases hb : b with
                    | true => have := HC.out hb; omega
                    | false =>
                      have := cntB_congr (n := s.size) (fun j _ => (HB.out hb).1 j)
                      omega)
                  have HR := hid (show ∀ j, upd J i j = true → Rch C s.size s f j from fun j hj => by
                    by_cases e : j = i
                    · subst e; exact rch_step HJ.out.2 i1 i2 h35 HN.out
                    · exact HJ.out.2 j (by simpa [upd, e] using hj))
                  have HF := hid (show upd J i f = true by
                    unfold upd
                    split
                    · rfl
                    · exact HJ.out.1)
                  have fz := r4.frozen i
                  have r5 := r4.set (k := i) (by omega)
                  have a5 : Ab (wr.setCell ⟨w.heap.size + 1, i, none⟩ (.bool true)) w.heap.size C R s := by
                    unfold Ab
                    rw [heap_setCell_other _ _ _ _ (show w.heap.size ≠ w.heap.size + 1 by omega)]
                    exact a4
                  have HS5 := hid (Fr.setCell HS4.out ⟨w.heap.size + 1, i, none⟩ (.bool true) (.inr (show w.heap.size ≤ w.heap.size + 1 by omega)))
                  clear h35
                  go_wp2_with fail
                  go_roundw
                  case rel => exact ⟨i + 1, upd J i, true, by omega, by omega, by go_num, rfl, a5, r5, ⟨HF.out, HR.out⟩, fun h => (by cases h), fun _ => HV.out, HS5.out⟩
                  case measure => simp [intOf]; omega
                | false =>
                  rw [h2] at k2
                  cases h3 : J (i - C) with
                  | true =>
                    rw [h3] at k3
                    have HN := hid (show nbB C J i = true by unfold nbB; rw [h1, h2, h3]; rfl)
                    have HV := hid (show cntB (upd J i) s.size < cntB I s.size by
                      have h1 := cntB_upd (k := i) hJ (n := s.size) (by omega)
                      cases hb : b with
                      | true => have := HC.out hb; omega
                      | false =>
                        have := cntB_congr (n := s.size) (fun j _ => (HB.out hb).1 j)
                        omega)
                    have HR := hid (show ∀ j, upd J i j = true → Rch C s.size s f j from fun j hj => by
                      by_cases e : j = i
                      · subst e; exact rch_step HJ.out.2 i1 i2 h35 HN.out
                      · exact HJ.out.2 j (by simpa [upd, e] using hj))
                    have HF := hid (show upd J i f = true by
                      unfold upd
                      split
                      · rfl
                      · exact HJ.out.1)
                    have fz := r4.frozen i
                    have r5 := r4.set (k := i) (by omega)
                    have a5 : Ab (wr.setCell ⟨w.heap.size + 1, i, none⟩ (.bool true)) w.heap.size C R s := by
                      unfold Ab
                      rw [heap_setCell_other _ _ _ _ (show w.heap.size ≠ w.heap.size + 1 by omega)]
                      exact a4
                    have HS5 := hid (Fr.setCell HS4.out ⟨w.heap.size + 1, i, none⟩ (.bool true) (.inr (show w.heap.size ≤ w.heap.size + 1 by omega)))
                    clear h35
                    go_wp2_with fail
                    go_roundw
                    case rel => exact ⟨i + 1, upd J i, true, by omega, by omega, by go_num, rfl, a5, r5, ⟨HF.out, HR.out⟩, fun h => (by cases h), fun _ => HV.out, HS5.out⟩
                    case measure => simp [intOf]; omega
                  | false =>
                    rw [h3] at k3
                    cases h4 : J (i + C) with
                    | true =>
                      rw [h4] at k4
                      have HN := hid (show nbB C J i = true by unfold nbB; rw [h1, h2, h3, h4]; rfl)
                      have HV := hid (show cntB (upd J i) s.size < cntB I s.size by
                        have h1 := cntB_upd (k := i) hJ (n := s.size) (by omega)
                        cases hb : b with
                        | true => have := HC.out hb; omega
                        | false =>
                          have := cntB_congr (n := s.size) (fun j _ => (HB.out hb).1 j)
                          omega)
                      have HR := hid (show ∀ j, upd J i j = true → Rch C s.size s f j from fun j hj => by
                        by_cases e : j = i
                        · subst e; exact rch_step HJ.out.2 i1 i2 h35 HN.out
                        · exact HJ.out.2 j (by simpa [upd, e] using hj))
                      have HF := hid (show upd J i f = true by
                        unfold upd
                        split
                        · rfl
                        · exact HJ.out.1)
                      have fz := r4.frozen i
                      have r5 := r4.set (k := i) (by omega)
                      have a5 : Ab (wr.setCell ⟨w.heap.size + 1, i, none⟩ (.bool true)) w.heap.size C R s := by
                        unfold Ab
                        rw [heap_setCell_other _ _ _ _ (show w.heap.size ≠ w.heap.size + 1 by omega)]
                        exact a4
                      have HS5 := hid (Fr.setCell HS4.out ⟨w.heap.size + 1, i, none⟩ (.bool true) (.inr (show w.heap.size ≤ w.heap.size + 1 by omega)))
                      clear h35
                      go_wp2_with fail
                      go_roundw
                      case rel => exact ⟨i + 1, upd J i, true, by omega, by omega, by go_num, rfl, a5, r5, ⟨HF.out, HR.out⟩, fun h => (by cases h), fun _ => HV.out, HS5.out⟩
                      case measure => simp [intOf]; omega
                    | false =>
                      rw [h4] at k4
                      have HK := hid (show byt s i ≠ 35 → nbB C J i = true → J i = true from fun _ h => by unfold nbB at h; rw [h1, h2, h3, h4] at h; cases h)
                      clear hJ h1 h2 h3 h4 h35
                      go_wp2_with fail
                      go_roundw
                      case rel => exact ⟨i + 1, J, b, by omega, by omega, by go_num, rfl, a4, r4, HJ.out, fun h => ⟨(HB.out h).1, fun j h1 h2 => by
                          by_cases e : j = i
                          · subst e; exact HK.out
                          · exact (HB.out h).2 j h1 (by omega)⟩, HC.out, HS4.out⟩
                      case measure => simp [intOf]; omega
        · have HE := hid (show (b = false → Shut C s.size s J) from fun h => fun j h1 h2 h3 h4 => (HB.out h).2 j h1 (by omega) h3 h4)
          go_wp2_with fail
          go_roundw
          case rel => exact ⟨J, b, rfl, a4, r4, HJ.out, HE.out, HS4.out⟩
          case measure =>
            have h1 := HM.out
            have h2 := cntW_eq r4 (Nat.le_refl _)
            rw [h2, h1]
            cases b with
            | true => have := HC.out rfl; simp [boolN]; omega
            | false =>
              have := cntB_congr (n := s.size) (fun j _ => (HB.out rfl).1 j)
              simp [boolN]; omega
end Go.Proofs.Ytnoaomocdmkigaa
