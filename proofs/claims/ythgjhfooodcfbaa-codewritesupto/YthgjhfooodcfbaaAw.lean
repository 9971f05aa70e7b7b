/- awake: the chapter's first examples. -/
import Derived.Test.YthgjhfooodcfbaaRt
import Derived.Test.YthgjhfooodcfbaaSp
namespace Go.Proofs.Ythgjhfooodcfbaa
open Go.RowKit

theorem form300 : Cp.form 300 = [172, 2] := by rw [Cp.form_great (by omega), Cp.form_small (by omega)]; rfl
theorem uint56 : Cp.uintS [5, 6] 0 = (5, [6], 0) := rfl
/-- what a writer's taking out leaves alone -/
theorem laid_rd {w w' : World} {p : Nat} {ao so : Option Addr} {room : Int} {bs x cs : List UInt8} {e : Int} {n cap : Nat} (h : Laid w w' p ao room bs e x) (hr : Rd w so n cap cs) (hs : ∀ a, so = some a → 0 < n → ¬ Wf p ao a.block) : Rd w' so n cap cs := by
  obtain ⟨_, _, _, _, hf, _⟩ := h
  exact hr.kept hf hs
theorem still_later {w w' : World} (h : Still w w') : w.heap.size ≤ w'.heap.size := h.size

set_option maxHeartbeats 1000000 in
set_option maxRecDepth 100000 in
theorem awake_any (w : World) : Calls Try.prog 7 #[] w fun r w' => r = .returned (.bool true) ∧ Still w w' := by
  go_enter Try.func7, Try.ntmps7
  go_wp2_with fail
  refine (newWriter_any 3 (by omega) (by omega) w).mono ?_
  rintro r w0 ⟨rfl, hw0, hst0⟩
  rw [show max (3 : Int) 0 = 3 by omega] at hw0
  have hc := wuint_any w.heap.size none 0 0 3 [] 0 300 (by omega) w0 hw0 (by omega) (by omega) (by omega)
  rw [form300, show ((300 : Nat) : Int) = 300 from rfl] at hc
  have HC := hid hc
  clear hc
  go_wp2_with fail
  refine HC.out.mono ?_
  rintro r w1 ⟨rfl, hl1⟩
  obtain ⟨ao1, n1, cap1, hw1, hf1, hla1⟩ := hl1
  have e1 : layS 3 [] 0 [172, 2] = ([172, 2], 0) := rfl
  rw [e1] at hw1
  obtain rfl : n1 = 2 := hw1.own.rd.len.symm
  have hst1 : Still w w1 := hst0.trans' hf1 (by rintro k hk (rfl | ⟨a, h, _⟩); omega; cases h)
  clear e1
  go_wp2_with fail
  refine (wdone_any w.heap.size ao1 2 cap1 3 _ 0 w1 hw1 (by omega)).mono ?_
  rintro r w2 ⟨ao2, cap2, rfl, ho2, hst2, hao2⟩
  have hw2 := hw1.still hst2
  have hc := wbyte_any w.heap.size ao1 2 cap1 3 _ 0 7 7 rfl w2 hw2 (by omega) (by omega) (by omega)
  have HC2 := hid hc
  clear hc
  go_wp2_with fail
  refine HC2.out.mono ?_
  rintro r w3 ⟨rfl, hl3⟩
  have hp1 := hw1.lt
  have hA2 := ho2.lt
  have hn2 : ∀ a, ao2 = some a → 0 < 2 → ¬ Wf w.heap.size ao1 a.block := fun a ha _ hf => by
    have h1 := hao2 a ha
    have h2 := hw1.wf_lt _ hf
    omega
  have hr3 := laid_rd hl3 ho2.rd hn2
  obtain ⟨ao3, n3, cap3, hw3, hf3, hla3⟩ := hl3
  have e3 : layS 3 [172, 2] 0 [7] = ([172, 2, 7], 0) := rfl
  rw [e3] at hw3
  obtain rfl : n3 = 3 := hw3.own.rd.len.symm
  clear e3
  have hs23 := hf3.size
  go_wp2_with fail
  refine (wdone_any w.heap.size ao3 3 cap3 3 _ 0 w3 hw3 (by omega)).mono ?_
  rintro r w4 ⟨ao4, cap4, rfl, ho4, hst4, hao4⟩
  have hw4 := hw3.still hst4
  have hc := wbyte_any w.heap.size ao3 3 cap3 3 _ 0 1 1 rfl w4 hw4 (by omega) (by omega) (by omega)
  have HC3 := hid hc
  clear hc
  go_wp2_with fail
  refine HC3.out.mono ?_
  rintro r w5 ⟨rfl, hl5⟩
  have hn4 : ∀ a, ao2 = some a → 0 < 2 → ¬ Wf w.heap.size ao3 a.block := fun a ha _ hf => by
    have h1 := hao2 a ha
    have h2 := hA2 a ha
    rcases hf with hf | ⟨b, hb, hf⟩
    · omega
    · rcases hla3 b hb with ⟨c, h3, h4⟩ | h3
      · have := hw1.own.lt c h3
        omega
      · omega
  have hn5 : ∀ a, ao4 = some a → 0 < 3 → ¬ Wf w.heap.size ao3 a.block := fun a ha _ hf => by
    have h1 := hao4 a ha
    have h2 := hw3.wf_lt _ hf
    omega
  have hr5 := laid_rd hl5 (hr3.still hst4) hn4
  have hq5 := laid_rd hl5 ho4.rd hn5
  obtain ⟨ao5, n5, cap5, hw5, hf5, hla5⟩ := hl5
  have e5 : layS 3 [172, 2, 7] 0 [1] = ([], 22) := rfl
  rw [e5] at hw5
  obtain rfl : n5 = 0 := hw5.own.rd.len.symm
  clear e5
  go_wp2_with fail
  refine (wdone_any w.heap.size ao5 0 cap5 3 _ 22 w5 hw5 (by omega)).mono ?_
  rintro r w6 ⟨ao6, cap6, rfl, ho6, hst6, hao6⟩
  have ho7 : Ow 5 (w6.alloc (.cells #[.int .u8 5, .int .u8 6] 5)) (some ⟨w6.heap.size, 0, none⟩) 2 2 [5, 6] :=
    Ow.fresh w6 _ 2 2 [5, 6] rfl (Nat.le_refl _) (by unfold maxLen; omega) rfl (fun j hj => by
      rcases (show j = 0 ∨ j = 1 by simp at hj; omega) with rfl | rfl
      · rfl
      · rfl)
  have HC7 := hid (newReader_any _ 2 2 [5, 6] _ ho7.rd (by omega))
  go_wp2_with fail
  refine HC7.out.mono ?_
  rintro r w8 ⟨rp, ao8, cap8, rfl, hrp, hr8, hst8, hao8⟩
  have hc := uint_any rp ao8 2 cap8 [5, 6] 0 w8 hr8
  rw [uint56] at hc
  have HC8 := hid hc
  clear hc
  go_wp2_with fail
  refine HC8.out.mono ?_
  rintro r w9 ⟨rfl, ht9⟩
  have hst68 : Still w6 w8 := (Still.alloc w6 _).trans hst8
  have hrlt : w6.heap.size + 1 ≤ rp := by simpa using hrp
  have hs34 := hst4.size
  have hs45 := hf5.size
  have hs56 := hst6.size
  have hs12 := hst2.size
  have hr9 := took_rd ht9 ((hr5.still hst6).still hst68) (fun a ha _ => by have := hA2 a ha; omega)
  have hA4 := ho4.lt
  have hq9 := took_rd ht9 ((hq5.still hst6).still hst68) (fun a ha _ => by have := hA4 a ha; omega)
  obtain ⟨ao9, n9, cap9, hr9', hf9, _⟩ := ht9
  obtain rfl : n9 = 1 := hr9'.rd.len.symm
  have hfin : Still w w9 := by
    have f1 : Still w w3 := (hst1.trans hst2).trans' hf3 (by
      rintro k hk (rfl | ⟨a, h, rfl⟩)
      · omega
      · rcases hla1 a h with ⟨b, h2, _⟩ | h2
        · cases h2
        · have := hst0.size; omega)
    have f2 : Still w w5 := (f1.trans hst4).trans' hf5 (by
      rintro k hk (rfl | ⟨a, h, rfl⟩)
      · omega
      · rcases hla3 a h with ⟨b, h2, h3⟩ | h2
        · rcases hla1 b h2 with ⟨c, h4, _⟩ | h4
          · cases h4
          · have := hst0.size; omega
        · have := hst1.size; omega)
    have := f2.size
    exact ((f2.trans hst6).trans hst68).trans' hf9 (by rintro k hk rfl; omega)
  have HFIN := hid hfin
  clear hfin
  go_wp2_with fail
  refine (left_any rp ao9 1 cap9 _ _ w9 hr9').mono ?_
  rintro r w10 ⟨rfl, rfl⟩
  go_wp2_with fail
  refine (rdone_any rp ao9 1 cap9 _ _ w10 hr9').mono ?_
  rintro r w11 ⟨rfl, rfl⟩
  have s1 := run_string (P := Try.prog) w11 26 5 9 Try.underlying26 Try.underlying5 Try.underlying9 hr9
  have s2 := run_string (P := Try.prog) w11 26 5 9 Try.underlying26 Try.underlying5 Try.underlying9 hq9
  go_wp2
  go_ret
  exact ⟨rfl, HFIN.out⟩
end Go.Proofs.Ythgjhfooodcfbaa
