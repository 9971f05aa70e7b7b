/- The chapter's example. -/
import Derived.Test.YtakdfckkljbghaaBgl
namespace Go.Proofs.Ytakdfckkljbghaa
open Go.RowKit
set_option maxRecDepth 100000
set_option linter.unusedVariables false

/-- a call on a bag of new memory -/
theorem still_bag {w w1 w2 : World} {p mb : Nat} (h : Still w w1) (hf : Fr (fun k => k = p ∨ k = mb) w1 w2) (hp : w.heap.size ≤ p) (hm : w.heap.size ≤ mb) : Still w w2 :=
  Fr.trans h hf (fun k hk e => by rcases e with e | e <;> omega)
theorem still_map {w w1 w2 : World} {mb : Nat} (h : Still w w1) (hf : Fr (fun k => k = mb) w1 w2) (hm : w.heap.size ≤ mb) : Still w w2 :=
  Fr.trans h hf (fun k hk e => by omega)
set_option maxHeartbeats 4000000 in
theorem awake17_any (w : World) : Calls Try.prog 6 #[] w fun e w' => e = .returned (.bool true) ∧ Still w w' := by
  have HN := hid (bnew_any w)
  go_enter Try.func6, Try.ntmps6
  go_wp2_with fail
  refine HN.out.mono ?_
  rintro e w1 ⟨p, mb, he, hb, hs, hp, hm⟩
  rw [he]
  have HB := hid hb
  have HS := hid hs
  have HP := hid (And.intro hp hm)
  clear he hb hs HN hp hm
  have A1 := Still.alloc w1 (.cells #[.int .u8 97] 5)
  have HC := hid (bsend_any p mb 0 [] 0 1 (some ⟨w1.heap.size, 0, none⟩) 1 1 [97] (by omega) (by omega) _ (HB.out.still A1) (Rd.one w1 97))
  have HS1 := hid (HS.out.trans A1)
  clear A1 HB HS
  go_wp2_with fail
  refine HC.out.mono ?_
  rintro e w2 ⟨he, y1, hy1, _, hb2, hf2⟩
  rw [he]
  have HB := hid hb2
  have HY1 := hid hy1
  have HS := hid (still_bag HS1.out hf2 HP.out.1 HP.out.2)
  clear he hb2 hf2 HC HS1 hy1
  rw [List.nil_append] at HB
  have A1 := Still.alloc w2 (.cells #[.int .u8 98] 5)
  have HC := hid (bsend_any p mb (0 + 1) [y1] 1 0 (some ⟨w2.heap.size, 0, none⟩) 1 1 [98] (by omega) (by omega) _ (HB.out.still A1) (Rd.one w2 98))
  have HS1 := hid (HS.out.trans A1)
  clear A1 HB HS
  go_wp2_with fail
  refine HC.out.mono ?_
  rintro e w3 ⟨he, y2, hy2, _, hb3, hf3⟩
  rw [he]
  have HB := hid hb3
  have HY2 := hid hy2
  have HS := hid (still_bag HS1.out hf3 HP.out.1 HP.out.2)
  clear he hb3 hf3 HC HS1 hy2
  have n1 : y1.no = 1 := by have := congrArg Prod.fst HY1.out; exact this
  have n2 : y2.no = 2 := by have := congrArg Prod.fst HY2.out; exact this
  have HN12 := hid (And.intro n1 n2)
  have HC := hid (bdouble_yes p mb (0 + 1 + 1) ([y1] ++ [y2]) 1 y1 (by omega) (by omega) w3 HB.out (by simp [fndP, n1]))
  clear HB n1 n2
  go_wp2_with fail
  refine HC.out.mono ?_
  rintro e w4 ⟨he, hb4, hf4⟩
  rw [he]
  have HB := hid hb4
  have HS4 := hid (still_bag HS.out hf4 HP.out.1 HP.out.2)
  clear he hb4 hf4 HC HS
  have HC := hid (bdeliver_yes p mb (0 + 1 + 1 + 1) ([y1] ++ [y2] ++ [noP y1 (0 + 1 + 1 + 1)]) 3 (noP y1 (0 + 1 + 1 + 1)) (by omega) w4 HB.out (by simp [fndP, noP, HN12.out.1, HN12.out.2]))
  clear HB
  go_wp2_with fail
  refine HC.out.mono ?_
  rintro e w5 ⟨y, he, hn5, hb5, hf5⟩
  rw [he]
  have e5 : delP ([y1] ++ [y2] ++ [noP y1 (0 + 1 + 1 + 1)]) 3 = [y1, y2] := by simp [delP, noP, HN12.out.1, HN12.out.2]
  rw [e5] at hb5
  have hy5 : abP y = (3, 0, 1, [97]) := by
    rw [hn5.ab]
    have h1 := HY1.out
    simp only [abP, Prod.mk.injEq] at h1
    simp [abP, noP, h1.2.1, h1.2.2.1, h1.2.2.2]
  have HY := hid hy5
  have HS5 := hid (still_map HS4.out hf5 HP.out.2)
  obtain ⟨b, eb⟩ : ∃ b, w5.heap.size = b := ⟨_, rfl⟩
  obtain ⟨W6, eW6⟩ : ∃ W, newPl w5 y = W := ⟨_, rfl⟩
  have A6 : Still w5 W6 := by rw [← eW6]; exact Still.alloc _ _
  have HP6 : Hid (Plb W6 b y) := hid (by rw [← eW6, ← eb]; exact newPl_b w5 y)
  have HB6 := hid (hb5.still A6)
  have HQ6 := hid (hn5.q.still A6)
  have HS6 := hid (HS5.out.trans A6)
  have HC := hid (bdrop_any p mb (0 + 1 + 1 + 1) [y1, y2] 1 (by omega) W6 HB6.out)
  rw [show (if (fndP [y1, y2] 1).isSome then (0 : Int) else 170) = 0 by simp [fndP, HN12.out.1], show delP [y1, y2] 1 = [y2] by simp [delP, HN12.out.1, HN12.out.2]] at HC
  simp only [newPl] at eW6
  clear he hn5 hb5 hf5 e5 hy5 HS4 HS5 A6
  go_wp2_with fail
  refine HC.out.mono ?_
  rintro e w7 ⟨he, hb7, hf7⟩
  rw [he]
  clear eW6 eb
  have HB7 := hid hb7
  have HS7 := hid (still_map HS6.out hf7 HP.out.2)
  have hmm := HB6.out.nbt mb (.inr rfl)
  have HP7 : Hid (Plb w7 b y) := hid (HP6.out.keep hf7 (fun e => by
    obtain ⟨es, c, hb', _⟩ := HB6.out.mp
    rw [← e, HP6.out] at hb'
    cases hb'))
  have HQ7 := hid (HQ6.out.keep hf7 (fun j hj => by subst hj; exact hmm))
  have HC2 := hid (bdeliver_no p mb (0 + 1 + 1 + 1) [y2] 1 (by omega) w7 HB7.out (by simp [fndP, HN12.out.2]))
  clear he hb7 hf7 HC hmm HB6 HP6 HQ6 HS6
  go_wp2_with fail
  refine HC2.out.mono ?_
  rintro e w8 ⟨he, hs8⟩
  rw [he]
  have A9 := Still.alloc w8 (.cells (pls zPl) 43)
  have HS8 := hid (hs8.trans A9)
  clear he hs8 A9
  go_upto_region 10 with fail
  obtain ⟨W9, eW9⟩ : ∃ W, w8.alloc (.cells #[.int .i64 zPl.no, .int .i64 zPl.fr, .int .i64 zPl.td, .slice zPl.ao zPl.n zPl.cap] 43) = W := ⟨_, rfl⟩
  rw [eW9]
  have HS9 : Hid (Still w7 W9) := hid (by rw [← eW9]; exact HS8.out)
  clear eW9 HS8
  have HP9 := hid (HP7.out.still HS9.out)
  have HQ9 := hid (HQ7.out.still HS9.out)
  obtain ⟨c0, c1, c2, c3, cf⟩ := HP9.out.cells
  have A10 := Still.alloc W9 (.cells #[.int .u8 97] 5)
  have HC3 := hid (rsame_t y ⟨3, 0, 1, some ⟨W9.heap.size, 0, none⟩, 1, 1, [97]⟩ (by rw [HY.out]; rfl) _ (HQ9.out.still A10).ow.rd (Rd.one W9 97))
  have HS10 := hid ((HS7.out.trans HS9.out).trans A10)
  have HB10 := hid ((HB7.out.still HS9.out).still A10)
  clear A10 HC2 HP7 HQ7 HB7 HS7 HS9
  go_wp2_with fail
  refine HC3.out.mono ?_
  rintro e w11 ⟨he, hs11⟩
  rw [he]
  have HC4 := hid (blen_any p mb (0 + 1 + 1 + 1) [y2] w11 (HB10.out.still hs11))
  have HS11 := hid (HS10.out.trans hs11)
  clear he hs11 HC3 c0 c1 c2 c3 cf HB10 HS10 HP9 HQ9
  go_wp2_with fail
  refine HC4.out.mono ?_
  rintro e w12 ⟨he, hw⟩
  rw [he, hw]
  clear he hw w12 HC4
  go_wp2_with fail
  go_ret
  exact ⟨by simp, HS11.out⟩
end Go.Proofs.Ytakdfckkljbghaa
