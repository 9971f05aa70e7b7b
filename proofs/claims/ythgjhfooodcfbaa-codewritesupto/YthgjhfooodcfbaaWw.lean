/- CodeWrites: the walk. -/
import Derived.Test.YthgjhfooodcfbaaPz
import Derived.Test.YthgjhfooodcfbaaAw
namespace Go.Proofs.Ythgjhfooodcfbaa
open Go.RowKit

theorem info_pair : (Try.prog.info? 35).map (fun i => (i.zero, i.size, i.bytes)) = some (some (.agg #[.pointer none, .pointer none]), 2, 16) := by kernel_rfl

/-- A pair is added to the list. -/
theorem roww_add {W w1 w2 : World} {lo : Option Addr} {cap a b m : Nat} {cs : List (Nat × Nat)} {O : Nat → Nat → Prop} {v' : Value} (hown : w2.ownsRow W.heap.size 35 2 v' (cs.length + 1) (ptrs cs ++ [.pointer (some ⟨a, 0, none⟩), .pointer (some ⟨b, 0, none⟩)]))
    (hg : w1.grownBy w2 (Value.ownBlock (.slice lo cs.length cap))) (hr : Row 35 W.heap.size w1 lo cap cs) (hst : Still W w1) (hi : Iw W w1 (cs ++ [(a, b)]) O m) :
    (∃ lo' cap', v' = .slice lo' (cs ++ [(a, b)]).length cap' ∧ Row 35 W.heap.size w2 lo' cap' (cs ++ [(a, b)])) ∧ Still W w2 ∧ Iw W w2 (cs ++ [(a, b)]) O m := by
  rw [← ptrs_one cs (a, b)] at hown
  refine ⟨Row.shape hown (by simp), ?_, ?_⟩
  · refine ⟨hg.os.trans hst.os, hg.tape.trans hst.tape, hg.output.trans hst.output, Nat.le_trans hst.size hg.size, fun k hk _ => ?_⟩
    rw [hg.block k (Nat.lt_of_lt_of_le hk hst.size) ?_]
    · exact hst.block k hk fun e => e
    · rcases hr.2 with ⟨h1, _⟩ | ⟨g, cap', cur, hv, hb, _⟩
      · rw [h1]; simp [Value.ownBlock]
      · rw [hv]; simp [Value.ownBlock]; omega
  · rcases hr.2 with ⟨h1, _⟩ | ⟨g, cap', cur, hv, hb, hgg, _⟩
    · refine hi.still ⟨hg.os, hg.tape, hg.output, hg.size, fun k hk _ => hg.block k hk ?_⟩
      rw [h1]; simp [Value.ownBlock]
    · refine hi.kept (F := fun k => k = g) ⟨hg.os, hg.tape, hg.output, hg.size, fun k hk hn => hg.block k hk ?_⟩ ?_
      · rw [hv]
        simp only [Value.ownBlock]
        intro he
        exact hn (Option.some.inj he)
      · rintro k hk ⟨c2, t, fr, h1, h2⟩ rfl
        rw [hgg] at h1
        simp at h1
        exact h2 h1.2.1.symm
/-- One pair has written: all stands. -/
theorem wrote_all {W w1 w3 : World} {lo : Option Addr} {lc j m m' : Nat} {cs : List (Nat × Nat)} {O : Nat → Nat → Prop} {room : Int} (hstW : Still W w1) (hinv1 : Iw W w1 cs O m) (hrow1 : Row 35 W.heap.size w1 lo lc cs) (hj : j < cs.length) (hm : m ≤ m') (hr : WroteS w1 w3 (O j) cs[j].1 cs[j].2 room m') :
    Row 35 W.heap.size w3 lo lc cs ∧ Still W w3 ∧ ∃ O', Iw W w3 cs O' m' := by
  have hi := hinv1.wrote hj hm hr hstW.size
  obtain ⟨_, _, _, hf⟩ := hr
  refine ⟨hrow1.kept hf (fun g cur hg hk => ?_), hstW.trans' hf (fun k hk hk2 => by have := (hinv1.lo j k hj hk2).1; omega), hi⟩
  obtain ⟨c2, t, fr, h1, h2⟩ := (hinv1.lo j g hj hk).2.2
  rw [hg] at h1
  simp at h1
  exact h2 h1.2.1.symm
theorem pairw_cells (w5 : World) (t : TypeId) (a b : Value) : ∀ (j : Nat) u, [a, b][j]? = some u → (w5.alloc (.cells #[a, b] t)).cell? ((⟨w5.heap.size, 0, none⟩ : Addr).add j) = some u := by
  intro j u hu
  rw [add_plain, cell_of_row _ _ _ _ _ _ (heap_alloc_new w5 _), Nat.zero_add]
  simpa using hu
/-- The last call on each. -/
def doneW : Op := ⟨5, 0, 0, 0, none, 0, 0, [], 0⟩
theorem doneW_ok (w : World) : doneW.ok w := ⟨by decide, by decide, by decide, by decide, by decide, by decide, by decide, by decide, by decide, Rd.empty w⟩

set_option maxHeartbeats 4000000 in
set_option maxRecDepth 100000 in
theorem writes_walk (so : Option Addr) (n cap : Nat) (ops : List Op) (W : World) (hS : Script W so ops) (hn : ops.length = n) (htot : 2 * mk ops n + 200 ≤ 1099511627776) :
    Calls Try.prog 3 #[.slice so n cap] W fun r w' => r = .returned (.bool true) ∧ Still W w' := by
  obtain ⟨ic, hic, hzc, hsc, hbc⟩ := info_parts info_pair
  have HNN := hid hn
  have hmn := mk_le ops n (by omega)
  have hn20 : 20 * n ≤ mk ops n := hmn.2
  clear hmn
  go_enter Try.func3, Try.ntmps3
  go_wp2_with fail
  refine (awake_any W).mono ?_
  rintro r w0 ⟨rfl, hst0⟩
  go_wp2
  go_loopw [4, 5] (fun l i wr => ∃ (k : Nat) (cs : List (Nat × Nat)) (lo : Option Addr) (lc : Nat) (O : Nat → Nat → Prop), k ≤ n ∧ cs.length ≤ k ∧ i = .int .i64 (k : Int) ∧ l = .slice lo cs.length lc ∧ Row 35 W.heap.size wr lo lc cs ∧ Still W wr ∧ Iw W wr cs O (mk ops k)) (fun _ i _ => n - (intOf i).toNat)
  case atStart => exact ⟨0, [], none, 0, _, Nat.zero_le _, Nat.zero_le _, rfl, rfl, World.ownsRow_nil _ _ _ _, hst0, Iw.nil _ _ _⟩
  case round =>
    obtain ⟨k, cs, lo, lc, O, hk, hck, rfl, rfl, hrow, hst, hinv⟩ := hrel
    clear hn
    by_cases hlt : k < n
    · have hkl : k < ops.length := by have := HNN.out; omega
      obtain ⟨sb, sof, hso, s0, s1, s2, s3, s4, s5⟩ := (hS.still hst).at hkl
      subst hso
      have hokW := hS.ok ops[k] (List.getElem_mem hkl)
      have hmk := mk_succ ops k hkl
      have hmk1 := (mk_le ops (k + 1) (by omega)).1
      rw [HNN.out] at hmk1
      obtain ⟨op, hop⟩ : ∃ op, op = ops[k] := ⟨_, rfl⟩
      rw [← hop] at s0 s1 s2 s3 s4 s5 hokW hmk
      clear hop
      have hst1 := Still.alloc wr (.cells op.val 28)
      have hbo : (wr.alloc (.cells op.val 28)).heap[wr.heap.size]? = some (.cells op.val 28 (0, 0)) := heap_alloc_new wr _
      have hstW := hst.trans hst1
      have hok1 := hokW.still hstW
      have hinv1 := hinv.still hst1
      have hrow1 := hrow.still hst1
      have hp0 := Cp.pick_lo op.kind (n := 6) (by omega)
      have hp6 := Cp.pick_hi op.kind (n := 6) (by omega)
      have hpk := pick_any op.kind 6 hokW.k1 hokW.k2 (by omega) (by omega)
      obtain ⟨q, hq⟩ : ∃ q, q = Cp.pick op.kind 6 := ⟨_, rfl⟩
      rw [← hq] at hp0 hp6
      simp only [← hq] at hpk
      have HP := hid hpk
      clear hpk hq
      obtain ⟨W1, hW1⟩ : ∃ W1, W1 = wr.alloc (.cells op.val 28) := ⟨_, rfl⟩
      rw [← hW1] at hst1 hbo hstW hok1 hinv1 hrow1
      have HW1 := hid hW1
      clear hW1
      obtain ⟨kind, which, on, oi, oa, ol, oc, ob, most⟩ := op
      dsimp only [Op.val] at s0 s1 s2 s3 s4 s5 hbo HP HW1 hmk
      obtain ⟨q0, q1, q2, q3, q4, q5⟩ := six' hbo
      have hm1 := hokW.m1
      have hm2 := hokW.m2
      dsimp only at hm1 hm2
      obtain ⟨M0, hM0⟩ : ∃ M0, M0 = mk ops k := ⟨_, rfl⟩
      obtain ⟨M1, hM1⟩ : ∃ M1, M1 = mk ops (k + 1) := ⟨_, rfl⟩
      rw [← hM0, ← hM1] at hmk
      rw [← hM1] at hmk1
      rw [← hM0] at hinv1
      have HM1 := hid hM1
      have HMK := hid hmk
      have hMM : M0 + ol + 20 ≤ M1 := by omega
      clear hM0 hM1 hmk
      by_cases hnew : q < 1 ∨ cs.length < 1
      · have hguard : ((q == 0) = true) ∨ ((q == 0) = false ∧ ((cs.length : Int) == 0) = true) := by
          by_cases h : q < 1
          · left; rw [beq_iff_eq]; omega
          · right
            exact ⟨by rw [beq_eq_false_iff_ne]; omega, by rw [beq_iff_eq]; omega⟩
        rcases hguard with hg1 | ⟨hg1, hg2⟩
        all_goals
          go_wp2_with fail
          rw [← HW1.out]
          refine (HP.out _).mono ?_
          rintro r w1 ⟨rfl, rfl⟩
          go_wp2_with fail
          refine (newWriter_any most hm1 hm2 w1).mono ?_
          rintro r w2 ⟨rfl, hx2, hst2⟩
          have hbo2 := Fr.kept_still hst2 hbo
          obtain ⟨r0, r1, r2, r3, r4, r5⟩ := six' hbo2
          go_wp2_with fail
          refine (newWriter_y most hm1 hm2 w2).mono ?_
          rintro r w3 ⟨rfl, hy3, hst3⟩
          have hN : ∃ O', Row 35 W.heap.size (w3.alloc (.cells #[.pointer (some ⟨w1.heap.size, 0, none⟩), .pointer (some ⟨w2.heap.size, 0, none⟩)] 35)) lo lc cs ∧ Still W (w3.alloc (.cells #[.pointer (some ⟨w1.heap.size, 0, none⟩), .pointer (some ⟨w2.heap.size, 0, none⟩)] 35)) ∧ Iw W (w3.alloc (.cells #[.pointer (some ⟨w1.heap.size, 0, none⟩), .pointer (some ⟨w2.heap.size, 0, none⟩)] 35)) (cs ++ [(w1.heap.size, w2.heap.size)]) O' M1 := by
            have hs14 := (hst2.trans hst3).trans (Still.alloc w3 (.cells #[.pointer (some ⟨w1.heap.size, 0, none⟩), .pointer (some ⟨w2.heap.size, 0, none⟩)] 35))
            obtain ⟨O', hO'⟩ := Iw.add (wr := w1) ((hinv1.still hs14).more (m' := M1) (by omega)) (fun i k hi hk => (hinv1.lo i k hi hk).2.1) (hx2.still (hst3.trans (Still.alloc w3 _))) (hy3.still (Still.alloc w3 _)) (by omega) (by omega) (Nat.le_refl _) hst2.size hstW.size
            exact ⟨O', hrow1.still hs14, hstW.trans hs14, hO'⟩
          obtain ⟨O', hN⟩ := hN
          have HN := hid hN
          clear hN
          go_wp2_with (at_builtin; refine wpList_append_own _ rfl _ _ 24 rfl W.heap.size 35 ic (.agg #[.pointer none, .pointer none]) 2 16 Try.underlying24 hic hzc hsc hbc rfl (by decide) (.slice lo cs.length lc) cs.length (ptrs cs) rfl HN.out.1 ⟨w3.heap.size, 0, none⟩ 1 1 [.pointer (some ⟨w1.heap.size, 0, none⟩), .pointer (some ⟨w2.heap.size, 0, none⟩)] rfl rfl (pairw_cells w3 _ _ _) (by intro u hu; simp at hu; rcases hu with rfl | rfl <;> rfl) (by unfold maxLen; omega) (by omega) HN.out.2.1.size ?_; intro v' w6 hown' hgrow _; obtain ⟨⟨lo', lc', hv', hrow'⟩, hst', hinv'⟩ := roww_add hown' hgrow HN.out.1 HN.out.2.1 HN.out.2.2; subst hv')
          go_roundw
          case rel => exact ⟨k + 1, cs ++ [(w1.heap.size, w2.heap.size)], lo', lc', O', by omega, by simp; omega, by go_num, by simp, hrow', hst', by rw [← HM1.out]; exact hinv'⟩
          case measure => simp [intOf]; omega
      · have hcl : 0 < cs.length := by omega
        have hg1 : (q == 0) = false := by rw [beq_eq_false_iff_ne]; omega
        have hg2 : ((cs.length : Int) == 0) = false := by rw [beq_eq_false_iff_ne]; omega
        have hj0 := Cp.pick_lo which (n := (cs.length : Int)) (by omega)
        have hj1 := Cp.pick_hi which (n := (cs.length : Int)) (by omega)
        have hpw := pick_any which (cs.length : Int) hokW.w1 hokW.w2 (by omega) (by omega)
        obtain ⟨j, hj⟩ := Int.eq_ofNat_of_zero_le hj0
        rw [hj] at hj1
        simp only [hj] at hpw
        have hjl : j < cs.length := by omega
        obtain ⟨g, hlo, hgb, hlc, ⟨cur, hgc⟩, hcells⟩ := hrow1.some hcl
        subst hlo
        obtain ⟨x0, x1⟩ := hcells j hjl
        obtain ⟨room, bs, e, hPw⟩ := hinv1.each j hjl
        have HPW := hid hpw
        clear hpw hj hj0 hj1 hcells
        obtain ⟨xp, hxp⟩ : ∃ xp, xp = cs[j].1 := ⟨_, rfl⟩
        obtain ⟨yp, hyp⟩ : ∃ yp, yp = cs[j].2 := ⟨_, rfl⟩
        rw [← hxp] at x0 hPw
        rw [← hyp] at x1 hPw
        have HXP := hid hxp
        have HYP := hid hyp
        clear hxp hyp
        have hRA := wrote_any (O j) xp yp room bs e M0 ⟨kind, which, on, oi, oa, ol, oc, ob, most⟩ (W1.drewN 1) (hPw.still (Still.drewN W1 1)) (hok1.still (Still.drewN W1 1)) (fun k hk => (hinv1.lo j k hjl hk).2.1) (fun a ha hl hk => by
          have h1 := hokW.rd.lt hl a ha
          have h2 := (hinv1.lo j _ hjl hk).1
          omega) (by dsimp only; omega)
        dsimp only [Op.val] at hRA
        have HRA := hid hRA
        clear hRA
        go_wp2_with fail
        rw [← HW1.out]
        refine (HP.out _).mono ?_
        rintro r w1 ⟨rfl, rfl⟩
        go_wp2
        go_region_with (first | (go_at_call 8; refine (HPW.out _).mono ?_; rintro r w2 ⟨rfl, rfl⟩) | (go_at_call 11; refine HRA.out.mono ?_; rintro r w3 ⟨rfl, hRS⟩))
        all_goals
          have hRS' := (WroteS.from (Still.drewN w1 1) hRS).more (m' := M1) (by omega)
          rw [HXP.out, HYP.out] at hRS'
          obtain ⟨hrow', hst', O', hinv'⟩ := wrote_all hstW hinv1 hrow1 hjl (by omega) hRS'
          go_wp2
          go_roundw
          case rel => exact ⟨k + 1, cs, _, lc, O', by omega, by omega, by go_num, rfl, hrow', hst', by rw [← HM1.out]; exact hinv'⟩
          case measure => simp [intOf]; omega
    · obtain ⟨M, hM⟩ : ∃ M, M = mk ops k := ⟨_, rfl⟩
      have hkn : k = n := by omega
      have hMn : 2 * M + 200 ≤ 1099511627776 ∧ 20 * n ≤ M := by rw [hM, hkn]; exact ⟨htot, hn20⟩
      rw [← hM] at hinv
      clear hM hkn
      go_wp2
      go_loopw [9] (fun i wr => ∃ (j : Nat) (O : Nat → Nat → Prop), j ≤ cs.length ∧ i = .int .i64 (j : Int) ∧ Row 35 W.heap.size wr lo lc cs ∧ Still W wr ∧ Iw W wr cs O (M + 20 * j)) (fun i _ => cs.length - (intOf i).toNat)
      case atStart => exact ⟨0, O, Nat.zero_le _, rfl, hrow, hst, hinv⟩
      case round =>
        clear hrow hst hinv
        obtain ⟨j, O, hj, rfl, hrow, hst, hinv⟩ := hrel
        by_cases hjl : j < cs.length
        · obtain ⟨g, hlo, hgb, hlc, ⟨cur, hgc⟩, hcells⟩ := hrow.some (by omega)
          subst hlo
          obtain ⟨x0, x1⟩ := hcells j hjl
          obtain ⟨room, bs, e, hPw⟩ := hinv.each j hjl
          clear hcells
          obtain ⟨xp, hxp⟩ : ∃ xp, xp = cs[j].1 := ⟨_, rfl⟩
          obtain ⟨yp, hyp⟩ : ∃ yp, yp = cs[j].2 := ⟨_, rfl⟩
          rw [← hxp] at x0 hPw
          rw [← hyp] at x1 hPw
          have HXP := hid hxp
          have HYP := hid hyp
          clear hxp hyp
          have hRA := wrote_any (O j) xp yp room bs e (M + 20 * j) doneW wr hPw (doneW_ok wr) (fun k hk => (hinv.lo j k hjl hk).2.1) (fun a ha hl hk => by cases ha) (by show M + 20 * j + 0 + 40 ≤ _; omega)
          have HRA : Hid (Calls Try.prog 11 #[.agg #[.pointer (some ⟨xp, 0, none⟩), .pointer (some ⟨yp, 0, none⟩)], .agg #[.int .i64 5, .int .i64 0, .int .u64 0, .int .i64 0, .slice none 0 0, .int .i64 0]] wr fun r w' => r = .returned (.bool true) ∧ WroteS wr w' (O j) xp yp room (M + 20 * j + 0 + 20)) := hRA
          clear hRA
          go_wp2_with fail
          refine HRA.out.mono ?_
          rintro r w3 ⟨rfl, hRS⟩
          rw [HXP.out, HYP.out] at hRS
          obtain ⟨hrow', hst', O', hinv'⟩ := wrote_all hst hinv hrow hjl (by omega) hRS
          go_wp2
          go_roundw
          case rel => exact ⟨j + 1, O', by omega, by go_num, hrow', hst', by rw [show M + 20 * (j + 1) = M + 20 * j + 0 + 20 by omega]; exact hinv'⟩
          case measure => simp [intOf]; omega
        · go_wp2
          go_ret
          exact ⟨rfl, hst⟩
end Go.Proofs.Ythgjhfooodcfbaa
