/- CodeReads: the walk. -/
import Derived.Test.YthgjhfooodcfbaaPe
import Derived.Test.YthgjhfooodcfbaaAw
namespace Go.Proofs.Ythgjhfooodcfbaa
open Go.RowKit

theorem info_couple : (Try.prog.info? 46).map (fun i => (i.zero, i.size, i.bytes)) = some (some (.agg #[.pointer none, .pointer none]), 2, 16) := by kernel_rfl

/-- A couple is added to the list. -/
theorem row_add {W w1 w2 : World} {t : TypeId} {lo : Option Addr} {cap a b : Nat} {cs : List (Nat × Nat)} {v' : Value} (hown : w2.ownsRow W.heap.size t 2 v' (cs.length + 1) (ptrs cs ++ [.pointer (some ⟨a, 0, none⟩), .pointer (some ⟨b, 0, none⟩)]))
    (hg : w1.grownBy w2 (Value.ownBlock (.slice lo cs.length cap))) (hr : Row t W.heap.size w1 lo cap cs) (hst : Still W w1) (hi : Inv W w1 (cs ++ [(a, b)])) (t1 : t ≠ 5) (t2 : t ≠ 70) (t3 : t ≠ 72) :
    (∃ lo' cap', v' = .slice lo' (cs ++ [(a, b)]).length cap' ∧ Row t W.heap.size w2 lo' cap' (cs ++ [(a, b)])) ∧ Still W w2 ∧ Inv W w2 (cs ++ [(a, b)]) := by
  rw [← ptrs_one cs (a, b)] at hown
  refine ⟨Row.shape hown (by simp), ?_, ?_⟩
  · refine ⟨hg.os.trans hst.os, hg.tape.trans hst.tape, hg.output.trans hst.output, Nat.le_trans hst.size hg.size, fun k hk _ => ?_⟩
    rw [hg.block k (Nat.lt_of_lt_of_le hk hst.size) ?_]
    · exact hst.block k hk fun e => e
    · rcases hr.2 with ⟨h1, _⟩ | ⟨g, cap', cur, hv, hb, _⟩
      · rw [h1]; simp [Value.ownBlock]
      · rw [hv]; simp [Value.ownBlock]; omega
  · rcases hr.2 with ⟨h1, _⟩ | ⟨g, cap', cur, hv, hb, hgg, _⟩
    · refine hi.still ⟨hg.os, hg.tape, hg.output, hg.size, fun k hk _ => hg.block k hk ?_⟩
      rw [h1]; simp [Value.ownBlock]
    · refine hi.beside hgg t1 t2 t3 ⟨hg.os, hg.tape, hg.output, hg.size, fun k hk hn => hg.block k hk ?_⟩
      rw [hv]
      simp only [Value.ownBlock]
      intro he
      exact hn (Option.some.inj he)

/-- Two new readers beside all that is there. -/
theorem new_all {W w1 w2 w3 w4 w5 : World} {g xp yp ol cap2 xc yc nq lc : Nat} {lo xo yo : Option Addr} {ob b2 : List UInt8} {cs : List (Nat × Nat)} (hstW : Still W w1) (hinv1 : Inv W w1 cs) (hrow1 : Row 46 W.heap.size w1 lo lc cs)
    (ho2 : Ow 5 w2 (some ⟨g, 0, none⟩) (ol + 3) cap2 b2) (hg2 : w1.heap.size ≤ g) (hst2 : Still w1 w2) (hx : Rr w3 xp xo ol xc ob 0) (hxp : w2.heap.size ≤ xp) (hxlt : ∀ a, xo = some a → w2.heap.size ≤ a.block ∧ a.block < w3.heap.size) (hxb : Byt w3 xo) (hst3 : Still w2 w3)
    (hf4 : Fr (fun k => ∃ a : Addr, some (⟨g, 0, none⟩ : Addr) = some a ∧ a.block = k) (w3.drewN nq) w4) (hy : Rf w5 yp yo ol yc ob 0 0) (hyp : w4.heap.size ≤ yp) (hylt : ∀ a, yo = some a → a.block < w5.heap.size) (hyb : Byt w5 yo) (hst5 : Still w4 w5) (hol : ol + 24 ≤ 140737488355328) (o : Obj) :
    Row 46 W.heap.size (w5.alloc o) lo lc cs ∧ Still W (w5.alloc o) ∧ Inv W (w5.alloc o) (cs ++ [(xp, yp)]) := by
  have hglt := ho2.lt _ rfl
  simp at hglt
  have hst35 : Still w5 (w5.alloc o) := Still.alloc w5 o
  have hst5' := hst5.trans hst35
  have hst13 : Still w1 (w3.drewN nq) := (hst2.trans hst3).trans (Still.drewN w3 nq)
  have hF : ∀ k, (∃ a : Addr, some (⟨g, 0, none⟩ : Addr) = some a ∧ a.block = k) → k = g := by
    rintro k ⟨a, h, rfl⟩
    cases h
    rfl
  have hsz12 := hst2.size
  have hsz23 := hst3.size
  have hsz34 := hf4.size
  have hsz5 := hst5'.size
  have hW1 := hstW.size
  have hgb : (w3.drewN nq).heap[g]? = w2.heap[g]? := hst3.block g hglt fun e => e
  obtain ⟨_, _, cur, hgc, _⟩ := ho2.row _ rfl
  simp at hgc
  have hsW : Still W (w5.alloc o) := ((hstW.trans hst13).trans' hf4 (fun k hk hk2 => by have := hF k hk2; omega)).trans hst5'
  have hrow : Row 46 W.heap.size (w5.alloc o) lo lc cs := by
    refine ((hrow1.still hst13).kept hf4 (fun g' cur' hg' hk => ?_)).still hst5'
    have := hF g' hk
    subst this
    rw [hgb, hgc] at hg'
    simp at hg'
  have hi4 : Inv W (w5.alloc o) cs := by
    refine ⟨fun c hc => ?_, hinv1.lo, hinv1.nd1, hinv1.nd2⟩
    obtain ⟨r, e, hp⟩ := hinv1.each c hc
    exact ⟨r, e, (((hp.still hst13).kept hf4 (fun k hk => by have := hF k hk; omega)).still hst5').more (by simp at hsz34; omega)⟩
  refine ⟨hrow, hsW, hinv1.add hi4 (rest := ob) (e := 0) ?_ (by omega) (by simp at hsz34; omega) hW1⟩
  have hx4 : Rr w4 xp xo ol xc ob 0 := (hx.still (Still.drewN w3 nq)).kept hf4 (fun hk => by have := hF _ hk; omega) (fun a ha _ hk => by have := hF _ hk; have := hxlt a ha; omega)
  have hb4 : Byt w4 xo := (hxb.kept (Still.drewN w3 nq) (fun _ _ e => e)).kept hf4 (fun a ha hk => by have := hF _ hk; have := hxlt a ha; omega)
  have hyl := hy.lt
  have hxl := hx4.lt
  refine ⟨xo, ol, xc, yo, ol, yc, ob, 0, hx4.still hst5', hy.still hst35, rfl, by omega, by omega, by omega, by simp; omega, fun a ha => ?_, fun a ha => ?_, hb4.kept hst5' (fun _ _ e => e), hyb.kept hst35 (fun _ _ e => e)⟩
  · have := hxlt a ha
    simp at hsz34
    omega
  · have := hylt a ha
    simp
    omega
theorem pair_cells (w5 : World) (t : TypeId) (a b : Value) : ∀ (j : Nat) u, [a, b][j]? = some u → (w5.alloc (.cells #[a, b] t)).cell? ((⟨w5.heap.size, 0, none⟩ : Addr).add j) = some u := by
  intro j u hu
  rw [add_plain, cell_of_row _ _ _ _ _ _ (heap_alloc_new w5 _), Nat.zero_add]
  simpa using hu

/-- One couple has read: all stands. -/
theorem read_all {W w1 w3 : World} {lo : Option Addr} {lc j : Nat} {cs : List (Nat × Nat)} (hstW : Still W w1) (hinv1 : Inv W w1 cs) (hrow1 : Row 46 W.heap.size w1 lo lc cs) (hj : j < cs.length) (hr : ReadS w1 w3 w1.heap.size cs[j].1 cs[j].2) :
    Row 46 W.heap.size w3 lo lc cs ∧ Still W w3 ∧ Inv W w3 cs := by
  have hi := hinv1.read hj hr
  obtain ⟨r0, e0, xo, xn, xc, yo, yn, yc, B, At, hx, hy, _⟩ := hinv1.each cs[j] (List.getElem_mem hj)
  obtain ⟨_, _, _, hf⟩ := hr
  have hlo := hinv1.lo cs[j] (List.getElem_mem hj)
  refine ⟨hrow1.kept hf (fun g cur hg hk => ?_), hstW.trans' hf (fun k hk hk2 => by omega), hi⟩
  rcases hk with rfl | rfl
  · rw [hx.blk] at hg; simp at hg
  · rw [hy.blk] at hg; simp at hg
/-- The last call on each. -/
def doneOp : Op := ⟨5, 0, 0, 0, none, 0, 0, [], 0⟩
theorem doneOp_ok (w : World) : doneOp.ok w := ⟨by decide, by decide, by decide, by decide, by decide, by decide, by decide, by decide, by decide, Rd.empty w⟩

set_option maxHeartbeats 4000000 in
set_option maxRecDepth 100000 in
theorem reads_walk (so : Option Addr) (n cap : Nat) (ops : List Op) (W : World) (hS : Script W so ops) (hn : ops.length = n) (hns : n * 64 ≤ 140737488355328) (hB : ∀ o ∈ ops, o.len + 24 ≤ 140737488355328) :
    Calls Try.prog 4 #[.slice so n cap] W fun r w' => r = .returned (.bool true) ∧ Still W w' := by
  obtain ⟨ic, hic, hzc, hsc, hbc⟩ := info_parts info_couple
  obtain ⟨i0, hi, hz, hs1, hb1⟩ := info_parts info_u8
  have HNN := hid hn
  go_enter Try.func4, Try.ntmps4
  go_wp2_with fail
  refine (awake_any W).mono ?_
  rintro r w0 ⟨rfl, hst0⟩
  go_wp2
  go_loopw [4, 5] (fun l i wr => ∃ (k : Nat) (cs : List (Nat × Nat)) (lo : Option Addr) (lc : Nat), k ≤ n ∧ cs.length ≤ k ∧ i = .int .i64 (k : Int) ∧ l = .slice lo cs.length lc ∧ Row 46 W.heap.size wr lo lc cs ∧ Still W wr ∧ Inv W wr cs) (fun _ i _ => n - (intOf i).toNat)
  case atStart => exact ⟨0, [], none, 0, Nat.zero_le _, Nat.zero_le _, rfl, rfl, World.ownsRow_nil _ _ _ _, hst0, Inv.nil _ _⟩
  case round =>
    obtain ⟨k, cs, lo, lc, hk, hck, rfl, rfl, hrow, hst, hinv⟩ := hrel
    clear hn
    by_cases hlt : k < n
    · have hkl : k < ops.length := by have := HNN.out; omega
      obtain ⟨sb, sof, hso, s0, s1, s2, s3, s4, s5⟩ := (hS.still hst).at hkl
      subst hso
      have hokW := hS.ok ops[k] (List.getElem_mem hkl)
      have hbk := hB ops[k] (List.getElem_mem hkl)
      obtain ⟨op, hop⟩ : ∃ op, op = ops[k] := ⟨_, rfl⟩
      rw [← hop] at s0 s1 s2 s3 s4 s5 hokW hbk
      clear hop
      have hst1 := Still.alloc wr (.cells op.val 28)
      have hbo : (wr.alloc (.cells op.val 28)).heap[wr.heap.size]? = some (.cells op.val 28 (0, 0)) := heap_alloc_new wr _
      have hstW := hst.trans hst1
      have hok1 := hokW.still hstW
      have hinv1 := hinv.still hst1
      have hrow1 := hrow.still hst1
      have hp0 := Cp.pick_lo op.kind (n := 6) (by omega)
      have hp6 := Cp.pick_hi op.kind (n := 6) (by omega)
      have hpk := pick_any op.kind 6 hokW.k1 hokW.k2 (by omega) (by omega)
      obtain ⟨q, hq⟩ : ∃ q, q = Cp.pick op.kind 6 := ⟨_, rfl⟩
      rw [← hq] at hp0 hp6
      simp only [← hq] at hpk
      have HP := hid hpk
      clear hpk hq
      obtain ⟨W1, hW1⟩ : ∃ W1, W1 = wr.alloc (.cells op.val 28) := ⟨_, rfl⟩
      have hsz1 : W1.heap.size = wr.heap.size + 1 := by rw [hW1]; simp
      rw [← hW1] at hst1 hbo hstW hok1 hinv1 hrow1
      have HW1 := hid hW1
      clear hW1
      obtain ⟨kind, which, on, oi, oa, ol, oc, ob, most⟩ := op
      dsimp only [Op.val] at s0 s1 s2 s3 s4 s5 hbo HP HW1 hbk
      obtain ⟨q0, q1, q2, q3, q4, q5⟩ := six' hbo
      have HSZ := hid hsz1
      have hsl : wr.heap.size < W1.heap.size := by omega
      clear hsz1
      have hrd1 : Rd W1 oa ol oc ob := hok1.rd
      by_cases hnew : q < 1 ∨ cs.length < 1
      · have hguard : ((q == 0) = true) ∨ ((q == 0) = false ∧ ((cs.length : Int) == 0) = true) := by
          by_cases h : q < 1
          · left; rw [beq_iff_eq]; omega
          · right
            exact ⟨by rw [beq_eq_false_iff_ne]; omega, by rw [beq_iff_eq]; omega⟩
        rcases hguard with hg1 | ⟨hg1, hg2⟩
        · go_wp2_with fail
          rw [← HW1.out]
          refine (HP.out _).mono ?_
          rintro r w1 ⟨rfl, rfl⟩
          go_wp2_with fail
          refine (lent_any oa ol oc ob _ hrd1 (by omega)).mono ?_
          rintro r w2 ⟨g, rfl, ho2, hst2, hg2⟩
          have hbo2 := Fr.kept_still hst2 hbo
          obtain ⟨r0, r1, r2, r3, r4, r5⟩ := six' hbo2
          have hobl : ob.length = ol := hrd1.len
          have hsu : ∀ W' : World, (Instr.slice 26 (.slice (some ⟨g, 0, none⟩) (ol + 3) (ol + 3)) none (some (.int .i64 (ol : Int))) none).run Try.prog W' = .ok (.slice (some ⟨g, 0, none⟩) ol (ol + 3)) W' := fun W' => by
            have := run_upto (P := Try.prog) W' 26 5 i0 Try.underlying26 hi hs1 .i64 (some ⟨g, 0, none⟩) (ol + 3) (ol + 3) (ol : Int) (by omega) (by omega)
            simpa using this
          have hrdo : Rd w2 (some ⟨g, 0, none⟩) ol (ol + 3) ob := by
            have := ho2.rd.take (i := ol) (by omega)
            rw [← hobl, List.take_left, hobl] at this
            exact this
          go_wp2_with fail
          refine (newReader_by _ ol (ol + 3) ob w2 hrdo (by omega)).mono ?_
          rintro r w3 ⟨xp, rfl, hxp, ⟨xo, xc, hx, hxlt, hxb⟩, hst3⟩
          have hbo3 := Fr.kept_still hst3 hbo2
          obtain ⟨t0, t1, t2, t3, t4, t5⟩ := six' hbo3
          have ho3 := ho2.still hst3
          have hc200 : w3.cell? ⟨g, ol, none⟩ = some (.int .u8 200) := by
            have h := ho3.rd.byte (k := ol) (by simp [hobl])
            rw [Nat.zero_add] at h
            rw [h, List.getElem_append_right (by omega)]
            simp [hobl]
          have HOB := hid hobl
          clear hobl
          have c1 : ∀ nq, (convert 26 9 (.slice (some ⟨g, 0, none⟩) ol (ol + 3))).run Try.prog (w3.drewN nq) = .ok (.string ⟨ob.toArray⟩) (w3.drewN nq) := fun nq =>
            run_string (P := Try.prog) _ 26 5 9 Try.underlying26 Try.underlying5 Try.underlying9 ((hrdo.still hst3).drewN nq)
          have c2 : ∀ nq, (convert 26 9 (.slice oa ol oc)).run Try.prog (w3.drewN nq) = .ok (.string ⟨ob.toArray⟩) (w3.drewN nq) := fun nq =>
            run_string (P := Try.prog) _ 26 5 9 Try.underlying26 Try.underlying5 Try.underlying9 (((hrd1.still hst2).still hst3).drewN nq)
          obtain ⟨str, hstr⟩ : ∃ str : ByteArray, str = ⟨ob.toArray⟩ := ⟨_, rfl⟩
          rw [← hstr] at c1 c2
          clear hstr
          go_wp2
          go_quiet (fail)
          go_wp2_with fail
          refine (spoil_any (some ⟨g, 0, none⟩) (ol + 3) (ol + 3) _ 77 77 rfl _ (ho3.drewN _) (by omega)).mono ?_
          rintro r w4 ⟨rfl, hf4⟩
          have hglt : w1.heap.size ≤ g := hg2
          have hbo4 := hf4.kept (k := wr.heap.size) (o := _) hbo3 (by rintro ⟨a, h, h'⟩; cases h; simp at h'; omega)
          obtain ⟨v0, v1, v2, v3, v4, v5⟩ := six' hbo4
          have hrd4 : Rd w4 oa ol oc ob := (((hrd1.still hst2).still hst3).drewN _).kept hf4 (fun a ha hl => by
            have h1 := hrd1.lt hl a ha
            rintro ⟨a', h, h'⟩
            cases h
            simp at h'
            omega)
          go_wp2_with fail
          refine (fnewReader_by oa ol oc ob w4 hrd4 (by omega)).mono ?_
          rintro r w5 ⟨yp, rfl, hyp, ⟨yo, yc, hy, hylt, hyb⟩, hst5⟩
          have hN := new_all hstW hinv1 hrow1 ho2 hg2 hst2 hx hxp hxlt hxb hst3 hf4 hy hyp hylt hyb hst5 hbk (.cells #[.pointer (some ⟨xp, 0, none⟩), .pointer (some ⟨yp, 0, none⟩)] 46)
          have HN := hid hN
          clear hN
          go_wp2_with (at_builtin; refine wpList_append_own _ rfl _ _ 38 rfl W.heap.size 46 ic (.agg #[.pointer none, .pointer none]) 2 16 Try.underlying38 hic hzc hsc hbc rfl (by decide) (.slice lo cs.length lc) cs.length (ptrs cs) rfl HN.out.1 ⟨w5.heap.size, 0, none⟩ 1 1 [.pointer (some ⟨xp, 0, none⟩), .pointer (some ⟨yp, 0, none⟩)] rfl rfl (pair_cells w5 _ _ _) (by intro u hu; simp at hu; rcases hu with rfl | rfl <;> rfl) (by unfold maxLen; omega) (by omega) HN.out.2.1.size ?_; intro v' w6 hown' hgrow _; obtain ⟨⟨lo', lc', hv', hrow'⟩, hst', hinv'⟩ := row_add hown' hgrow HN.out.1 HN.out.2.1 HN.out.2.2 (by decide) (by decide) (by decide); subst hv')
          go_roundw
          case rel => exact ⟨k + 1, cs ++ [(xp, yp)], lo', lc', by omega, by simp; omega, by go_num, by simp, hrow', hst', hinv'⟩
          case measure => simp [intOf]; omega
        · go_wp2_with fail
          rw [← HW1.out]
          refine (HP.out _).mono ?_
          rintro r w1 ⟨rfl, rfl⟩
          go_wp2_with fail
          refine (lent_any oa ol oc ob _ hrd1 (by omega)).mono ?_
          rintro r w2 ⟨g, rfl, ho2, hst2, hg2⟩
          have hbo2 := Fr.kept_still hst2 hbo
          obtain ⟨r0, r1, r2, r3, r4, r5⟩ := six' hbo2
          have hobl : ob.length = ol := hrd1.len
          have hsu : ∀ W' : World, (Instr.slice 26 (.slice (some ⟨g, 0, none⟩) (ol + 3) (ol + 3)) none (some (.int .i64 (ol : Int))) none).run Try.prog W' = .ok (.slice (some ⟨g, 0, none⟩) ol (ol + 3)) W' := fun W' => by
            have := run_upto (P := Try.prog) W' 26 5 i0 Try.underlying26 hi hs1 .i64 (some ⟨g, 0, none⟩) (ol + 3) (ol + 3) (ol : Int) (by omega) (by omega)
            simpa using this
          have hrdo : Rd w2 (some ⟨g, 0, none⟩) ol (ol + 3) ob := by
            have := ho2.rd.take (i := ol) (by omega)
            rw [← hobl, List.take_left, hobl] at this
            exact this
          go_wp2_with fail
          refine (newReader_by _ ol (ol + 3) ob w2 hrdo (by omega)).mono ?_
          rintro r w3 ⟨xp, rfl, hxp, ⟨xo, xc, hx, hxlt, hxb⟩, hst3⟩
          have hbo3 := Fr.kept_still hst3 hbo2
          obtain ⟨t0, t1, t2, t3, t4, t5⟩ := six' hbo3
          have ho3 := ho2.still hst3
          have hc200 : w3.cell? ⟨g, ol, none⟩ = some (.int .u8 200) := by
            have h := ho3.rd.byte (k := ol) (by simp [hobl])
            rw [Nat.zero_add] at h
            rw [h, List.getElem_append_right (by omega)]
            simp [hobl]
          have HOB := hid hobl
          clear hobl
          have c1 : ∀ nq, (convert 26 9 (.slice (some ⟨g, 0, none⟩) ol (ol + 3))).run Try.prog (w3.drewN nq) = .ok (.string ⟨ob.toArray⟩) (w3.drewN nq) := fun nq =>
            run_string (P := Try.prog) _ 26 5 9 Try.underlying26 Try.underlying5 Try.underlying9 ((hrdo.still hst3).drewN nq)
          have c2 : ∀ nq, (convert 26 9 (.slice oa ol oc)).run Try.prog (w3.drewN nq) = .ok (.string ⟨ob.toArray⟩) (w3.drewN nq) := fun nq =>
            run_string (P := Try.prog) _ 26 5 9 Try.underlying26 Try.underlying5 Try.underlying9 (((hrd1.still hst2).still hst3).drewN nq)
          obtain ⟨str, hstr⟩ : ∃ str : ByteArray, str = ⟨ob.toArray⟩ := ⟨_, rfl⟩
          rw [← hstr] at c1 c2
          clear hstr
          go_wp2
          go_quiet (fail)
          go_wp2_with fail
          refine (spoil_any (some ⟨g, 0, none⟩) (ol + 3) (ol + 3) _ 77 77 rfl _ (ho3.drewN _) (by omega)).mono ?_
          rintro r w4 ⟨rfl, hf4⟩
          have hglt : w1.heap.size ≤ g := hg2
          have hbo4 := hf4.kept (k := wr.heap.size) (o := _) hbo3 (by rintro ⟨a, h, h'⟩; cases h; simp at h'; omega)
          obtain ⟨v0, v1, v2, v3, v4, v5⟩ := six' hbo4
          have hrd4 : Rd w4 oa ol oc ob := (((hrd1.still hst2).still hst3).drewN _).kept hf4 (fun a ha hl => by
            have h1 := hrd1.lt hl a ha
            rintro ⟨a', h, h'⟩
            cases h
            simp at h'
            omega)
          go_wp2_with fail
          refine (fnewReader_by oa ol oc ob w4 hrd4 (by omega)).mono ?_
          rintro r w5 ⟨yp, rfl, hyp, ⟨yo, yc, hy, hylt, hyb⟩, hst5⟩
          have hN := new_all hstW hinv1 hrow1 ho2 hg2 hst2 hx hxp hxlt hxb hst3 hf4 hy hyp hylt hyb hst5 hbk (.cells #[.pointer (some ⟨xp, 0, none⟩), .pointer (some ⟨yp, 0, none⟩)] 46)
          have HN := hid hN
          clear hN
          go_wp2_with (at_builtin; refine wpList_append_own _ rfl _ _ 38 rfl W.heap.size 46 ic (.agg #[.pointer none, .pointer none]) 2 16 Try.underlying38 hic hzc hsc hbc rfl (by decide) (.slice lo cs.length lc) cs.length (ptrs cs) rfl HN.out.1 ⟨w5.heap.size, 0, none⟩ 1 1 [.pointer (some ⟨xp, 0, none⟩), .pointer (some ⟨yp, 0, none⟩)] rfl rfl (pair_cells w5 _ _ _) (by intro u hu; simp at hu; rcases hu with rfl | rfl <;> rfl) (by unfold maxLen; omega) (by omega) HN.out.2.1.size ?_; intro v' w6 hown' hgrow _; obtain ⟨⟨lo', lc', hv', hrow'⟩, hst', hinv'⟩ := row_add hown' hgrow HN.out.1 HN.out.2.1 HN.out.2.2 (by decide) (by decide) (by decide); subst hv')
          go_roundw
          case rel => exact ⟨k + 1, cs ++ [(xp, yp)], lo', lc', by omega, by simp; omega, by go_num, by simp, hrow', hst', hinv'⟩
          case measure => simp [intOf]; omega
      · have hcl : 0 < cs.length := by omega
        have hg1 : (q == 0) = false := by rw [beq_eq_false_iff_ne]; omega
        have hg2 : ((cs.length : Int) == 0) = false := by rw [beq_eq_false_iff_ne]; omega
        have hj0 := Cp.pick_lo which (n := (cs.length : Int)) (by omega)
        have hj1 := Cp.pick_hi which (n := (cs.length : Int)) (by omega)
        have hpw := pick_any which (cs.length : Int) hokW.w1 hokW.w2 (by omega) (by omega)
        obtain ⟨j, hj⟩ := Int.eq_ofNat_of_zero_le hj0
        rw [hj] at hj1
        simp only [hj] at hpw
        have hjl : j < cs.length := by omega
        obtain ⟨g, hlo, hgb, hlc, ⟨cur, hgc⟩, hcells⟩ := hrow1.some hcl
        subst hlo
        obtain ⟨x0, x1⟩ := hcells j hjl
        obtain ⟨rest, e, hPr⟩ := hinv1.each cs[j] (List.getElem_mem hjl)
        have HPW := hid hpw
        clear hpw hj hj0 hj1 hcells
        obtain ⟨xp, hxp⟩ : ∃ xp, xp = cs[j].1 := ⟨_, rfl⟩
        obtain ⟨yp, hyp⟩ : ∃ yp, yp = cs[j].2 := ⟨_, rfl⟩
        rw [← hxp] at x0 hPr
        rw [← hyp] at x1 hPr
        have HXP := hid hxp
        have HYP := hid hyp
        clear hxp hyp
        have hRA := fun n1 => read_any W1.heap.size xp yp rest e ⟨kind, which, on, oi, oa, ol, oc, ob, most⟩ (W1.drewN n1) (hPr.still (Still.drewN W1 n1)) (hok1.still (Still.drewN W1 n1)) (Nat.le_refl _)
        dsimp only [Op.val] at hRA
        have HRA := hid hRA
        clear hRA
        go_wp2_with fail
        rw [← HW1.out]
        refine (HP.out _).mono ?_
        rintro r w1 ⟨rfl, rfl⟩
        go_wp2
        go_region_with (first | (go_at_call 8; refine (HPW.out _).mono ?_; rintro r w2 ⟨rfl, rfl⟩) | (go_at_call 16; refine (HRA.out 1).mono ?_; rintro r w3 ⟨rfl, hRS⟩))
        all_goals
          have hRS' := ReadS.from (Still.drewN w1 1) hRS
          rw [HXP.out, HYP.out] at hRS'
          obtain ⟨hrow', hst', hinv'⟩ := read_all hstW hinv1 hrow1 hjl hRS'
          go_wp2
          go_roundw
          case rel => exact ⟨k + 1, cs, _, lc, by omega, by omega, by go_num, rfl, hrow', hst', hinv'⟩
          case measure => simp [intOf]; omega
    · go_wp2
      go_loopw [10] (fun i wr => ∃ j : Nat, j ≤ cs.length ∧ i = .int .i64 (j : Int) ∧ Row 46 W.heap.size wr lo lc cs ∧ Still W wr ∧ Inv W wr cs) (fun i _ => cs.length - (intOf i).toNat)
      case atStart => exact ⟨0, Nat.zero_le _, rfl, hrow, hst, hinv⟩
      case round =>
        clear hrow hst hinv
        obtain ⟨j, hj, rfl, hrow, hst, hinv⟩ := hrel
        by_cases hjl : j < cs.length
        · obtain ⟨g, hlo, hgb, hlc, ⟨cur, hgc⟩, hcells⟩ := hrow.some (by omega)
          subst hlo
          obtain ⟨x0, x1⟩ := hcells j hjl
          obtain ⟨rest, e, hPr⟩ := hinv.each cs[j] (List.getElem_mem hjl)
          clear hcells
          obtain ⟨xp, hxp⟩ : ∃ xp, xp = cs[j].1 := ⟨_, rfl⟩
          obtain ⟨yp, hyp⟩ : ∃ yp, yp = cs[j].2 := ⟨_, rfl⟩
          rw [← hxp] at x0 hPr
          rw [← hyp] at x1 hPr
          have HXP := hid hxp
          have HYP := hid hyp
          clear hxp hyp
          have hRA := read_any wr.heap.size xp yp rest e doneOp wr hPr (doneOp_ok wr) (Nat.le_refl _)
          have HRA : Hid (Calls Try.prog 16 #[.agg #[.pointer (some ⟨xp, 0, none⟩), .pointer (some ⟨yp, 0, none⟩)], .agg #[.int .i64 5, .int .i64 0, .int .u64 0, .int .i64 0, .slice none 0 0, .int .i64 0]] wr fun r w' => r = .returned (.bool true) ∧ ReadS wr w' wr.heap.size xp yp) := hRA
          clear hRA
          go_wp2_with fail
          refine HRA.out.mono ?_
          rintro r w3 ⟨rfl, hRS⟩
          rw [HXP.out, HYP.out] at hRS
          obtain ⟨hrow', hst', hinv'⟩ := read_all hst hinv hrow hjl hRS
          go_wp2
          go_roundw
          case rel => exact ⟨j + 1, by omega, by go_num, hrow', hst', hinv'⟩
          case measure => simp [intOf]; omega
        · go_wp2
          go_ret
          exact ⟨rfl, hst⟩
end Go.Proofs.Ythgjhfooodcfbaa
