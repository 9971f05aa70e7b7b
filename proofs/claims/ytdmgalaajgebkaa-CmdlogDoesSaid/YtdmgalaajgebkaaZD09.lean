/- Parts of the proof, laid end to end. -/
import Derived.Test.YtdmgalaajgebkaaZD04
import Derived.Sort.Grow
namespace Go.Proofs.Ytdmgalaajgebkaa
open Go.RowKit
set_option maxRecDepth 100000
structure AftD (w : World) : Type where
 u : World
 s : Still w u
 d : w.drawn <= u.drawn
theorem AftD.here (w : World) : Nonempty (AftD w) := ⟨⟨w, Fr.refl _ w, Nat.le_refl _⟩⟩
abbrev ClD (w : World) : World -> Prop := fun w' => ∃ z : AftD w, w' = z.u
theorem ClD.here (w : World) : ClD w { w with drawn := w.drawn + 1 } := ⟨⟨w.drew, (Fr.refl _ w).drew, Nat.le_succ _⟩, rfl⟩
theorem Calls.clD_same {P : Program} {f : FuncId} {args : Array Value} {w : World} {z : AftD w} {v : Value}
  (h : Calls P f args z.u fun e w' => e = .returned v /\ w' = z.u) : Calls P f args z.u fun e w'' => e = .returned v /\ ∃ y : AftD w, w'' = y.u :=
 h.mono fun _ _ ⟨he, hs⟩ => ⟨he, z, hs⟩
theorem region_restD {P : Program} {id : Nat} {Q : Exit -> Act -> World -> Prop} {a : Act} {w : World} {l : List Oper} (n : Nat) (hm : P.follows .mixedOrders = true) (hB : tailB l n = true)
  (h : wpQuiet P (l.take n).toArray (fun w' => ∃ z : AftD w, w' = z.u) (fun a' => ∀ w', Still w w' -> w.drawn <= w'.drawn -> wpList P l.toArray Q (l.drop n) a' w') (l.take n) a) : (Code.region id l.toArray true).wp P Q a w := by
 have e : (fun a' => ∀ w', Still w w' -> w.drawn <= w'.drawn -> wpList P l.toArray Q (l.drop n) a' w') = fun a' => ∀ w', ClD w w' -> wpList P l.toArray Q (l.drop n) a' w' := funext fun a' => propext ⟨fun h w' ⟨z, e⟩ => e ▸ h z.u z.s z.d, fun h w' hs hd => h w' ⟨⟨w', hs, hd⟩, rfl⟩⟩
 rw [e] at h
 exact region_tail (C := ClD w) n hm hB (ClD.here w) h
theorem ClD.cell {w : World} {p : Addr} {v : Value} (h : w.cell? p = some v) : ∀ z : AftD w, z.u.cell? p = some v :=
 fun z => (z.s.cell (World.block_lt_of_cell? w _ h) (fun e => e)).trans h
theorem still_grow {w w' : World} (h : Still w w') (hd : w.drawn <= w'.drawn) : ∃ q os, w' = Sort.grow (w.drewN q) os := by
 refine ⟨w'.drawn - w.drawn, w'.heap.extract w.heap.size w'.heap.size, ?_⟩
 have hh : w'.heap = w.heap ++ w'.heap.extract w.heap.size w'.heap.size := by
  apply Array.ext_getElem?
  intro i
  rw [Array.getElem?_append]
  by_cases hi : i < w.heap.size
  ·rw [if_pos hi]; exact h.block i hi (fun e => e)
  ·rw [if_neg hi, Array.getElem?_extract]
   have e : w.heap.size + (i - w.heap.size) = i := by omega
   rw [e]
   split
   ·rfl
   ·rename_i hn
    rw [Array.getElem?_eq_none (by simp at hn; omega)]
 obtain ⟨hp, tp, dr, os', out⟩ := w'
 have e1 := h.os
 have e2 := h.tape
 have e3 := h.output
 simp only at e1 e2 e3 hh hd
 subst e1 e2 e3
 simp only [Sort.grow, World.drewN]
 congr 1
 omega
set_option maxHeartbeats 2000000 in
theorem qcmpD_any (x y : En) (w : World) : Calls Try.prog 55 #[ev x, ev y] w fun e w' => e = .returned (.int .i64 (kc x y)) /\ Still w w' /\ w.drawn <= w'.drawn := by
 have A0 := Still.alloc w (.cells (ecs x) 44)
 have A1 := Still.alloc (newE w x) (.cells (ecs y) 44)
 have p0 := (newE_eb w x).still A1
 have q0 := newE_eb (newE w x) y
 simp only [size_alloc] at q0
 obtain ⟨W, eW⟩ : ∃ W, W = newE (newE w x) y := ⟨_, rfl⟩
 have HS0 : Hid (Still w W /\ w.drawn <= W.drawn) := hid (by rw [eW]; exact ⟨A0.trans A1, Nat.le_refl _⟩)
 have p0 : Eb W w.heap.size x := by rw [eW]; exact p0
 rw [<- eW] at q0
 have HU : Hid (kc x y = orI [cI x.fr y.fr, cI x.pe y.pe, cI x.se y.se]) := hid rfl
 obtain ⟨c0, c1, c2, _, _, _, _, _, _⟩ := p0.cells
 obtain ⟨d0, d1, d2, _, _, _, _, _, _⟩ := q0.cells
 have H0 := hid (fun w => ccmp64_any x.fr y.fr w)
 have H1 := hid (fun w => ccmp_any x.pe y.pe w)
 have H2 := hid (fun w => ccmp_any x.se y.se w)
 obtain ⟨r0, e0⟩ : ∃ r, cI x.fr y.fr = r := ⟨_, rfl⟩
 obtain ⟨r1, e1⟩ : ∃ r, cI x.pe y.pe = r := ⟨_, rfl⟩
 obtain ⟨r2, e2⟩ : ∃ r, cI x.se y.se = r := ⟨_, rfl⟩
 rw [e0, e1, e2] at HU
 rw [e0] at H0
 rw [e1] at H1
 rw [e2] at H2
 obtain ⟨v, ev'⟩ : ∃ v, kc x y = v := ⟨_, rfl⟩
 rw [ev'] at HU ⊢
 clear e0 e1 e2 ev'
 have s0 := ClD.cell c0
 have s1 := ClD.cell c1
 have s2 := ClD.cell c2
 have t0 := ClD.cell d0
 have t1 := ClD.cell d1
 have t2 := ClD.cell d2
 have hne := AftD.here W
 have HW := hid eW
 clear A0 A1 p0 q0 eW c0 c1 c2 d0 d1 d2
 go_enter Try.func55, Try.ntmps55
 go_wp2_with fail
 have e := HW.out
 simp only [newE] at e
 rw [<- e]
 clear e HW
 refine region_restD 21 (by kernel_rfl) (by kernel_rfl) ?_
 simp only [List.take_succ_cons, List.take_zero, List.drop_succ_cons, List.drop_zero]
 repeat (go_big_quiet_step ((first | (go_at_call 62; with_reducible exact Calls.clD_same (H0.out _)) | (go_at_call 63; with_reducible exact Calls.clD_same (H1.out _)) | (go_at_call 63; with_reducible exact Calls.clD_same (H2.out _)))))
 refine wpQuiet_nil ?_
 intro w1 h1 hd1
 have HS1 : Hid (Still w (w1.alloc (.cells #[.int .i64 r0, .int .i64 r1, .int .i64 r2] 3)) /\ w.drawn <= (w1.alloc (.cells #[.int .i64 r0, .int .i64 r1, .int .i64 r2] 3)).drawn) := hid ⟨(HS0.out.1.trans h1).trans (Still.alloc w1 _), Nat.le_trans HS0.out.2 hd1⟩
 have HO := hid (cor_any [r0, r1, r2] w1.heap.size 3 3 _ rfl (by omega) (rd_three w1 r0 r1 r2))
 rw [<- HU.out] at HO
 clear HU h1 hd1 s0 s1 s2 t0 t1 t2 hne H0 H1 H2 HS0
 go_wp2_with fail
 refine HO.out.mono ?_
 rintro e w2 ⟨he, hw⟩
 rw [he, hw]
 clear he hw w2 HO
 go_wp2_with fail
 (try simp only [Exit.inBlock, Exit.then])
 go_ret
 exact ⟨rfl, HS1.out⟩
end Go.Proofs.Ytdmgalaajgebkaa
