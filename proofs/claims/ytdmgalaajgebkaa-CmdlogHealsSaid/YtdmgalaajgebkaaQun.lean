/- The document's Order and Same, the law's entry; entries compared. -/
import Derived.Test.YtdmgalaajgebkaaQum
import Derived.Laws.StructEq
namespace Go.Proofs.Ytdmgalaajgebkaa
open Go.RowKit
set_option maxRecDepth 100000

/-- a command's cells -/
abbrev hcs (x : En) : Array Value := #[.int .i64 x.fr, .int .i64 x.pe, .int .i64 x.se, .int .i64 x.vb, .int .i64 x.a, .int .i64 x.b, .int .i64 x.c]
def Hb (w : World) (g : Nat) (x : En) : Prop := w.heap[g]? = some (.cells (hcs x) 30 (0, 0))
theorem Hb.cells {w : World} {g : Nat} {x : En} (h : Hb w g x) : w.cell? ⟨g, 0, none⟩ = some (.int .i64 x.fr) ∧ w.cell? ⟨g, 1, none⟩ = some (.int .i64 x.pe) ∧ w.cell? ⟨g, 2, none⟩ = some (.int .i64 x.se) ∧ w.cell? ⟨g, 3, none⟩ = some (.int .i64 x.vb) ∧ w.cell? ⟨g, 4, none⟩ = some (.int .i64 x.a) ∧ w.cell? ⟨g, 5, none⟩ = some (.int .i64 x.b) ∧ w.cell? ⟨g, 6, none⟩ = some (.int .i64 x.c) ∧ ∀ o, w.frozen? ⟨g, o, none⟩ = false := by
  refine ⟨?_, ?_, ?_, ?_, ?_, ?_, ?_, fun o => frozen_of_row w g o _ _ h⟩ <;> (rw [cell_of_row _ _ _ _ _ _ h]; rfl)
theorem Hb.put {w : World} {g : Nat} {y : En} (h0 : Hb w g y) (x : En) : Hb (((((((w.setCell ⟨g, 0, none⟩ (.int .i64 x.fr)).setCell ⟨g, 1, none⟩ (.int .i64 x.pe)).setCell ⟨g, 2, none⟩ (.int .i64 x.se)).setCell ⟨g, 3, none⟩ (.int .i64 x.vb)).setCell ⟨g, 4, none⟩ (.int .i64 x.a)).setCell ⟨g, 5, none⟩ (.int .i64 x.b)).setCell ⟨g, 6, none⟩ (.int .i64 x.c)) g x := by
  unfold Hb at h0 ⊢
  have h1 := heap_setCell_same _ g 0 _ _ (.int .i64 x.fr) h0
  have h2 := heap_setCell_same _ g 1 _ _ (.int .i64 x.pe) h1
  have h3 := heap_setCell_same _ g 2 _ _ (.int .i64 x.se) h2
  have h4 := heap_setCell_same _ g 3 _ _ (.int .i64 x.vb) h3
  have h5 := heap_setCell_same _ g 4 _ _ (.int .i64 x.a) h4
  have h6 := heap_setCell_same _ g 5 _ _ (.int .i64 x.b) h5
  have h7 := heap_setCell_same _ g 6 _ _ (.int .i64 x.c) h6
  exact h7.trans (by kernel_rfl)
theorem st_hv {o : Oper} {ρ : Operand → Value} {x y : Operand} {u : World} {g : Nat} {m : En} (ho : o.op = .store 30 x y) (hx : ρ x = .pointer (some ⟨g, 0, none⟩)) (hy : ρ y = .agg (hcs m)) (hh : u.heap[g]? = some (.cells (hcs zE) 30 (0, 0))) :
    ∃ u', (execOp ρ o).run Try.prog u = .ok .skip u' ∧ u'.heap[g]? = some (.cells (hcs m) 30 (0, 0)) ∧ Fr (fun i => i = g) u u' := by
  have hb : Hb u g zE := hh
  obtain ⟨d0, d1, d2, d3, d4, d5, d6, df⟩ := hb.cells
  have hput := hb.put m
  refine ⟨_, ?_, hput, (((((((((Fr.refl (fun i => i = g) u).setCell ⟨g, 0, none⟩ (.int .i64 m.fr) (.inl rfl)).setCell ⟨g, 1, none⟩ (.int .i64 m.pe) (.inl rfl)).setCell ⟨g, 2, none⟩ (.int .i64 m.se) (.inl rfl)).setCell ⟨g, 3, none⟩ (.int .i64 m.vb) (.inl rfl)).setCell ⟨g, 4, none⟩ (.int .i64 m.a) (.inl rfl)).setCell ⟨g, 5, none⟩ (.int .i64 m.b) (.inl rfl)).setCell ⟨g, 6, none⟩ (.int .i64 m.c) (.inl rfl)))⟩
  clear hput hb hh
  unfold execOp
  rw [ho]
  simp only [hx, hy]
  go_simp
theorem nw_hv {o : Oper} {ρ : Operand → Value} (ho : o.op = .alloc 30) (u : World) : (execOp ρ o).run Try.prog u = .ok (.value (.pointer (some ⟨u.heap.size, 0, none⟩))) (u.alloc (.cells (hcs zE) 30 (0, 0))) := by
  unfold execOp
  rw [ho]
  go_simp
  try rfl
set_option maxHeartbeats 2000000 in
theorem rord_any (x y : En) (w : World) : Calls Try.prog 20 #[ev x, ev y] w fun e w' => e = .returned (.int .i64 (kc x y)) ∧ Still w w' := by
  have A0 := Still.alloc w (.cells (ecs x) 44)
  have A1 := Still.alloc (newE w x) (.cells (ecs y) 44)
  obtain ⟨W, eW⟩ : ∃ W, W = newE (newE w x) y := ⟨_, rfl⟩
  have p0 : Eb W w.heap.size x := by rw [eW]; exact (newE_eb w x).still A1
  have q0 : Eb W (w.heap.size + 1) y := by rw [eW]; have := newE_eb (newE w x) y; rw [size_alloc] at this; exact this
  have HS0 : Hid (Still w W) := hid (by rw [eW]; exact A0.trans A1)
  have HP := hid p0
  have HQ := hid q0
  have HW := hid eW
  clear A0 A1 eW p0 q0
  go_enter Try.func20, Try.ntmps20
  go_upto_region 1 with fail
  have e := HW.out
  simp only [newE] at e
  rw [← e]
  clear e HW
  refine region_mk2 4 5 6 (.cells (hcs zE) 30 (0, 0)) (.cells (hcs x) 30 (0, 0)) (.cells (hcs y) 30 (0, 0)) (by kernel_rfl) (by kernel_rfl) (by kernel_rfl) (by kernel_rfl) ⟨rfl, rfl⟩ ⟨rfl, rfl⟩ (fun u b => ⟨nw_hv rfl u, nw_hv rfl u⟩) (fun u => heap_alloc_new u _) ?_
  apply Exists.intro
  refine And.intro ?_ (And.intro ?_ (And.intro ?_ ?_))
  · intro u hu
    obtain ⟨c0, c1, c2, c3, c4, c5, c6, c7, _⟩ := (HP.out.still hu).cells
    obtain ⟨d0, d1, d2, d3, d4, d5, d6, d7, _⟩ := (HQ.out.still hu).cells
    have k0 := Cl.cell c0
    have k1 := Cl.cell c1
    have k2 := Cl.cell c2
    have k3 := Cl.cell c3
    have k4 := Cl.cell c4
    have k5 := Cl.cell c5
    have k6 := Cl.cell c6
    have l0 := Cl.cell d0
    have l1 := Cl.cell d1
    have l2 := Cl.cell d2
    have l3 := Cl.cell d3
    have l4 := Cl.cell d4
    have l5 := Cl.cell d5
    have l6 := Cl.cell d6
    have hne := Aft.here u
    clear c0 c1 c2 c3 c4 c5 c6 c7 d0 d1 d2 d3 d4 d5 d6 d7
    simp only [qlist, List.take_succ_cons, List.take_zero, List.drop_succ_cons, List.drop_zero, List.cons_append, List.nil_append, Nat.reduceMul, Nat.reduceAdd]
    repeat (go_big_quiet_step (fail))
    exact wpQuiet_nil rfl
  · exact fun u h hh => st_hv rfl rfl rfl hh
  · exact fun u h hh => st_hv rfl rfl rfl hh
  intro w6 g1 g2 h6 _ _ _ hm2 hm3
  have hx : Hb w6 g1 x := hm2
  have hy : Hb w6 g2 y := hm3
  have HS := hid (HS0.out.trans h6)
  obtain ⟨c0, c1, c2, _, _, _, _, _⟩ := hx.cells
  obtain ⟨d0, d1, d2, _, _, _, _, _⟩ := hy.cells
  have HK : Hid (kc x y = orI [cI x.fr y.fr, cI x.pe y.pe, cI x.se y.se]) := hid rfl
  obtain ⟨a1, ea⟩ : ∃ a, x.fr = a := ⟨_, rfl⟩
  obtain ⟨a2, eb⟩ : ∃ a, x.pe = a := ⟨_, rfl⟩
  obtain ⟨a3, ec⟩ : ∃ a, x.se = a := ⟨_, rfl⟩
  obtain ⟨b1, ed⟩ : ∃ a, y.fr = a := ⟨_, rfl⟩
  obtain ⟨b2, ee⟩ : ∃ a, y.pe = a := ⟨_, rfl⟩
  obtain ⟨b3, ef⟩ : ∃ a, y.se = a := ⟨_, rfl⟩
  rw [ea, eb, ec, ed, ee, ef] at HK
  rw [ea] at c0
  rw [eb] at c1
  rw [ec] at c2
  rw [ed] at d0
  rw [ee] at d1
  rw [ef] at d2
  clear ea eb ec ed ee ef hx hy hm2 hm3 h6 HS0 HP HQ
  by_cases t1 : a1 < b1
  · have HV : Hid (orI [cI a1 b1, cI a2 b2, cI a3 b3] = -1) := hid (by simp [orI, cI, t1])
    go_wp2_with fail
    (try simp only [Exit.inBlock, Exit.then])
    go_ret
    exact ⟨by rw [HK.out, HV.out]; rfl, HS.out⟩
  by_cases t2 : a1 = b1
  · subst t2
    by_cases t3 : a2 < b2
    · have HV : Hid (orI [cI a1 a1, cI a2 b2, cI a3 b3] = -1) := hid (by simp [orI, cI, t3])
      go_wp2_with fail
      (try simp only [Exit.inBlock, Exit.then])
      go_ret
      exact ⟨by rw [HK.out, HV.out]; rfl, HS.out⟩
    by_cases t4 : a2 = b2
    · subst t4
      by_cases t5 : a3 < b3
      · have HV : Hid (orI [cI a1 a1, cI a2 a2, cI a3 b3] = -1) := hid (by simp [orI, cI, t5])
        go_wp2_with fail
        (try simp only [Exit.inBlock, Exit.then])
        go_ret
        exact ⟨by rw [HK.out, HV.out]; rfl, HS.out⟩
      by_cases t6 : a3 = b3
      · subst t6
        have HV : Hid (orI [cI a1 a1, cI a2 a2, cI a3 a3] = 0) := hid (by simp [orI, cI])
        go_wp2_with fail
        (try simp only [Exit.inBlock, Exit.then])
        go_ret
        exact ⟨by rw [HK.out, HV.out]; rfl, HS.out⟩
      · have t6' : (a3 == b3) = false := by simpa using t6
        have HV : Hid (orI [cI a1 a1, cI a2 a2, cI a3 b3] = 1) := hid (by simp [orI, cI, t5, show b3 < a3 by omega])
        go_wp2_with fail
        (try simp only [Exit.inBlock, Exit.then])
        go_ret
        exact ⟨by rw [HK.out, HV.out]; rfl, HS.out⟩
    · have t4' : (a2 == b2) = false := by simpa using t4
      have HV : Hid (orI [cI a1 a1, cI a2 b2, cI a3 b3] = 1) := hid (by simp [orI, cI, t3, show b2 < a2 by omega])
      go_wp2_with fail
      (try simp only [Exit.inBlock, Exit.then])
      go_ret
      exact ⟨by rw [HK.out, HV.out]; rfl, HS.out⟩
  · have t2' : (a1 == b1) = false := by simpa using t2
    have HV : Hid (orI [cI a1 b1, cI a2 b2, cI a3 b3] = 1) := hid (by simp [orI, cI, t1, show b1 < a1 by omega])
    go_wp2_with fail
    (try simp only [Exit.inBlock, Exit.then])
    go_ret
    exact ⟨by rw [HK.out, HV.out]; rfl, HS.out⟩
/-- an entry of a key -/
def ken (f s n : Int) : En := ⟨f, s, n, 0, 0, 0, 0, 0⟩
end Go.Proofs.Ytdmgalaajgebkaa
