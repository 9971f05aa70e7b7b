/- The program's reader of a datagram: an order. -/
import Derived.Test.YtaaongbdincimaaGreatDoorWrb
namespace Go.Proofs.YtaaongbdincimaaGreatDoor
open Go.RowKit
open Wp Vp
set_option maxRecDepth 100000
set_option linter.unusedVariables false
set_option linter.unusedSimpArgs false

/-- a block that is no reader's -/
structure Obz (w : World) (q p : Nat) (g : Nat) (o : Obj) : Prop where
  b : w.heap[g]? = some o
  n : ¬ RF q p g
theorem Obz.on {w w1 : World} {q p g : Nat} {o : Obj} {ef : Addr} {s : Rs} (b : Obz w q p g o) (hl : Tz w w1 q p ef s) : Obz w1 q p g o := ⟨hl.f.kept b.b b.n, b.n⟩
theorem Obz.still {w w1 : World} {q p g : Nat} {o : Obj} (b : Obz w q p g o) (hs : Still w w1) : Obz w1 q p g o := ⟨hs.kept_still b.b, b.n⟩
theorem Obz.new {w : World} {q p : Nat} {ef : Addr} {s : Rs} (h : Rz w q p ef s) (cs : Array Value) (t : TypeId) : Obz (w.alloc (.cells cs t)) q p w.heap.size (.cells cs t (0, 0)) := ⟨heap_alloc_new w _, fun e => by
  have := h.lt
  rcases e with e | e <;> omega⟩
theorem Obz.cell {w : World} {q p g : Nat} {cs : List Value} {t : TypeId} (b : Obz w q p g (.cells cs.toArray t (0, 0))) (j : Nat) : w.cell? ⟨g, j, none⟩ = cs[j]? := by
  rw [cell_of_row _ _ _ _ _ _ b.b]; simp
theorem Orb.res16 {fn : Func} {p : Tmp} {w : World} {g : Nat} {v a b c : Int} (hb : Orb w g v a b c) (h : fn.results = #[.cell p 40]) (tmps : Array Value) (hp : tmps.getD p undef = .pointer (some ⟨g, 0, none⟩)) :
    (results fn tmps).run Tryz.prog w = .ok (od v a b c) w := by
  have hp' : tmps[p]?.getD undef = .pointer (some ⟨g, 0, none⟩) := by simpa using hp
  simp [results, h, hp', asAddr, load_or w g v a b c hb.cells.1 hb.cells.2.1 hb.cells.2.2.1 hb.cells.2.2.2.1]
abbrev oro (v a b c : Int) : Obj := .cells #[.int .i64 v, .int .i64 a, .int .i64 b, .int .i64 c] 40 (0, 0)
abbrev aro (t : Int × Int × Int) : Obj := .cells #[.int .i64 t.1, .int .i64 t.2.1, .int .i64 t.2.2] 95 (0, 0)
theorem aro_set {w : World} {g : Nat} {t : Int × Int × Int} (h : w.heap[g]? = some (aro t)) (i : Nat) (hi : i < 2) (x : Int) : (w.setCell ⟨g, i, none⟩ (.int .i64 x)).heap[g]? = some (aro (put3 t i x)) := by
  rcases (show i = 0 ∨ i = 1 by omega) with rfl | rfl
  · exact set0 h
  · exact set1 h
/-- the reader stays where something is stored in a block that has no bytes -/
theorem Rz.put {w w' : World} {q p g : Nat} {ef : Addr} {s : Rs} (h : Rz w q p ef s) {cs : Array Value} {t : TypeId} (hg : ¬ RF q p g) (hu : w.heap[g]? = some (.cells cs t (0, 0))) (ht : t ≠ 5) (hge : g ≠ 0) (hf : Fr (fun k => k = g) w w') : Rz w' q p ef s := by
  obtain ⟨ao, n, cap, h1, h2⟩ := h.rd
  have n1 : q ≠ g := fun e => hg (.inr e.symm)
  have n2 : p ≠ g := fun e => hg (.inl e.symm)
  exact ⟨hf.kept h.box n1, ⟨ao, n, cap, h1.kept hf n2 (fun a ha _ => h2.ne hu ht a ha), h2.kept hf (h2.ne hu ht)⟩, (hf.cell (World.block_lt_of_cell? w _ h.er) (fun e => hge e.symm)).trans h.er, h.nq, h.n1, h.n2⟩
/-- a row of numbers -/
def i64s (cs : List Value) : Prop := ∀ u ∈ cs, ∃ k n, u = .int k n ∧ k ≠ .u8
theorem not_err {w : World} {q p g : Nat} {ef : Addr} {s : Rs} {cs : List Value} {t : TypeId} (h : Rz w q p ef s) (hg : w.heap[g]? = some (.cells cs.toArray t (0, 0))) (hc : i64s cs) : g ≠ 0 := fun e => by
  have h1 := h.er
  have h2 := cell_of_row w g 0 _ _ _ hg
  rw [show (⟨g, 0, none⟩ : Addr) = ⟨0, 0, none⟩ by rw [e], h1] at h2
  have h2 : cs[0]? = some (efv ef) := by simpa using h2.symm
  obtain ⟨k, n, h3, _⟩ := hc _ (List.mem_of_getElem? h2)
  cases h3
theorem i64s_aro (t : Int × Int × Int) : i64s [.int .i64 t.1, .int .i64 t.2.1, .int .i64 t.2.2] := by
  intro u hu
  simp only [List.mem_cons, List.not_mem_nil, or_false] at hu
  rcases hu with rfl | rfl | rfl <;> exact ⟨_, _, rfl, by decide⟩
theorem i64s_oro (v a b c : Int) : i64s [.int .i64 v, .int .i64 a, .int .i64 b, .int .i64 c] := by
  intro u hu
  simp only [List.mem_cons, List.not_mem_nil, or_false] at hu
  rcases hu with rfl | rfl | rfl | rfl <;> exact ⟨_, _, rfl, by decide⟩
theorem setO3 {w : World} {g : Nat} {v a b c x y z : Int} (h : w.heap[g]? = some (oro v a b c)) : (((w.setCell ⟨g, 1, none⟩ (.int .i64 x)).setCell ⟨g, 2, none⟩ (.int .i64 y)).setCell ⟨g, 3, none⟩ (.int .i64 z)).drew.heap[g]? = some (oro v x y z) := by
  have h1 := set1 (v := .int .i64 x) h
  have h2 := set2 (v := .int .i64 y) h1
  show (((w.setCell ⟨g, 1, none⟩ (.int .i64 x)).setCell ⟨g, 2, none⟩ (.int .i64 y)).setCell ⟨g, 3, none⟩ (.int .i64 z)).heap[g]? = _
  rw [heap_setCell_same _ g 3 _ _ _ h2]
  simp
theorem chk70 (v : Int) : (chkO v 0 0 0 == 70) = !isV v := by
  unfold chkO
  cases isV v with
  | false => rfl
  | true => cases okO v 0 0 0 <;> rfl
set_option maxHeartbeats 4000000 in
theorem yorder_any (q p : Nat) (ef : Addr) (s : Rs) (w : World) (h : Rz w q p ef s) : Calls Tryz.prog 85 #[.pointer (some ⟨q, 0, none⟩)] w fun r w' => r = .returned (od (orM s).1.1 (orM s).1.2.1 (orM s).1.2.2.1 (orM s).1.2.2.2) ∧ Tz w w' q p ef (orM s).2 := by
  have A0 := Still.alloc w (.cells #[.int .i64 0, .int .i64 0, .int .i64 0, .int .i64 0] 40)
  have B0 := Obz.new h #[.int .i64 0, .int .i64 0, .int .i64 0, .int .i64 0] 40
  have h0 := h.still A0
  obtain ⟨W, eW⟩ : ∃ W, w.alloc (.cells #[.int .i64 0, .int .i64 0, .int .i64 0, .int .i64 0] 40) = W := ⟨_, rfl⟩
  obtain ⟨g2, eg2⟩ : ∃ g, w.heap.size = g := ⟨_, rfl⟩
  rw [eW] at A0 B0 h0
  rw [eg2] at B0
  have c0 := h0.ptr
  have HA := hid A0
  have HG := hid B0
  have HC := hid (ybyte_any q p ef s W h0)
  have HE : Hid (orM s = (mB (mG (isV (nm (byM s).1))) fun _ => mB (opM (nOp (nm (byM s).1)) 0 (0, 0, 0)) fun t => mR (nm (byM s).1, t)) (byM s).2) := hid rfl
  obtain ⟨c, S, ec⟩ : ∃ c S, byM s = (c, S) := ⟨_, _, rfl⟩
  rw [ec] at HC HE
  dsimp only at HC HE
  have hv8 : 0 ≤ nm c ∧ nm c < 256 := by
    have := c.toNat_lt
    unfold nm
    omega
  obtain ⟨v, ev⟩ : ∃ v, nm c = v := ⟨_, rfl⟩
  rw [ev] at HC HE hv8
  have hcv : IntKind.i64.wrap v = v := wr64 (by omega) (by omega)
  clear A0 B0 h h0 ec ev
  go_enter Tryz.func85, Tryz.ntmps85
  go_wp2_with fail
  refine HC.out.mono ?_
  rintro e w1 ⟨he, h1⟩
  rw [he]
  have A1 := Still.alloc w1 (.cells #[.int .i64 v, .int .i64 0, .int .i64 0, .int .i64 0] 40)
  have B1 := Obz.new h1.r #[.int .i64 v, .int .i64 0, .int .i64 0, .int .i64 0] 40
  have HG1 := hid ((HG.out.on h1).still A1)
  have HT1 := hid (h1.still A1)
  have HCk := hid (vcheck_any v 0 0 0 (w1.alloc (.cells #[.int .i64 v, .int .i64 0, .int .i64 0, .int .i64 0] 40)))
  have HO1 := hid B1
  obtain ⟨g3, eg3⟩ : ∃ g, w1.heap.size = g := ⟨_, rfl⟩
  have HE3 := hid eg3
  have HNg : Hid (g2 ≠ g3 ∧ ¬ g3 < W.heap.size) := hid (by
    have h4 := block_lt HG.out.b
    have h5 := h1.f.size
    omega)
  have HNq := hid HG.out.n
  clear he h1 A1 B1 HC HG c0 eg3
  go_wp2_with fail
  refine HCk.out.mono ?_
  rintro e w2 ⟨he, h2⟩
  rw [he]
  rw [HE3.out] at HO1 ⊢
  have h70 := chk70 v
  obtain ⟨r, er⟩ : ∃ r, chkO v 0 0 0 = r := ⟨_, rfl⟩
  rw [er] at h70 ⊢
  have HM := hid (must_any q p ef S (isV v) w2 ((HT1.out.still h2).r))
  have HT2 := hid (HT1.out.still h2)
  have HG2 := hid (HG1.out.still h2)
  have HO2 := hid (HO1.out.still h2)
  have HB : Hid ((r != 70) = isV v) := hid (by unfold bne; rw [h70]; simp)
  obtain ⟨b, eb⟩ : ∃ b, isV v = b := ⟨_, rfl⟩
  rw [eb] at HM HB HE
  have hb := HB.out
  clear he h2 HCk HT1 HG1 HO1 er h70 eb HB HE3
  go_wp2_with fail
  refine HM.out.mono ?_
  rintro e w3 ⟨he, h3⟩
  rw [he]
  have A3 := Still.alloc w3 (.cells #[.int .i64 0, .int .i64 0, .int .i64 0] 95)
  have HT3 := hid ((HT2.out.trans h3).still A3)
  have HG3 := hid ((HG2.out.on h3).still A3)
  have HO3 := hid ((HO2.out.on h3).still A3)
  have B3 := Obz.new h3.r #[.int .i64 0, .int .i64 0, .int .i64 0] 95
  have HP := hid (ops_any v (w3.alloc (.cells #[.int .i64 0, .int .i64 0, .int .i64 0] 95)))
  have HN3 := hid B3
  have d0 := HO3.out.cell 0
  simp only [List.getElem?_cons_zero] at d0
  obtain ⟨n3, en3⟩ : ∃ g, w3.heap.size = g := ⟨_, rfl⟩
  have HE4 := hid en3
  have HNew : Hid (¬ n3 < W.heap.size) := hid (by have := (HT2.out.trans h3).f.size; omega)
  clear he h3 A3 B3 HM HT2 HG2 HO2 hb en3
  go_wp2_with fail
  refine HP.out.mono ?_
  rintro e w4 ⟨x, he, ho4, h4⟩
  rw [he]
  rw [HE4.out] at HN3 ⊢
  obtain ⟨xo, xc, ex, _⟩ := ho4.slice
  subst ex
  have HT4 := hid (HT3.out.still h4)
  have HG4 := hid (HG3.out.still h4)
  have HO4 := hid (HO3.out.still h4)
  have HN4 := hid (HN3.out.still h4)
  have hno : (opV v).length = nOp v := rfl
  rw [hno]
  have hn2 := nOp_le v
  obtain ⟨N, eN⟩ : ∃ N, nOp v = N := ⟨_, rfl⟩
  rw [eN] at hn2 HE ⊢
  clear he ho4 h4 d0 HP HT3 HG3 HO3 HN3 hno eN HE4
  go_wp2_with fail
  go_loopw [5, 22] (fun u5 u22 wr => ∃ (i : Nat) (t : Int × Int × Int) (s1 : Rs), i ≤ N ∧ u22 = .int .i64 (i : Int) ∧ Hid (Tz W wr q p ef s1 ∧ opM (N - i) i t s1 = opM N 0 (0, 0, 0) (mG b S).2) ∧ Hid (Obz wr q p g2 (oro 0 0 0 0) ∧ Obz wr q p g3 (oro v 0 0 0) ∧ Obz wr q p n3 (aro t))) (fun _ u22 _ => N - (intOf u22).toNat)
  case atStart => exact ⟨0, (0, 0, 0), (mG b S).2, by omega, rfl, hid ⟨HT4.out, rfl⟩, hid ⟨HG4.out, HO4.out, HN4.out⟩⟩
  case round =>
    obtain ⟨i, t, s1, hi, rfl, HLr, HBr⟩ := hrel
    by_cases hin : i < N
    · have hlt : (i : Int) < (N : Int) := by omega
      have hi3 : (i : Int) < 3 := by omega
      have c0 := HLr.out.1.r.ptr
      have HC := hid (yint_any q p ef s1 wr HLr.out.1.r)
      have HF : Hid (opM (N - (i + 1)) (i + 1) (put3 t i (inM s1).1) (inM s1).2 = opM N 0 (0, 0, 0) (mG b S).2) := hid (by
        rw [← HLr.out.2, show N - i = (N - (i + 1)) + 1 by omega]
        rfl)
      have hxi := inM_in s1
      obtain ⟨x, S1, ex⟩ : ∃ x S, inM s1 = (x, S) := ⟨_, _, rfl⟩
      rw [ex] at HC HF hxi
      dsimp only at HC HF hxi
      have hcx : IntKind.i64.wrap x = x := wr64 hxi.1 hxi.2
      clear ex
      go_wp2_with fail
      refine HC.out.mono ?_
      rintro e w5 ⟨he, h5⟩
      rw [he]
      have n5 := HBr.out.2.2.on h5
      have f5 : w5.frozen? ⟨n3, i, none⟩ = false := frozen_of_row w5 n3 i _ _ n5.b
      have k5 : ∃ y, w5.cell? ⟨n3, i, none⟩ = some y := by
        rcases (show i = 0 ∨ i = 1 by omega) with rfl | rfl <;> exact ⟨_, by rw [cell_of_row _ _ _ _ _ _ n5.b]; rfl⟩
      obtain ⟨y, ky⟩ := k5
      have b5 : Obz (w5.setCell ⟨n3, i, none⟩ (.int .i64 x)) q p n3 (aro (put3 t i x)) := ⟨aro_set n5.b i (by omega) x, n5.n⟩
      have hf5 : Fr (fun k => k = n3) w5 (w5.setCell ⟨n3, i, none⟩ (.int .i64 x)) := (Fr.refl _ w5).setCell ⟨n3, i, none⟩ _ (.inl rfl)
      have t5 := HLr.out.1.trans h5
      have HL5 : Hid (Tz W (w5.setCell ⟨n3, i, none⟩ (.int .i64 x)) q p ef S1 ∧ opM (N - (i + 1)) (i + 1) (put3 t i x) S1 = opM N 0 (0, 0, 0) (mG b S).2) := hid ⟨⟨t5.r.put n5.n n5.b (by decide) (not_err t5.r n5.b (i64s_aro t)) hf5, t5.f.trans hf5 (fun k hk e => by rw [e] at hk; exact absurd hk (HNew.out)) ⟩, HF.out⟩
      have HB5 : Hid (Obz (w5.setCell ⟨n3, i, none⟩ (.int .i64 x)) q p g2 (oro 0 0 0 0) ∧ Obz (w5.setCell ⟨n3, i, none⟩ (.int .i64 x)) q p g3 (oro v 0 0 0) ∧ Obz (w5.setCell ⟨n3, i, none⟩ (.int .i64 x)) q p n3 (aro (put3 t i x))) := hid (by
        have o2 := HBr.out.1.on h5
        have o3 := HBr.out.2.1.on h5
        refine ⟨⟨hf5.kept o2.b (fun e => ?_), o2.n⟩, ⟨hf5.kept o3.b (fun e => ?_), o3.n⟩, b5⟩
        · have := o2.b
          rw [e, n5.b] at this
          simp at this
        · have := o3.b
          rw [e, n5.b] at this
          simp at this)
      clear he h5 n5 b5 hf5 t5 HC HF HLr HBr c0
      go_wp2_with fail
      go_roundw
      case rel => exact ⟨i + 1, _, S1, by omega, by go_num, HL5, HB5⟩
      case measure => simp [intOf]; omega
    · obtain rfl : i = N := by omega
      have HE2 : Hid (orM s = ((v, t), s1)) := hid (by
        have h1 := HLr.out.2
        rw [Nat.sub_self] at h1
        have h2 : opM i 0 (0, 0, 0) (mG b S).2 = (t, s1) := h1.symm
        rw [HE.out]
        show (mR (v, (opM i 0 (0, 0, 0) (mG b S).2).1)) (opM i 0 (0, 0, 0) (mG b S).2).2 = _
        rw [h2]
        rfl)
      obtain ⟨x, y, z⟩ := t
      have k0 := HBr.out.2.2.cell 0
      have k1 := HBr.out.2.2.cell 1
      have k2 := HBr.out.2.2.cell 2
      simp only [List.getElem?_cons_zero, List.getElem?_cons_succ] at k0 k1 k2
      have f3 : ∀ o, wr.frozen? ⟨g3, o, none⟩ = false := fun o => frozen_of_row wr g3 o _ _ HBr.out.2.1.b
      have hne : n3 ≠ g3 := fun e => by
        have h1 := HBr.out.2.1.b
        rw [← e, HBr.out.2.2.b] at h1
        simp at h1
      have HIC : Hid (∀ u, Fr (fun k => k = g3) wr u → u.cell? ⟨n3, 0, none⟩ = some (.int .i64 x) ∧ u.cell? ⟨n3, 1, none⟩ = some (.int .i64 y) ∧ u.cell? ⟨n3, 2, none⟩ = some (.int .i64 z)) := hid (fun u hu => ⟨(hu.cell (World.block_lt_of_cell? wr _ k0) hne).trans k0, (hu.cell (World.block_lt_of_cell? wr _ k1) hne).trans k1, (hu.cell (World.block_lt_of_cell? wr _ k2) hne).trans k2⟩)
      have m0 := HBr.out.2.1.cell 0
      have m1 := HBr.out.2.1.cell 1
      have m2 := HBr.out.2.1.cell 2
      have m3 := HBr.out.2.1.cell 3
      simp only [List.getElem?_cons_zero, List.getElem?_cons_succ] at m0 m1 m2 m3
      go_wp2_with fail
      refine region_I (fun u => u.cell? ⟨n3, 0, none⟩ = some (.int .i64 x) ∧ u.cell? ⟨n3, 1, none⟩ = some (.int .i64 y) ∧ u.cell? ⟨n3, 2, none⟩ = some (.int .i64 z)) (by kernel_rfl) ?_
      refine wpAnyI_take (i := 0) (v := ?tv0) rfl rfl (by kernel_rfl) (by kernel_rfl) (by kernel_rfl) (fun _ _ _ h => h) (fun u hu => ?ty0) ?tk0
      case ty0 => (go_simp; try rfl)
      refine wpAnyI_take (i := 1) (v := ?tv1) rfl rfl (by kernel_rfl) (by kernel_rfl) (by kernel_rfl) (fun _ _ _ h => h) (fun u hu => ?ty1) ?tk1
      case ty1 => (go_simp; try rfl)
      refine wpAnyI_take (i := 2) (v := ?tv2) rfl rfl (by kernel_rfl) (by kernel_rfl) (by kernel_rfl) (fun _ _ _ h => h) (fun u hu => ?ty2) ?tk2
      case ty2 => (go_simp; try rfl)
      refine wpAnyI_take (i := 3) (v := ?tv3) rfl rfl (by kernel_rfl) (by kernel_rfl) (by kernel_rfl) (fun _ _ _ h => h) (fun u hu => ?ty3) ?tk3
      case ty3 => (go_simp; try rfl)
      refine wpAnyI_take (i := 4) (v := ?tv4) rfl rfl (by kernel_rfl) (by kernel_rfl) (by kernel_rfl) (fun _ _ _ h => h) (fun u hu => ?ty4) ?tk4
      case ty4 => (go_simp; try rfl)
      refine wpAnyI_take (i := 5) (v := ?tv5) rfl rfl (by kernel_rfl) (by kernel_rfl) (by kernel_rfl) (fun _ _ _ h => h) (fun u hu => ?ty5) ?tk5
      case ty5 => (go_simp; try rfl)
      refine wpAnyI_take (i := 6) (v := ?tv6) rfl rfl (by kernel_rfl) (by kernel_rfl) (by kernel_rfl) (fun _ _ _ h => h) (fun u hu => ?ty6) ?tk6
      case ty6 => (go_simp; try rfl)
      refine wpAnyI_ready (HIC.out _ (by repeat (first | exact Fr.refl _ _ | refine Fr.drew ?_ | refine Fr.setCell ?_ _ _ (.inl rfl)))) (rs := [7]) (by kernel_rfl) (by simp) ?_
      refine AllI.cons rfl rfl (fun K hK => ?_) AllI.nil
      go_simp
      refine hK _ _ ?_
      clear hK K
      refine wpAnyI_take (i := 8) (v := ?tv8) rfl rfl (by kernel_rfl) (by kernel_rfl) (by kernel_rfl) (fun _ _ _ h => h) (fun u hu => ?ty8) ?tk8
      case ty8 => (go_simp; try rfl)
      refine wpAnyI_ready (HIC.out _ (by repeat (first | exact Fr.refl _ _ | refine Fr.drew ?_ | refine Fr.setCell ?_ _ _ (.inl rfl)))) (rs := [9]) (by kernel_rfl) (by simp) ?_
      refine AllI.cons rfl rfl (fun K hK => ?_) AllI.nil
      go_simp
      refine hK _ _ ?_
      clear hK K
      refine wpAnyI_take (i := 10) (v := ?tv10) rfl rfl (by kernel_rfl) (by kernel_rfl) (by kernel_rfl) (fun _ _ _ h => h) (fun u hu => ?ty10) ?tk10
      case ty10 => (go_simp; try rfl)
      refine wpAnyI_ready (HIC.out _ (by repeat (first | exact Fr.refl _ _ | refine Fr.drew ?_ | refine Fr.setCell ?_ _ _ (.inl rfl)))) (rs := [11]) (by kernel_rfl) (by simp) ?_
      refine AllI.cons rfl rfl (fun K hK => ?_) AllI.nil
      go_simp
      refine hK _ _ ?_
      clear hK K
      refine wpAnyI_done (HIC.out _ (by repeat (first | exact Fr.refl _ _ | refine Fr.drew ?_ | refine Fr.setCell ?_ _ _ (.inl rfl)))) (by kernel_rfl) ?_ _
      have HV : Hid (∀ V, (((wr.setCell ⟨g3, 1, none⟩ (.int .i64 x)).setCell ⟨g3, 2, none⟩ (.int .i64 y)).setCell ⟨g3, 3, none⟩ (.int .i64 z)).drew = V → Orb V g3 v x y z ∧ Orb V g2 0 0 0 0 ∧ Tz W V q p ef s1) := hid (fun V eV => by
        have hb := HBr.out.2.1.b
        have hf : Fr (fun k => k = g3) wr V := by
          rw [← eV]
          repeat (first | exact Fr.refl _ _ | refine Fr.drew ?_ | refine Fr.setCell ?_ _ _ (.inl rfl))
        refine ⟨?_, hf.kept HBr.out.1.b (fun e => ?_), ⟨HLr.out.1.r.put HBr.out.2.1.n hb (by decide) (not_err HLr.out.1.r hb (i64s_oro v 0 0 0)) hf, HLr.out.1.f.trans hf (fun k hk e => ?_)⟩⟩
        · rw [← eV]
          exact setO3 hb
        · exact HNg.out.1 e
        · rw [e] at hk
          exact absurd hk HNg.out.2)
      obtain ⟨V, eV⟩ : ∃ V, (((wr.setCell ⟨g3, 1, none⟩ (.int .i64 x)).setCell ⟨g3, 2, none⟩ (.int .i64 y)).setCell ⟨g3, 3, none⟩ (.int .i64 z)).drew = V := ⟨_, rfl⟩
      rw [eV]
      have HV2 := hid (HV.out V eV)
      clear HV eV HIC k0 k1 k2 m0 m1 m2 m3 f3 HBr HLr
      obtain ⟨m0, m1, m2, m3, _⟩ := HV2.out.1.cells
      obtain ⟨n0, n1, n2, n3', nf⟩ := HV2.out.2.1.cells
      have f0 := nf 0
      have f1 := nf 1
      have f2 := nf 2
      have f3 := nf 3
      go_wp2_with fail
      have hfin : Fr (fun k => k = g2) V (setO V g2 v x y z) := setO_fr (Fr.refl _ V) g2 v x y z (.inl rfl)
      have hR : Rz (setO V g2 v x y z) q p ef s1 := HV2.out.2.2.r.put HNq.out HV2.out.2.1 (by decide) (not_err HV2.out.2.2.r HV2.out.2.1 (i64s_oro 0 0 0 0)) hfin
      refine bodyPost_ret ((HV2.out.2.1.set v x y z).res16 rfl _ rfl) rfl ⟨by rw [HE2.out], ?_⟩
      rw [HE2.out]
      exact ⟨hR, (HA.out.to.trans HV2.out.2.2.f (fun _ _ h => h)).trans hfin (fun k hk e => by omega)⟩
end Go.Proofs.YtaaongbdincimaaGreatDoor
