/- The document's bag: own, Send. -/
import Derived.Test.YtakdfckkljbghaaBgh
import Derived.Test.YtakdfckkljbghaaIo
namespace Go.Proofs.Ytakdfckkljbghaa
open Go.RowKit
set_option maxRecDepth 100000
set_option linter.unusedVariables false

theorem rown_any (ao : Option Addr) (n cap : Nat) (bs : List UInt8) (hn : n ≤ 140737488355328) (w : World) (hr : Rd w ao n cap bs) : Calls Try.prog 29 #[.slice ao n cap] w fun e w' => ∃ ao' cap', e = .returned (.slice ao' n cap') ∧ Ow 5 w' ao' n cap' bs ∧ Still w w' ∧ ∀ a, ao' = some a → w.heap.size ≤ a.block := by
  have HR := hid hr
  obtain ⟨i, hi, hz, h1, h2⟩ := infoB
  have HI := hid (And.intro hi (And.intro hz (And.intro h1 h2)))
  have HN : Hid (0 + n ≤ 140737488355328) := hid (by omega)
  clear hr hi hz h1 h2
  go_enter Try.func29, Try.ntmps29
  go_wp2_with (at_builtin; refine wpList_app _ rfl _ _ _ rfl 5 i rfl HI.out.1 HI.out.2.1 HI.out.2.2.1 HI.out.2.2.2 none ao 0 0 n cap [] bs rfl rfl (Ow.empty _ _) HR.out HN.out ?_; intro ao' cap' w' ho' hf' hb' _)
  have HO2 : Hid (Ow 5 w' ao' n cap' bs) := hid (by rw [Nat.zero_add, List.nil_append] at ho'; exact ho')
  have HS2 : Hid (Still w w') := hid (hf'.mono (fun k hk e => by obtain ⟨a, ha, _⟩ := e; cases ha))
  have HB2 : Hid (∀ a, ao' = some a → w.heap.size ≤ a.block) := hid (fun a ha => by
    rcases hb' a ha with h | h
    · cases h
    · exact h)
  clear ho' hf' hb'
  go_ret
  exact ⟨_, _, rfl, HO2.out, HS2.out, HB2.out⟩
/-- the document's bag in memory -/
structure Ydb (w : World) (B yb : Nat) (v : Value) (la : Int) (S : List Pcl) : Prop where
  bk : w.heap[yb]? = some (.cells #[v, .int .i64 la] 29 (0, 0))
  ow : OwG KPl 43 w B v S
  rd : ∀ y ∈ S, Rq w y
  lo : B ≤ yb
theorem Ydb.keep {F : Nat → Prop} {w w' : World} {B yb : Nat} {v : Value} {la : Int} {S : List Pcl} (h : Ydb w B yb v la S) (hf : Fr F w w') (h1 : ¬ F yb) (h2 : ∀ k, F k → v.ownBlock ≠ some k) (h3 : ∀ y ∈ S, ∀ a, y.ao = some a → ¬ F a.block) : Ydb w' B yb v la S :=
  ⟨hf.kept h.bk h1, h.ow.keep hf h2, fun y hy => (h.rd y hy).kept hf (h3 y hy), h.lo⟩
theorem Ydb.still {w w' : World} {B yb : Nat} {v : Value} {la : Int} {S : List Pcl} (h : Ydb w B yb v la S) (hs : Still w w') : Ydb w' B yb v la S := h.keep hs (fun e => e) (fun _ e => e.elim) (fun _ _ _ _ e => e)
theorem Ydb.cell {w : World} {B yb : Nat} {v : Value} {la : Int} {S : List Pcl} (h : Ydb w B yb v la S) : w.cell? ⟨yb, 0, none⟩ = some v ∧ w.cell? ⟨yb, 1, none⟩ = some (.int .i64 la) ∧ ∀ o, w.frozen? ⟨yb, o, none⟩ = false := by
  refine ⟨?_, ?_, fun o => frozen_of_row w yb o _ _ h.bk⟩ <;> (rw [cell_of_row _ _ _ _ _ _ h.bk]; rfl)
theorem Ydb.nbt {w : World} {B yb : Nat} {v : Value} {la : Int} {S : List Pcl} (h : Ydb w B yb v la S) : ∀ k, (k = yb ∨ v.ownBlock = some k) → Nbt w k := by
  rintro k (rfl | hk)
  · exact Nbt.of h.bk (by decide)
  · obtain ⟨cur, hc⟩ := ow_ty h.ow hk
    exact Nbt.of hc (by decide)
theorem Ydb.vne {w : World} {B yb : Nat} {v : Value} {la : Int} {S : List Pcl} (h : Ydb w B yb v la S) : v.ownBlock ≠ some yb := fun e => by
  obtain ⟨cur, hc⟩ := ow_ty h.ow e
  exact ty_ne hc h.bk (by decide) rfl
theorem Ow.setPl {w : World} {ao : Option Addr} {n cap g : Nat} {bs : List UInt8} {x y : Pcl} (h : Ow 5 w ao n cap bs) (hp : Plb w g x) : Ow 5 (setPl w g y) ao n cap bs :=
  h.kept (setPl_fr (Fr.refl (fun k => k = g) w) _ _ (.inl rfl)) (fun a ha e => by
    obtain ⟨_, _, cur, hg, _⟩ := h.row a ha
    exact ty_ne hg hp (by decide) e)
/-- another row is stored -/
theorem Ydb.put {w : World} {B yb : Nat} {v v' : Value} {la : Int} {S' : List Pcl} (h : w.heap[yb]? = some (.cells #[v, .int .i64 la] 29 (0, 0))) (hl : B ≤ yb) (ho : OwG KPl 43 w B v' S') (hr : ∀ y ∈ S', Rq w y) : Ydb (w.setCell ⟨yb, 0, none⟩ v') B yb v' la S' := by
  have f1 : Fr (fun k => k = yb) w (w.setCell ⟨yb, 0, none⟩ v') := Fr.setCell (Fr.refl _ w) _ _ (.inl rfl)
  refine ⟨(heap_setCell_same w yb 0 _ _ _ h).trans (by rfl), ho.keep f1 (fun k hk e => ?_), fun y hy => (hr y hy).keep f1 (fun k hk => by subst hk; exact Nbt.of h (by decide)), hl⟩
  subst hk
  obtain ⟨cur, hc⟩ := ow_ty ho e
  exact ty_ne hc h (by decide) rfl
theorem bs_pl {o : Oper} {ρ : Operand → Value} {x : Operand} {s : Pcl} (ho : o.op = .buildSlice 27 1 #[(0, x)]) (hx : ρ x = pvl s) (u : World) : (execOp ρ o).run Try.prog u = .ok (.value (.slice (some ⟨u.heap.size, 0, none⟩) 1 1)) (u.alloc (.cells (pls s) 43)) := by
  unfold execOp
  rw [ho]
  simp only [List.map_toArray, List.map_cons, List.map_nil, hx]
  go_simp
  try rfl
set_option maxHeartbeats 4000000 in
theorem rsend_any (B yb : Nat) (v : Value) (la : Int) (S : List Pcl) (f t : Int) (ao : Option Addr) (n cap : Nat) (bs : List UInt8) (h0 : 0 ≤ la) (hla : la < 4611686018427387904) (hn : n ≤ 140737488351232) (hS : (S.length + 1) * 48 ≤ 140737488355328) (w : World) (hb : Ydb w B yb v la S) (hr : Rd w ao n cap bs) (hro : ∀ a, ao = some a → 0 < n → a.block ≠ yb) : Calls Try.prog 19 #[.pointer (some ⟨yb, 0, none⟩), .int .i64 f, .int .i64 t, .slice ao n cap] w fun e w' => e = .returned (.int .i64 (la + 1)) ∧ ∃ y v', abP y = (la + 1, f, t, bs) ∧ (∀ a, y.ao = some a → w.heap.size ≤ a.block) ∧ Ydb w' B yb v' (la + 1) (S ++ [y]) ∧ Fr (fun k => k = yb ∨ v.ownBlock = some k) w w' ∧ ∀ k, v'.ownBlock = some k → v.ownBlock = some k ∨ w.heap.size ≤ k := by
  obtain ⟨c0, c1, cf⟩ := hb.cell
  have hyl := block_lt hb.bk
  have hBl : B ≤ w.heap.size := by have := hb.lo; omega
  obtain ⟨W1, eW1⟩ : ∃ W, w.setCell ⟨yb, 1, none⟩ (.int .i64 (la + 1)) = W := ⟨_, rfl⟩
  have f1 : Fr (fun k => k = yb) w W1 := by rw [← eW1]; exact Fr.setCell (Fr.refl _ w) _ _ (.inl rfl)
  have b1 : W1.heap[yb]? = some (.cells #[v, .int .i64 (la + 1)] 29 (0, 0)) := by rw [← eW1]; exact (heap_setCell_same w yb 1 _ _ _ hb.bk).trans (by rfl)
  have y1 : Ydb W1 B yb v (la + 1) S := ⟨b1, hb.ow.keep f1 (fun k hk e => hb.vne (by rw [e, hk])), fun y hy => (hb.rd y hy).keep f1 (fun k hk => hb.nbt k (.inl hk)), hb.lo⟩
  have r1 : Rd W1 ao n cap bs := hr.kept f1 (fun a ha hp e => hro a ha hp e)
  have HC := hid (fun (u : World) (hu : Still W1 u) => rown_any ao n cap bs (by omega) u (r1.still hu))
  have HY1 := hid y1
  have HF1 := hid f1
  obtain ⟨d0, d1, df⟩ := y1.cell
  have hw1 : IntKind.i64.wrap (la + 1) = la + 1 := by rw [IntKind.wrap_i64]; omega
  have hw2 : wrap64 (la + 1) = la + 1 := by rw [← IntWalk.i64_left, IntKind.wrap_i64]; omega
  have hz1 : yb < W1.heap.size := block_lt b1
  have HN := hid hn
  have HSl := hid hS
  have HV := hid hb.vne
  have HVl := hid (fun k hk => (hb.ow.block (k := k) hk).2)
  clear hb hr hro f1 b1 y1 r1 hn hS
  go_enter Try.func19, Try.ntmps19
  go_upto_region 2 with fail
  clear eW1 c0 c1 cf
  have k1 : W1.heap.size ≠ yb := by omega
  go_cut [9] (fun v9 wx => ∃ g ao1 cap1, v9 = .pointer (some ⟨g, 0, none⟩) ∧ Plb wx g ⟨la + 1, f, t, ao1, n, cap1, bs⟩ ∧ Ow 5 wx ao1 n cap1 bs ∧ W1.heap.size ≤ g ∧ (∀ a, ao1 = some a → W1.heap.size ≤ a.block) ∧ Still W1 wx)
  case first =>
    go_region_held3 (fun w' => w'.cell? ⟨yb, 1, none⟩ = some (.int .i64 (la + 1))) (go_keep)
      (first
        | (go_at_call 29
           refine (HC.out _ (by repeat (first | exact Fr.refl _ _ | refine Fr.drew ?_ | refine Fr.alloc ?_ _))).mono ?_
           rintro e x1 ⟨ao1, cap1, rfl, o1, g1, n1⟩
           have HX1 : Hid (Still W1 x1) := hid (by
             refine Still.trans ?_ g1
             repeat (first | exact Fr.refl _ _ | refine Fr.drew ?_ | refine Fr.alloc ?_ _))
           obtain ⟨e0, e1, ef⟩ := (HY1.out.still HX1.out).cell
           have HO1 := hid o1
           have m1 : x1.heap.size ≠ yb := by have := HX1.out.size; omega
           have HN1 : Hid (∀ a, ao1 = some a → W1.heap.size ≤ a.block) := hid (fun a ha => by
             have h1 := n1 a ha
             simp at h1
             omega)
           try (have z1 : Plb x1 W1.heap.size zPl := Fr.kept_still (Still.undrew g1) (heap_alloc_new W1 _); obtain ⟨u0, u1, u2, u3, uf⟩ := z1.cells)
           clear o1 g1 n1))
    · go_wp2_with fail
      go_meet
      have hA := Still.alloc x1 (.cells (pls ⟨la + 1, f, t, ao1, n, cap1, bs⟩) 43)
      exact ⟨x1.heap.size, ao1, cap1, rfl, newPl_b x1 ⟨la + 1, f, t, ao1, n, cap1, bs⟩, HO1.out.still hA, HX1.out.size, HN1.out, HX1.out.trans hA⟩
    · go_wp2_with fail
      go_meet
      exact ⟨W1.heap.size, ao1, cap1, rfl, z1.put ⟨la + 1, f, t, ao1, n, cap1, bs⟩, HO1.out.setPl (y := ⟨la + 1, f, t, ao1, n, cap1, bs⟩) z1, Nat.le_refl _, HN1.out, setPl_fr HX1.out W1.heap.size ⟨la + 1, f, t, ao1, n, cap1, bs⟩ (.inr (Nat.le_refl _))⟩
  case rest =>
    obtain ⟨g, ao1, cap1, rfl, hp, ho, hg, hnw, hs⟩ := hcut
    obtain ⟨y, ey⟩ : ∃ y : Pcl, (⟨la + 1, f, t, ao1, n, cap1, bs⟩ : Pcl) = y := ⟨_, rfl⟩
    have HYe : Hid (abP y = (la + 1, f, t, bs) ∧ y.ao = ao1) := hid (by rw [← ey]; exact ⟨rfl, rfl⟩)
    have HYq : Hid (Rq wc y) := hid (by rw [← ey]; exact ⟨ho, HN.out⟩)
    rw [ey] at hp
    have HP := hid hp
    have HY := hid (HY1.out.still hs)
    have HS := hid hs
    have HNw := hid hnw
    have HGe := hid hg
    clear ho hg hnw hs ey hp d0 d1 df
    go_upto_region 3 with fail
    refine region_laid 6 1 (by kernel_rfl) (by kernel_rfl) (by kernel_rfl) ?_
    apply Exists.intro
    refine And.intro ?_ (And.intro ?_ ?_)
    · intro u hu
      have q0 := Cl.cell (HY.out.still hu).cell.1
      obtain ⟨n0, n1, n2, n3, _⟩ := (HP.out.still hu).cells
      have q1 := Cl.cell n0
      have q2 := Cl.cell n1
      have q3 := Cl.cell n2
      have q4 := Cl.cell n3
      have hne := Aft.here u
      simp only [List.take_succ_cons, List.take_zero]
      repeat (go_big_quiet_step (fail))
      exact wpQuiet_nil rfl
    · intro _ o ho u hu
      obtain rfl := Option.some.inj ho
      exact ⟨_, _, bs_pl rfl rfl u, Still.alloc u _⟩
    intro w3 h3
    simp only [List.drop_succ_cons, List.drop_zero]
    have A4 := Still.alloc w3 (.cells (pls y) 43)
    have HY4 : Hid (Ydb (w3.alloc (.cells (pls y) 43)) B yb v (la + 1) S) := hid ((HY.out.still h3).still A4)
    have HG4 : Hid ((w3.alloc (.cells (pls y) 43)).heap[w3.heap.size]? = some (.cells (KPl.f y).toArray 43 (0, 0))) := hid (OwG.row1P w3 y)
    have HS4 := hid ((HS.out.trans h3).trans A4)
    have HQ4 : Hid (Rq (w3.alloc (.cells (pls y) 43)) y) := hid ((HYq.out.still h3).still A4)
    have HB4 : Hid (B ≤ (w3.alloc (.cells (pls y) 43)).heap.size) := hid (by have := HS4.out.size; have := HF1.out.size; omega)
    clear h3 A4 HY HS HP HYq HY1
    go_wp2_with (
      at_builtin
      refine wpList_appQ KPl _ rfl _ _ _ rfl rfl 48 infoPl B w3.heap.size v S y rfl rfl HY4.out.ow HG4.out HSl.out (by have := HSl.out; omega) HB4.out ?_
      intro v' w' ho' hf' hb'
      have hnb := fun k hk => HY4.out.nbt k (.inr hk)
      have hb5 := hf'.kept HY4.out.bk (fun e => HV.out e)
      have HB5 := hid hb5
      have HO5 := hid ho'
      have HR5 : Hid (∀ z ∈ S ++ [y], Rq w' z) := hid (fun z hz => by
        rcases List.mem_append.1 hz with hz | hz
        · exact (HY4.out.rd z hz).keep hf' hnb
        · rw [List.mem_singleton] at hz
          subst hz
          exact HQ4.out.keep hf' hnb)
      have HF5 : Hid (Fr (fun k => v.ownBlock = some k) W1 w') := hid (Fr.trans (Still.to HS4.out) hf' (fun _ _ e => e))
      have HV5 : Hid (∀ k, v'.ownBlock = some k → v.ownBlock = some k ∨ w.heap.size ≤ k) := hid (fun k hk => by
        rcases hb' k hk with h | h
        · exact .inl h
        · exact .inr (Nat.le_trans HF1.out.size (Nat.le_trans HS4.out.size h)))
      have d0 : w'.cell? ⟨yb, 0, none⟩ = some v := by rw [cell_of_row _ _ _ _ _ _ hb5]; rfl
      have df := fun o => frozen_of_row w' yb o _ _ hb5
      obtain ⟨g5, cap5, e5, _, _⟩ := ho'.head (by simp)
      rw [List.length_append, List.length_singleton] at e5
      subst e5
      clear ho' hf' hb' hnb hb5)
    refine ⟨rfl, ?_⟩
    have HY6 := hid (Ydb.put HB5.out HY4.out.lo HO5.out HR5.out)
    have HF6 : Hid (Fr (fun k => k = yb ∨ v.ownBlock = some k) w (w'.setCell ⟨yb, 0, none⟩ (.slice (some ⟨g5, 0, none⟩) (S.length + 1) cap5))) := hid (Fr.setCell (Fr.trans (HF1.out.mono (fun k _ e => .inl e)) HF5.out (fun k _ e => .inr e)) _ _ (.inl (.inl rfl)))
    obtain ⟨W6, eW6⟩ : ∃ W, w'.setCell ⟨yb, 0, none⟩ (.slice (some ⟨g5, 0, none⟩) (S.length + 1) cap5) = W := ⟨_, rfl⟩
    rw [eW6] at HY6 HF6 ⊢
    have HNl : Hid (∀ a, y.ao = some a → w.heap.size ≤ a.block) := hid (fun a ha => by
      have h1 := HNw.out a (by rw [← HYe.out.2]; exact ha)
      have h2 := HF1.out.size
      omega)
    clear eW6 d0 df HB5 HO5 HR5 HF5 HG4 HS4 HQ4 HB4 HY4
    obtain ⟨d0, d1, df⟩ := HY6.out.cell
    go_wp2_with fail
    (try simp only [Exit.inBlock, Exit.then])
    go_ret
    exact ⟨rfl, y, _, HYe.out.1, HNl.out, HY6.out, HF6.out, HV5.out⟩
end Go.Proofs.Ytakdfckkljbghaa
