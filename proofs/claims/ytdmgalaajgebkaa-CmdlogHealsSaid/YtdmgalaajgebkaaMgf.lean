/- The program's All. -/
import Derived.Test.YtdmgalaajgebkaaMge
namespace Go.Proofs.Ytdmgalaajgebkaa
open Go Go.RowKit
set_option maxRecDepth 100000
attribute [local go_sem] Oper.semAt_some

theorem app19 {α : Type} {K : Kd α} {e t : TypeId} {n₀ Bm : Nat} {U U5 : World} {v v' : Value} {l l' : List α} {tmp : Obj} (hv : Boxed U Bm t v) (hte : t ≠ e) (ho : OwG K e U n₀ v l) (hn : n₀ ≤ U.heap.size) (hB : n₀ ≤ Bm) (ho' : OwG K e U5 n₀ v' l') (hf : Fr (fun k => v.ownBlock = some k) (U.alloc tmp) U5) :
    Boxed U5 Bm t v ∧ Boxed (U5.setCell ⟨Bm, 0, none⟩ v') Bm t v' ∧ OwG K e (U5.setCell ⟨Bm, 0, none⟩ v') n₀ v' l' ∧ KeepsOthers U (U5.setCell ⟨Bm, 0, none⟩ v') ∧ Below n₀ U (U5.setCell ⟨Bm, 0, none⟩ v') :=
  hv.appended hte ho hn hB ho' ⟨hf.os, hf.tape, hf.output, hf.size, fun k hk hne => hf.block k hk (fun e => hne e.symm)⟩
theorem kpL_below {p n₀ : Nat} {W W' : World} (h : Below n₀ W W') (hp : p < n₀) : KpL p W W' := fun _ ho => (h.block p hp).trans ho
theorem bs_E19 {o : Oper} {ρ : Operand → Value} {s : Operand} {x : En} (ho : o.op = .buildSlice 40 1 #[(0, s)]) (hs : ρ s = ev x) (u : World) : (execOp ρ o).run Try.prog u = .ok (.value (.slice (some ⟨u.heap.size, 0, none⟩) 1 1)) (newE u x) := by
  unfold execOp
  rw [ho]
  simp only [List.map_toArray, List.map_cons, List.map_nil, hs]
  go_simp
theorem take_next {S : List En} {k : Nat} (hk : k < S.length) : S.take (k + 1) = S.take k ++ [att S k] := by
  rw [List.take_succ_eq_append_getElem hk]
  unfold att
  rw [List.getD_eq_getElem?_getD, List.getElem?_eq_getElem hk]
  rfl
set_option maxHeartbeats 4000000 in
theorem cm_all (s : Lgs) (B p : Nat) (vs : Nat → Value) (w : World) (h : Lm w B p s vs) : Calls Try.prog 12 #[.pointer (some ⟨p, 0, none⟩)] w fun e w' => ∃ v, e = .returned v ∧ OwG KE enT w' w.heap.size v s.S ∧ Still w w' := by
  have HL := hid h
  have hlt := h.lt
  have hn := len_2016 h.ok
  have HB0 := hid (Boxed.new w 40 (.slice none 0 0))
  have hS0 := Still.alloc w (.cells #[.slice none 0 0] 40)
  clear h
  refine (callsIn_wide (n := 0)).1 ?_
  refine callsIn_of_wp_marks Try.func12 rfl trivial ?_ rfl
  simp only [Try.ntmps12, List.size_toArray, List.length_cons, List.length_nil, Nat.reduceAdd, Nat.reduceSub, Array.replicate_succ, Array.replicate_zero, List.push_toArray, List.append_toArray, List.nil_append, List.cons_append]
  gi_wp2_with fail
  refine range_n rfl enters_ent (cm_entries s B p vs _ (HL.out.still hS0)) kpL_t (kpL_b (by simp; omega)) (Below.refl _ _) rfl
    (fun k W => (∃ v, Boxed W w.heap.size 40 v ∧ W.ownsRow w.heap.size enT KE.k v (s.S.take k).length (KE.row (s.S.take k)) ∧ True) ∧ Below w.heap.size w W) (fun _ _ => False)
    (OwnFrom.and (Own.from (holdsRow_own w.heap.size w.heap.size 40 enT KE.k (fun k => (s.S.take k).length) (fun k => KE.row (s.S.take k)) (fun _ _ => True)) _) (ownFrom_below (Nat.le_refl _) (by simp))) (fun _ _ _ _ hs _ _ => hs.elim)
    ⟨⟨_, HB0.out, OwG.nil (K := KE) (e := enT) _ _, trivial⟩, hS0.below⟩
    (fun k => { tmps := #[.pointer (some ⟨p, 0, none⟩), undef, .slice none 0 0, .pointer (some ⟨w.heap.size, 0, none⟩), encL vs s.S k, .pointer (some ⟨p, 0, none⟩), .func (.func 34) #[.pointer (some ⟨p, 0, none⟩)] #[], encL vs s.S k, undef, undef, undef, undef, undef, undef, undef], defers := [] }) ?assign ?body ?done ?stop
  case assign =>
    intro l x W K hK
    gi_wp2_with fail
    simpa using hK
  case body =>
    rintro l k W hk ⟨⟨v, kv, ho, _⟩, hB⟩
    have ho : OwG KE enT W w.heap.size v (s.S.take k) := ho
    have hz := hB.size
    obtain ⟨g, j, he, hg, c0, c1, c2, c3, c4, c5, c6, c7, _⟩ := (HL.out.still (still_under hB)).entry hk
    rw [he]
    have HT := hid (take_next hk)
    have HLn : Hid ((s.S.take k).length ≤ 100000) := hid (by simp; omega)
    obtain ⟨x, ex⟩ : ∃ x, att s.S k = x := ⟨_, rfl⟩
    rw [ex] at c0 c1 c2 c3 c4 c5 c6 c7 HT
    obtain ⟨M, eM⟩ : ∃ M, s.S.take k = M := ⟨_, rfl⟩
    rw [eM] at ho HT HLn
    obtain ⟨ao, cap, ev', _⟩ := ho.slice
    subst ev'
    obtain ⟨m, em⟩ : ∃ m, M.length = m := ⟨_, rfl⟩
    have HM := hid em
    rw [em] at kv ho
    have HO := hid ho
    have HKV := hid kv
    have HB := hid hB
    have HC := hid (And.intro c0 (And.intro c1 (And.intro c2 (And.intro c3 (And.intro c4 (And.intro c5 (And.intro c6 c7)))))))
    clear ho hB ex eM he kv em c0 c1 c2 c3 c4 c5 c6 c7
    gi_wp2_with fail
    refine round_laid 4 1 (fun ⟨_, _, h⟩ => False.elim h) (by kernel_rfl) (by kernel_rfl) (by kernel_rfl) (by kernel_rfl) ?_
    apply Exists.intro
    refine And.intro ?_ (And.intro ?_ ?_)
    · intro u hu
      have HCu := HC.out
      have e0 := Cl.cell ((hu.cell (World.block_lt_of_cell? W _ HCu.1) (fun e => e)).trans HCu.1)
      have e1 := Cl.cell ((hu.cell (World.block_lt_of_cell? W _ HCu.2.1) (fun e => e)).trans HCu.2.1)
      have e2 := Cl.cell ((hu.cell (World.block_lt_of_cell? W _ HCu.2.2.1) (fun e => e)).trans HCu.2.2.1)
      have e3 := Cl.cell ((hu.cell (World.block_lt_of_cell? W _ HCu.2.2.2.1) (fun e => e)).trans HCu.2.2.2.1)
      have e4 := Cl.cell ((hu.cell (World.block_lt_of_cell? W _ HCu.2.2.2.2.1) (fun e => e)).trans HCu.2.2.2.2.1)
      have e5 := Cl.cell ((hu.cell (World.block_lt_of_cell? W _ HCu.2.2.2.2.2.1) (fun e => e)).trans HCu.2.2.2.2.2.1)
      have e6 := Cl.cell ((hu.cell (World.block_lt_of_cell? W _ HCu.2.2.2.2.2.2.1) (fun e => e)).trans HCu.2.2.2.2.2.2.1)
      have e7 := Cl.cell ((hu.cell (World.block_lt_of_cell? W _ HCu.2.2.2.2.2.2.2) (fun e => e)).trans HCu.2.2.2.2.2.2.2)
      have e8 := Cl.cell (boxed_still HKV.out hu).cell
      have hne := Aft.here u
      clear HCu
      simp only [List.take_succ_cons, List.take_zero]
      repeat (go_big_quiet_step (fail))
      exact wpQuiet_nil rfl
    · intro _ o ho u hu
      obtain rfl := Option.some.inj ho
      exact ⟨_, _, bs_E19 rfl rfl u, Still.alloc u _⟩
    intro u hu
    simp only [List.drop_succ_cons, List.drop_zero]
    have A4 := Still.alloc u (.cells (ecs x) 44)
    have HO3 := hid (HO.out.still hu)
    have HO4 := hid ((HO.out.still hu).still A4)
    have HX4 : Hid ((newE u x).heap[u.heap.size]? = some (.cells (KE.f x).toArray enT (0, 0))) := hid (newE_eb u x)
    have HB4 : Hid (w.heap.size ≤ (newE u x).heap.size) := hid (by have := hu.size; simp; omega)
    have HKV3 := hid (boxed_still HKV.out hu)
    have HSu := hid hu
    clear A4 hu HC
    go_wp2_with (
      at_builtin
      refine wpList_appG KE _ rfl _ _ _ rfl rfl 64 infoE (by omega) w.heap.size u.heap.size (.slice ao m cap) M x rfl rfl HO4.out HX4.out HLn.out HB4.out ?_
      intro v' w' ho' hf'
      have HA := hid (app19 HKV3.out (by decide) HO3.out (by have := HSu.out.size; omega) (Nat.le_refl _) ho' hf')
      obtain ⟨g', cap', rfl, _, _⟩ := ho'.head (by simp)
      have k5 := HA.out.1
      have c5 := k5.cell
      have f5 := k5.frozen
      have HLE : Hid ((M ++ [x]).length = M.length + 1) := hid (by simp)
      clear ho' hf' k5)
    refine ⟨rfl, ?_⟩
    obtain ⟨_, q2, q3, q4, q5⟩ := HA.out
    rw [HLE.out] at q2 q3 q4 q5
    have hb := (HSu.out.below.mono hz).trans q5
    refine ⟨HSu.out.others.trans q4, kpL_below hb hlt, ⟨_, q2, ?_, trivial⟩, HB.out.trans hb⟩
    rw [HT.out, ← HLE.out]
    rw [← HLE.out] at q3
    exact q3
  case done =>
    rintro D W hD ⟨⟨v, kv, ho, _⟩, hB⟩ hK
    have ho1 : OwG KE enT W w.heap.size v (s.S.take s.S.length) := ho
    rw [List.take_of_length_le (Nat.le_refl _)] at ho1
    obtain ⟨ao2, cap2, rfl, _⟩ := ho1.slice
    have HO := hid ho1
    have HB := hid hB
    have c := kv.cell
    clear ho ho1 hB kv
    gi_wp2_with fail
    refine ⟨by simp, .inl ⟨_, _, rfl, run_takeDeferred hK, ?_⟩⟩
    exact ⟨_, results_tmp rfl _ _ _, .slice ao2 s.S.length cap2, rfl, ownsRow_putObj HO.out _ hK rfl, still_under (HB.out.trans (belowK_b (w := w) (Nat.le_refl _) W D _ _ (by simp at hD; omega) hK rfl rfl))⟩
  case stop =>
    rintro D k W hD hk hf hK
    exact hf.elim
end Go.Proofs.Ytdmgalaajgebkaa
