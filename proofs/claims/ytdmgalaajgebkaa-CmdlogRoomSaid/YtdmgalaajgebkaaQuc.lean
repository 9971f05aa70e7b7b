/- The methods of entries: Len, Less, Swap. -/
import Derived.Test.YtdmgalaajgebkaaQub
import Derived.Test.YtdmgalaajgebkaaIo
namespace Go.Proofs.Ytdmgalaajgebkaa
open Go.RowKit
set_option maxRecDepth 100000

theorem OwG.rdE {e : TypeId} {w : World} {B : Nat} {ao : Option Addr} {n cap : Nat} {L : List En} (h : OwG KE e w B (.slice ao n cap) L) (hl : L.length = n) (hm : n ≤ 281474976710656) : RdG KE w ao n L := by
  have := OwG.rd (M := []) (L := L) (by simpa using h) (by omega)
  rwa [hl] at this
theorem qlen_any (ao : Option Addr) (n cap : Nat) (w : World) : Calls Try.prog 100 #[.slice ao n cap] w fun e w' => e = .returned (.int .i64 (n : Int)) ∧ w' = w := by
  go_enter Try.func100, Try.ntmps100
  go_wp2_with fail
  go_ret
  exact ⟨rfl, rfl⟩
set_option maxHeartbeats 2000000 in
theorem qless_any (L : List En) (B o n cap i j : Nat) (hi : i < n) (hj : j < n) (w : World) (hr : RdG KE w (some ⟨B, o, none⟩) n L) : Calls Try.prog 101 #[.slice (some ⟨B, o, none⟩) n cap, .int .i64 (i : Int), .int .i64 (j : Int)] w fun e w' => e = .returned (.bool (decide (kc (att L i) (att L j) < 0))) ∧ Still w w' := by
  have h47 : n ≤ 281474976710656 := hr.2.1
  obtain ⟨c0, c1, c2, c3, c4, c5, c6, c7⟩ := rdE hr hi
  obtain ⟨d0, d1, d2, d3, d4, d5, d6, d7⟩ := rdE hr hj
  have H0 := hid (fun w => qcmp_any (att L i) (att L j) w)
  obtain ⟨x, ex⟩ : ∃ x, att L i = x := ⟨_, rfl⟩
  obtain ⟨y, ey⟩ : ∃ x, att L j = x := ⟨_, rfl⟩
  rw [ex] at c0 c1 c2 c3 c4 c5 c6 c7
  rw [ey] at d0 d1 d2 d3 d4 d5 d6 d7
  rw [ex, ey] at H0
  rw [ex, ey]
  clear ex ey hr
  obtain ⟨v, ev'⟩ : ∃ v, kc x y = v := ⟨_, rfl⟩
  rw [ev'] at H0 ⊢
  clear ev'
  have hi' : (i : Int) < (n : Int) := by omega
  have hj' : (j : Int) < (n : Int) := by omega
  have q0 := Cl.cell c0
  have q1 := Cl.cell c1
  have q2 := Cl.cell c2
  have q3 := Cl.cell c3
  have q4 := Cl.cell c4
  have q5 := Cl.cell c5
  have q6 := Cl.cell c6
  have q7 := Cl.cell c7
  have s0 := Cl.cell d0
  have s1 := Cl.cell d1
  have s2 := Cl.cell d2
  have s3 := Cl.cell d3
  have s4 := Cl.cell d4
  have s5 := Cl.cell d5
  have s6 := Cl.cell d6
  have s7 := Cl.cell d7
  have hne := Aft.here w
  clear c0 c1 c2 c3 c4 c5 c6 c7 d0 d1 d2 d3 d4 d5 d6 d7
  go_enter Try.func101, Try.ntmps101
  go_wp2_with fail
  refine region_rest 9 (by kernel_rfl) (by kernel_rfl) ?_
  simp only [List.take_succ_cons, List.take_zero, List.drop_succ_cons, List.drop_zero]
  repeat (go_big_quiet_step ((go_at_call 55; with_reducible exact Calls.cl (H0.out _))))
  refine wpQuiet_nil ?_
  intro w1 h1
  have HS := hid h1
  clear h1 q0 q1 q2 q3 q4 q5 q6 q7 s0 s1 s2 s3 s4 s5 s6 s7 hne H0
  by_cases hv : v < 0
  · go_wp2_with fail
    (try simp only [Exit.inBlock, Exit.then])
    go_ret
    exact ⟨by simp [hv], HS.out⟩
  · go_wp2_with fail
    (try simp only [Exit.inBlock, Exit.then])
    go_ret
    exact ⟨by simp [hv], HS.out⟩
/-- one operation that is carried out -/
theorem wpList_idx {P : Program} {ops : Array Oper} {rest : List Oper} {o : Oper} {a : Act} {Q : Exit → Act → World → Prop} {w w' : World} (hgd : o.guard = none) {t : TypeId} {s x : Operand} (hop : o.op = .indexAddr t s x) {sv xv v : Value} (hs : a.eval s = sv) (hx : a.eval x = xv) (hr : (Instr.indexAt t sv xv).run P w = .ok v w') (h : wpList P ops Q rest (a.put o.dst v) w') : wpList P ops Q (o :: rest) a w :=
  wpList_plain hgd fun K hK => by
    unfold Oper.wp execOp
    simp only [hop, hs, hx, Sem.run_bind, Sem.run_pure, hr, Result.andThen_ok]
    exact hK _ _ h
theorem wpList_sto {P : Program} {ops : Array Oper} {rest : List Oper} {o : Oper} {a : Act} {Q : Exit → Act → World → Prop} {w w' : World} (hgd : o.guard = none) {t : TypeId} {s x : Operand} (hop : o.op = .store t s x) {sv xv : Value} (hs : a.eval s = sv) (hx : a.eval x = xv) (hr : (Instr.storeAt t sv xv).run P w = .ok () w') (h : wpList P ops Q rest (a.put o.dst undef) w') : wpList P ops Q (o :: rest) a w :=
  wpList_plain hgd fun K hK => by
    unfold Oper.wp execOp
    simp only [hop, hs, hx, Sem.run_bind, Sem.run_pure, hr, Result.andThen_ok]
    exact hK _ _ h
theorem wpList_mv {P : Program} {ops : Array Oper} {rest : List Oper} {o : Oper} {a : Act} {Q : Exit → Act → World → Prop} {w : World} (hgd : o.guard = none) {x : Operand} (hop : o.op = .move x) {xv : Value} (hx : a.eval x = xv) (h : wpList P ops Q rest (a.put o.dst xv) w) : wpList P ops Q (o :: rest) a w :=
  wpList_plain hgd fun K hK => by
    unfold Oper.wp execOp
    simp only [hop, hx, Sem.run_pure]
    exact hK _ _ h
theorem wpList_ld {P : Program} {ops : Array Oper} {rest : List Oper} {o : Oper} {a : Act} {Q : Exit → Act → World → Prop} {w w' : World} (hgd : o.guard = none) {t : TypeId} {s : Operand} (hop : o.op = .load t s) {sv v : Value} (hs : a.eval s = sv) (hr : (Instr.loadAt t sv).run P w = .ok v w') (h : wpList P ops Q rest (a.put o.dst v) w') : wpList P ops Q (o :: rest) a w :=
  wpList_plain hgd fun K hK => by
    unfold Oper.wp execOp
    simp only [hop, hs, Sem.run_bind, Sem.run_pure, hr, Result.andThen_ok]
    exact hK _ _ h
theorem run_getE {B g n cap i : Nat} {w : World} {L : List En} (ho : OwG KE 44 w B (.slice (some ⟨g, 0, none⟩) n cap) L) (hi : i < L.length) : (Instr.loadAt 44 (.pointer (some ⟨g, i * 8, none⟩))).run Try.prog w = .ok (ev (att L i)) w := by
  obtain ⟨c0, c1, c2, c3, c4, c5, c6, c7, cf⟩ := owE ho hi
  go_simp
theorem run_idxE (w : World) (g n cap i : Nat) (hi : i < n) : (Instr.indexAt 88 (.slice (some ⟨g, 0, none⟩) n cap) (.int .i64 (i : Int))).run Try.prog w = .ok (.pointer (some ⟨g, i * 8, none⟩)) w := by
  have hi' : (i : Int) < (n : Int) := by omega
  go_simp
theorem run_putE {B g n cap i : Nat} {w : World} {L : List En} (ho : OwG KE 44 w B (.slice (some ⟨g, 0, none⟩) n cap) L) (hi : i < L.length) (y : En) : (Instr.storeAt 44 (.pointer (some ⟨g, i * 8, none⟩)) (ev y)).run Try.prog w = .ok () (w.setCells g (i * 8) (KE.f y)) := by
  obtain ⟨c0, c1, c2, c3, c4, c5, c6, c7, cf⟩ := owE ho hi
  have e : w.setCells g (i * 8) (KE.f y) = (((((((w.setCell ⟨g, i * 8, none⟩ (.int .i64 y.fr)).setCell ⟨g, i * 8 + 1, none⟩ (.int .i64 y.pe)).setCell ⟨g, i * 8 + 2, none⟩ (.int .i64 y.se)).setCell ⟨g, i * 8 + 3, none⟩ (.int .i64 y.vb)).setCell ⟨g, i * 8 + 4, none⟩ (.int .i64 y.a)).setCell ⟨g, i * 8 + 5, none⟩ (.int .i64 y.b)).setCell ⟨g, i * 8 + 6, none⟩ (.int .i64 y.c)).setCell ⟨g, i * 8 + 7, none⟩ (.int .i64 y.ms) := rfl
  rw [e]
  go_simp
set_option maxHeartbeats 2000000 in
theorem qswap_any (L : List En) (B g n cap i j : Nat) (hi : i < n) (hj : j < n) (w : World) (ho : OwG KE 44 w B (.slice (some ⟨g, 0, none⟩) n cap) L) (hl : L.length = n) : Calls Try.prog 102 #[.slice (some ⟨g, 0, none⟩) n cap, .int .i64 (i : Int), .int .i64 (j : Int)] w fun e w' => e = .returned (.tuple #[]) ∧ OwG KE 44 w' B (.slice (some ⟨g, 0, none⟩) n cap) (sw L i j) ∧ Fr (fun k => k = g) w w' := by
  obtain ⟨c0, c1, c2, c3, c4, c5, c6, c7, cf⟩ := owE ho (i := i) (by omega)
  obtain ⟨d0, d1, d2, d3, d4, d5, d6, d7, _⟩ := owE ho (i := j) (by omega)
  have HE : Hid (sw L i j = (L.set i (att L j)).set j (att L i)) := hid rfl
  obtain ⟨x, ex⟩ : ∃ x, att L i = x := ⟨_, rfl⟩
  obtain ⟨y, ey⟩ : ∃ x, att L j = x := ⟨_, rfl⟩
  rw [ex] at c0 c1 c2 c3 c4 c5 c6 c7
  rw [ey] at d0 d1 d2 d3 d4 d5 d6 d7
  rw [ex, ey] at HE
  rw [HE.out]
  have HX := hid ex
  have HY := hid ey
  clear ex ey HE
  have hi' : (i : Int) < (n : Int) := by omega
  have hj' : (j : Int) < (n : Int) := by omega
  have HO := hid ho
  clear ho c0 c1 c2 c3 c4 c5 c6 c7 cf d0 d1 d2 d3 d4 d5 d6 d7
  go_enter Try.func102, Try.ntmps102
  go_upto_region 0 with fail
  refine region_late 12 (by kernel_rfl) (by kernel_rfl) (by kernel_rfl) ?_
  apply Exists.intro
  refine And.intro ?_ ?_
  · intro u hu
    obtain ⟨c0, c1, c2, c3, c4, c5, c6, c7, cf⟩ := owE (HO.out.still hu) (i := i) (by omega)
    obtain ⟨d0, d1, d2, d3, d4, d5, d6, d7, _⟩ := owE (HO.out.still hu) (i := j) (by omega)
    rw [HX.out] at c0 c1 c2 c3 c4 c5 c6 c7
    rw [HY.out] at d0 d1 d2 d3 d4 d5 d6 d7
    have q0 := Cl.cell c0
    have q1 := Cl.cell c1
    have q2 := Cl.cell c2
    have q3 := Cl.cell c3
    have q4 := Cl.cell c4
    have q5 := Cl.cell c5
    have q6 := Cl.cell c6
    have q7 := Cl.cell c7
    have s0 := Cl.cell d0
    have s1 := Cl.cell d1
    have s2 := Cl.cell d2
    have s3 := Cl.cell d3
    have s4 := Cl.cell d4
    have s5 := Cl.cell d5
    have s6 := Cl.cell d6
    have s7 := Cl.cell d7
    have hne := Aft.here u
    clear c0 c1 c2 c3 c4 c5 c6 c7 cf d0 d1 d2 d3 d4 d5 d6 d7
    simp only [List.take_succ_cons, List.take_zero]
    repeat (go_big_quiet_step (fail))
    exact wpQuiet_nil rfl
  intro w1 h1
  have ho := HO.out.still h1
  have ho2 := ho.put (i := i) (by omega) y
  have f2 := fr_setCells (F := fun k => k = g) g (KE.f y) (i * KE.k) w1 (Still.to h1) (.inl rfl)
  have f3 := fr_setCells (F := fun k => k = g) g (KE.f x) (j * KE.k) _ f2 (.inl rfl)
  have ho3 := ho2.put (i := j) (by rw [List.length_set]; omega) x
  have r1 := run_idxE w1 g n cap i hi
  have r2 := run_putE ho (i := i) (by omega) y
  have r3 := run_idxE (w1.setCells g (i * 8) (KE.f y)) g n cap j hj
  have r4 := run_putE ho2 (i := j) (by rw [List.length_set]; omega) x
  simp only [List.drop_succ_cons, List.drop_zero]
  refine wpList_idx rfl rfl rfl rfl r1 ?_
  refine wpList_sto rfl rfl rfl rfl r2 ?_
  refine wpList_idx rfl rfl rfl rfl r3 ?_
  refine wpList_sto rfl rfl rfl rfl r4 ?_
  have HO3 := hid (And.intro ho3 f3)
  obtain ⟨W, eW⟩ : ∃ W, (w1.setCells g (i * KE.k) (KE.f y)).setCells g (j * 8) (KE.f x) = W := ⟨_, rfl⟩
  have HO4 : Hid (OwG KE 44 W B (.slice (some ⟨g, 0, none⟩) n cap) ((L.set i y).set j x) ∧ Fr (fun k => k = g) w W) := by rw [← eW]; exact HO3
  rw [eW]
  clear eW HO3 ho ho2 ho3 f2 f3 r1 r2 r3 r4 h1
  go_wp2_with fail
  (try simp only [Exit.inBlock, Exit.then])
  refine ⟨rfl, ?_⟩
  go_end0
  exact ⟨rfl, HO4.out⟩
end Go.Proofs.Ytdmgalaajgebkaa
