/- The program's Missed. -/
import Derived.Test.YtdmgalaajgebkaaMgf
namespace Go.Proofs.Ytdmgalaajgebkaa
open Go Go.RowKit
set_option maxRecDepth 100000
attribute [local go_sem] Oper.semAt_some

/-- rows of commands: entries without their Missed -/
def cmE (x : En) : En := { x with ms := 0 }
abbrev cmT : TypeId := 30
def KC : Kd En := ⟨fun m => (hcs m).toList, 7, zE, fun _ => rfl, fun m u hu => by
  simp at hu
  rcases hu with rfl | rfl | rfl | rfl | rfl | rfl | rfl <;> rfl, by decide⟩
theorem infoC : ∃ i, Try.prog.info? cmT = some i ∧ i.zero = some (.agg (KC.f KC.d).toArray) ∧ i.size = KC.k ∧ i.bytes = 56 := ⟨_, rfl, rfl, rfl, rfl⟩
/-- what a copy has missed -/
def misL (r : Int) (S : List En) : List En := (S.filter fun x => decide (r < x.ms)).map cmE
theorem misL_f {r : Int} {S : List En} {k : Nat} (hk : k < S.length) (h : ¬ r < (att S k).ms) : misL r (S.take (k + 1)) = misL r (S.take k) := by
  unfold misL
  rw [take_next hk, List.filter_append, List.filter_cons_of_neg (by simpa using h), List.filter_nil, List.append_nil]
theorem misL_t {r : Int} {S : List En} {k : Nat} (hk : k < S.length) (h : r < (att S k).ms) : misL r (S.take (k + 1)) = misL r (S.take k) ++ [cmE (att S k)] := by
  unfold misL
  rw [take_next hk, List.filter_append, List.filter_cons_of_pos (by simpa using h), List.filter_nil, List.map_append]
  rfl
theorem misL_len (r : Int) (S : List En) (k : Nat) : (misL r (S.take k)).length ≤ S.length := by
  unfold misL
  rw [List.length_map]
  exact Nat.le_trans (List.length_filter_le _ _) (List.length_take_le' ..)
theorem bs_C19 {o : Oper} {ρ : Operand → Value} {s : Operand} {x : En} (ho : o.op = .buildSlice 42 1 #[(0, s)]) (hs : ρ s = .agg (hcs x)) (u : World) : (execOp ρ o).run Try.prog u = .ok (.value (.slice (some ⟨u.heap.size, 0, none⟩) 1 1)) (u.alloc (.cells (hcs x) cmT)) := by
  unfold execOp
  rw [ho]
  simp only [List.map_toArray, List.map_cons, List.map_nil, hs]
  go_simp
/-- what Missed answers -/
def misA (s : Lgs) (r : Int) : List En := if inR r s.nr then misL r s.S else []
set_option maxHeartbeats 4000000 in
theorem cm_missed_yes (s : Lgs) (B p : Nat) (vs : Nat → Value) (r : Int) (hr : inR r s.nr = true) (w : World) (h : Lm w B p s vs) : Calls Try.prog 13 #[.pointer (some ⟨p, 0, none⟩), .int .i64 r] w fun e w' => ∃ v, e = .returned v ∧ OwG KC cmT w' w.heap.size v (misL r s.S) ∧ Still w w' := by
  have HL := hid h
  have hlt := h.lt
  have hn := len_2016 h.ok
  have A0 := Still.alloc w (.cells #[.int .i64 r] 3)
  have HR := hid (cm_isRung s B p vs r _ (h.still A0))
  rw [hr] at HR
  clear h hr A0
  refine (callsIn_wide (n := 0)).1 ?_
  refine callsIn_of_wp_marks Try.func13 rfl trivial ?_ rfl
  simp only [Try.ntmps13, List.size_toArray, List.length_cons, List.length_nil, Nat.reduceAdd, Nat.reduceSub, Array.replicate_succ, Array.replicate_zero, List.push_toArray, List.append_toArray, List.nil_append, List.cons_append]
  gi_wp2_with fail
  refine ⟨trivial, rfl, (callsIn_wide.2 HR.out).mono ?_⟩
  rintro e w1 ⟨he, hw⟩
  rw [he, hw]
  clear he hw w1 HR
  gi_wp2_with fail
  have b0 := (Boxed.new w 3 (.int .i64 r)).alloc (.cells #[.slice none 0 0] 42)
  have b1 := Boxed.new (w.alloc (.cells #[.int .i64 r] 3)) 42 (.slice none 0 0)
  simp only [World.size_alloc] at b1
  have hS0 : Still w ((w.alloc (.cells #[.int .i64 r] 3)).alloc (.cells #[.slice none 0 0] 42)) := ((Fr.refl _ w).alloc _).alloc _
  have hsz : ((w.alloc (.cells #[.int .i64 r] 3)).alloc (.cells #[.slice none 0 0] 42)).heap.size = w.heap.size + 2 := by simp
  obtain ⟨V, eV⟩ : ∃ V, (w.alloc (.cells #[.int .i64 r] 3)).alloc (.cells #[.slice none 0 0] 42) = V := ⟨_, rfl⟩
  rw [eV] at b0 b1 hS0 hsz ⊢
  clear eV
  refine range_n rfl enters_ent (cm_entries s B p vs _ (HL.out.still hS0)) kpL_t (kpL_b (by omega)) (Below.refl _ _) rfl
    (fun k W => ((∃ v, Boxed W (w.heap.size + 1) 42 v ∧ W.ownsRow w.heap.size cmT KC.k v (misL r (s.S.take k)).length (KC.row (misL r (s.S.take k))) ∧ True) ∧ Boxed W w.heap.size 3 (.int .i64 r)) ∧ Below w.heap.size w W) (fun _ _ => False)
    (OwnFrom.and (OwnFrom.and (Own.from (holdsRow_own w.heap.size (w.heap.size + 1) 42 cmT KC.k (fun k => (misL r (s.S.take k)).length) (fun k => KC.row (misL r (s.S.take k))) (fun _ _ => True)) _) (Own.from (boxed_own _ _ _) _)) (ownFrom_below (Nat.le_refl _) (by omega))) (fun _ _ _ _ hs _ _ => hs.elim)
    ⟨⟨⟨_, b1, OwG.nil (K := KC) (e := cmT) _ _, trivial⟩, b0⟩, hS0.below⟩
    (fun k => { tmps := #[.pointer (some ⟨p, 0, none⟩), .int .i64 r, undef, .pointer (some ⟨w.heap.size, 0, none⟩), .slice none 0 0, .pointer (some ⟨w.heap.size + 1, 0, none⟩), encL vs s.S k, .pointer (some ⟨p, 0, none⟩), .int .i64 r, .bool true, .bool false, .pointer (some ⟨p, 0, none⟩), .func (.func 34) #[.pointer (some ⟨p, 0, none⟩)] #[], encL vs s.S k, undef, undef, undef, undef, undef, undef, undef, undef, undef, undef, undef, undef, undef, undef], defers := [] }) ?assign ?body ?done ?stop
  case assign =>
    intro l x W K hK
    gi_wp2_with fail
    simpa using hK
  case body =>
    rintro l k W hk ⟨⟨⟨v, kv, ho, _⟩, k0⟩, hB⟩
    have ho : OwG KC cmT W w.heap.size v (misL r (s.S.take k)) := ho
    have hz := hB.size
    obtain ⟨g, j, he, hg, c0, c1, c2, c3, c4, c5, c6, c7, _⟩ := (HL.out.still (still_under hB)).entry hk
    rw [he]
    have HTf := hid (fun h => misL_f (r := r) hk h)
    have HTt := hid (fun h => misL_t (r := r) hk h)
    have HLn : Hid ((misL r (s.S.take k)).length ≤ 100000) := hid (by have := misL_len r s.S k; omega)
    obtain ⟨x, ex⟩ : ∃ x, att s.S k = x := ⟨_, rfl⟩
    rw [ex] at c0 c1 c2 c3 c4 c5 c6 c7 HTt HTf
    obtain ⟨M, eM⟩ : ∃ M, misL r (s.S.take k) = M := ⟨_, rfl⟩
    rw [eM] at ho HTt HTf HLn
    obtain ⟨ao, cap, ev', _⟩ := ho.slice
    subst ev'
    obtain ⟨m, em⟩ : ∃ m, M.length = m := ⟨_, rfl⟩
    have HM := hid em
    rw [em] at kv ho
    have e1 := Cl.cell k0.cell
    have e2 := Cl.cell c7
    have hne := Aft.here W
    have HO := hid ho
    have HKV := hid kv
    have HK0 := hid k0
    have HB := hid hB
    have HC := hid (And.intro c0 (And.intro c1 (And.intro c2 (And.intro c3 (And.intro c4 (And.intro c5 c6))))))
    clear ho hB ex eM he kv k0 em c0 c1 c2 c3 c4 c5 c6 c7
    by_cases hx : r < x.ms
    · have HT := hid (HTt.out hx)
      clear HTt HTf
      gi_wp2_with fail
      refine round_all (fun ⟨_, _, h⟩ => False.elim h) (by kernel_rfl) (by kernel_rfl) (by kernel_rfl) ?_
      repeat (go_big_quiet_step (rfl))
      refine wpQuiet_nil ?_
      intro W1 h1
      have HS1 := hid h1
      clear h1 e1 e2 hne
      gi_wp2_with fail
      refine round_laid 5 1 (fun ⟨_, _, h⟩ => False.elim h) (by kernel_rfl) (by kernel_rfl) (by kernel_rfl) (by kernel_rfl) ?_
      apply Exists.intro
      refine And.intro ?_ (And.intro ?_ ?_)
      · intro u hu'
        have hu := HS1.out.trans hu'
        have HCu := HC.out
        have e0 := Cl.cell ((hu.cell (World.block_lt_of_cell? W _ HCu.1) (fun e => e)).trans HCu.1)
        have e1 := Cl.cell ((hu.cell (World.block_lt_of_cell? W _ HCu.2.1) (fun e => e)).trans HCu.2.1)
        have e2 := Cl.cell ((hu.cell (World.block_lt_of_cell? W _ HCu.2.2.1) (fun e => e)).trans HCu.2.2.1)
        have e3 := Cl.cell ((hu.cell (World.block_lt_of_cell? W _ HCu.2.2.2.1) (fun e => e)).trans HCu.2.2.2.1)
        have e4 := Cl.cell ((hu.cell (World.block_lt_of_cell? W _ HCu.2.2.2.2.1) (fun e => e)).trans HCu.2.2.2.2.1)
        have e5 := Cl.cell ((hu.cell (World.block_lt_of_cell? W _ HCu.2.2.2.2.2.1) (fun e => e)).trans HCu.2.2.2.2.2.1)
        have e6 := Cl.cell ((hu.cell (World.block_lt_of_cell? W _ HCu.2.2.2.2.2.2) (fun e => e)).trans HCu.2.2.2.2.2.2)
        have e8 := Cl.cell (boxed_still HKV.out hu).cell
        have hne := Aft.here u
        clear HCu
        simp only [List.take_succ_cons, List.take_zero]
        repeat (go_big_quiet_step (fail))
        exact wpQuiet_nil rfl
      · intro _ o ho u hu
        obtain rfl := Option.some.inj ho
        exact ⟨_, _, bs_C19 (x := x) rfl rfl u, Still.alloc u _⟩
      intro u hu'
      have hu := HS1.out.trans hu'
      simp only [List.drop_succ_cons, List.drop_zero]
      have A4 := Still.alloc u (.cells (hcs x) cmT)
      have HO3 := hid (HO.out.still hu)
      have HO4 := hid ((HO.out.still hu).still A4)
      have HX4 : Hid ((u.alloc (.cells (hcs x) cmT)).heap[u.heap.size]? = some (.cells (KC.f (cmE x)).toArray cmT (0, 0))) := hid (heap_alloc_new u _)
      have HB4 : Hid (w.heap.size ≤ (u.alloc (.cells (hcs x) cmT)).heap.size) := hid (by have := hu.size; simp; omega)
      have HKV3 := hid (boxed_still HKV.out hu)
      have HSu := hid hu
      clear A4 hu hu' HC
      go_wp2_with (
        at_builtin
        refine wpList_appG KC _ rfl _ _ _ rfl rfl 56 infoC (by omega) w.heap.size u.heap.size (.slice ao m cap) M (cmE x) rfl rfl HO4.out HX4.out HLn.out HB4.out ?_
        intro v' w' ho' hf'
        have HA := hid (app19 HKV3.out (by decide) HO3.out (by have := HSu.out.size; omega) (by omega) ho' hf')
        have HF0 : Hid (Boxed w' w.heap.size 3 (.int .i64 r)) := hid (hf'.kept (boxed_still (boxed_still HK0.out HSu.out) (Still.alloc u _)) (fun e => (boxed_still (boxed_still HK0.out HSu.out) (Still.alloc u (.cells (hcs x) cmT))).not_row (by decide) HO4.out e.symm))
        obtain ⟨g', cap', rfl, _, _⟩ := ho'.head (by simp)
        have k5 := HA.out.1
        have c5 := k5.cell
        have f5 := k5.frozen
        have HLE : Hid ((M ++ [cmE x]).length = M.length + 1) := hid (by simp)
        clear ho' hf' k5)
      refine ⟨rfl, ?_⟩
      obtain ⟨_, q2, q3, q4, q5⟩ := HA.out
      rw [HLE.out] at q2 q3 q4 q5
      have hb := (HSu.out.below.mono hz).trans q5
      refine ⟨HSu.out.others.trans q4, kpL_below hb hlt, ⟨⟨_, q2, ?_, trivial⟩, HF0.out.other (by omega) _⟩, HB.out.trans hb⟩
      rw [HT.out, ← HLE.out]
      rw [← HLE.out] at q3
      exact q3
    · have HT := hid (HTf.out hx)
      have hx' : decide (x.ms > r) = false := decide_eq_false hx
      clear HTt HTf HC
      gi_wp2_with fail
      refine round_all (fun ⟨_, _, h⟩ => False.elim h) (by kernel_rfl) (by kernel_rfl) (by kernel_rfl) ?_
      repeat (go_big_quiet_step (rfl))
      refine wpQuiet_nil ?_
      intro W1 h1
      have HS1 := hid h1
      clear h1 e1 e2 hne
      gi_wp2_with fail
      refine ⟨HS1.out.others, kpL_still HS1.out, ⟨⟨_, boxed_still HKV.out HS1.out, ?_, trivial⟩, boxed_still HK0.out HS1.out⟩, HB.out.trans (HS1.out.below.mono hz)⟩
      rw [HT.out, HM.out]
      have := HO.out.still HS1.out
      unfold OwG at this
      rw [HM.out] at this
      exact this
  case done =>
    rintro D W hD ⟨⟨⟨v, kv, ho, _⟩, _⟩, hB⟩ hK
    have ho1 : OwG KC cmT W w.heap.size v (misL r (s.S.take s.S.length)) := ho
    rw [List.take_of_length_le (Nat.le_refl _)] at ho1
    obtain ⟨ao2, cap2, rfl, _⟩ := ho1.slice
    have HO := hid ho1
    have HB := hid hB
    have c := kv.cell
    clear ho ho1 hB kv
    gi_wp2_with fail
    refine ⟨by simp, .inl ⟨_, _, rfl, run_takeDeferred hK, ?_⟩⟩
    exact ⟨_, results_tmp rfl _ _ _, .slice ao2 (misL r s.S).length cap2, rfl, ownsRow_putObj HO.out _ hK rfl, still_under (HB.out.trans (belowK_b (w := w) (Nat.le_refl _) W D _ _ (by omega) hK rfl rfl))⟩
  case stop =>
    rintro D k W hD hk hf hK
    exact hf.elim
theorem cm_missed_no (s : Lgs) (B p : Nat) (vs : Nat → Value) (r : Int) (hr : inR r s.nr = false) (w : World) (h : Lm w B p s vs) : Calls Try.prog 13 #[.pointer (some ⟨p, 0, none⟩), .int .i64 r] w fun e w' => e = .returned (.slice none 0 0) ∧ Still w w' := by
  have A0 := Still.alloc w (.cells #[.int .i64 r] 3)
  have HR := hid (cm_isRung s B p vs r _ (h.still A0))
  rw [hr] at HR
  have HS := hid A0
  clear h hr A0
  go_enter Try.func13, Try.ntmps13
  go_wp2_with fail
  refine HR.out.mono ?_
  rintro e w1 ⟨he, hw⟩
  rw [he, hw]
  clear he hw w1 HR
  go_wp2_with fail
  go_ret
  exact ⟨rfl, HS.out⟩
theorem cm_missed (s : Lgs) (B p : Nat) (vs : Nat → Value) (r : Int) (w : World) (h : Lm w B p s vs) : Calls Try.prog 13 #[.pointer (some ⟨p, 0, none⟩), .int .i64 r] w fun e w' => ∃ v, e = .returned v ∧ OwG KC cmT w' w.heap.size v (misA s r) ∧ Still w w' := by
  cases hr : inR r s.nr with
  | true =>
    have := cm_missed_yes s B p vs r hr w h
    rw [show misA s r = misL r s.S by unfold misA; rw [hr]; rfl]
    exact this
  | false =>
    refine (cm_missed_no s B p vs r hr w h).mono ?_
    rintro e w' ⟨rfl, hs⟩
    rw [show misA s r = [] by unfold misA; rw [hr]; rfl]
    exact ⟨_, rfl, OwG.nil _ _, hs⟩
end Go.Proofs.Ytdmgalaajgebkaa
