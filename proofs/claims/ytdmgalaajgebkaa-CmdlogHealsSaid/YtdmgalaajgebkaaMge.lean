/- The program's Len, has. -/
import Derived.Test.YtdmgalaajgebkaaMgd
namespace Go.Proofs.Ytdmgalaajgebkaa
open Go Go.RowKit
set_option maxRecDepth 100000
attribute [local go_sem] Oper.semAt_some

/-- the k-th entry: its place, its row, where it stands there -/
theorem Lm.ent {w : World} {B p : Nat} {s : Lgs} {vs : Nat → Value} (h : Lm w B p s vs) {k : Nat} (hk : k < s.S.length) : ∃ (i g j n cap : Nat), i < 112 ∧ (att s.S k).fr % 112 = (i : Int) ∧ vs i = .slice (some ⟨g, 0, none⟩) n cap ∧ j < (plc i s.S).length ∧ att (plc i s.S) j = att s.S k ∧ j = k - lowN (att s.S k).fr s.S ∧ encL vs s.S k = .pointer (some ⟨g, j * 8, none⟩) := by
  have h1 := att_fr h.ok hk
  obtain ⟨h2, h3⟩ := att_at h.ok hk
  have ea := att_on h.ok.srt (att s.S k).fr h3
  rw [show lowN (att s.S k).fr s.S + (k - lowN (att s.S k).fr s.S) = k by omega] at ea
  obtain ⟨i, ao, cap, hi, hf, hv, ho, _⟩ := h.row h1
  obtain ⟨g, cap', e', _⟩ := ho.head (by omega)
  injection e' with e1 _ _
  subst e1
  have hp := plc_on h.ok h1.1 h1.2
  rw [hf, Int.toNat_natCast] at hp
  have he := encL_at h.ok (vs := vs) hf hv h3
  rw [show lowN (att s.S k).fr s.S + (k - lowN (att s.S k).fr s.S) = k by omega] at he
  exact ⟨i, g, _, _, cap, hi, hf, hv, by rw [hp]; exact h3, by rw [hp]; exact ea.symm, rfl, he⟩
theorem Lm.entry {w : World} {B p : Nat} {s : Lgs} {vs : Nat → Value} (h : Lm w B p s vs) {k : Nat} (hk : k < s.S.length) : ∃ (g j : Nat), encL vs s.S k = .pointer (some ⟨g, j * 8, none⟩) ∧ Rw vs g ∧ w.cell? ⟨g, j * 8, none⟩ = some (.int .i64 (att s.S k).fr) ∧ w.cell? ⟨g, j * 8 + 1, none⟩ = some (.int .i64 (att s.S k).pe) ∧ w.cell? ⟨g, j * 8 + 2, none⟩ = some (.int .i64 (att s.S k).se) ∧ w.cell? ⟨g, j * 8 + 3, none⟩ = some (.int .i64 (att s.S k).vb) ∧ w.cell? ⟨g, j * 8 + 4, none⟩ = some (.int .i64 (att s.S k).a) ∧ w.cell? ⟨g, j * 8 + 5, none⟩ = some (.int .i64 (att s.S k).b) ∧ w.cell? ⟨g, j * 8 + 6, none⟩ = some (.int .i64 (att s.S k).c) ∧ w.cell? ⟨g, j * 8 + 7, none⟩ = some (.int .i64 (att s.S k).ms) ∧ ∀ o, w.frozen? ⟨g, o, none⟩ = false := by
  obtain ⟨i, g, j, n, cap, hi, hf, hv, hj, ea, _, he⟩ := h.ent hk
  have ho := h.ow i hi
  rw [hv] at ho
  have hc := owE ho hj
  rw [ea] at hc
  exact ⟨g, j, he, ⟨i, hi, by rw [hv]; rfl⟩, hc⟩
theorem enters_ent : ∀ args w, (callFunc 34 args).run Try.prog w = .ok (.enter 34 args) w := enters_of Try.func34 (by kernel_rfl) rfl
theorem boxed_row19 {B0 B : Nat} {X Y : World} {row : Option Nat} {t : TypeId} {v : Value} (h : Boxed X B t v) (hg : X.grownBy Y row) (hr : ∀ r, row = some r → B0 ≤ r ∧ ∃ o : Obj, X.heap[r]? = some o ∧ o.isCells = false) : Boxed Y B t v :=
  boxed_own B t (fun (_ : Unit) => v) () X Y row h hg (fun r e => (hr r e).2)
theorem kpL_set {p : Nat} {W : World} {a : Addr} {v : Value} (h : p ≠ a.block) : KpL p W (W.setCell a v) := fun _ ho => (heap_setCell_other W a p v h).trans ho
set_option maxHeartbeats 2000000 in
theorem cm_len (s : Lgs) (B p : Nat) (vs : Nat → Value) (w : World) (h : Lm w B p s vs) : Calls Try.prog 15 #[.pointer (some ⟨p, 0, none⟩)] w fun e w' => e = .returned (.int .i64 (s.S.length : Int)) ∧ Still w w' := by
  have HL := hid h
  have hlt := h.lt
  have hn := len_2016 h.ok
  have HB0 := hid (Boxed.new w 3 (.int .i64 0))
  have hS0 := Still.alloc w (.cells #[.int .i64 0] 3)
  clear h
  refine (callsIn_wide (n := 0)).1 ?_
  refine callsIn_of_wp_marks Try.func15 rfl trivial ?_ rfl
  simp only [Try.ntmps15, List.size_toArray, List.length_cons, List.length_nil, Nat.reduceAdd, Nat.reduceSub, Array.replicate_succ, Array.replicate_zero, List.push_toArray, List.append_toArray, List.nil_append, List.cons_append]
  gi_wp2_with fail
  refine range_n rfl enters_ent (cm_entries s B p vs _ (HL.out.still hS0)) kpL_t (kpL_b (by simp; omega)) (Below.refl _ _) rfl
    (fun k W => Boxed W w.heap.size 3 (.int .i64 (k : Int)) ∧ Below w.heap.size w W) (fun _ _ => False)
    (OwnFrom.and (Own.from (boxed_own _ _ _) _) (ownFrom_below (Nat.le_refl _) (by simp))) (fun _ _ _ _ hs _ _ => hs.elim)
    ⟨HB0.out, hS0.below⟩
    (fun k => { tmps := #[.pointer (some ⟨p, 0, none⟩), undef, .int .i64 0, .pointer (some ⟨w.heap.size, 0, none⟩), .pointer (some ⟨p, 0, none⟩), .func (.func 34) #[.pointer (some ⟨p, 0, none⟩)] #[], encL vs s.S k, undef, undef, undef], defers := [] }) ?assign ?body ?done ?stop
  case assign =>
    intro l x W K hK
    gi_wp2_with fail
    simpa using hK
  case body =>
    rintro l k W hk ⟨k0, hB⟩
    have c0 := k0.cell
    have f0 := k0.frozen
    have hkw : (k : Int) < 2016 := by omega
    gi_wp2_with fail
    have hk2 : ((k + 1 : Nat) : Int) = (k : Int) + 1 := by omega
    refine ⟨KeepsOthers.setCell _ _ _, ?_, ?_, hB.setCell (p := ⟨w.heap.size, 0, none⟩) (by simp) _⟩
    · exact kpL_set (by simp; omega)
    · rw [hk2]
      exact k0.set _
  case done =>
    rintro D W hD ⟨k0, hB⟩ hK
    have c0 := k0.cell
    gi_wp2_with fail
    refine ⟨by simp, .inl ⟨_, _, rfl, run_takeDeferred hK, ?_⟩⟩
    exact ⟨_, results_tmp rfl _ _ _, rfl, still_under (hB.trans (belowK_b (w := w) (Nat.le_refl _) W D _ _ (by simp at hD; omega) hK rfl rfl))⟩
  case stop =>
    rintro D k W hD hk hf hK
    exact hf.elim
/-- is there one of this peer and number? -/
def hasPS (a b : Int) (S : List En) : Bool := S.any fun x => decide (x.pe = a ∧ x.se = b)
theorem hasPS_f {a b : Int} {S : List En} (h : ∀ t, t < S.length → ¬ ((att S t).pe = a ∧ (att S t).se = b)) : hasPS a b S = false := by
  unfold hasPS
  rw [List.any_eq_false]
  intro x hx
  obtain ⟨t, ht, rfl⟩ := att_of_mem hx
  simpa using h t ht
theorem hasPS_t {a b : Int} {S : List En} {t : Nat} (ht : t < S.length) (h : (att S t).pe = a ∧ (att S t).se = b) : hasPS a b S = true := List.any_eq_true.2 ⟨_, att_mem ht, decide_eq_true h⟩
set_option maxHeartbeats 4000000 in
theorem cm_has (s : Lgs) (B p : Nat) (vs : Nat → Value) (a b : Int) (w : World) (h : Lm w B p s vs) : Calls Try.prog 39 #[.pointer (some ⟨p, 0, none⟩), .int .i64 a, .int .i64 b] w fun e w' => e = .returned (.bool (hasPS a b s.S)) ∧ Still w w' := by
  have HL := hid h
  have hlt := h.lt
  clear h
  refine (callsIn_wide (n := 0)).1 ?_
  refine callsIn_of_wp_marks Try.func39 rfl trivial ?_ rfl
  simp only [Try.ntmps39, List.size_toArray, List.length_cons, List.length_nil, Nat.reduceAdd, Nat.reduceSub, Array.replicate_succ, Array.replicate_zero, List.push_toArray, List.append_toArray, List.nil_append, List.cons_append]
  gi_wp2_with fail
  have b0 := ((Boxed.new w 3 (.int .i64 a)).alloc (.cells #[.int .i64 b] 3)).alloc (.cells #[.bool false] 4)
  have b1 := (Boxed.new (w.alloc (.cells #[.int .i64 a] 3)) 3 (.int .i64 b)).alloc (.cells #[.bool false] 4)
  have b2 := Boxed.new ((w.alloc (.cells #[.int .i64 a] 3)).alloc (.cells #[.int .i64 b] 3)) 4 (.bool false)
  simp only [World.size_alloc] at b1 b2
  have hS0 : Still w (((w.alloc (.cells #[.int .i64 a] 3)).alloc (.cells #[.int .i64 b] 3)).alloc (.cells #[.bool false] 4)) := ((Fr.refl _ w).alloc _ |>.alloc _).alloc _
  have hsz : (((w.alloc (.cells #[.int .i64 a] 3)).alloc (.cells #[.int .i64 b] 3)).alloc (.cells #[.bool false] 4)).heap.size = w.heap.size + 3 := by simp
  obtain ⟨V, eV⟩ : ∃ V, ((w.alloc (.cells #[.int .i64 a] 3)).alloc (.cells #[.int .i64 b] 3)).alloc (.cells #[.bool false] 4) = V := ⟨_, rfl⟩
  rw [eV] at b0 b1 b2 hS0 hsz ⊢
  clear eV
  refine range_n rfl enters_ent (cm_entries s B p vs _ (HL.out.still hS0)) kpL_t (kpL_b (by omega)) (Below.refl _ _) rfl
    (fun k W => ((∀ t, t < k → ¬ ((att s.S t).pe = a ∧ (att s.S t).se = b)) ∧ Boxed W w.heap.size 3 (.int .i64 a) ∧ Boxed W (w.heap.size + 1) 3 (.int .i64 b) ∧ Boxed W (w.heap.size + 1 + 1) 4 (.bool false)) ∧ Below w.heap.size w W)
    (fun k W => (hasPS a b s.S = true ∧ Boxed W (w.heap.size + 1 + 1) 4 (.bool true)) ∧ Below w.heap.size w W)
    (fun s X Y row hs hg hr => ⟨⟨hs.1.1, boxed_row19 hs.1.2.1 hg hr, boxed_row19 hs.1.2.2.1 hg hr, boxed_row19 hs.1.2.2.2 hg hr⟩, ownFrom_below (Nat.le_refl _) (by omega) () X Y row hs.2 hg hr⟩)
    (fun s X Y row hs hg hr => ⟨⟨hs.1.1, boxed_row19 hs.1.2 hg hr⟩, ownFrom_below (Nat.le_refl _) (by omega) () X Y row hs.2 hg hr⟩)
    ⟨⟨fun t ht => absurd ht (by omega), b0, b1, b2⟩, hS0.below⟩
    (fun k => { tmps := #[.pointer (some ⟨p, 0, none⟩), .int .i64 a, .int .i64 b, undef, .pointer (some ⟨w.heap.size, 0, none⟩), .pointer (some ⟨w.heap.size + 1, 0, none⟩), .pointer (some ⟨w.heap.size + 1 + 1, 0, none⟩), encL vs s.S k, .pointer (some ⟨p, 0, none⟩), .func (.func 34) #[.pointer (some ⟨p, 0, none⟩)] #[], encL vs s.S k, undef, undef, undef, undef, undef, undef, undef, undef, undef, undef, undef, undef, undef, undef, undef, undef], defers := [] }) ?assign ?body ?done ?stop
  case assign =>
    intro l x W K hK
    gi_wp2_with fail
    simpa using hK
  case body =>
    rintro l k W hk ⟨⟨hp, k0, k1, k2⟩, hB⟩
    have hz := hB.size
    obtain ⟨g, j, he, hg, c0, c1, c2, _⟩ := (HL.out.still (still_under hB)).entry hk
    rw [he]
    have e0 := Cl.cell k0.cell
    have e1 := Cl.cell k1.cell
    have e2 := Cl.cell c1
    have e3 := Cl.cell c2
    have hne := Aft.here W
    have HP := hid hp
    have HW := hid (And.intro k2 (And.intro hB (And.intro k0 k1)))
    have HX := hid (fun h => hasPS_t (a := a) (b := b) hk h)
    obtain ⟨x, ex⟩ : ∃ x, (att s.S k).pe = x := ⟨_, rfl⟩
    obtain ⟨y, ey⟩ : ∃ y, (att s.S k).se = y := ⟨_, rfl⟩
    rw [ex] at e2
    rw [ey] at e3
    rw [ex, ey] at HX
    have HXY := hid (And.intro ex ey)
    clear hp k0 k1 k2 hB c0 c1 c2 ex ey he
    by_cases h1 : x = a
    · have d1 : (x == a) = true := beq_iff_eq.2 h1
      by_cases h2 : y = b
      · have d2 : (y == b) = true := beq_iff_eq.2 h2
        have HT := hid (HX.out ⟨h1, h2⟩)
        clear h1 h2 HX
        gi_wp2_with fail
        refine round_all (fun ⟨_, _, h⟩ => False.elim h) (by kernel_rfl) (by kernel_rfl) (by kernel_rfl) ?_
        repeat (go_big_quiet_step (rfl))
        refine wpQuiet_nil ?_
        intro W2 h2
        have k2 := boxed_still HW.out.1 h2
        have cc := k2.cell
        have ff := k2.frozen
        have HS2 := hid h2
        clear h2 e0 e1 e2 e3 hne
        gi_wp2_with fail
        exact ⟨HS2.out.others.trans (KeepsOthers.setCell _ _ _), ⟨HT.out, k2.set _⟩, (HW.out.2.1.trans (HS2.out.below.mono hz)).setCell (p := ⟨w.heap.size + 1 + 1, 0, none⟩) (by simp; omega) _⟩
      · have d2 : (y == b) = false := beq_eq_false_iff_ne.2 h2
        have HN : Hid (∀ t, t < k + 1 → ¬ ((att s.S t).pe = a ∧ (att s.S t).se = b)) := hid (fun t ht => if e : t = k then (by rw [e, HXY.out.1, HXY.out.2]; exact fun h => h2 h.2) else HP.out t (by omega))
        clear h1 h2 HX HXY HP
        gi_wp2_with fail
        refine round_all (fun ⟨_, _, h⟩ => False.elim h) (by kernel_rfl) (by kernel_rfl) (by kernel_rfl) ?_
        repeat (go_big_quiet_step (rfl))
        refine wpQuiet_nil ?_
        intro W2 h2
        have HS2 := hid h2
        clear h2 e0 e1 e2 e3 hne
        gi_wp2_with fail
        exact ⟨HS2.out.others, kpL_still HS2.out, ⟨HN.out, boxed_still HW.out.2.2.1 HS2.out, boxed_still HW.out.2.2.2 HS2.out, boxed_still HW.out.1 HS2.out⟩, HW.out.2.1.trans (HS2.out.below.mono hz)⟩
    · have d1 : (x == a) = false := beq_eq_false_iff_ne.2 h1
      have HN : Hid (∀ t, t < k + 1 → ¬ ((att s.S t).pe = a ∧ (att s.S t).se = b)) := hid (fun t ht => if e : t = k then (by rw [e, HXY.out.1, HXY.out.2]; exact fun h => h1 h.1) else HP.out t (by omega))
      clear h1 HX HXY HP
      gi_wp2_with fail
      refine round_all (fun ⟨_, _, h⟩ => False.elim h) (by kernel_rfl) (by kernel_rfl) (by kernel_rfl) ?_
      repeat (go_big_quiet_step (rfl))
      refine wpQuiet_nil ?_
      intro W2 h2
      have HS2 := hid h2
      clear h2 e0 e1 e2 e3 hne
      gi_wp2_with fail
      exact ⟨HS2.out.others, kpL_still HS2.out, ⟨HN.out, boxed_still HW.out.2.2.1 HS2.out, boxed_still HW.out.2.2.2 HS2.out, boxed_still HW.out.1 HS2.out⟩, HW.out.2.1.trans (HS2.out.below.mono hz)⟩
  case done =>
    rintro D W hD ⟨⟨hp, k0, k1, k2⟩, hB⟩ hK
    have HE : Hid (hasPS a b s.S = false) := hid (hasPS_f hp)
    have c2 := k2.cell
    have f2 := k2.frozen
    gi_wp2_with fail
    have hK' := (KeepsOthers.setCell W ⟨w.heap.size + 1 + 1, 0, none⟩ (.bool false)).same D _ hK rfl
    refine ⟨by simp, .inl ⟨_, _, rfl, run_takeDeferred hK', ?_⟩⟩
    have q1 := cell_kept (k2.set (.bool false)).cell (grownBy_putObj' _ D (.deferred none)) (fun r e => by cases e; exact ⟨_, hK', rfl⟩)
    refine ⟨.bool false, ?_, by rw [HE.out], still_under ((hB.setCell (p := ⟨w.heap.size + 1 + 1, 0, none⟩) (by simp; omega) _).trans (belowK_b (w := w) (Nat.le_refl _) _ D _ _ (by omega) hK' rfl rfl))⟩
    simp [results, Try.f39, go_sem, q1]
  case stop =>
    rintro D k W hD hk ⟨⟨ht, k2⟩, hB⟩ hK
    have HE := hid ht
    gi_wp2_with fail
    refine ⟨by simp, .inl ⟨_, _, rfl, run_takeDeferred hK, ?_⟩⟩
    have q1 := cell_kept k2.cell (grownBy_putObj' _ D (.deferred none)) (fun r e => by cases e; exact ⟨_, hK, rfl⟩)
    refine ⟨.bool true, ?_, by rw [HE.out], still_under (hB.trans (belowK_b (w := w) (Nat.le_refl _) _ D _ _ (by omega) hK rfl rfl))⟩
    simp [results, Try.f39, go_sem, q1]
end Go.Proofs.Ytdmgalaajgebkaa
