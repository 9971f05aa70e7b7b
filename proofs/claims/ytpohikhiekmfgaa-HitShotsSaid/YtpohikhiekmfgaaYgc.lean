/- The program's first. -/
import Derived.Test.YtpohikhiekmfgaaYgb
namespace Go.Proofs.Ytpohikhiekmfgaa
open Go Go.RowKit
open Pu Gp Ap Vp Np Za Ka Ja Ygp
set_option maxRecDepth 100000
attribute [local go_sem] Oper.semAt_some

theorem boxed_row {B0 B : Nat} {X Y : World} {row : Option Nat} {t : TypeId} {v : Value} (h : Boxed X B t v) (hg : X.grownBy Y row) (hr : ∀ r, row = some r → B0 ≤ r ∧ ∃ o : Obj, X.heap[r]? = some o ∧ o.isCells = false) : Boxed Y B t v :=
  boxed_own B t (fun (_ : Unit) => v) () X Y row h hg (fun r e => (hr r e).2)
/-- the first place, and whether there is one -/
def fst1 (z : Int) : Int := if 0 ≤ z then z else 0
set_option maxHeartbeats 4000000 in
theorem hfirst_at (L : List Mv) (so : Nat → Bool) (ao : Option Addr) (n cap g p q : Nat) (hg : g = 34 ∨ g = 39) (w : World) (hr : RdG KM w ao n L)
    (hso : ∀ (i : Nat) (u : World), i < n → Still w u → Calls Try.prog g #[.int .i64 (i : Int), .pointer (some ⟨p, 0, none⟩), .pointer (some ⟨q, 0, none⟩)] u fun e w' => e = .returned (.bool (so i)) ∧ Still u w') :
    CallsIn Fence.wide 8 Try.prog 35 #[.slice ao n cap, .func (.func g) #[] #[.pointer (some ⟨p, 0, none⟩), .pointer (some ⟨q, 0, none⟩)]] w fun e w' => e = .returned (.tuple #[.int .i64 (fst1 (lo (inSo L so) 0 n)), .bool (decide (0 ≤ lo (inSo L so) 0 n))]) ∧ Still w w' := by
  have HL := hid hr.1
  have HR := hid (rdN_of hr)
  have HSo := hid hso
  clear hr hso
  refine callsIn_of_wp_marks Try.func35 rfl trivial ?_ rfl
  simp only [Try.ntmps35, List.size_toArray, List.length_cons, List.length_nil, Nat.reduceAdd, Nat.reduceSub, Array.replicate_succ, Array.replicate_zero, List.push_toArray, List.append_toArray, List.nil_append, List.cons_append]
  gi_wp2_with fail
  refine ⟨trivial, (callsIn_wide.2 (hin_any ao n cap _)).mono ?_⟩
  rintro e w' ⟨rfl, rfl⟩
  gi_wp2_with fail
  obtain ⟨f, ef⟩ : ∃ f, Value.func (.func g) #[] #[.pointer (some ⟨p, 0, none⟩), .pointer (some ⟨q, 0, none⟩)] = f := ⟨_, rfl⟩
  have b0 := ((((Boxed.new w 65 f).alloc (.cells #[.int .i64 0] 3)).alloc (.cells #[.bool false] 4)).alloc (.cells #[.slice ao n cap] 22))
  have b1 := (((Boxed.new (w.alloc (.cells #[f] 65)) 3 (.int .i64 0)).alloc (.cells #[.bool false] 4)).alloc (.cells #[.slice ao n cap] 22))
  have b2 := ((Boxed.new ((w.alloc (.cells #[f] 65)).alloc (.cells #[.int .i64 0] 3)) 4 (.bool false)).alloc (.cells #[.slice ao n cap] 22))
  have b3 := Boxed.new (((w.alloc (.cells #[f] 65)).alloc (.cells #[.int .i64 0] 3)).alloc (.cells #[.bool false] 4)) 22 (.slice ao n cap)
  simp only [World.size_alloc] at b1 b2 b3
  have hS0 : Still w ((((w.alloc (.cells #[f] 65)).alloc (.cells #[.int .i64 0] 3)).alloc (.cells #[.bool false] 4)).alloc (.cells #[.slice ao n cap] 22)) := (((Fr.refl _ w).alloc _ |>.alloc _).alloc _).alloc _
  have hsz : ((((w.alloc (.cells #[f] 65)).alloc (.cells #[.int .i64 0] 3)).alloc (.cells #[.bool false] 4)).alloc (.cells #[.slice ao n cap] 22)).heap.size = w.heap.size + 4 := by simp
  rw [ef]
  obtain ⟨V, eV⟩ : ∃ V, (((w.alloc (.cells #[f] 65)).alloc (.cells #[.int .i64 0] 3)).alloc (.cells #[.bool false] 4)).alloc (.cells #[.slice ao n cap] 22) = V := ⟨_, rfl⟩
  rw [eV] at b0 b1 b2 b3 hS0 hsz ⊢
  clear eV
  have hB0 : Below w.heap.size w V := hS0.below
  refine wpIn_rangeFunc_ownF rfl (by omega) (gf := 66) (lb := #[.pointer (some ⟨w.heap.size + 1 + 1 + 1, 0, none⟩)]) rfl trivial (enters_of Try.func66 (by kernel_rfl) rfl)
    (hin_stops L ao n cap (w.heap.size + 1 + 1 + 1) w.heap.size 7 V (by omega) (by omega) b3.cell (HR.out.below hB0)) belowK_t (belowK_b (by omega)) (Below.refl _ _) (fun _ => rfl)
    (fun pre W => ((∀ y ∈ pre, so y.1 = false) ∧ Boxed W w.heap.size 65 f ∧ Boxed W (w.heap.size + 1) 3 (.int .i64 0) ∧ Boxed W (w.heap.size + 1 + 1) 4 (.bool false)) ∧ Below w.heap.size w W)
    (fun c pre W => (c = .ret ∧ ∃ (q : List (Fin L.length)) (x : Fin L.length), pre = q ++ [x] ∧ (∀ y ∈ q, so y.1 = false) ∧ so x.1 = true ∧ Boxed W (w.heap.size + 1) 3 (.int .i64 (x.1 : Int)) ∧ Boxed W (w.heap.size + 1 + 1) 4 (.bool true)) ∧ Below w.heap.size w W)
    (fun s X Y row hs hg hr => ⟨⟨hs.1.1, boxed_row hs.1.2.1 hg hr, boxed_row hs.1.2.2.1 hg hr, boxed_row hs.1.2.2.2 hg hr⟩, ownFrom_below (Nat.le_refl _) (by omega) () X Y row hs.2 hg hr⟩)
    (fun c s X Y row hs hg hr => by
      obtain ⟨⟨e1, q, x, e2, h1, h2, k1, k2⟩, hb⟩ := hs
      exact ⟨⟨e1, q, x, e2, h1, h2, boxed_row k1 hg hr, boxed_row k2 hg hr⟩, ownFrom_below (Nat.le_refl _) (by omega) () X Y row hb hg hr⟩)
    ⟨⟨by simp, b0, b1, b2⟩, hB0⟩
    (fun x => { tmps := #[.slice ao n cap, f, undef, .pointer (some ⟨w.heap.size, 0, none⟩), .pointer (some ⟨w.heap.size + 1, 0, none⟩), .pointer (some ⟨w.heap.size + 1 + 1, 0, none⟩), .int .i64 (x.1 : Int), .slice ao n cap, .func (.func 66) #[] #[.pointer (some ⟨w.heap.size + 1 + 1 + 1, 0, none⟩)], .int .i64 (x.1 : Int), undef, undef, undef, undef], defers := [] }) ?assign ?body ?done ?stop
  case assign =>
    intro l x W K hK
    gi_wp2_with fail
    exact hK
  case body =>
    rintro l pre x W ⟨⟨hp, k0, k1, k2⟩, hB⟩ _
    have c0 := k0.cell
    have hxn : x.1 < n := by have := HL.out; have := x.2; omega
    have HC := hid (HSo.out x.1 W hxn (still_of_below hB))
    have HP := hid hp
    obtain ⟨b, eb⟩ : ∃ b, so x.1 = b := ⟨_, rfl⟩
    rw [eb] at HC
    have HB := hid eb
    clear hp eb
    subst ef
    rcases hg with rfl | rfl
    all_goals
      gi_wp2_with fail
      refine ⟨trivial, (calls_in l _ HC.out).mono ?_⟩
      rintro e W2 ⟨rfl, h2⟩
      have k1 := boxed_still k1 h2
      have k2 := boxed_still k2 h2
      have k0 := boxed_still k0 h2
      have c1 := k1.cell
      have f1 := k1.frozen
      have c2 := k2.cell
      have f2 := k2.frozen
      have hB2 := hB.trans (h2.below.mono hB.size)
      have hz := hB.size
      have HS2 := hid h2
      clear h2 hB c0 HC
      cases b with
      | false =>
        gi_wp2_with fail
        exact ⟨HS2.out.others, HS2.out.below.mono hz, ⟨fun y hy => (List.mem_append.1 hy).elim (HP.out y) (fun e => by simp at e; subst e; exact HB.out), k0, k1, k2⟩, hB2⟩
      | true =>
        gi_wp2_with fail
        exact ⟨HS2.out.others.trans ((KeepsOthers.setCell _ _ _).trans (KeepsOthers.setCell _ _ _)), ⟨rfl, pre, x, rfl, HP.out, HB.out, (k1.set _).other (by omega) _, (k2.other (by omega) _).set _⟩, (hB2.setCell (p := ⟨w.heap.size + 1, 0, none⟩) (by simp) _).setCell (p := ⟨w.heap.size + 1 + 1, 0, none⟩) (by simp; omega) _⟩
  case done =>
    rintro D ys W hD rfl ⟨⟨hp, k0, k1, k2⟩, hB⟩ hK
    have HE : Hid (lo (inSo L so) 0 n = -1) := hid (by rw [← HL.out]; exact lo_all hp)
    have c1 := k1.cell
    have f1 := k1.frozen
    have c2 := k2.cell
    have f2 := k2.frozen
    gi_wp2_with fail
    have hK' := ((KeepsOthers.setCell W ⟨w.heap.size + 1, 0, none⟩ (.int .i64 0)).trans (KeepsOthers.setCell _ ⟨w.heap.size + 1 + 1, 0, none⟩ (.bool false))).same D _ hK rfl
    refine ⟨by simp, .inl ⟨_, _, rfl, run_takeDeferred hK', ?_⟩⟩
    have q1 := cell_kept ((k1.set (.int .i64 0)).other (B' := w.heap.size + 1 + 1) (by omega) (.bool false)).cell (grownBy_putObj' _ D (.deferred none)) (fun r e => by cases e; exact ⟨_, hK', rfl⟩)
    have q2 := cell_kept ((k2.other (B' := w.heap.size + 1) (by omega) (.int .i64 0)).set (.bool false)).cell (grownBy_putObj' _ D (.deferred none)) (fun r e => by cases e; exact ⟨_, hK', rfl⟩)
    refine ⟨.tuple #[.int .i64 0, .bool false], ?_, by rw [HE.out]; rfl, still_of_below (((hB.setCell (p := ⟨w.heap.size + 1, 0, none⟩) (by simp) _).setCell (p := ⟨w.heap.size + 1 + 1, 0, none⟩) (by simp; omega) _).trans (belowK_b (w := w) (Nat.le_refl _) _ D _ _ (by omega) hK' rfl rfl))⟩
    simp [results, Try.f35, go_sem, q1, q2]
  case stop =>
    rintro D c pre W hD hpre ⟨⟨rfl, q', x, rfl, hq, hx, k1, k2⟩, hB⟩ hK
    have HE : Hid (lo (inSo L so) 0 n = (x.1 : Int)) := hid (by rw [← HL.out]; exact lo_first hpre hq hx)
    gi_wp2_with fail
    refine ⟨by simp, .inl ⟨_, _, rfl, run_takeDeferred hK, ?_⟩⟩
    have q1 := cell_kept k1.cell (grownBy_putObj' _ D (.deferred none)) (fun r e => by cases e; exact ⟨_, hK, rfl⟩)
    have q2 := cell_kept k2.cell (grownBy_putObj' _ D (.deferred none)) (fun r e => by cases e; exact ⟨_, hK, rfl⟩)
    refine ⟨.tuple #[.int .i64 (x.1 : Int), .bool true], ?_, by rw [HE.out]; unfold fst1; rw [if_pos (Int.natCast_nonneg _), decide_eq_true (Int.natCast_nonneg _)], still_of_below (hB.trans (belowK_b (w := w) (Nat.le_refl _) W D _ _ (by omega) hK rfl rfl))⟩
    simp [results, Try.f35, go_sem, q1, q2]
theorem hfirst_any (L : List Mv) (so : Nat → Bool) (ao : Option Addr) (n cap g p q : Nat) (hg : g = 34 ∨ g = 39) (w : World) (hr : RdG KM w ao n L)
    (hso : ∀ (i : Nat) (u : World), i < n → Still w u → Calls Try.prog g #[.int .i64 (i : Int), .pointer (some ⟨p, 0, none⟩), .pointer (some ⟨q, 0, none⟩)] u fun e w' => e = .returned (.bool (so i)) ∧ Still u w') :
    Calls Try.prog 35 #[.slice ao n cap, .func (.func g) #[] #[.pointer (some ⟨p, 0, none⟩), .pointer (some ⟨q, 0, none⟩)]] w fun e w' => e = .returned (.tuple #[.int .i64 (fst1 (lo (inSo L so) 0 n)), .bool (decide (0 ≤ lo (inSo L so) 0 n))]) ∧ Still w w' :=
  callsIn_wide.1 (hfirst_at L so ao n cap g p q hg w hr hso)
end Go.Proofs.Ytpohikhiekmfgaa
