/- The program's map from verbs to what does them. -/
import Derived.Test.YtaalbkmdmocdeaaDoorXb
import Derived.Test.YtaalbkmdmocdeaaDoorYk
namespace Go.Proofs.YtaalbkmdmocdeaaDoor
open Go.RowKit Go.Shelf
open Pu Gp Ap Vp Np
set_option maxRecDepth 100000
open Go.ChangeMaps (setBlock)

/-- a new key is laid into the newest block -/
theorem upd_new8 (w : World) (es : Array MapEntry) (c : Nat) (x : Int) (v : Value) (hf : Instr.findNow (.int .i64) (.int .i64 x) es.toList 0 = some none) :
    (Instr.mapUpdate 61 (.map (some w.heap.size)) (.int .i64 x) v).run Tryd.prog (w.alloc (.map es c)) = .ok () (w.alloc (.map (es.push ⟨.int .i64 x, v, c⟩) (c + 1))) := by
  have hb : (w.alloc (.map es c)).heap[w.heap.size]? = some (.map es c) := heap_alloc_new w _
  have e := alloc_set w (.map es c) (.map (es.push ⟨.int .i64 x, v, c⟩) (c + 1))
  have k : (Instr.mapUpdate 61 (.map (some w.heap.size)) (.int .i64 x) v).run Tryd.prog (w.alloc (.map es c)) = .ok () (setBlock (w.alloc (.map es c)) w.heap.size (.map (es.push ⟨.int .i64 x, v, c⟩) (c + 1))) := by
    simp [Instr.mapUpdate, run_underlying Tryd.underlying61, MapKept.run_getObj_map hb, chk_key, find_key x _ _ hf, MapKept.run_setObj_map _ hb, Result.andThen, setBlock]
  rw [k, e]
def dsE : Array MapEntry := #[⟨.int .i64 1, mth 59, 0⟩, ⟨.int .i64 2, mth 60, 1⟩, ⟨.int .i64 3, mth 61, 2⟩, ⟨.int .i64 4, mth 62, 3⟩, ⟨.int .i64 5, mth 63, 4⟩, ⟨.int .i64 6, mth 64, 5⟩, ⟨.int .i64 7, mth 65, 6⟩]
/-- block b holds the deeds -/
def Dsb (w : World) (b : Nat) : Prop := w.heap[b]? = some (.map dsE 7)
theorem deeds_any (w : World) : Calls Tryd.prog 33 #[] w fun e w' => ∃ b, e = .returned (.map (some b)) ∧ w.heap.size ≤ b ∧ Dsb w' b ∧ Still w w' := by
  have m0 := run_makeMap (P := Tryd.prog) 61 w
  have u1 := upd_new8 w #[] 0 1 (mth 59) (by kernel_rfl)
  rw [show (#[] : Array MapEntry).push ⟨.int .i64 1, mth 59, 0⟩ = (#[⟨.int .i64 1, mth 59, 0⟩] : Array MapEntry) from rfl] at u1
  have u2 := upd_new8 w #[⟨.int .i64 1, mth 59, 0⟩] 1 2 (mth 60) (by kernel_rfl)
  rw [show #[⟨.int .i64 1, mth 59, 0⟩].push ⟨.int .i64 2, mth 60, 1⟩ = (#[⟨.int .i64 1, mth 59, 0⟩, ⟨.int .i64 2, mth 60, 1⟩] : Array MapEntry) from rfl] at u2
  have u3 := upd_new8 w #[⟨.int .i64 1, mth 59, 0⟩, ⟨.int .i64 2, mth 60, 1⟩] 2 3 (mth 61) (by kernel_rfl)
  rw [show #[⟨.int .i64 1, mth 59, 0⟩, ⟨.int .i64 2, mth 60, 1⟩].push ⟨.int .i64 3, mth 61, 2⟩ = (#[⟨.int .i64 1, mth 59, 0⟩, ⟨.int .i64 2, mth 60, 1⟩, ⟨.int .i64 3, mth 61, 2⟩] : Array MapEntry) from rfl] at u3
  have u4 := upd_new8 w #[⟨.int .i64 1, mth 59, 0⟩, ⟨.int .i64 2, mth 60, 1⟩, ⟨.int .i64 3, mth 61, 2⟩] 3 4 (mth 62) (by kernel_rfl)
  rw [show #[⟨.int .i64 1, mth 59, 0⟩, ⟨.int .i64 2, mth 60, 1⟩, ⟨.int .i64 3, mth 61, 2⟩].push ⟨.int .i64 4, mth 62, 3⟩ = (#[⟨.int .i64 1, mth 59, 0⟩, ⟨.int .i64 2, mth 60, 1⟩, ⟨.int .i64 3, mth 61, 2⟩, ⟨.int .i64 4, mth 62, 3⟩] : Array MapEntry) from rfl] at u4
  have u5 := upd_new8 w #[⟨.int .i64 1, mth 59, 0⟩, ⟨.int .i64 2, mth 60, 1⟩, ⟨.int .i64 3, mth 61, 2⟩, ⟨.int .i64 4, mth 62, 3⟩] 4 5 (mth 63) (by kernel_rfl)
  rw [show #[⟨.int .i64 1, mth 59, 0⟩, ⟨.int .i64 2, mth 60, 1⟩, ⟨.int .i64 3, mth 61, 2⟩, ⟨.int .i64 4, mth 62, 3⟩].push ⟨.int .i64 5, mth 63, 4⟩ = (#[⟨.int .i64 1, mth 59, 0⟩, ⟨.int .i64 2, mth 60, 1⟩, ⟨.int .i64 3, mth 61, 2⟩, ⟨.int .i64 4, mth 62, 3⟩, ⟨.int .i64 5, mth 63, 4⟩] : Array MapEntry) from rfl] at u5
  have u6 := upd_new8 w #[⟨.int .i64 1, mth 59, 0⟩, ⟨.int .i64 2, mth 60, 1⟩, ⟨.int .i64 3, mth 61, 2⟩, ⟨.int .i64 4, mth 62, 3⟩, ⟨.int .i64 5, mth 63, 4⟩] 5 6 (mth 64) (by kernel_rfl)
  rw [show #[⟨.int .i64 1, mth 59, 0⟩, ⟨.int .i64 2, mth 60, 1⟩, ⟨.int .i64 3, mth 61, 2⟩, ⟨.int .i64 4, mth 62, 3⟩, ⟨.int .i64 5, mth 63, 4⟩].push ⟨.int .i64 6, mth 64, 5⟩ = (#[⟨.int .i64 1, mth 59, 0⟩, ⟨.int .i64 2, mth 60, 1⟩, ⟨.int .i64 3, mth 61, 2⟩, ⟨.int .i64 4, mth 62, 3⟩, ⟨.int .i64 5, mth 63, 4⟩, ⟨.int .i64 6, mth 64, 5⟩] : Array MapEntry) from rfl] at u6
  have u7 := upd_new8 w #[⟨.int .i64 1, mth 59, 0⟩, ⟨.int .i64 2, mth 60, 1⟩, ⟨.int .i64 3, mth 61, 2⟩, ⟨.int .i64 4, mth 62, 3⟩, ⟨.int .i64 5, mth 63, 4⟩, ⟨.int .i64 6, mth 64, 5⟩] 6 7 (mth 65) (by kernel_rfl)
  rw [show #[⟨.int .i64 1, mth 59, 0⟩, ⟨.int .i64 2, mth 60, 1⟩, ⟨.int .i64 3, mth 61, 2⟩, ⟨.int .i64 4, mth 62, 3⟩, ⟨.int .i64 5, mth 63, 4⟩, ⟨.int .i64 6, mth 64, 5⟩].push ⟨.int .i64 7, mth 65, 6⟩ = (#[⟨.int .i64 1, mth 59, 0⟩, ⟨.int .i64 2, mth 60, 1⟩, ⟨.int .i64 3, mth 61, 2⟩, ⟨.int .i64 4, mth 62, 3⟩, ⟨.int .i64 5, mth 63, 4⟩, ⟨.int .i64 6, mth 64, 5⟩, ⟨.int .i64 7, mth 65, 6⟩] : Array MapEntry) from rfl] at u7
  go_enter Tryd.func33, Tryd.ntmps33
  go_wp2_with fail
  go_ret
  exact ⟨_, rfl, Nat.le_refl _, heap_alloc_new w _, Still.alloc w _⟩
theorem look_ds {w : World} {b : Nat} (h : Dsb w b) (v : Int) (k : Nat) (z : Value) (hf : Instr.findNow (.int .i64) (.int .i64 v) dsE.toList 0 = some (some (k, z))) :
    (Instr.lookup 61 (.map (some b)) (.int .i64 v) false).run Tryd.prog w = .ok z w := by
  have h' : w.heap[b]? = some (.map dsE 7) := h
  simp [Instr.lookup, run_underlying Tryd.underlying61, MapKept.run_getObj_map h', chk_key, find_key v _ _ hf, Result.andThen]
/-- what an order that may be makes of a mover in play, and whether it is done -/
def dnM (m : Mv) (v a b : Int) : Mv := if doneA m v a then deed m v a b else m
/-- the method of a verb: how it is found, and what it does -/
structure Mth (x : World) (g : Nat) (m : Mv) (v a b c : Int) (f : Nat) : Prop where
  look : ∀ w bl, Dsb w bl → (Instr.lookup 61 (.map (some bl)) (.int .i64 v) false).run Tryd.prog w = .ok (mth f) w
  enter : ∀ args w, (callFunc f args).run Tryd.prog w = .ok (.enter f args) w
  does : ∀ w, Still x w → Wb w g m → Calls Tryd.prog f #[.pointer (some ⟨g, 0, none⟩), od v a b c] w fun e w' => e = .returned (.bool (doneA m v a)) ∧ Dn g w w' (dnM m v a b)
theorem okO_in {v a b c : Int} (h : chkO v a b c = 0) : isV v = true ∧ okO v a b c = true := by
  unfold chkO at h
  cases hv : isV v with
  | false => rw [hv] at h; simp at h
  | true =>
    cases ho : okO v a b c with
    | false => rw [hv, ho] at h; simp at h
    | true => exact ⟨rfl, rfl⟩
theorem meth8g (x : World) (m : Mv) (v a b c : Int) (ht : Tab x) (h0 : m.ou = 0) (he0 : 0 ≤ m.en) (he : m.en ≤ 100) (hc : 0 ≤ m.co) (ho : chkO v a b c = 0) : ∃ f, ∀ g, x.heap.size ≤ g → Mth x g m v a b c f := by
  obtain ⟨hv, hk⟩ := okO_in ho
  have hz : (m.ou == 0) = true := by simpa using h0
  rcases verbs hv with rfl | rfl | rfl | rfl | rfl | rfl | rfl
  · refine ⟨59, fun g hx => ⟨fun w bl h => look_ds h 1 0 _ rfl, enters_of Tryd.func59 (by kernel_rfl) rfl, fun w hs hw => ?_⟩⟩
    have hr : -8 ≤ a ∧ a ≤ 8 ∧ -8 ≤ b ∧ b ≤ 8 := by
      unfold okO at hk
      simp [lo, hi, loL, hiL] at hk
      omega
    have e : dnM m 1 a b = { m with px := 32 * a, py := 32 * b } := by unfold dnM doneA deed; rw [hz]; rfl
    have d : doneA m 1 a = true := by unfold doneA; rw [hz]; rfl
    rw [e, d]
    exact wsteer g m 1 a b c hr.1 hr.2.1 hr.2.2.1 hr.2.2.2 w hw
  · refine ⟨60, fun g hx => ⟨fun w bl h => look_ds h 2 1 _ rfl, enters_of Tryd.func60 (by kernel_rfl) rfl, fun w hs hw => ?_⟩⟩
    have e : dnM m 2 a b = { m with px := 0, py := 0 } := by unfold dnM doneA deed; rw [hz]; rfl
    have d : doneA m 2 a = true := by unfold doneA; rw [hz]; rfl
    rw [e, d]
    exact whalt g m 2 a b c w hw
  · refine ⟨61, fun g hx => ⟨fun w bl h => look_ds h 3 2 _ rfl, enters_of Tryd.func61 (by kernel_rfl) rfl, fun w hs hw => ?_⟩⟩
    have e : dnM m 3 a b = { m with fc := a } := by unfold dnM doneA deed; rw [hz]; rfl
    have d : doneA m 3 a = true := by unfold doneA; rw [hz]; rfl
    rw [e, d]
    exact waim g m 3 a b c w hw
  · refine ⟨62, fun g hx => ⟨fun w bl h => look_ds h 4 3 _ rfl, enters_of Tryd.func62 (by kernel_rfl) rfl, fun w hs hw => ?_⟩⟩
    have hr : 1 ≤ a ∧ a ≤ 3 := by
      unfold okO at hk
      simp [lo, hi, loL, hiL] at hk
      omega
    have d : doneA m 4 a = ((m.co == 0) && decide (10 * a ≤ m.en)) := by unfold doneA; rw [hz]; rfl
    by_cases hq : m.co > 0
    · have d' : doneA m 4 a = false := by rw [d]; simp; omega
      have e : dnM m 4 a b = m := by unfold dnM; rw [d']; rfl
      rw [e, d']
      exact wfire_cool g m 4 a b c hq w hw
    · by_cases hp : m.en < 10 * a
      · have d' : doneA m 4 a = false := by rw [d]; simp; omega
        have e : dnM m 4 a b = m := by unfold dnM; rw [d']; rfl
        rw [e, d']
        exact wfire_poor g m 4 a b c (by omega) hr.2 hq hp w hw
      · have d' : doneA m 4 a = true := by rw [d]; simp; omega
        have e : dnM m 4 a b = { m with en := m.en - 10 * a, co := 4 * a } := by unfold dnM; rw [d']; rfl
        rw [e, d']
        exact wfire_yes g m 4 a b c (by omega) hr.2 hq he hp w hw
  · refine ⟨63, fun g hx => ⟨fun w bl h => look_ds h 5 4 _ rfl, enters_of Tryd.func63 (by kernel_rfl) rfl, fun w hs hw => ?_⟩⟩
    have hr : 0 ≤ a ∧ a ≤ 1 := by
      unfold okO at hk
      simp [lo, hi, loL, hiL] at hk
      omega
    have d : doneA m 5 a = ((a == 0) || decide (0 < m.en)) := by unfold doneA; rw [hz]; rfl
    by_cases ha : a = 0
    · subst ha
      have d' : doneA m 5 0 = true := by rw [d]; rfl
      have e : dnM m 5 0 b = { m with sh := false } := by unfold dnM; rw [d']; rfl
      rw [e, d']
      exact wshield0 g m 5 0 b c rfl w hw
    · obtain rfl : a = 1 := by omega
      by_cases hq : m.en = 0
      · have d' : doneA m 5 1 = false := by rw [d, hq]; rfl
        have e : dnM m 5 1 b = m := by unfold dnM; rw [d']; rfl
        rw [e, d']
        exact wshield2 g m 5 1 b c rfl (by simpa using hq) w hw
      · have d' : doneA m 5 1 = true := by rw [d]; simp; omega
        have e : dnM m 5 1 b = { m with sh := true } := by unfold dnM; rw [d']; rfl
        rw [e, d']
        exact wshield1 g m 5 1 b c rfl (by simpa using hq) w hw
  · refine ⟨64, fun g hx => ⟨fun w bl h => look_ds h 6 5 _ rfl, enters_of Tryd.func64 (by kernel_rfl) rfl, fun w hs hw => ?_⟩⟩
    have d : doneA m 6 a = decide (20 ≤ m.en) := by unfold doneA; rw [hz]; rfl
    by_cases hp : m.en < 20
    · have d' : doneA m 6 a = false := by rw [d]; simp; omega
      have e : dnM m 6 a b = m := by unfold dnM; rw [d']; rfl
      rw [e, d']
      exact wdash_poor g m 6 a b c hp w hw
    · have d' : doneA m 6 a = true := by rw [d]; simp; omega
      have e : dnM m 6 a b = { m with en := m.en - 20, sx := mulf (ux (dir a)) 1024, sy := mulf (uy (dir a)) 1024 } := by unfold dnM; rw [d']; rfl
      rw [e, d']
      exact wdash_yes g m 6 a b c he hp x w ht hs hx hw
  · refine ⟨65, fun g hx => ⟨fun w bl h => look_ds h 7 6 _ rfl, enters_of Tryd.func65 (by kernel_rfl) rfl, fun w hs hw => ?_⟩⟩
    have e : dnM m 7 a b = { m with sd := a } := by unfold dnM doneA deed; rw [hz]; rfl
    have d : doneA m 7 a = true := by unfold doneA; rw [hz]; rfl
    rw [e, d]
    exact wsay g m 7 a b c w hw
end Go.Proofs.YtaalbkmdmocdeaaDoor
