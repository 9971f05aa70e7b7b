/- Stage 21, the program's Plan. -/
import Derived.Test.YtlebmimlmakogaaGte
namespace Go.Proofs.Ytlebmimlmakogaa
open Go.RowKit
set_option maxRecDepth 100000

abbrev plTy : TypeId := 40
/-- block b holds a plan -/
def Pn (w : World) (b : Nat) (x : Int) (v : Bool) : Prop := w.heap[b]? = some (.cells #[.int .i64 x, .bool v] plTy (0, 0))
section
variable {w w' : World} {b : Nat} {x : Int} {v : Bool}
theorem Pn.still (h : Pn w b x v) (hs : Still w w') : Pn w' b x v := hs.kept_still h
theorem Pn.cells (h : Pn w b x v) : w.cell? ⟨b, 0, none⟩ = some (.int .i64 x) ∧ w.cell? ⟨b, 1, none⟩ = some (.bool v) ∧ ∀ o, w.frozen? ⟨b, o, none⟩ = false := by
  refine ⟨?_, ?_, fun o => frozen_of_row w b o _ _ h⟩ <;> (rw [cell_of_row _ _ _ _ _ _ h]; rfl)
theorem Pn.set (h : Pn w b x v) (x' : Int) (v' : Bool) : Pn ((w.setCell ⟨b, 0, none⟩ (.int .i64 x')).setCell ⟨b, 1, none⟩ (.bool v')) b x' v' := by
  unfold Pn
  have h1 := heap_setCell_same w b 0 _ _ (.int .i64 x') h
  have h2 := heap_setCell_same _ b 1 _ _ (.bool v') h1
  rw [h2]; rfl
theorem load_pn (w : World) (g : Nat) (x : Int) (v : Bool) (c0 : w.cell? ⟨g, 0, none⟩ = some (.int .i64 x)) (c1 : w.cell? ⟨g, 1, none⟩ = some (.bool v)) : (loadVar plTy ⟨g, 0, none⟩).run Try.prog w = .ok (.agg #[.int .i64 x, .bool v]) w := by
  go_simp
theorem Pn.resb {fn : Func} {p q : Tmp} (hb : Pn w b x v) (h : fn.results = #[.cell p plTy, .tmp q]) (tmps : Array Value) (t : Value) (hp : tmps.getD p undef = .pointer (some ⟨b, 0, none⟩)) (hq : tmps.getD q undef = t) : (results fn tmps).run Try.prog w = .ok (.tuple #[.agg #[.int .i64 x, .bool v], t]) w := by
  rw [results_cell_tmp h, hp, hq]
  simp [asAddr, Result.andThen, load_pn w b x v hb.cells.1 hb.cells.2.1]
theorem pn_fr {F : Nat → Prop} {a : World} (h : Fr F a w) (b : Nat) (x : Int) (v : Bool) (hb : F b ∨ a.heap.size ≤ b) : Fr F a ((w.setCell ⟨b, 0, none⟩ (.int .i64 x)).setCell ⟨b, 1, none⟩ (.bool v)) := (h.setCell _ _ hb).setCell _ _ hb
end
theorem gplan_no (a h l : Int) (hm : ¬ MayL a h l) (p : Nat) (w : World) : Calls Try.prog 12 #[.pointer (some ⟨p, 0, none⟩), .int .i64 a, .int .i64 h, .int .i64 l] w fun e w' => e = .returned (.tuple #[.agg #[.int .i64 0, .bool false], .int .i64 1]) ∧ Still w w' := by
  have HM := hid (fun w => mayPlan_no a h l hm w)
  have r1 : Pn (w.alloc (.cells #[.int .i64 0, .bool false] plTy)) w.heap.size 0 false := heap_alloc_new w _
  have HF := hid (Still.alloc w (.cells #[.int .i64 0, .bool false] plTy))
  obtain ⟨d0, d1, df⟩ := r1.cells
  clear hm
  go_enter Try.func12, Try.ntmps12
  go_wp2_with fail
  refine (HM.out _).mono ?_
  rintro e w' ⟨he, hw⟩
  rw [he, hw]
  clear he hw w' HM
  go_wp2_with fail
  (try simp only [Exit.inBlock, Exit.then])
  exact bodyPost_ret (r1.resb rfl _ _ rfl rfl) rfl ⟨rfl, HF.out⟩
theorem rd_twoJ (w : World) (x y : Int) : RdG KJ (w.alloc (.cells #[.int .i64 x, .int .i64 y] i64T)) (some ⟨w.heap.size, 0, none⟩) 2 [x, y] := by
  have h := heap_alloc_new w (.cells #[.int .i64 x, .int .i64 y] i64T)
  refine ⟨rfl, by omega, .inr ⟨w.heap.size, 0, rfl, fun i hi j u hu => ?_⟩⟩
  have hj : j = 0 := by
    have := (List.getElem?_eq_some_iff.1 hu).1
    simp [KJ] at this
    omega
  subst hj
  rw [cell_of_row _ _ _ _ _ _ h, ← hu]
  match i, hi with
  | 0, _ => rfl
  | 1, _ => rfl
set_option maxHeartbeats 2000000 in
theorem gplan_yes {w : World} {B p s g n : Nat} {L : List Int} (hg : Gt gT w B p s g n L) (a h l : Int) (hm : MayL a h l) : Calls Try.prog 12 #[.pointer (some ⟨p, 0, none⟩), .int .i64 a, .int .i64 h, .int .i64 l] w fun e w' => e = .returned (.tuple #[.agg #[.int .i64 (plT (lea s L) a h l), .bool (a - plT (lea s L) a h l == 48)], .int .i64 0]) ∧ Still w w' := by
  have HM := hid (fun w => mayPlan_yes a h l hm w)
  have r1 : Pn (w.alloc (.cells #[.int .i64 0, .bool false] plTy)) w.heap.size 0 false := heap_alloc_new w _
  have hs1 := Still.alloc w (.cells #[.int .i64 0, .bool false] plTy)
  have HL := hid (gleast_any (hg.still hs1))
  have HR := hid r1
  have HF := hid hs1
  obtain ⟨x, ex⟩ : ∃ x, lea s L = x := ⟨_, rfl⟩
  rw [ex] at HL ⊢
  obtain ⟨b0, b1, b2, b3, b4, b5⟩ := hm
  clear hg ex r1 hs1
  have hw1 : IntKind.i64.wrap (a + 1) = a + 1 := by rw [IntKind.wrap_i64] <;> omega
  have hw2 : IntKind.i64.wrap (a + 1 - l) = a + 1 - l := by rw [IntKind.wrap_i64] <;> omega
  have hw3 : IntKind.i64.wrap (h + 4) = h + 4 := by rw [IntKind.wrap_i64] <;> omega
  go_enter Try.func12, Try.ntmps12
  go_wp2_with fail
  refine (HM.out _).mono ?_
  rintro e w' ⟨he, hw⟩
  rw [he, hw]
  clear he hw w' HM
  go_wp2_with fail
  refine HL.out.mono ?_
  rintro e w2 ⟨he, hs2⟩
  rw [he]
  have HR2 := hid ((HR.out.still hs2).still (Still.alloc w2 (.cells #[.int .i64 x, .int .i64 (h + 4)] i64T)))
  have HF2 := hid ((HF.out.trans hs2).trans (Still.alloc w2 (.cells #[.int .i64 x, .int .i64 (h + 4)] i64T)))
  have HV := hid (gleastv_any (a + 1 - l) _ 2 2 _ (by omega) _ (rd_twoJ w2 x (h + 4)))
  obtain ⟨T, eT⟩ : ∃ T, fm (a + 1 - l) [x, h + 4] = T := ⟨_, rfl⟩
  rw [eT] at HV
  have HT : Hid (T = min (min (a + 1 - l) x) (h + 4)) := hid eT.symm
  clear he hs2 HL HR HF eT
  go_wp2_with fail
  refine HV.out.mono ?_
  rintro e w' ⟨he, hw⟩
  rw [he, hw]
  obtain ⟨d0, d1, df⟩ := HR2.out.cells
  have HP : Hid (plT x a h l = max T h) := hid (by rw [HT.out]; rfl)
  have hb : h ≤ max T h ∧ max T h ≤ h + 4 := by have := HT.out; omega
  obtain ⟨U, eU⟩ : ∃ U, max T h = U := ⟨_, rfl⟩
  rw [eU] at HP hb
  have hw4 : IntKind.i64.wrap (a - U) = a - U := by rw [IntKind.wrap_i64] <;> omega
  clear he hw w' HV hw1 hw2 hw3
  go_wp2_with fail
  (try simp only [Exit.inBlock, Exit.then])
  exact bodyPost_ret ((HR2.out.set _ _).resb rfl _ _ rfl rfl) rfl ⟨by rw [HP.out]; rfl, pn_fr HF2.out _ _ _ (.inr (Nat.le_refl _))⟩
end Go.Proofs.Ytlebmimlmakogaa
