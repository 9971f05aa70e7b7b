/- The program's New, State, Turn, Ack. -/
import Derived.Test.YtcmgghfjakphmaaLkb
namespace Go.Proofs.Ytcmgghfjakphmaa
open Go.RowKit
open Wp Vp Lp
set_option maxRecDepth 100000
set_option linter.unusedVariables false
set_option linter.unusedSimpArgs false

abbrev setDg (w : World) (g : Nat) (d : Dg) (co : Option Addr) (cn cp : Nat) : World := (((((((w.setCell ⟨g, 0, none⟩ (.int .i64 d.kd)).setCell ⟨g, 1, none⟩ (.int .u64 d.ss)).setCell ⟨g, 2, none⟩ (.int .i64 d.fr)).setCell ⟨g, 3, none⟩ (.int .i64 d.to)).setCell ⟨g, 4, none⟩ (.int .i64 d.mrk)).setCell ⟨g, 5, none⟩ (.int .i64 d.fi)).setCell ⟨g, 6, none⟩ (.slice co cn cp)).setCell ⟨g, 7, none⟩ (.int .i64 d.ak)
theorem Dgb.set {w : World} {g : Nat} {d : Dg} {co : Option Addr} {cn cp : Nat} (h : Dgb w g d co cn cp) (d' : Dg) (co' : Option Addr) (cn' cp' : Nat) : Dgb (setDg w g d' co' cn' cp') g d' co' cn' cp' := by
  unfold Dgb at h ⊢
  have h1 : (w.setCell ⟨g, 0, none⟩ (.int .i64 d'.kd)).heap[g]? = some (.cells #[.int .i64 d'.kd, .int .u64 d.ss, .int .i64 d.fr, .int .i64 d.to, .int .i64 d.mrk, .int .i64 d.fi, .slice co cn cp, .int .i64 d.ak] 51 (0, 0)) := by rw [heap_setCell_same _ g 0 _ _ _ h]; rfl
  have h2 : ((w.setCell ⟨g, 0, none⟩ (.int .i64 d'.kd)).setCell ⟨g, 1, none⟩ (.int .u64 d'.ss)).heap[g]? = some (.cells #[.int .i64 d'.kd, .int .u64 d'.ss, .int .i64 d.fr, .int .i64 d.to, .int .i64 d.mrk, .int .i64 d.fi, .slice co cn cp, .int .i64 d.ak] 51 (0, 0)) := by rw [heap_setCell_same _ g 1 _ _ _ h1]; rfl
  have h3 : (((w.setCell ⟨g, 0, none⟩ (.int .i64 d'.kd)).setCell ⟨g, 1, none⟩ (.int .u64 d'.ss)).setCell ⟨g, 2, none⟩ (.int .i64 d'.fr)).heap[g]? = some (.cells #[.int .i64 d'.kd, .int .u64 d'.ss, .int .i64 d'.fr, .int .i64 d.to, .int .i64 d.mrk, .int .i64 d.fi, .slice co cn cp, .int .i64 d.ak] 51 (0, 0)) := by rw [heap_setCell_same _ g 2 _ _ _ h2]; rfl
  have h4 : ((((w.setCell ⟨g, 0, none⟩ (.int .i64 d'.kd)).setCell ⟨g, 1, none⟩ (.int .u64 d'.ss)).setCell ⟨g, 2, none⟩ (.int .i64 d'.fr)).setCell ⟨g, 3, none⟩ (.int .i64 d'.to)).heap[g]? = some (.cells #[.int .i64 d'.kd, .int .u64 d'.ss, .int .i64 d'.fr, .int .i64 d'.to, .int .i64 d.mrk, .int .i64 d.fi, .slice co cn cp, .int .i64 d.ak] 51 (0, 0)) := by rw [heap_setCell_same _ g 3 _ _ _ h3]; rfl
  have h5 : (((((w.setCell ⟨g, 0, none⟩ (.int .i64 d'.kd)).setCell ⟨g, 1, none⟩ (.int .u64 d'.ss)).setCell ⟨g, 2, none⟩ (.int .i64 d'.fr)).setCell ⟨g, 3, none⟩ (.int .i64 d'.to)).setCell ⟨g, 4, none⟩ (.int .i64 d'.mrk)).heap[g]? = some (.cells #[.int .i64 d'.kd, .int .u64 d'.ss, .int .i64 d'.fr, .int .i64 d'.to, .int .i64 d'.mrk, .int .i64 d.fi, .slice co cn cp, .int .i64 d.ak] 51 (0, 0)) := by rw [heap_setCell_same _ g 4 _ _ _ h4]; rfl
  have h6 : ((((((w.setCell ⟨g, 0, none⟩ (.int .i64 d'.kd)).setCell ⟨g, 1, none⟩ (.int .u64 d'.ss)).setCell ⟨g, 2, none⟩ (.int .i64 d'.fr)).setCell ⟨g, 3, none⟩ (.int .i64 d'.to)).setCell ⟨g, 4, none⟩ (.int .i64 d'.mrk)).setCell ⟨g, 5, none⟩ (.int .i64 d'.fi)).heap[g]? = some (.cells #[.int .i64 d'.kd, .int .u64 d'.ss, .int .i64 d'.fr, .int .i64 d'.to, .int .i64 d'.mrk, .int .i64 d'.fi, .slice co cn cp, .int .i64 d.ak] 51 (0, 0)) := by rw [heap_setCell_same _ g 5 _ _ _ h5]; rfl
  have h7 : (((((((w.setCell ⟨g, 0, none⟩ (.int .i64 d'.kd)).setCell ⟨g, 1, none⟩ (.int .u64 d'.ss)).setCell ⟨g, 2, none⟩ (.int .i64 d'.fr)).setCell ⟨g, 3, none⟩ (.int .i64 d'.to)).setCell ⟨g, 4, none⟩ (.int .i64 d'.mrk)).setCell ⟨g, 5, none⟩ (.int .i64 d'.fi)).setCell ⟨g, 6, none⟩ (.slice co' cn' cp')).heap[g]? = some (.cells #[.int .i64 d'.kd, .int .u64 d'.ss, .int .i64 d'.fr, .int .i64 d'.to, .int .i64 d'.mrk, .int .i64 d'.fi, .slice co' cn' cp', .int .i64 d.ak] 51 (0, 0)) := by rw [heap_setCell_same _ g 6 _ _ _ h6]; rfl
  have h8 : ((((((((w.setCell ⟨g, 0, none⟩ (.int .i64 d'.kd)).setCell ⟨g, 1, none⟩ (.int .u64 d'.ss)).setCell ⟨g, 2, none⟩ (.int .i64 d'.fr)).setCell ⟨g, 3, none⟩ (.int .i64 d'.to)).setCell ⟨g, 4, none⟩ (.int .i64 d'.mrk)).setCell ⟨g, 5, none⟩ (.int .i64 d'.fi)).setCell ⟨g, 6, none⟩ (.slice co' cn' cp')).setCell ⟨g, 7, none⟩ (.int .i64 d'.ak)).heap[g]? = some (.cells #[.int .i64 d'.kd, .int .u64 d'.ss, .int .i64 d'.fr, .int .i64 d'.to, .int .i64 d'.mrk, .int .i64 d'.fi, .slice co' cn' cp', .int .i64 d'.ak] 51 (0, 0)) := by rw [heap_setCell_same _ g 7 _ _ _ h7]; rfl
  exact h8
theorem setDg_fr {F : Nat → Prop} {x w : World} (h : Fr F x w) (g : Nat) (d : Dg) (co : Option Addr) (cn cp : Nat) (hb : F g ∨ x.heap.size ≤ g) : Fr F x (setDg w g d co cn cp) := (((((((h.setCell _ _ hb).setCell _ _ hb).setCell _ _ hb).setCell _ _ hb).setCell _ _ hb).setCell _ _ hb).setCell _ _ hb).setCell _ _ hb
theorem load_dg (w : World) (g : Nat) (d : Dg) (co : Option Addr) (cn cp : Nat) (c0 : w.cell? ⟨g, 0, none⟩ = some (.int .i64 d.kd)) (c1 : w.cell? ⟨g, 1, none⟩ = some (.int .u64 d.ss)) (c2 : w.cell? ⟨g, 2, none⟩ = some (.int .i64 d.fr)) (c3 : w.cell? ⟨g, 3, none⟩ = some (.int .i64 d.to)) (c4 : w.cell? ⟨g, 4, none⟩ = some (.int .i64 d.mrk)) (c5 : w.cell? ⟨g, 5, none⟩ = some (.int .i64 d.fi)) (c6 : w.cell? ⟨g, 6, none⟩ = some (.slice co cn cp)) (c7 : w.cell? ⟨g, 7, none⟩ = some (.int .i64 d.ak)) :
    (loadVar 51 ⟨g, 0, none⟩).run Try.prog w = .ok (dgv d co cn cp) w := by
  go_simp
theorem Dgb.res {fn : Func} {p : Tmp} {w : World} {g : Nat} {d : Dg} {co : Option Addr} {cn cp : Nat} (hb : Dgb w g d co cn cp) (h : fn.results = #[.cell p 51]) (tmps : Array Value) (hp : tmps.getD p undef = .pointer (some ⟨g, 0, none⟩)) :
    (results fn tmps).run Try.prog w = .ok (dgv d co cn cp) w := by
  have hp' : tmps[p]?.getD undef = .pointer (some ⟨g, 0, none⟩) := by simpa using hp
  obtain ⟨c0, c1, c2, c3, c4, c5, c6, c7, _⟩ := hb.cells
  simp [results, h, hp', asAddr, load_dg w g d co cn cp c0 c1 c2 c3 c4 c5 c6 c7]
theorem dset4 {w : World} {g : Nat} {d : Dg} {co : Option Addr} {cn cp : Nat} (h : Dgb w g d co cn cp) (m : Int) : Dgb (w.setCell ⟨g, 4, none⟩ (.int .i64 m)) g ⟨d.kd, d.ss, d.fr, d.to, m, d.fi, d.cs, d.ak⟩ co cn cp := by
  unfold Dgb; rw [heap_setCell_same _ g 4 _ _ _ h]; rfl
theorem dset5 {w : World} {g : Nat} {d : Dg} {co : Option Addr} {cn cp : Nat} (h : Dgb w g d co cn cp) (m : Int) : Dgb (w.setCell ⟨g, 5, none⟩ (.int .i64 m)) g ⟨d.kd, d.ss, d.fr, d.to, d.mrk, m, d.cs, d.ak⟩ co cn cp := by
  unfold Dgb; rw [heap_setCell_same _ g 5 _ _ _ h]; rfl
theorem dset6 {w : World} {g : Nat} {d : Dg} {co : Option Addr} {cn cp : Nat} (h : Dgb w g d co cn cp) (L : List Cc) (co' : Option Addr) (cn' cp' : Nat) : Dgb (w.setCell ⟨g, 6, none⟩ (.slice co' cn' cp')) g ⟨d.kd, d.ss, d.fr, d.to, d.mrk, d.fi, L, d.ak⟩ co' cn' cp' := by
  unfold Dgb; rw [heap_setCell_same _ g 6 _ _ _ h]; rfl
theorem dset7 {w : World} {g : Nat} {d : Dg} {co : Option Addr} {cn cp : Nat} (h : Dgb w g d co cn cp) (m : Int) : Dgb (w.setCell ⟨g, 7, none⟩ (.int .i64 m)) g ⟨d.kd, d.ss, d.fr, d.to, d.mrk, d.fi, d.cs, m⟩ co cn cp := by
  unfold Dgb; rw [heap_setCell_same _ g 7 _ _ _ h]; rfl
def stB (n : Int) : Bool := decide (0 ≤ n) && decide (n < 6)
theorem lseat_any (n : Int) (w : World) : Calls Try.prog 13 #[.int .i64 n] w fun e w' => e = .returned (.bool (stB n)) ∧ w' = w := by
  by_cases h1 : 0 ≤ n
  · by_cases h2 : n < 6
    · rw [show stB n = true by simp [stB]; omega]
      go_enter Try.func13, Try.ntmps13
      go_wp2_with fail
      go_ret
      exact ⟨rfl, rfl⟩
    · rw [show stB n = false by simp [stB]; omega]
      go_enter Try.func13, Try.ntmps13
      go_wp2_with fail
      go_ret
      exact ⟨rfl, rfl⟩
  · rw [show stB n = false by simp [stB]; omega]
    go_enter Try.func13, Try.ntmps13
    go_wp2_with fail
    go_ret
    exact ⟨rfl, rfl⟩
def mayN (se ot : Int) : Bool := stB se && (stB ot && !(se == ot))
theorem mayN_iff {se ot : Int} : mayN se ot = true ↔ (0 ≤ se ∧ se ≤ 5) ∧ (0 ≤ ot ∧ ot ≤ 5) ∧ se ≠ ot := by
  unfold mayN stB
  simp only [Bool.and_eq_true, decide_eq_true_eq, Bool.not_eq_true', beq_eq_false_iff_ne]
  constructor
  · rintro ⟨⟨a, b⟩, ⟨c, d⟩, e⟩; exact ⟨⟨a, by omega⟩, ⟨c, by omega⟩, e⟩
  · rintro ⟨⟨a, b⟩, ⟨c, d⟩, e⟩; exact ⟨⟨a, by omega⟩, ⟨c, by omega⟩, e⟩
theorem lnew_no (ss se ot : Int) (h : mayN se ot = false) (w : World) : Calls Try.prog 5 #[.int .u64 ss, .int .i64 se, .int .i64 ot] w fun e w' => e = .returned (.tuple #[.pointer none, .int .i64 1]) ∧ w' = w := by
  have H0 := hid (fun w => lseat_any se w)
  have H1 := hid (fun w => lseat_any ot w)
  unfold mayN at h
  obtain ⟨b0, e0⟩ : ∃ b, stB se = b := ⟨_, rfl⟩
  obtain ⟨b1, e1⟩ : ∃ b, stB ot = b := ⟨_, rfl⟩
  rw [e0, e1] at h
  rw [e0] at H0
  rw [e1] at H1
  clear e0 e1
  cases b0 with
  | false =>
    clear h
    go_enter Try.func5, Try.ntmps5
    go_wp2_with fail
    refine (H0.out _).mono ?_
    rintro e w1 ⟨rfl, rfl⟩
    go_wp2_with fail
    go_ret2
    exact ⟨rfl, rfl⟩
  | true =>
    cases b1 with
    | false =>
      clear h
      go_enter Try.func5, Try.ntmps5
      go_wp2_with fail
      refine (H0.out _).mono ?_
      rintro e w1 ⟨rfl, rfl⟩
      go_wp2_with fail
      refine (H1.out _).mono ?_
      rintro e w2 ⟨rfl, rfl⟩
      go_wp2_with fail
      go_ret2
      exact ⟨rfl, rfl⟩
    | true =>
      have h : (se == ot) = true := by simpa using h
      go_enter Try.func5, Try.ntmps5
      go_wp2_with fail
      refine (H0.out _).mono ?_
      rintro e w1 ⟨rfl, rfl⟩
      go_wp2_with fail
      refine (H1.out _).mono ?_
      rintro e w2 ⟨rfl, rfl⟩
      go_wp2_with fail
      go_ret2
      exact ⟨rfl, rfl⟩
theorem lnew_yes (ss se ot : Int) (h : mayN se ot = true) (w : World) : Calls Try.prog 5 #[.int .u64 ss, .int .i64 se, .int .i64 ot] w fun e w' => ∃ p mb, e = .returned (.tuple #[.pointer (some ⟨p, 0, none⟩), .int .i64 0]) ∧ Lkk w' w.heap.size p mb none 0 (zLn ss se ot) ∧ Still w w' := by
  have H0 := hid (fun w => lseat_any se w)
  have H1 := hid (fun w => lseat_any ot w)
  have hmm := @run_makeMap Try.prog
  have HB := hid (Lkk.new w ss se ot)
  have HS := hid ((Still.alloc w (.map #[] 0)).trans (Still.alloc _ (.cells (lkc (zLn ss se ot) none 0 w.heap.size) 57)))
  unfold mayN at h
  simp only [Bool.and_eq_true, Bool.not_eq_true'] at h
  obtain ⟨e0, e1, e2⟩ := h
  rw [e0] at H0
  rw [e1] at H1
  clear e0 e1
  go_enter Try.func5, Try.ntmps5
  go_wp2_with fail
  refine (H0.out _).mono ?_
  rintro e w1 ⟨rfl, rfl⟩
  go_wp2_with fail
  refine (H1.out _).mono ?_
  rintro e w2 ⟨rfl, rfl⟩
  go_wp2_with fail
  go_ret2
  exact ⟨_, _, rfl, HB.out, HS.out⟩
/-! State -/
abbrev lsc (s : Ln) : Array Value := #[.int .i64 (s.O.length : Int), .int .i64 (s.ak : Int), .int .i64 ((s.G.length : Int) + 1), .int .i64 s.mq, .bool s.mt]
abbrev lsv (s : Ln) : Value := .agg (lsc s)
/-- block g holds how a link stands -/
def Lsb (w : World) (g : Nat) (s : Ln) : Prop := w.heap[g]? = some (.cells (lsc s) 40 (0, 0))
theorem Lsb.res {fn : Func} {p : Tmp} {w : World} {g : Nat} {s : Ln} (hb : Lsb w g s) (h : fn.results = #[.cell p 40]) (tmps : Array Value) (hp : tmps.getD p undef = .pointer (some ⟨g, 0, none⟩)) :
    (results fn tmps).run Try.prog w = .ok (lsv s) w := by
  have hp' : tmps[p]?.getD undef = .pointer (some ⟨g, 0, none⟩) := by simpa using hp
  have c0 : w.cell? ⟨g, 0, none⟩ = some (.int .i64 (s.O.length : Int)) := by rw [cell_of_row _ _ _ _ _ _ hb]; rfl
  have c1 : w.cell? ⟨g, 1, none⟩ = some (.int .i64 (s.ak : Int)) := by rw [cell_of_row _ _ _ _ _ _ hb]; rfl
  have c2 : w.cell? ⟨g, 2, none⟩ = some (.int .i64 ((s.G.length : Int) + 1)) := by rw [cell_of_row _ _ _ _ _ _ hb]; rfl
  have c3 : w.cell? ⟨g, 3, none⟩ = some (.int .i64 s.mq) := by rw [cell_of_row _ _ _ _ _ _ hb]; rfl
  have c4 : w.cell? ⟨g, 4, none⟩ = some (.bool s.mt) := by rw [cell_of_row _ _ _ _ _ _ hb]; rfl
  have hl : (loadVar 40 ⟨g, 0, none⟩).run Try.prog w = .ok (lsv s) w := by go_simp
  simp [results, h, hp', asAddr, hl]
set_option maxHeartbeats 1000000 in
theorem lstate_any (p : Nat) (ko : Option Addr) (kc mb B : Nat) (s : Ln) (w : World) (h : Lkk w B p mb ko kc s) : Calls Try.prog 8 #[.pointer (some ⟨p, 0, none⟩)] w fun e w' => e = .returned (lsv s) ∧ Still w w' := by
  have A0 := Still.alloc w (.cells #[.int .i64 0, .int .i64 0, .int .i64 0, .int .i64 0, .bool false] 40)
  obtain ⟨c0, c1, c2, c3, c4, c5, c6, c7, c8, c9, cf⟩ := (h.still A0).cells
  obtain ⟨g, eg⟩ : ∃ g, w.heap.size = g := ⟨_, rfl⟩
  have hg := heap_alloc_new w (.cells #[.int .i64 0, .int .i64 0, .int .i64 0, .int .i64 0, .bool false] 40)
  have hpg : p ≠ g := by have := h.lt.1; omega
  obtain ⟨W, eW⟩ : ∃ W, w.alloc (.cells #[.int .i64 0, .int .i64 0, .int .i64 0, .int .i64 0, .bool false] 40) = W := ⟨_, rfl⟩
  rw [eW] at A0 c0 c1 c2 c3 c4 c5 c6 c7 c8 c9 cf hg
  rw [eg] at hg
  have HS := hid A0
  have HG : Hid (w.heap.size = g) := hid eg
  have HP : Hid (Lsb (W.setCells g 0 (lsc s).toList) g s) := hid (heap_setCells g 40 (lsc s).toList 0 #[.int .i64 0, .int .i64 0, .int .i64 0, .int .i64 0, .bool false] W hg (by simp))
  have HF : Hid (Still w (W.setCells g 0 (lsc s).toList)) := hid (fr_setCells g _ 0 W HS.out (.inr (by omega)))
  have d0 : W.cell? ⟨g, 0, none⟩ = some (.int .i64 0) := by rw [cell_of_row _ _ _ _ _ _ hg]; rfl
  have d1 : W.cell? ⟨g, 1, none⟩ = some (.int .i64 0) := by rw [cell_of_row _ _ _ _ _ _ hg]; rfl
  have d2 : W.cell? ⟨g, 2, none⟩ = some (.int .i64 0) := by rw [cell_of_row _ _ _ _ _ _ hg]; rfl
  have d3 : W.cell? ⟨g, 3, none⟩ = some (.int .i64 0) := by rw [cell_of_row _ _ _ _ _ _ hg]; rfl
  have d4 : W.cell? ⟨g, 4, none⟩ = some (.bool false) := by rw [cell_of_row _ _ _ _ _ _ hg]; rfl
  have df := fun o => frozen_of_row W g o _ _ hg
  clear A0 h hg
  go_enter Try.func8, Try.ntmps8
  go_wp2_with fail
  refine bodyPost_ret (HP.out.res rfl _ rfl) rfl ?_
  exact ⟨rfl, HF.out⟩
end Go.Proofs.Ytcmgghfjakphmaa
