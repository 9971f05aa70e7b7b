/- The program's raise. -/
import Derived.Test.YtcmgghfjakphmaaLkn
namespace Go.Proofs.Ytcmgghfjakphmaa
open Go.RowKit
open Wp Vp Lp
set_option maxRecDepth 100000
set_option linter.unusedVariables false
set_option linter.unusedSimpArgs false

/-- is the frame up to the mark? -/
def upD (m : Int) (k : Lit) (_ : DataW Value) : Bool := match k with
  | .int _ x => decide (x ≤ m)
  | _ => false
theorem atKey_up (m f : Int) (es : List (Lit × DataW Value)) (z : DataW Value) : (Lib.deleteFuncD (upD m) (.map es)).atKey (.int .i64 f) z = if f ≤ m then z else (DataW.map es).atKey (.int .i64 f) z := by
  unfold Lib.deleteFuncD DataW.atKey
  by_cases h : f ≤ m
  · have e : (es.filter fun p => !upD m p.1 p.2).find? (fun p => p.1.sameKey (.int .i64 f)) = none := List.find?_eq_none.2 (fun p hp => by
      obtain ⟨h1, h2⟩ := List.mem_filter.1 hp
      intro e
      have e1 := WideAt.sameKey_eq e
      rw [e1] at h2
      simp [upD, h] at h2)
    rw [if_pos h]
    simp only [e]
  · have e : (es.filter fun p => !upD m p.1 p.2).find? (fun p => p.1.sameKey (.int .i64 f)) = es.find? (fun p => p.1.sameKey (.int .i64 f)) := Maps.find_filter_keep (fun p hp => by
      have e1 := WideAt.sameKey_eq hp
      rw [e1]
      simp only [upD, Bool.not_eq_true', decide_eq_false_iff_not]
      exact h) _
    rw [if_neg h]
    simp only [e]
theorem Cnt.up {D : DataW Value} {mk m : Int} {G : List Cc} (h : Cnt D mk G) (hm : Maps.IsMap D) (hk : mk ≤ m) : Cnt (Lib.deleteFuncD (upD m) D) m G := by
  intro f
  obtain ⟨es, rfl⟩ := hm
  obtain ⟨n, h1, h2, h3, h4⟩ := h f
  rw [atKey_up]
  by_cases e : f ≤ m
  · rw [if_pos e]
    exact ⟨0, rfl, by omega, by omega, fun e2 => by omega⟩
  · rw [if_neg e]
    exact ⟨n, h1, h2, h3, fun _ => h4 (by omega)⟩
theorem Lkk.raised {w : World} {B p mb : Nat} {ko : Option Addr} {kc : Nat} {s : Ln} {d : Dg} (h : w.heap[p]? = some (.cells ((lkc s ko kc mb).set! 6 (.int .i64 d.mrk)) 57 (0, 0))) (hk : Kp w B ko kc (s.O.drop s.ak)) (hm : Mpc w mb s.G.length d.mrk s.G) (ha : s.mq < d.mrk) (lp : B ≤ p) (lm : B ≤ mb) : Lkk w B p mb ko kc (mkS s d) := by
  have e0 : max s.mq d.mrk = d.mrk := by omega
  refine ⟨h.trans ?_, hk, ?_, lp, lm⟩
  · show _ = some (Obj.cells (lkc (mkS s d) ko kc mb) _ _)
    unfold lkc mkS
    simp only [e0]
    rfl
  · show Mpc w mb s.G.length (max s.mq d.mrk) s.G
    rw [e0]
    exact hm
theorem lup_any (x m : Int) (v : Value) (g : Nat) (w : World) (h : w.cell? ⟨g, 4, none⟩ = some (.int .i64 m)) : Calls Try.prog 32 #[.int .i64 x, v, .pointer (some ⟨g, 0, none⟩)] w fun e w' => e = .returned (.bool (decide (x ≤ m))) ∧ w' = w := by
  by_cases hc : x ≤ m
  · go_enter Try.func32, Try.ntmps32
    go_wp2_with fail
    go_ret
    exact ⟨by simp [hc], rfl⟩
  · go_enter Try.func32, Try.ntmps32
    go_wp2_with fail
    go_ret
    exact ⟨by simp [hc], rfl⟩
theorem ldel_any (mb n g : Nat) (m : Int) (D : DataW Value) (w : World) (hown : w.ownsMap Try.prog 2 RI mb n D) (hg : w.cell? ⟨g, 4, none⟩ = some (.int .i64 m)) (hne : g ≠ mb) : Calls Try.prog 31 #[.map (some mb), .func (.func 32) #[] #[.pointer (some ⟨g, 0, none⟩)]] w fun e w' => e = .returned (.tuple #[]) ∧ w'.ownsMap Try.prog 2 RI mb n (Lib.deleteFuncD (upD m) D) ∧ Fr (fun k => k = mb) w w' := by
  have eg : ∀ args w, (callFunc 32 args).run Try.prog w = .ok (.enter 32 args) w := enters_of Try.func32 (by kernel_rfl) rfl
  have hc : Calls Try.prog 31 #[.map (some mb), .func (.func 32) #[] #[.pointer (some ⟨g, 0, none⟩)]] w (fun e w' => e = .returned (.tuple #[]) ∧ w'.ownsMap Try.prog 2 RI mb n (Lib.deleteFuncD (upD m) D) ∧ w.grownBy w' (some mb)) :=
    AnyDf.maps_DeleteFunc Try.delM lawI6 RI (upD m) 32 #[.pointer (some ⟨g, 0, none⟩)] mb n D w eg hown (fun W key val kl yd yp hW hk hv => by
      obtain ⟨x, rfl, rfl, _⟩ := Maps.keyOf_int_inv Try.underlying2 hk
      have hf := grown_fr hW
      exact (lup_any x m val g W ((hf.cell (World.block_lt_of_cell? w _ hg) (fun e => hne e)).trans hg)).mono fun _ _ ⟨he, hw⟩ => ⟨he, hw ▸ World.grownBy.refl _ _⟩)
  exact hc.mono fun e w' ⟨he, h1, h2⟩ => ⟨he, h1, grown_fr h2⟩
set_option maxHeartbeats 4000000 in
theorem lraise_any (p : Nat) (ko : Option Addr) (kc mb B : Nat) (s : Ln) (d : Dg) (co : Option Addr) (cn cp : Nat) (w : World) (h : Lkk w B p mb ko kc s) : Calls Try.prog 23 #[.pointer (some ⟨p, 0, none⟩), dgv d co cn cp] w fun e w' => e = .returned (.bool (decide (s.mq < d.mrk))) ∧ Lkk w' B p mb ko kc (mkS s d) ∧ Fr (fun k => k = p ∨ k = mb) w w' := by
  have A0 := Still.alloc w (.cells (dgc d co cn cp) 51)
  have p0 := newDg_b w d co cn cp
  have L0 := h.still A0
  obtain ⟨g, eg⟩ : ∃ g, w.heap.size = g := ⟨_, rfl⟩
  unfold newDg at p0
  obtain ⟨W, eW⟩ : ∃ W, w.alloc (.cells (dgc d co cn cp) 51) = W := ⟨_, rfl⟩
  rw [eW] at A0 p0 L0
  rw [eg] at p0
  have HG : Hid (w.heap.size = g) := hid eg
  have HS := hid A0
  have HL := hid L0
  have HP := hid p0
  have q7 := Cl.cell p0.cells.2.2.2.2.1
  have q4 := Cl.cell L0.cells.2.2.2.2.2.2.1
  have hne := Aft.here W
  have hpg : p ≠ g := by have := h.lt.1; omega
  have HMg : Hid (g ≠ mb) := hid (by have := h.lt.2; omega)
  clear A0 p0 L0 h
  by_cases hc : d.mrk ≤ s.mq
  · have hd : decide (d.mrk ≤ s.mq) = true := by simpa using hc
    have HD : Hid (decide (s.mq < d.mrk) = false) := hid (by simp; omega)
    have HE := hid (mkS_no hc)
    go_enter Try.func23, Try.ntmps23
    go_wp2_with fail
    refine region_all (by kernel_rfl) (by kernel_rfl) ?_
    repeat (go_big_quiet_step (rfl))
    refine wpQuiet_nil ?_
    intro w3 h3
    have HS3 := hid h3
    clear h3 q7 q4 hne
    go_wp2_with fail
    go_ret
    exact ⟨by rw [HD.out]; rfl, by rw [HE.out]; exact HL.out.still HS3.out, Still.to (HS.out.trans HS3.out)⟩
  · have hd : decide (d.mrk ≤ s.mq) = false := by simpa using hc
    have HD : Hid (decide (s.mq < d.mrk) = true) := hid (by simp; omega)
    have HLt : Hid (s.mq < d.mrk) := hid (by omega)
    go_enter Try.func23, Try.ntmps23
    go_wp2_with fail
    refine region_all (by kernel_rfl) (by kernel_rfl) ?_
    repeat (go_big_quiet_step (rfl))
    refine wpQuiet_nil ?_
    intro w3 h3
    clear q7 q4 hne
    have l3 := HL.out.still h3
    have p3 := HP.out.still h3
    obtain ⟨d0, d1, d2, d3, d4, d5, d6, d7, df⟩ := p3.cells
    obtain ⟨c0, c1, c2, c3, c4, c5, c6, c7, c8, c9, cf⟩ := l3.cells
    have f4 : Fr (fun k => k = p) w3 (w3.setCell ⟨p, 6, none⟩ (.int .i64 d.mrk)) := Fr.setCell (Fr.refl _ _) _ _ (.inl rfl)
    have b4 : (w3.setCell ⟨p, 6, none⟩ (.int .i64 d.mrk)).heap[p]? = some (.cells ((lkc s ko kc mb).set! 6 (.int .i64 d.mrk)) 57 (0, 0)) := (heap_setCell_same w3 p 6 _ _ (.int .i64 d.mrk) l3.bk).trans (by rfl)
    obtain ⟨w4, e4⟩ : ∃ V, w3.setCell ⟨p, 6, none⟩ (.int .i64 d.mrk) = V := ⟨_, rfl⟩
    rw [e4] at f4 b4
    have k4 := l3.kp.keep f4 (fun a ha e => (l3.ne.2 a ha).1 e)
    obtain ⟨D, hD, hC⟩ := l3.mp.keep f4 (fun e => l3.ne.1 e.symm)
    have p4 : Dgb w4 g d co cn cp := p3.keepD f4 (fun e => hpg e.symm)
    have HX := hid (ldel_any mb s.G.length g d.mrk D w4 hD p4.cells.2.2.2.2.1 HMg.out)
    have HCn := hid (hC.up hD.isMap (by omega : s.mq ≤ d.mrk))
    have HB4 := hid b4
    have HK4 := hid k4
    have HF4 : Hid (Fr (fun k => k = p) w w4) := hid (Fr.trans (Still.to (HS.out.trans h3)) f4 (fun _ _ e => e))
    have HNe := hid l3.ne
    have HLo := hid (And.intro l3.lp l3.lm)
    have m9 : w4.cell? ⟨p, 9, none⟩ = some (.map (some mb)) := by rw [cell_of_row _ _ _ _ _ _ b4]; rfl
    clear h3 l3 p3 f4 b4 k4 hD hC p4 eW
    go_upto_region 4 with fail
    clear d0 d1 d2 d3 d4 d5 d6 d7 df c0 c1 c2 c3 c4 c5 c6 c7 c8 c9 cf e4
    go_wp2_with fail
    refine HX.out.mono ?_
    rintro e w5 ⟨he, h5, f5⟩
    rw [he]
    have HLk : Hid (Lkk w5 B p mb ko kc (mkS s d)) := hid (Lkk.raised (f5.kept HB4.out (fun e => HNe.out.1 e)) (HK4.out.keep f5 (fun a ha e => (HNe.out.2 a ha).2.1 e)) ⟨_, h5, HCn.out⟩ HLt.out HLo.out.1 HLo.out.2)
    have HF5 : Hid (Fr (fun k => k = p ∨ k = mb) w w5) := hid (Fr.trans (HF4.out.mono (fun k _ e => .inl e)) f5 (fun k _ e => .inr e))
    clear he h5 f5 HX m9
    go_wp2_with fail
    go_ret
    exact ⟨by rw [HD.out]; rfl, HLk.out, HF5.out⟩
end Go.Proofs.Ytcmgghfjakphmaa
