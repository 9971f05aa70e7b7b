/- What verbs do to a mover that is worked on: the program's methods. -/
import Derived.Test.YtaalbkmdmocdeaaDoorXa
import Derived.Test.YtaalbkmdmocdeaaDoorUn
import Derived.Test.YtaalbkmdmocdeaaDoorVt
namespace Go.Proofs.YtaalbkmdmocdeaaDoor
open Go.RowKit
open Pu Gp Ap Vp Np
set_option maxRecDepth 100000

/-- block g holds another mover now, all else is as it was -/
def Dn (g : Nat) (w w' : World) (n : Mv) : Prop := Wb w' g n ∧ Fr (fun k => k = g) w w'
theorem Dn.same {g : Nat} {w w' : World} {m : Mv} (h : Wb w g m) (hs : Still w w') : Dn g w w' m := ⟨h.still hs, hs.to⟩
/-- the worker of a new block leaves all that was -/
theorem Dn.over {x w w' : World} {g : Nat} {n : Mv} (h : Dn g w w' n) (hs : Still x w) (hg : x.heap.size ≤ g) : Still x w' := Fr.trans hs h.2 fun k hk e => by subst e; omega
theorem Dn.trans {g : Nat} {a b c : World} {m n : Mv} (h : Dn g a b m) (k : Dn g b c n) : Dn g a c n := ⟨k.1, Fr.trans h.2 k.2 fun _ _ e => e⟩
theorem wsteer (g : Nat) (m : Mv) (v a b c : Int) (ha1 : -8 ≤ a) (ha2 : a ≤ 8) (hb1 : -8 ≤ b) (hb2 : b ≤ 8) (w : World) (h : Wb w g m) : Calls Tryd.prog 59 #[.pointer (some ⟨g, 0, none⟩), od v a b c] w fun e w' => e = .returned (.bool true) ∧ Dn g w w' { m with px := 32 * a, py := 32 * b } := by
  have A0 := Still.alloc w (.cells #[.int .i64 v, .int .i64 a, .int .i64 b, .int .i64 c] 32)
  have p0 := h.still A0
  have o0 := newO_orb w v a b c
  have HF := hid (Still.to (F := fun k => k = g) A0)
  clear A0
  obtain ⟨c0, c1, c2, c3, c4, c5, c6, c7, c8, c9, c10, c11, c12, cf⟩ := p0.cells
  obtain ⟨d0, d1, d2, d3, df⟩ := o0.cells
  go_enter Tryd.func59, Tryd.ntmps59
  go_wp2_with fail
  go_ret
  exact ⟨rfl, (p0.px _).py _, (HF.out.setCell _ _ (.inl rfl)).setCell _ _ (.inl rfl)⟩
theorem whalt (g : Nat) (m : Mv) (v a b c : Int) (w : World) (h : Wb w g m) : Calls Tryd.prog 60 #[.pointer (some ⟨g, 0, none⟩), od v a b c] w fun e w' => e = .returned (.bool true) ∧ Dn g w w' { m with px := 0, py := 0 } := by
  have A0 := Still.alloc w (.cells #[.int .i64 v, .int .i64 a, .int .i64 b, .int .i64 c] 32)
  have p0 := h.still A0
  have o0 := newO_orb w v a b c
  have HF := hid (Still.to (F := fun k => k = g) A0)
  clear A0
  obtain ⟨c0, c1, c2, c3, c4, c5, c6, c7, c8, c9, c10, c11, c12, cf⟩ := p0.cells
  obtain ⟨d0, d1, d2, d3, df⟩ := o0.cells
  go_enter Tryd.func60, Tryd.ntmps60
  go_wp2_with fail
  go_ret
  exact ⟨rfl, (p0.px _).py _, (HF.out.setCell _ _ (.inl rfl)).setCell _ _ (.inl rfl)⟩
theorem waim (g : Nat) (m : Mv) (v a b c : Int) (w : World) (h : Wb w g m) : Calls Tryd.prog 61 #[.pointer (some ⟨g, 0, none⟩), od v a b c] w fun e w' => e = .returned (.bool true) ∧ Dn g w w' { m with fc := a } := by
  have A0 := Still.alloc w (.cells #[.int .i64 v, .int .i64 a, .int .i64 b, .int .i64 c] 32)
  have p0 := h.still A0
  have o0 := newO_orb w v a b c
  have HF := hid (Still.to (F := fun k => k = g) A0)
  clear A0
  obtain ⟨c0, c1, c2, c3, c4, c5, c6, c7, c8, c9, c10, c11, c12, cf⟩ := p0.cells
  obtain ⟨d0, d1, d2, d3, df⟩ := o0.cells
  go_enter Tryd.func61, Tryd.ntmps61
  go_wp2_with fail
  go_ret
  exact ⟨rfl, p0.fc _, HF.out.setCell _ _ (.inl rfl)⟩
theorem wsay (g : Nat) (m : Mv) (v a b c : Int) (w : World) (h : Wb w g m) : Calls Tryd.prog 65 #[.pointer (some ⟨g, 0, none⟩), od v a b c] w fun e w' => e = .returned (.bool true) ∧ Dn g w w' { m with sd := a } := by
  have A0 := Still.alloc w (.cells #[.int .i64 v, .int .i64 a, .int .i64 b, .int .i64 c] 32)
  have p0 := h.still A0
  have o0 := newO_orb w v a b c
  have HF := hid (Still.to (F := fun k => k = g) A0)
  clear A0
  obtain ⟨c0, c1, c2, c3, c4, c5, c6, c7, c8, c9, c10, c11, c12, cf⟩ := p0.cells
  obtain ⟨d0, d1, d2, d3, df⟩ := o0.cells
  go_enter Tryd.func65, Tryd.ntmps65
  go_wp2_with fail
  go_ret
  exact ⟨rfl, p0.sd _, HF.out.setCell _ _ (.inl rfl)⟩
theorem wshield0 (g : Nat) (m : Mv) (v a b c : Int) (ha : (a == 0) = true) (w : World) (h : Wb w g m) : Calls Tryd.prog 63 #[.pointer (some ⟨g, 0, none⟩), od v a b c] w fun e w' => e = .returned (.bool true) ∧ Dn g w w' { m with sh := false } := by
  have A0 := Still.alloc w (.cells #[.int .i64 v, .int .i64 a, .int .i64 b, .int .i64 c] 32)
  have p0 := h.still A0
  have o0 := newO_orb w v a b c
  have HF := hid (Still.to (F := fun k => k = g) A0)
  clear A0
  obtain ⟨c0, c1, c2, c3, c4, c5, c6, c7, c8, c9, c10, c11, c12, cf⟩ := p0.cells
  obtain ⟨d0, d1, d2, d3, df⟩ := o0.cells
  go_enter Tryd.func63, Tryd.ntmps63
  go_wp2_with fail
  go_ret
  exact ⟨rfl, p0.sh _, HF.out.setCell _ _ (.inl rfl)⟩
theorem wshield1 (g : Nat) (m : Mv) (v a b c : Int) (ha : (a == 0) = false) (he : (m.en == 0) = false) (w : World) (h : Wb w g m) : Calls Tryd.prog 63 #[.pointer (some ⟨g, 0, none⟩), od v a b c] w fun e w' => e = .returned (.bool true) ∧ Dn g w w' { m with sh := true } := by
  have A0 := Still.alloc w (.cells #[.int .i64 v, .int .i64 a, .int .i64 b, .int .i64 c] 32)
  have p0 := h.still A0
  have o0 := newO_orb w v a b c
  have HF := hid (Still.to (F := fun k => k = g) A0)
  clear A0
  obtain ⟨c0, c1, c2, c3, c4, c5, c6, c7, c8, c9, c10, c11, c12, cf⟩ := p0.cells
  obtain ⟨d0, d1, d2, d3, df⟩ := o0.cells
  go_enter Tryd.func63, Tryd.ntmps63
  go_wp2_with fail
  go_ret
  exact ⟨rfl, p0.sh _, HF.out.setCell _ _ (.inl rfl)⟩
theorem wshield2 (g : Nat) (m : Mv) (v a b c : Int) (ha : (a == 0) = false) (he : (m.en == 0) = true) (w : World) (h : Wb w g m) : Calls Tryd.prog 63 #[.pointer (some ⟨g, 0, none⟩), od v a b c] w fun e w' => e = .returned (.bool false) ∧ Dn g w w' m := by
  have A0 := Still.alloc w (.cells #[.int .i64 v, .int .i64 a, .int .i64 b, .int .i64 c] 32)
  have p0 := h.still A0
  have o0 := newO_orb w v a b c
  have HF := hid (Still.to (F := fun k => k = g) A0)
  clear A0
  obtain ⟨c0, c1, c2, c3, c4, c5, c6, c7, c8, c9, c10, c11, c12, cf⟩ := p0.cells
  obtain ⟨d0, d1, d2, d3, df⟩ := o0.cells
  go_enter Tryd.func63, Tryd.ntmps63
  go_wp2_with fail
  go_ret
  exact ⟨rfl, p0, HF.out⟩
theorem wspend_no (g : Nat) (m : Mv) (k : Int) (hk : m.en < k) (w : World) (h : Wb w g m) : Calls Tryd.prog 84 #[.pointer (some ⟨g, 0, none⟩), .int .i64 k] w fun e w' => e = .returned (.bool false) ∧ w' = w := by
  obtain ⟨c0, c1, c2, c3, c4, c5, c6, c7, c8, c9, c10, c11, c12, cf⟩ := h.cells
  go_enter Tryd.func84, Tryd.ntmps84
  go_wp2_with fail
  go_ret
  exact ⟨rfl, rfl⟩
theorem wspend_yes (g : Nat) (m : Mv) (k : Int) (h0 : 0 ≤ k) (h1 : m.en ≤ 100) (hk : ¬ m.en < k) (w : World) (h : Wb w g m) : Calls Tryd.prog 84 #[.pointer (some ⟨g, 0, none⟩), .int .i64 k] w fun e w' => e = .returned (.bool true) ∧ w' = w.setCell ⟨g, 8, none⟩ (.int .i64 (m.en - k)) := by
  obtain ⟨c0, c1, c2, c3, c4, c5, c6, c7, c8, c9, c10, c11, c12, cf⟩ := h.cells
  go_enter Tryd.func84, Tryd.ntmps84
  go_wp2_with fail
  go_ret
  exact ⟨rfl, rfl⟩
theorem wfire_cool (g : Nat) (m : Mv) (v a b c : Int) (hc : m.co > 0) (w : World) (h : Wb w g m) : Calls Tryd.prog 62 #[.pointer (some ⟨g, 0, none⟩), od v a b c] w fun e w' => e = .returned (.bool false) ∧ Dn g w w' m := by
  have A0 := Still.alloc w (.cells #[.int .i64 v, .int .i64 a, .int .i64 b, .int .i64 c] 32)
  have p0 := h.still A0
  have o0 := newO_orb w v a b c
  have HF := hid (Still.to (F := fun k => k = g) A0)
  clear A0
  obtain ⟨c0, c1, c2, c3, c4, c5, c6, c7, c8, c9, c10, c11, c12, cf⟩ := p0.cells
  obtain ⟨d0, d1, d2, d3, df⟩ := o0.cells
  go_enter Tryd.func62, Tryd.ntmps62
  go_wp2_with fail
  go_ret
  exact ⟨rfl, p0, HF.out⟩
theorem wfire_poor (g : Nat) (m : Mv) (v a b c : Int) (h1 : 0 ≤ a) (h2 : a ≤ 3) (hc : ¬ m.co > 0) (hp : m.en < 10 * a) (w : World) (h : Wb w g m) : Calls Tryd.prog 62 #[.pointer (some ⟨g, 0, none⟩), od v a b c] w fun e w' => e = .returned (.bool false) ∧ Dn g w w' m := by
  have A0 := Still.alloc w (.cells #[.int .i64 v, .int .i64 a, .int .i64 b, .int .i64 c] 32)
  have p0 := h.still A0
  have o0 := newO_orb w v a b c
  have HF := hid (Still.to (F := fun k => k = g) A0)
  clear A0
  obtain ⟨c0, c1, c2, c3, c4, c5, c6, c7, c8, c9, c10, c11, c12, cf⟩ := p0.cells
  obtain ⟨d0, d1, d2, d3, df⟩ := o0.cells
  go_enter Tryd.func62, Tryd.ntmps62
  go_wp2_with fail
  refine (wspend_no g m (10 * a) hp _ p0).mono ?_
  rintro e w2 ⟨he, hw⟩
  rw [he, hw]
  clear he hw w2
  go_wp2_with fail
  go_ret
  exact ⟨rfl, p0, HF.out⟩
theorem wfire_yes (g : Nat) (m : Mv) (v a b c : Int) (h1 : 0 ≤ a) (h2 : a ≤ 3) (hc : ¬ m.co > 0) (he : m.en ≤ 100) (hp : ¬ m.en < 10 * a) (w : World) (h : Wb w g m) : Calls Tryd.prog 62 #[.pointer (some ⟨g, 0, none⟩), od v a b c] w fun e w' => e = .returned (.bool true) ∧ Dn g w w' { m with en := m.en - 10 * a, co := 4 * a } := by
  have A0 := Still.alloc w (.cells #[.int .i64 v, .int .i64 a, .int .i64 b, .int .i64 c] 32)
  have p0 := h.still A0
  have o0 := newO_orb w v a b c
  have HF := hid (Still.to (F := fun k => k = g) A0)
  clear A0
  obtain ⟨c0, c1, c2, c3, c4, c5, c6, c7, c8, c9, c10, c11, c12, cf⟩ := p0.cells
  obtain ⟨d0, d1, d2, d3, df⟩ := o0.cells
  go_enter Tryd.func62, Tryd.ntmps62
  go_wp2_with fail
  refine (wspend_yes g m (10 * a) (by omega) he (by omega) _ p0).mono ?_
  rintro e w2 ⟨he, hw⟩
  rw [he, hw]
  clear he hw w2
  obtain ⟨k0, k1, c2, c3, c4, c5, c6, c7, c8, c9, c10, c11, c12, cf⟩ := (p0.en (m.en - 10 * a)).cells
  go_wp2_with fail
  go_ret
  exact ⟨rfl, (p0.en _).co _, (HF.out.setCell _ _ (.inl rfl)).setCell _ _ (.inl rfl)⟩
theorem wdash_poor (g : Nat) (m : Mv) (v a b c : Int) (hp : m.en < 20) (w : World) (h : Wb w g m) : Calls Tryd.prog 64 #[.pointer (some ⟨g, 0, none⟩), od v a b c] w fun e w' => e = .returned (.bool false) ∧ Dn g w w' m := by
  have A0 := Still.alloc w (.cells #[.int .i64 v, .int .i64 a, .int .i64 b, .int .i64 c] 32)
  have p0 := h.still A0
  have o0 := newO_orb w v a b c
  have HF := hid (Still.to (F := fun k => k = g) A0)
  clear A0
  obtain ⟨c0, c1, c2, c3, c4, c5, c6, c7, c8, c9, c10, c11, c12, cf⟩ := p0.cells
  obtain ⟨d0, d1, d2, d3, df⟩ := o0.cells
  go_enter Tryd.func64, Tryd.ntmps64
  go_wp2_with fail
  refine (wspend_no g m 20 hp _ p0).mono ?_
  rintro e w2 ⟨he, hw⟩
  rw [he, hw]
  clear he hw w2
  go_wp2_with fail
  go_ret
  exact ⟨rfl, p0, HF.out⟩
set_option maxHeartbeats 1000000 in
theorem wdash_yes (g : Nat) (m : Mv) (v a b c : Int) (he : m.en ≤ 100) (hp : ¬ m.en < 20) (x w : World) (ht : Tab x) (hs : Still x w) (hg : x.heap.size ≤ g) (h : Wb w g m) : Calls Tryd.prog 64 #[.pointer (some ⟨g, 0, none⟩), od v a b c] w fun e w' => e = .returned (.bool true) ∧ Dn g w w' { m with en := m.en - 20, sx := mulf (ux (dir a)) 1024, sy := mulf (uy (dir a)) 1024 } := by
  have A0 := Still.alloc w (.cells #[.int .i64 v, .int .i64 a, .int .i64 b, .int .i64 c] 32)
  have p0 := h.still A0
  have o0 := newO_orb w v a b c
  have HF := hid (Still.to (F := fun k => k = g) A0)
  have HX := hid (And.intro ht (And.intro (hs.trans A0) hg))
  have HU := hid (fun n w ht => unit_any n w ht)
  clear A0 ht hs hg
  have hne : w.heap.size ≠ g := by have := h.lt; omega
  obtain ⟨c0, c1, c2, c3, c4, c5, c6, c7, c8, c9, c10, c11, c12, cf⟩ := p0.cells
  obtain ⟨d0, d1, d2, d3, df⟩ := o0.cells
  go_enter Tryd.func64, Tryd.ntmps64
  go_wp2_with fail
  refine (wspend_yes g m 20 (by omega) he (by omega) _ p0).mono ?_
  rintro e w2 ⟨he, hw⟩
  rw [he, hw]
  clear he hw w2
  have p1 := p0.en (m.en - 20)
  have HF1 := hid (HF.out.setCell ⟨g, 8, none⟩ (.int .i64 (m.en - 20)) (.inl rfl))
  have HT := hid (HX.out.1.still (HX.out.2.1.setCell ⟨g, 8, none⟩ (.int .i64 (m.en - 20)) (.inr HX.out.2.2)))
  clear p0 o0 HF HX
  obtain ⟨k0, k1, k2, k3, k4, k5, k6, k7, k8, k9, k10, k11, k12, kf⟩ := p1.cells
  go_wp2_with fail
  refine (HU.out a _ HT.out).mono ?_
  rintro e w2 ⟨rfl, h2⟩
  have p2 := p1.still h2
  have HF2 := hid (Fr.trans HF1.out (Still.to (F := fun k => k = g) h2) fun _ _ e => e)
  clear h2 p1 HF1 HT HU c0 c1 c2 c3 c4 c5 c6 c7 c8 c9 c10 c11 c12 cf k0 k1 k2 k3 k4 k5 k6 k7 k8 k9 k10 k11 k12 kf d0 d1 d2 d3 df
  go_wp2_with fail
  refine (gscale_any _ _ _ _).mono ?_
  rintro e w3 ⟨rfl, h3⟩
  have p3 := p2.still h3
  have HF3 := hid (Fr.trans HF2.out (Still.to (F := fun k => k = g) h3) fun _ _ e => e)
  clear h3 p2 HF2
  obtain ⟨c0, c1, c2, c3, c4, c5, c6, c7, c8, c9, c10, c11, c12, cf⟩ := p3.cells
  go_wp2_with fail
  go_ret
  exact ⟨rfl, (p3.sx _).sy _, (HF3.out.setCell _ _ (.inl rfl)).setCell _ _ (.inl rfl)⟩
theorem wdrain (g : Nat) (m : Mv) (k : Int) (h1 : 0 ≤ m.en) (h2 : m.en ≤ 100) (h3 : 0 ≤ k) (h4 : k ≤ 100) (w : World) (h : Wb w g m) : Calls Tryd.prog 77 #[.pointer (some ⟨g, 0, none⟩), .int .i64 k] w fun e w' => e = .returned (.int .i64 (min k m.en)) ∧ Dn g w w' { m with en := m.en - min k m.en, sh := decide (min k m.en < m.en) } := by
  have HF := hid (Fr.refl (fun k => k = g) w)
  obtain ⟨c0, c1, c2, c3, c4, c5, c6, c7, c8, c9, c10, c11, c12, cf⟩ := h.cells
  go_enter Tryd.func77, Tryd.ntmps77
  go_wp2_with fail
  go_ret
  exact ⟨rfl, (h.en _).sh _, (HF.out.setCell _ _ (.inl rfl)).setCell _ _ (.inl rfl)⟩
end Go.Proofs.YtaalbkmdmocdeaaDoor
