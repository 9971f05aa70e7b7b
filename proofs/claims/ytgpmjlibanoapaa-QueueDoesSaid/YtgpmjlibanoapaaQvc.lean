/- The document's Pop, Below. -/
import Derived.Test.YtgpmjlibanoapaaQvb
namespace Go.Proofs.Ytgpmjlibanoapaa
open Go.RowKit
set_option maxRecDepth 100000

set_option maxHeartbeats 2000000 in
theorem rPop_some (x : En) (S : List En) (yb cap : Nat) (ao : Option Addr) (w : World) (hy : Yk w yb ao cap (x :: S)) (hap : ∀ a, ao = some a → a.block ≠ yb) : Calls Try.prog 23 #[.pointer (some ⟨yb, 0, none⟩)] w fun e w' => e = .returned (.tuple #[ev x, .bool true]) ∧ Yk w' yb (cutE ao cap 1) (cap - 1) S ∧ Fr (fun k => k = yb) w w' := by
  have hyl : yb < w.heap.size := block_lt hy.bk
  obtain ⟨B, o, e⟩ := hy.sr.rd.at (by simp)
  have hBl := hy.sr.lt _ e (by simp)
  have A0 := Still.alloc w (.cells (ecs zE) 38)
  obtain ⟨W, eW⟩ : ∃ W, newE w zE = W := ⟨_, rfl⟩
  have hx1 : Eb W w.heap.size zE := by rw [← eW]; exact newE_eb w zE
  have hy1 : Yk W yb ao cap (x :: S) := by rw [← eW]; exact hy.still A0
  have hs1 : Still w W := by rw [← eW]; exact A0
  subst e
  have hBy : B ≠ yb := hap _ rfl
  obtain ⟨c0, cf⟩ := hy1.cell
  obtain ⟨k0, k1, k2, k3, k4, k5, k6, k7⟩ := rdE hy1.sr.rd (i := 0) (by simp)
  rw [show att (x :: S) 0 = x from rfl] at k0 k1 k2 k3 k4 k5 k6 k7
  simp only [Nat.zero_mul, Nat.add_zero] at k0 k1 k2 k3 k4 k5 k6 k7
  have A2 := Still.alloc W (.cells (ecs x) 38)
  obtain ⟨W2, eW2⟩ : ∃ X, newE W x = X := ⟨_, rfl⟩
  have hy2 : Yk W2 yb (some ⟨B, o, none⟩) cap (x :: S) := by rw [← eW2]; exact hy1.still A2
  have hx2 : Eb W2 w.heap.size zE := by rw [← eW2]; exact hx1.still A2
  have hX2 : Eb W2 W.heap.size x := by rw [← eW2]; exact newE_eb W x
  have hs2 : Still w W2 := by rw [← eW2]; exact hs1.trans A2
  have hWl := hs1.size
  have HY2 := hid (And.intro hy2 (And.intro hx2 (And.intro hX2 hs2)))
  simp only [newE, zE] at eW
  have h1 : (0 : Int) < ((S.length + 1 : Nat) : Int) := by omega
  have h2 : (((S.length + 1 : Nat) : Int) == 0) = false := beq_eq_false_iff_ne.2 (by omega)
  simp only [List.length_cons] at c0
  clear hy hy1 hy2 hx1 hx2 hX2 hs1 hs2 A0 A2 hap cf
  go_enter Try.func23, Try.ntmps23
  go_upto_region 4 with fail
  clear eW eW2 k0 k1 k2 k3 k4 k5 k6 k7 c0
  obtain ⟨ge, ege⟩ : ∃ g, W.heap.size = g := ⟨_, rfl⟩
  rw [ege] at HY2 hWl ⊢
  clear ege
  obtain ⟨g0, eg0⟩ : ∃ g, w.heap.size = g := ⟨_, rfl⟩
  rw [eg0] at HY2 hWl hyl hBl ⊢
  have hsr : Sr W2 (cutE (some ⟨B, o, none⟩) cap 1) (cap - 1) S := HY2.out.1.sr.drop (i := 1) (by simp)
  have hy3 := HY2.out.1.put hsr (fun a ha h0 => by
    obtain ⟨a0, e0, e1⟩ := cutE_block a ha
    cases e0
    rw [e1]; exact hBy)
  obtain ⟨c0, cf⟩ := HY2.out.1.cell
  simp only [List.length_cons] at c0
  have hCB : ∀ a, cutE (some ⟨B, o, none⟩) cap 1 = some a → a.block = B := fun a ha => by
    obtain ⟨a0, e0, e1⟩ := cutE_block a ha
    cases e0
    rw [e1]
  obtain ⟨co, eco⟩ : ∃ c, cutE (some ⟨B, o, none⟩) cap 1 = c := ⟨_, rfl⟩
  rw [eco] at hy3 hCB
  have HEc := hid eco
  have ecut : (if cap = 1 then some (⟨B, o, none⟩ : Addr) else some ⟨B, o + 8, none⟩) = co := by rw [← eco]; simp [cutE, add_plain]
  obtain ⟨W4, eW4⟩ : ∃ X, W2.setCell ⟨yb, 0, none⟩ (.slice co S.length (cap - 1)) = X := ⟨_, rfl⟩
  have HY4 : Hid (Yk W4 yb co (cap - 1) S ∧ Eb W4 g0 zE ∧ Eb W4 ge x ∧ Fr (fun k => k = yb) w W4) := hid (by
    rw [← eW4]
    refine ⟨hy3, ?_, ?_, (Still.to HY2.out.2.2.2).setCell _ _ (.inl rfl)⟩
    · unfold Eb
      rw [heap_setCell_other _ _ _ _ (show g0 ≠ yb by omega)]
      exact HY2.out.2.1
    · unfold Eb
      rw [heap_setCell_other _ _ _ _ (show ge ≠ yb by omega)]
      exact HY2.out.2.2.1)
  clear hsr hy3 eco HY2
  go_upto_region 5 with fail
  (try rw [ecut])
  (try rw [eW4])
  clear eW4 ecut c0 cf
  obtain ⟨d0, d1, d2, d3, d4, d5, d6, d7, df⟩ := HY4.out.2.1.cells
  obtain ⟨l0, l1, l2, l3, l4, l5, l6, l7, _⟩ := HY4.out.2.2.1.cells
  have HY5 := hid (HY4.out.1.setE (g := g0) (by omega) (fun a ha h0 => by rw [hCB a ha]; simp at hBl; omega) x)
  have HF5 := hid (setE_fr HY4.out.2.2.2 g0 x (.inr (by omega)))
  have HX5 := hid (HY4.out.2.1.put x)
  clear HY4
  go_wp2_with fail
  refine bodyPost_ret (HX5.out.rest rfl _ _ rfl rfl) rfl ?_
  rw [HEc.out]
  exact ⟨rfl, HY5.out, HF5.out⟩
end Go.Proofs.Ytgpmjlibanoapaa
